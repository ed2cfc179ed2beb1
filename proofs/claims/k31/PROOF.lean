import PyProof.Rows.All
import Wide.All
import OpenK.AllK
import Wide.FinOn
import Lean
import PyProof.EqAt
import PyProof.EqKinds
import PyProof.TupleCall
import PySem.Challenge.RW_surebook_k31_no_chance
set_option Elab.async false
set_option linter.all false
set_option maxRecDepth 100000
theorem Sb.sz0:0<=PySem.sizeLine:=by decide
theorem Sb.sz1:1<=PySem.sizeLine:=by decide
theorem Sb.sz2:2<=PySem.sizeLine:=by decide
theorem Sb.sz3:3<=PySem.sizeLine:=by decide
theorem Sb.sz4:4<=PySem.sizeLine:=by decide
theorem Sb.sz5:5<=PySem.sizeLine:=by decide
theorem Sb.sz8:8<=PySem.sizeLine:=by decide
namespace Sb
open PySem PySem.Spec PyProof.Rows
def NoCtx (o:Obj):Prop:=∃ vs,o.data=.fields vs/\vs[2]?=some .none
def Qt (A:Around)(h:Heap):Prop:=A.handled=none \/ ∃ a o,A.handled=some (.ref a)/\h.get? a=some o/\NoCtx o
def QtP (A:Around)(pn:List (Addr × Obj)):Prop:=A.handled=none \/ ∃ p∈pn,A.handled=some (.ref p.1)/\NoCtx p.2
theorem QtP.at {A:Around}{pn:List (Addr × Obj)}{h:Heap}(q:QtP A pn)(k:∀ p∈pn,h.get? p.1=some p.2):Qt A h :=
 q.imp id fun ⟨p,hp,e,n⟩=>⟨p.1,p.2,e,k p hp,n⟩
theorem QtP.sub {A:Around}{pn pm:List (Addr × Obj)}(q:QtP A pn)(k:∀ p∈pn,p∈pm):QtP A pm:=q.imp id fun ⟨p,hp,e,n⟩=>⟨p,k p hp,e,n⟩
theorem Qt.keeps {A:Around}{h h':Heap}(q:Qt A h)(k:∀ b o,h.get? b=some o->NoCtx o->h'.get? b=some o):Qt A h':=q.imp id fun ⟨a,o,e,g,n⟩=>⟨a,o,e,k a o g n,n⟩
theorem Qt.but {A:Around}{h:Heap}{a:Addr}{o:Obj}{f:Obj->Obj}(q:Qt A h)(ha:h.get? a=some o)(n:¬ NoCtx o):Qt A (h.update a f) :=
 q.imp id fun ⟨b,u,e,g,m⟩=>⟨b,u,e,(Heap.SameBut.update ..).extBut b u (fun z=>n (by rw[z,ha] at g;cases g;exact m)) g,m⟩
theorem Qd:entryFor table "proto.unchain"=some Builtin.«proto.unchain»:=entryFor_of_tree (by kernel_rfl)
section
variable {prog:Program}{w:World}{A:Around}{E:Value->Shared->Prop}{s:Shared}
theorem Lg {α:Type}{e:Addr}{oe:Obj}{vs:Array Value}{Q:α->Shared->Prop}(hq:Qt A s.heap)(he:s.heap.get? e=some oe)(hd:oe.data=.fields vs)(hz:2<vs.size)(hn:∀ a,A.handled=some (.ref a)->a≠e)
  (h:∀ h':Heap,Heap.SameBut e s.heap h'->(∃ o',h'.get? e=some o'/\o'.cls=oe.cls)->E (.ref e) { s with heap:=h' }):wpAny (model prog w) A (raiseNew (.ref e):Sem α) Q E s:=by
 unfold raiseNew
 refine wpAny_bind (wpAny_handled ?_)
 rcases hq with hh | ⟨a,o,hh,ha,xs,hx,h2⟩
 ·rw[hh]
  first
   | exact wpAny_throw (h s.heap (Heap.SameBut.refl ..) ⟨_,he,rfl⟩)
   | exact wpAny_bind (wpAny_pure (wpAny_throw (h s.heap (Heap.SameBut.refl ..) ⟨_,he,rfl⟩)))
 ·have ne:=hn a hh
  rw[hh]
  dsimp only
  have nb:(Value.ref a != Value.ref e)=true:=by simpa using ne
  rw[if_pos nb]
  refine wpAny_bind (wpAny_holding (wpAny_runValue (codeAny_builtin Qd ?_)))
  show wpAny _ _ (field (.ref a) 2 >>= _) _ _ s
  refine wpAny_bind (wpAny_field ha hx (x:=.none) h2 ?_)
  refine wpAny_pure ?_
  simp only [updateField]
  refine wpAny_bind (wpAny_bind (wpAny_load he ?_))
  rw[hd]
  show wpAny _ _ (if 2<vs.size then _ else _) _ _ _
  rw[if_pos hz]
  refine wpAny_update he ?_
  refine wpAny_throw (h _ (Heap.SameBut.update ..) ⟨_,Heap.get?_update_self _ he ?_,?_⟩)
  ·exact Obj.isFreed_of_fields (Obj.data_mapFields hd _)
  ·exact Obj.cls_mapFields ..
theorem R7 {α:Type}{Q:α->Shared->Prop}(hq:Qt A s.heap)
  (h:∀ (h':Heap) (e:Addr),(∀ b o,s.heap.get? b=some o->h'.get? b=some o)->(∃ o,h'.get? e=some o/\o.cls=.type "StopIteration")->E (.ref e) { s with heap:=h' }) :
  wpAny (model prog w) A (newExc (.type "StopIteration") [] >>= fun e=>(raiseNew e:Sem α)) Q E s:=by
 refine wpAny_bind ?_
 simp only [newExc,newTuple]
 refine wpAny_bind (wpAny_newObj_type ?_ (by size_fits))
 refine wpAny_bind (m:=firstArgMember _ _) (wpAny_of_eq (a:=Value.none) (by first | rfl | (simp only [firstArgMember];rfl)) ?_)
 refine wpAny_newObj_type ?_ (by size_fits)
 have sz:∀ (o:Obj),(s.heap.push o).objs.size=s.heap.objs.size+1:=fun o=>Heap.size_push ..
 refine Lg (hq.keeps fun b o hb _=>Heap.get?_push_of_some _ (Heap.get?_push_of_some _ hb)) (Heap.get?_push_size _ rfl) rfl (by simp[ownMembersOf]) (fun a ha z=>?_) fun h' sb ho=>?_
 ·rcases hq with q | ⟨b,o,q,hb,_⟩
  ·rw[q] at ha;cases ha
  ·rw[q] at ha
   cases ha
   have:=Heap.lt_size hb
   rw[z,sz] at this
   exact Nat.lt_irrefl _ (Nat.lt_of_succ_lt this)
 ·refine h h' _ (fun b o hb=>?_) ho
  refine sb.extBut b o (fun z=>?_) (Heap.get?_push_of_some _ (Heap.get?_push_of_some _ hb))
  have:=Heap.lt_size hb
  rw[z,sz] at this
  exact Nat.lt_irrefl _ (Nat.lt_of_succ_lt this)
theorem Rt {it l:Addr}{i:Nat}{items}{Q:Option Value->Shared->Prop}(hq:Qt A s.heap)
  (hit:s.heap.IsListIter it l i) (hl:s.heap.IsList l items) (hx:items[i]?=none)
  (hQ:∀ h',Heap.ExtBut it s.heap h'->Q none { s with heap:=h' }):wpAny (model prog w) A (pyNext (.ref it)) Q E s:=by
 obtain⟨o,ho,hc,hd⟩:=id hit
 obtain⟨ol,hol,_,nl,hdl⟩:=hl
 unfold pyNext
 refine wpAny_bind (wpAny_attempt (wpAny_callSpecial?_slot (name:=Str.ofString "__next__") hit.typeIs slot_listiter_next
  (wpAny_call_entry slot_listiter_next hit.typeIs entry_listiter_next ?_ (args_listiter_next _))))
 show wpAny _ _ (field (.ref it) 0 >>= _) _ _ s
 refine wpAny_bind (wpAny_field ho hd (x:=.ref l) rfl ?_)
 show wpAny _ _ (if (Value.ref l == Value.none)=true then _ else _) _ _ s
 rw[if_neg (show ¬ ((Value.ref l == Value.none)=true) from Bool.false_ne_true)]
 show wpAny _ _ (field (.ref it) 1 >>= _) _ _ s
 refine wpAny_bind (wpAny_field ho hd (x:=.int i 0) rfl ?_)
 show wpAny _ _ (seqItems? (.ref l) >>= _) _ _ s
 refine wpAny_bind (wpAny_seqItems hol hdl ?_)
 simp only [Int.toNat_natCast,hx]
 refine wpAny_bind (wpAny_rule (wpAny_bind (wpAny_setField ho hd (by simp) ?_)))
 refine R7 (hq:=(hq.but ho fun n=>?_)) fun h' e k he=>?_
 ·obtain⟨vs,e1,e2⟩:=n
  rw[hd] at e1
  cases e1
  simp at e2
 obtain⟨oe,h1,h2⟩:=he
 refine wpAny_bind (wpAny_isInstance (T:="StopIteration") (b:=true) ⟨_,h1,h2⟩ isSubtype_stop ?_)
 exact wpAny_pure (hQ _ fun b o hb e=>k b o ((Heap.SameBut.update ..).extBut b o hb e))
theorem Tv {it t:Addr}{i:Nat}{items}{Q:Option Value->Shared->Prop}(hq:Qt A s.heap)
  (hit:s.heap.IsTupleIter it t i) (ht:s.heap.IsTuple t items) (hx:items[i]?=none)
  (hQ:∀ h',Heap.ExtBut it s.heap h'->Q none { s with heap:=h' }):wpAny (model prog w) A (pyNext (.ref it)) Q E s:=by
 obtain⟨o,ho,hc,hd⟩:=id hit
 obtain⟨ol,hol,_,nl,hdl⟩:=ht
 unfold pyNext
 refine wpAny_bind (wpAny_attempt (wpAny_callSpecial?_slot (name:=Str.ofString "__next__") hit.typeIs F.slot_tuple_iterator_next
  (wpAny_call_entry F.slot_tuple_iterator_next hit.typeIs F.entry_tuple_iterator_next ?_ (F.args_tuple_iterator_next_1 _))))
 show wpAny _ _ (field (.ref it) 0 >>= _) _ _ s
 refine wpAny_bind (wpAny_field ho hd (x:=.ref t) rfl ?_)
 show wpAny _ _ (if (Value.ref t == Value.none)=true then _ else _) _ _ s
 rw[if_neg (show ¬ ((Value.ref t == Value.none)=true) from Bool.false_ne_true)]
 show wpAny _ _ (field (.ref it) 1 >>= _) _ _ s
 refine wpAny_bind (wpAny_field ho hd (x:=.int i 0) rfl ?_)
 show wpAny _ _ (seqItems? (.ref t) >>= _) _ _ s
 refine wpAny_bind (wpAny_seqItems hol hdl ?_)
 simp only [Int.toNat_natCast,hx]
 refine wpAny_bind (wpAny_rule (wpAny_bind (wpAny_setField ho hd (by simp) ?_)))
 refine R7 (hq:=(hq.but ho fun n=>?_)) fun h' e k he=>?_
 ·obtain⟨vs,e1,e2⟩:=n
  rw[hd] at e1
  cases e1
  simp at e2
 obtain⟨oe,h1,h2⟩:=he
 refine wpAny_bind (wpAny_isInstance (T:="StopIteration") (b:=true) ⟨_,h1,h2⟩ isSubtype_stop ?_)
 exact wpAny_pure (hQ _ fun b o hb e=>k b o ((Heap.SameBut.update ..).extBut b o hb e))
theorem Ty {it:Addr}{x left step:Int}{Q:Option Value->Shared->Prop}(hq:Qt A s.heap)(hit:IsRangeIter s.heap it x left step)(hleft:left<=0)
  (hQ:∀ h',Heap.ExtBut it s.heap h'->Q none { s with heap:=h' }):wpAny (model prog w) A (pyNext (.ref it)) Q E s:=by
 have hT:s.TypeIs (.ref it) "range_iterator":=⟨_,hit,rfl⟩
 unfold pyNext
 refine wpAny_bind (wpAny_attempt (wpAny_callSpecial?_slot (name:=Str.ofString "__next__") hT F.slot_range_iterator_next
  (wpAny_call_entry F.slot_range_iterator_next hT F.entry_range_iterator_next ?_ (F.args_range_iterator_next_1 _))))
 show wpAny _ _ (field (.ref it) 0 >>= _) _ _ s
 refine wpAny_bind (wpAny_field hit rfl (x:=rawInt x) rfl ?_)
 show wpAny _ _ (field (.ref it) 1 >>= _) _ _ s
 refine wpAny_bind (wpAny_field hit rfl (x:=rawInt left) rfl ?_)
 show wpAny _ _ (field (.ref it) 2 >>= _) _ _ s
 refine wpAny_bind (wpAny_field hit rfl (x:=rawInt step) rfl ?_)
 show wpAny _ _ (if left<=0 then _ else _) _ _ s
 rw[if_pos hleft]
 refine wpAny_bind (wpAny_rule ?_)
 refine wpAny_bind ?_
 refine R7 (hq:=hq) fun h' e k he=>?_
 obtain⟨oe,h1,h2⟩:=he
 refine wpAny_bind (wpAny_isInstance (T:="StopIteration") (b:=true) ⟨_,h1,h2⟩ isSubtype_stop ?_)
 exact wpAny_pure (hQ _ fun b o hb e=>k b o e)
theorem Q9 {t:Addr}{items:Array Value}{Q:List Value->Shared->Prop}(hq:Qt A s.heap)(ht:IsTup s.heap t items)
  (hQ:∀ h',Heap.ExtBut s.heap.objs.size s.heap h'->Q items.toList { s with heap:=h' }):wpAny (model prog w) A (unpackItems (.ref t) items.size none) Q E s:=by
 have hlt:t≠s.heap.objs.size:=by obtain⟨o,ho,_⟩:=ht;exact Nat.ne_of_lt (Heap.lt_size ho)
 unfold unpackItems
 refine wpAny_bind ?_
 ·unfold notIterableAtAll
  refine wpAny_bind (wpAny_specialOf ht.typeIs slot_tuple_iter.lookup ?_)
  refine wpAny_pure ?_
  simp only [Bool.false_eq_true,if_false]
  refine wpAny_bind (wpAny_holding (iter_tuple ht ?_))
  refine wpAny_bind (wpAny_holding (draw_tuple hlt items.size 0 _ _ ⟨_,Heap.get?_push_size _ rfl,rfl,rfl⟩ (ht.push _) (by omega) fun h₁ hit₁ hs₁=>?_))
  have hall:List.take items.size (List.drop 0 items.toList)=items.toList:=by
   rw[List.drop_zero];exact List.take_of_length_le (by simp)
  rw[hall]
  rw[if_neg (by simp)]
  have ht₁:IsTup h₁ t items:=(ht.push _).extBut hs₁.extBut hlt
  have kp:∀ b o,s.heap.get? b=some o->h₁.get? b=some o:=fun b o e=>hs₁.extBut b o (fun z=>by have:=Heap.lt_size e;rw[z] at this;exact Nat.lt_irrefl _ this) (Heap.get?_push_of_some _ e)
  refine wpAny_bind (wpAny_holding (Tv (hq.keeps fun b o e _=>kp b o e) hit₁ ht₁ (by simp) fun h₂ he₂=>?_))
  simp only [Option.isSome_none,Bool.false_eq_true,if_false]
  refine wpAny_pure (hQ h₂ fun b o hb e=>he₂ b o hb (kp b o e))
theorem Q8 {env:Env}{elts:List Expr}{x1}{pos:Pos}{t:Addr}{items:Array Value}{Q:Unit->Shared->Prop}(hq:Qt A s.heap)(ht:IsTup s.heap t items)
  (hn:(assignEach elts env).length=items.size) (hstar:(assignEach elts env).findIdx? (·.1)=none)
  (h:∀ h',Heap.ExtBut s.heap.objs.size s.heap h'->wpAny (model prog w) A (assignInOrder ((assignEach elts env).map (·.2)) items.toList) Q E { s with heap:=h' }) :
  wpAny (model prog w) A (assign (.Tuple elts x1 pos) env (.ref t)) Q E s:=by
 rw[assign_Tuple]
 refine wpAny_bind (wpAny_standAt ?_)
 unfold unpack
 rw[hn,hstar]
 exact wpAny_bind (wpAny_holding (Q9 hq ht h))
end
theorem Walks.listQ {prog:Program}{w:World}{A:Around}{qs:List (Addr × Obj)}(hq:QtP A qs)(I ax:Addr)(hne:ax≠I)(hqs:∀ p∈qs,p.1≠I)(items:Array Value) :
  Walks prog w A I (I::ax::qs.map Prod.fst) [I] items.size (fun i v=>items[i]?=some v) (fun i h=>h.IsListIter I ax i/\h.IsList ax items/\∀ p∈qs,h.get? p.1=some p.2) where
 sub:=fun b hb=>by simp at hb;simp[hb]
 frame:=fun _ _ _ st hk=>⟨st.1.at fun o e=>hk I (by simp) o e,st.2.1.at fun o e=>hk ax (by simp) o e,fun p hp=>hk p.1 (by simp;exact .inr (.inr ⟨p.2,hp⟩)) p.2 (st.2.2 p hp)⟩
 item:=fun i s Q E hi st hQ=>by
  refine wpAny_pyNext_list_item st.1 st.2.1 (x:=items[i]) (by simp[hi]) fun h' hit' hs'=>?_
  exact hQ _ h' s.toks (by simp[hi]) ⟨hit',st.2.1.extBut hs'.extBut hne,fun p hp=>hs'.extBut p.1 p.2 (hqs p hp) (st.2.2 p hp)⟩ fun b o hb e=>hs'.extBut b o (fun h=>hb (by simp[h])) e
 done:=fun s Q E st hQ=>Rt (hq.at st.2.2) st.1 st.2.1 (by simp) fun h' he'=>hQ h' s.toks fun b o hb e=>he' b o (fun h=>hb (by simp[h])) e
 self:=fun _ _ _ _ st hQ=>wpAny_pyIter_listiter st.1 hQ
theorem Rg {prog:Program}{w:World}{A:Around}{I:Addr}{a c:Int}{n:Nat}(i:Nat)(s:Shared)(Q:Option Value->Shared->Prop)(E:Value->Shared->Prop)(hi:i<n)(st:IsRangeIter s.heap I (a+(i:Nat)*c) ((n:Int) - (i:Nat)) c)
  (hQ:∀ v h' tk,(∃ t,v=Value.int (a+i*c) t)->IsRangeIter h' I (a+((i+1:Nat):Int)*c) ((n:Int) - ((i+1:Nat):Int)) c->(∀ b o,b ∉ [I]->s.heap.get? b=some o->h'.get? b=some o)->Q (some v) { s with heap:=h',toks:=tk }) :
  wpAny (model prog w) A (pyNext (.ref I)) Q E s:=by
 refine wpAny_pyNext_range_item st (by omega) fun h' hit' hs'=>?_
 refine hQ _ h' _ ⟨_,rfl⟩ ?_ fun b o hb e=>hs'.extBut b o (fun h=>hb (by simp[h])) e
 have e1:a+((i+1:Nat):Int)*c=a+(i:Int)*c+c:=by push_cast;rw[Int.add_mul,Int.one_mul,Int.add_assoc]
 have e2:(n:Int) - ((i+1:Nat):Int)=(n:Int) - (i:Int) - 1:=by push_cast;omega
 rw[e1,e2];exact hit'
def QtE (A:Around)(h:Heap)(H:Addr->Option α)(fs:List Addr):Prop:=A.handled=none \/ ∃ a o,A.handled=some (.ref a)/\h.get? a=some o/\NoCtx o/\H a=none/\a ∉ fs/\∀ v,o.data≠.cell v
def qpin (A:Around)(h:Heap):List (Addr × Obj):=match A.handled with
 | some (.ref a)=>match h.get? a with
  | some o=>[(a,o)]
  | none=>[]
 | _=>[]
theorem QtE.pin {A:Around}{h:Heap}{H:Addr->Option α}{fs:List Addr}(q:QtE A h H fs):QtP A (qpin A h):=by
 rcases q with q | ⟨a,o,e,g,n,_⟩
 ·exact .inl q
 ·refine .inr ⟨(a,o),?_,e,n⟩
  unfold qpin
  rw[e]
  dsimp only
  rw[g]
  simp
theorem QtE.mem {A:Around}{h:Heap}{H:Addr->Option α}{fs:List Addr}(q:QtE A h H fs)(p:Addr × Obj)(hp:p∈qpin A h):h.get? p.1=some p.2/\H p.1=none/\p.1 ∉ fs/\∀ v,p.2.data≠.cell v:=by
 rcases q with q | ⟨a,o,e,g,n,h1,h2,h3⟩
 ·unfold qpin at hp
  rw[q] at hp
  cases hp
 ·unfold qpin at hp
  rw[e] at hp
  dsimp only at hp
  rw[g] at hp
  obtain rfl:p=(a,o):=by simpa using hp
  exact⟨g,h1,h2,h3⟩
section
variable {prog:Program}{w:World}{A:Around}{E:Value->Shared->Prop}{s:Shared}
theorem Uu {it l:Addr}{i:Nat}{items}{Q:Value->Shared->Prop}(hq:Qt A s.heap)
  (hit:s.heap.IsListIter it l i) (hl:s.heap.IsList l items) (hx:items[i]?=none)
  (hE:∀ h' e,Heap.ExtBut it s.heap h'->(∃ o,h'.get? e=some o/\o.cls=.type "StopIteration")->E (.ref e) { s with heap:=h' }) :
  wpAny (model prog w) A (Builtin.SmallTypes.nextOf (.ref it)) Q E s:=by
 obtain⟨o,ho,hc,hd⟩:=id hit
 obtain⟨ol,hol,_,nl,hdl⟩:=hl
 unfold Builtin.SmallTypes.nextOf
 refine wpAny_bind (wpAny_callSpecial?_slot (name:=Str.ofString "__next__") hit.typeIs slot_listiter_next
  (wpAny_call_entry slot_listiter_next hit.typeIs entry_listiter_next ?_ (args_listiter_next _)))
 show wpAny _ _ (field (.ref it) 0 >>= _) _ _ s
 refine wpAny_bind (wpAny_field ho hd (x:=.ref l) rfl ?_)
 show wpAny _ _ (if (Value.ref l == Value.none)=true then _ else _) _ _ s
 rw[if_neg (show ¬ ((Value.ref l == Value.none)=true) from Bool.false_ne_true)]
 show wpAny _ _ (field (.ref it) 1 >>= _) _ _ s
 refine wpAny_bind (wpAny_field ho hd (x:=.int i 0) rfl ?_)
 show wpAny _ _ (seqItems? (.ref l) >>= _) _ _ s
 refine wpAny_bind (wpAny_seqItems hol hdl ?_)
 simp only [Int.toNat_natCast,hx]
 refine wpAny_bind (wpAny_rule (wpAny_bind (wpAny_setField ho hd (by simp) ?_)))
 refine R7 (hq:=(hq.but ho fun n=>?_)) fun h' e k he=>?_
 ·obtain⟨vs,e1,e2⟩:=n
  rw[hd] at e1
  cases e1
  simp at e2
 exact hE _ _ (fun b o hb e=>k b o ((Heap.SameBut.update ..).extBut b o hb e)) he
end
theorem Draws.listQ {prog:Program}{w:World}{A:Around}{qs:List (Addr × Obj)}(hq:QtP A qs)(it l:Addr)(hne:l≠it)(hqs:∀ p∈qs,p.1≠it)(items:Array Value) :
  Draws prog w A it (it::l::qs.map Prod.fst) items.size (fun i v=>items[i]?=some v) (fun i h=>h.IsListIter it l i/\h.IsList l items/\∀ p∈qs,h.get? p.1=some p.2) where
 live:=fun _ _ st=>let ⟨o,ho,_⟩:=st.1;⟨o,ho⟩
 frame:=fun _ _ _ st hk=>⟨st.1.at fun o e=>hk it (by simp) o e,st.2.1.at fun o e=>hk l (by simp) o e,fun p hp=>hk p.1 (by simp;exact .inr (.inr ⟨p.2,hp⟩)) p.2 (st.2.2 p hp)⟩
 item:=fun i s Q E hi st hQ=>by
  refine wpAny_nextOf_list_item st.1 st.2.1 (x:=items[i]) (by simp[hi]) fun h' hit' hs'=>?_
  exact hQ _ h' s.toks (by simp[hi]) ⟨hit',st.2.1.extBut hs'.extBut hne,fun p hp=>hs'.extBut p.1 p.2 (hqs p hp) (st.2.2 p hp)⟩ hs'
 done:=fun s Q E st hE=>Uu (hq.at st.2.2) st.1 st.2.1 (by simp) hE
section
variable {prog:Program}{w:World}{A:Around}{E:Value->Shared->Prop}{s:Shared}{l:Addr}{xs:Array (Int × Tok)}{qs:List (Addr × Obj)}
theorem Be {Q:Value->Shared->Prop}(hp:∀ p∈qs,s.heap.get? p.1=some p.2)(hl:s.heap.IsList l (intItems xs))
  (h:∀ s₂:Shared,s₂={ s with heap:=s.heap.push { cls:=.type "list_iterator",data:=.fields #[.ref l,.int 0 0] } } →
   (s₂.heap.IsListIter s.heap.objs.size l 0/\s₂.heap.IsList l (intItems xs)/\∀ p∈qs,s₂.heap.get? p.1=some p.2)->(∀ b∈s.heap.objs.size::l::qs.map Prod.fst,b<s₂.heap.objs.size)->l≠s.heap.objs.size->(∀ p∈qs,p.1≠s.heap.objs.size)->Q (.ref s.heap.objs.size) s₂) :
  wpAny (model prog w) A (pyIter (.ref l)) Q E s:=by
 refine iter_intList hl fun s₂ e st hb hne=>h s₂ e ⟨st.1,st.2,fun p q=>?_⟩ (fun b m=>?_) hne fun p q=>Nat.ne_of_lt (Heap.lt_size (hp p q))
 ·rw[e]
  exact Heap.get?_push_of_some _ (hp p q)
 ·rcases List.mem_cons.mp m with m | m
  ·exact hb b (by simp[m])
  ·rcases List.mem_cons.mp m with m | m
   ·exact hb b (by simp[m])
   ·obtain⟨p,q,rfl⟩:=List.mem_map.mp m
    rw[e]
    show _<(s.heap.push _).objs.size
    rw[Heap.size_push]
    exact Nat.lt_succ_of_lt (Heap.lt_size (hp p q))
theorem Z3p {Q:Value->Shared->Prop}(hq:QtP A qs)(hp:∀ p∈qs,s.heap.get? p.1=some p.2)(hl:s.heap.IsList l (intItems xs))(hne:0<xs.size)
  (h:∀ v h' tk,(intItems xs)[argBest (fun i j=>decide (numAt xs i<numAt xs j)) (xs.size - 1)]?=some v->(∀ b o,s.heap.get? b=some o->h'.get? b=some o)->Q v { s with heap:=h',toks:=tk }) :
  wpAny (model prog w) A (call (.builtin "min") [.ref l]) Q E s:=by
 refine call_min_walk (Be hp hl fun s₂ e st hfp hlI hqI=>?_)
 subst e
 refine⟨_,_,_,_,_,_,_,rfl,Walks.listQ (A:=A.in1) hq _ l hlI hqI (intItems xs),st,hfp,by simpa [intItems] using hne,CmpOf.ints_lt (numAt xs) (fun _ _=>intItems_at),fun v h' tk hP hk=>?_⟩
 exact h v h' tk (by simpa [intItems] using hP) (old_kept hk)
theorem Z3a {Q:Value->Shared->Prop}(hq:QtP A qs)(hp:∀ p∈qs,s.heap.get? p.1=some p.2)(hl:s.heap.IsList l (intItems xs))
  (h:∀ h' tk t',(∀ b o,s.heap.get? b=some o->h'.get? b=some o)->Q (.int (preSum (numAt xs) xs.size) t') { s with heap:=h',toks:=tk }) :
  wpAny (model prog w) A (call (.builtin "sum") [.ref l]) Q E s:=by
 refine call_sum_walkG (Be hp hl fun s₂ e st hfp hlI hqI=>?_)
 subst e
 refine⟨_,_,_,_,_,_,numAt xs,rfl,Walks.listQ (A:=A.in1) hq _ l hlI hqI (intItems xs),st,hfp,(fun _ _=>intItems_at),fun h' tk t' hk=>?_⟩
 have:=h h' tk t' (old_kept hk)
 simpa [intItems] using this
end
theorem Walks.rangeQ {prog:Program}{w:World}{A:Around}{qs:List (Addr × Obj)}(hq:QtP A qs)(I:Addr)(hqs:∀ p∈qs,p.1≠I)(a c:Int)(n:Nat) :
  Walks prog w A I (I::qs.map Prod.fst) [I] n (fun i v=>∃ t,v=.int (a+i*c) t) (fun i h=>IsRangeIter h I (a+(i:Nat)*c) ((n:Int) - (i:Nat)) c/\∀ p∈qs,h.get? p.1=some p.2) where
 sub:=fun b hb=>by simp at hb;simp[hb]
 frame:=fun _ _ _ st hk=>⟨hk I (by simp) _ st.1,fun p hp=>hk p.1 (by simp;exact .inr ⟨p.2,hp⟩) p.2 (st.2 p hp)⟩
 item:=fun i s Q E hi st hQ=>by
  refine Rg i s _ _ hi st.1 fun v h' tk hv st' hk=>hQ v h' tk hv ⟨st',fun p hp=>hk p.1 p.2 (by simp[hqs p hp]) (st.2 p hp)⟩ fun b o hb e=>hk b o hb e
 done:=fun s Q E st hQ=>Ty (hq.at st.2) st.1 (by omega) fun h' he'=>hQ h' s.toks fun b o hb e=>he' b o (fun h=>hb (by simp[h])) e
 self:=fun _ _ _ _ st hQ=>wpAny_pyIter_rangeiter st.1 hQ
section
variable {prog:Program}{w:World}{A:Around}{s:Shared}
theorem Q3 {R:Result->Shared->Prop}{r:Addr}{a b c:Int}{t u v:Tok}{n:Nat}{qs:List (Addr × Obj)}(hq:QtP A qs)(hp:∀ p∈qs,s.heap.get? p.1=some p.2)(hr:IsRange s.heap r a b c t u v)(hsmall:Builtin.Range.small a b c=true)
  (hn:Builtin.Range.rangeSize a b c=n) (hlen:n<=2 ^ 24) (S:Addr) (res:Value) (c₀:Nat) (hS:s.heap.get? S=some { cls:=.type "list",data:=.seq #[] c₀ }) (hSq:∀ p∈qs,p.1≠S)
  (hR:∀ h' tk acc' c',(∀ b o,b≠S->s.heap.get? b=some o->h'.get? b=some o)->h'.get? S=some { cls:=.type "list",dict:=none,data:=.seq acc' c',slots:=#[] } →
   ItemsOf (fun i v=>∃ t,v=.int (a+i*c) t) acc' n->R (.ok (.ret res)) { s with heap:=h',toks:=tk }) :
  wpAny (model prog w) A.in1 (Builtin.List.listExtendWith (.ref S) (.ref r) res)
   (fun fin s'=>match fin with | .done f=>R (.ok f) s' | .again c'=>c'.quiet=true/\codeAny (model prog w) A c' R s') (fun e s'=>R (.error e) s') s:=by
 have hSr:S≠r:=fun e=>by rw[e,hr] at hS;simp at hS
 have hSlt:S<s.heap.objs.size:=Heap.lt_size hS
 have hSI:S≠s.heap.objs.size:=Nat.ne_of_lt hSlt
 have hSf:S ∉ s.heap.objs.size::qs.map Prod.fst:=fun hm=>(List.mem_cons.mp hm).elim hSI fun hm=>by
  obtain⟨p,q,e⟩:=List.mem_map.mp hm
  exact hSq p q e
 have W:=(Walks.rangeQ (prog:=prog) (w:=w) (A:=A.in1) hq s.heap.objs.size (fun p q=>Nat.ne_of_lt (Heap.lt_size (hp p q))) a c n).toS
 have key:∀ (h:Heap) (c₁ tk:Nat),IsRangeIter h s.heap.objs.size (a+((0:Nat):Int)*c) ((n:Int) - ((0:Nat):Int)) c->(∀ b o,b≠S->s.heap.get? b=some o->h.get? b=some o) →
   h.get? S=some { cls:=.type "list",data:=.seq #[] c₁ }->codeAny (model prog w) A (.builtin "list.extend.loop" ⟨[.ref S,.ref s.heap.objs.size,res],[]⟩) R { s with heap:=h,toks:=tk }:=by
  intro h c₁ tk hit hk hS₁
  refine codeAny_extend_loopS W (by rw[sizeLine_eq];omega) S hSf res n 0 _ #[] c₁ rfl (Nat.zero_le _) ⟨hit,fun p q=>hk p.1 p.2 (hSq p q) (hp p q)⟩ hS₁ (ItemsOf.nil _) fun s' acc' c' hm hS' hacc=>?_
  rw[Moved.eq_with hm]
  refine hR s'.heap s'.toks acc' c' (fun b o hb e=>hm.heap b o (fun hmem=>?_) (hk b o hb e)) hS' hacc
  rcases List.mem_cons.mp hmem with e' | hmem
  ·exact hb e'
  ·exact absurd (Heap.lt_size e) (by rw[List.mem_singleton.mp hmem];exact Nat.lt_irrefl _)
 unfold Builtin.List.listExtendWith
 refine wpAny_bind (wpAny_typeOf (T:="range") ⟨_,hr,rfl⟩ ?_)
 have h1:Builtin.List.listSameRef (.ref S) (.ref r)=false:=by simp[Builtin.List.listSameRef,hSr]
 have h2:(Value.type "range" == Value.type "list")=false:=by decide
 have h3:(Value.type "range" == Value.type "tuple")=false:=by decide
 simp only [h1,h2,h3,Bool.or_false,Bool.false_eq_true,if_false]
 refine wpAny_bind (wpAny_pyIter_range hr hsmall ?_)
 refine wpAny_bind (wpAny_holding (wpAny_hint_range (n:=n) (Heap.get?_push_of_some _ hr) hn hlen ?_))
 have hit₁:IsRangeIter (s.heap.push { cls:=.type "range_iterator",data:=.fields #[rawInt a,rawInt (Builtin.Range.rangeSize a b c),rawInt c] }) s.heap.objs.size (a+((0:Nat):Int)*c) ((n:Int) - ((0:Nat):Int)) c:=by
  show IsRangeIter _ _ _ _ _;rw[hn];simpa using Heap.get?_push_size _ rfl
 have hS₁:=Heap.get?_push_of_some { cls:=.type "range_iterator",data:=.fields #[rawInt a,rawInt (Builtin.Range.rangeSize a b c),rawInt c] } hS
 refine wpAny_ite_split (fun _=>?_) (fun _=>wpAny_pure ⟨plainId_quiet F.plain_extend_loop _,key _ c₀ _ hit₁ (fun b o _ e=>Heap.get?_push_of_some _ e) hS₁⟩)
 refine wpAny_bind (wpAny_rule ?_)
 refine wpAny_bind ?_
 show wpAny _ _ (updateSeq S (·.push .none) >>= fun _=>updateSeq S (·.pop)) _ _ _
 refine wpAny_bind (wpAny_updateSeq hS₁ rfl ?_)
 have hS₂:=Heap.get?_update_self (Obj.mapSeq (·.push Value.none)) hS₁ rfl
 refine wpAny_updateSeq (hz:=by seq_fits) hS₂ rfl ?_
 have hS₃:=Heap.get?_update_self (Obj.mapSeq (·.pop)) hS₂ rfl
 refine wpAny_pure ⟨plainId_quiet F.plain_extend_loop _,key _ _ _ ?_ (fun b o hb e=>?_) hS₃⟩
 ·exact (Heap.get?_update_other _ _ hSI).trans ((Heap.get?_update_other _ _ hSI).trans hit₁)
 ·exact (Heap.get?_update_other _ _ (Ne.symm hb)).trans ((Heap.get?_update_other _ _ (Ne.symm hb)).trans (Heap.get?_push_of_some _ e))
theorem Uz {R:Result->Shared->Prop}{r:Addr}{a b c:Int}{t u v:Tok}{n:Nat}{qs:List (Addr × Obj)}(hq:QtP A qs)(hp:∀ p∈qs,s.heap.get? p.1=some p.2)(hr:IsRange s.heap r a b c t u v)(hsmall:Builtin.Range.small a b c=true)
  (hn:Builtin.Range.rangeSize a b c=n) (hlen:n<=2 ^ 24) (S:Addr) (hS:s.heap.get? S=some { cls:=.type "list",data:=.seq #[] }) (hSq:∀ p∈qs,p.1≠S)
  (hR:∀ h' tk acc' c',(∀ b o,b≠S->s.heap.get? b=some o->h'.get? b=some o)->h'.get? S=some { cls:=.type "list",dict:=none,data:=.seq acc' c',slots:=#[] } →
   ItemsOf (fun i v=>∃ t,v=.int (a+i*c) t) acc' n->R (.ok (.ret .none)) { s with heap:=h',toks:=tk }) :
  wpAny (model prog w) A.in1 (Builtin.«list.__init__» ⟨[.ref S,.ref r],[]⟩)
   (fun fin s'=>match fin with | .done f=>R (.ok f) s' | .again c'=>c'.quiet=true/\codeAny (model prog w) A c' R s') (fun e s'=>R (.error e) s') s:=by
 have hSr:S≠r:=fun e=>by rw[e,hr] at hS;simp at hS
 show wpAny _ _ (do let old ← Builtin.List.listItems (.ref S);Builtin.List.listUpdate (.ref S) (fun _=>#[]);letGo old.toList.reverse;Builtin.List.listExtendWith (.ref S) (.ref r) .none) _ _ s
 refine wpAny_bind ?_
 unfold Builtin.List.listItems
 refine wpAny_bind (wpAny_seqItems hS rfl (wpAny_pure ?_))
 show wpAny _ _ (updateSeq S (fun _=>#[]) >>= fun _=>letGo (#[]:Array Value).toList.reverse >>= fun _=>Builtin.List.listExtendWith (.ref S) (.ref r) .none) _ _ s
 refine wpAny_bind (wpAny_updateSeq hS rfl ?_)
 have hS₂:=Heap.get?_update_self (Obj.mapSeq (fun _=>(#[]:Array Value))) hS rfl
 have oth:∀ b o,b≠S->s.heap.get? b=some o->(s.heap.update S (Obj.mapSeq (fun _=>(#[]:Array Value)))).get? b=some o :=
  fun b o hb e=>(Heap.get?_update_other _ _ (Ne.symm hb)).trans e
 refine wpAny_bind (wpAny_letGo ?_)
 refine Q3 hq (fun p q=>oth p.1 p.2 (hSq p q) (hp p q)) (oth r _ (Ne.symm hSr) hr) hsmall hn hlen S .none _ hS₂ hSq fun h' tk acc' c' hk hS' hacc=>?_
 exact hR h' tk acc' c' (fun b o hb e=>hk b o hb (oth b o hb e)) hS' hacc
end
section
variable {prog:Program}{w:World}{A:Around}{E:Value->Shared->Prop}{s:Shared}
theorem N3 {Q:Value->Shared->Prop}{r:Addr}{a b c:Int}{t u v:Tok}{n:Nat}{qs:List (Addr × Obj)}(hq:QtP A qs)(hp:∀ p∈qs,s.heap.get? p.1=some p.2)(hr:IsRange s.heap r a b c t u v)(hsmall:Builtin.Range.small a b c=true)
  (hn:Builtin.Range.rangeSize a b c=n) (hlen:n<=2 ^ 24)
  (hQ:∀ h' tk acc' c',(∀ b o,s.heap.get? b=some o->h'.get? b=some o) →
   h'.get? s.heap.objs.size=some { cls:=.type "list",dict:=none,data:=.seq acc' c',slots:=#[] }->ItemsOf (fun i v=>∃ t,v=.int (a+i*c) t) acc' n->Q (.ref s.heap.objs.size) { s with heap:=h',toks:=tk }) :
  wpAny (model prog w) A (call (.type "list") [.ref r]) Q E s:=by
 refine callType_codes (Q₁:=fun obj s₁=>obj=.ref s.heap.objs.size/\s₁={ s with heap:=s.heap.push { cls:=.type "list",data:=.seq #[] } }) F.called_list (F.typeCall_list_1 _) F.entry_list_init
  (code_list_new _ ⟨rfl,rfl⟩) fun obj s₁ h₁=>?_
 obtain⟨rfl,rfl⟩:=h₁
 have hS:(s.heap.push { cls:=.type "list",data:=.seq #[] }).get? s.heap.objs.size=some { cls:=.type "list",data:=.seq #[] }:=Heap.get?_push_size _ rfl
 refine⟨⟨_,hS,rfl⟩,F.args_list_init_2 _ _,Uz (A:=A.in1) hq (fun p q=>Heap.get?_push_of_some _ (hp p q)) (Heap.get?_push_of_some _ hr) hsmall hn hlen _ hS (fun p q=>Nat.ne_of_lt (Heap.lt_size (hp p q))) fun h' tk acc' c' hk hS' hacc=>?_⟩
 exact⟨rfl,hQ h' tk acc' c' (fun b o e=>hk b o (Nat.ne_of_lt (Heap.lt_size e)) (Heap.get?_push_of_some _ e)) hS' hacc⟩
end
end Sb
namespace L2
open PySem PySem.Spec PyProof.Rows
abbrev Key:=Sum Int Str
def keyIs:Key->Value->Bool
 | .inl k,v=>Value.isInt k v
 | .inr x,v=>Value.isStrOf x v
def keyH (w:World):Key->Int
 | .inl k=>hashInt k
 | .inr x=>hashStr w x
theorem Yp:∀ {k:Key} {v:Value},keyIs k v=true->(∃ i t,k=Sum.inl i/\v=Value.int i t) \/ (∃ x t,k=Sum.inr x/\v=Value.str x t)
 | .inl i,v,h=>by
  obtain⟨t,e⟩:=Value.isInt_shape (k:=i) (v:=v) h
  exact .inl ⟨i,t,rfl,e⟩
 | .inr x,v,h=>by
  obtain⟨t,e⟩:=Value.isStrOf_shape (x:=x) (v:=v) h
  exact .inr ⟨x,t,rfl,e⟩
theorem Z2z (a b:Int):decide ((Sum.inl a:Key)=Sum.inl b)=(a == b):=by
 by_cases e:a=b
 ·subst e;simp
 ·have h:¬ (Sum.inl a:Key)=Sum.inl b:=fun q=>e (Sum.inl.inj q)
  rw[decide_eq_false h]
  exact (beq_eq_false_iff_ne.mpr e).symm
theorem Z2w (a b:Str):decide ((Sum.inr a:Key)=Sum.inr b)=decide (a=b):=by
 by_cases e:a=b
 ·subst e;simp
 ·have h:¬ (Sum.inr a:Key)=Sum.inr b:=fun q=>e (Sum.inr.inj q)
  rw[decide_eq_false h,decide_eq_false e]
theorem Z2y (a:Int)(b:Str):decide ((Sum.inl a:Key)=Sum.inr b)=false:=decide_eq_false (fun q=>nomatch q)
theorem Z2x (a:Str)(b:Int):decide ((Sum.inr a:Key)=Sum.inl b)=false:=decide_eq_false (fun q=>nomatch q)
def mixKind (prog:Program)(w:World):PySem.KeyKind prog w Key where
 is:=keyIs
 hash:=keyH w
 inj:=fun v a b ha hb=>by
  rcases Yp ha with ⟨i,t,rfl,rfl⟩ | ⟨x,t,rfl,rfl⟩
  ·rcases Yp hb with ⟨j,u,rfl,e⟩ | ⟨y,u,rfl,e⟩
   ·injection e with e1 _;rw[e1]
   ·exact nomatch e
  ·rcases Yp hb with ⟨j,u,rfl,e⟩ | ⟨y,u,rfl,e⟩
   ·exact nomatch e
   ·injection e with e1 _;rw[e1]
 byValue:=fun k v h=>by
  rcases Yp h with ⟨i,t,rfl,rfl⟩ | ⟨x,t,rfl,rfl⟩ <;> rfl
 pyHash:=fun hv h=>by
  rcases Yp hv with ⟨i,t,rfl,rfl⟩ | ⟨x,t,rfl,rfl⟩
  ·exact wpAny_pyHash_int h
  ·exact wpAny_pyHash_str h
 eqBool:=fun hu hv h=>by
  rcases Yp hu with ⟨i,t,rfl,rfl⟩ | ⟨x,t,rfl,rfl⟩
  ·rcases Yp hv with ⟨j,u,rfl,rfl⟩ | ⟨y,u,rfl,rfl⟩
   ·rw[Z2z] at h;exact wpAny_eqBool_int h
   ·rw[Z2y] at h;exact SeqAt.EqAt.int_str i t y u _ _ _ _ h
  ·rcases Yp hv with ⟨j,u,rfl,rfl⟩ | ⟨y,u,rfl,rfl⟩
   ·rw[Z2x] at h;exact SeqAt.EqAt.str_int x t j u _ _ _ _ h
   ·rw[Z2w] at h;exact wpAny_eqBool_str h
 «strs»:=fun k x t v h=>by
  rcases Yp h with ⟨i,u,rfl,e⟩ | ⟨y,u,rfl,e⟩
  ·exact nomatch e
  ·injection e with e1 _
   subst e1
   cases v <;> rfl
end L2
namespace L2
open PySem PySem.Spec PyProof.Rows
inductive V where
 | non | bl (b:Bool) | int (i:Int) | str (x:Str) | byt (b:Array UInt8) | flt (b:UInt64) | ref (a:Addr) | ty (n:String)
 deriving DecidableEq
def RelV:V->Value->Prop
 | .non,u=>u=Value.none
 | .bl b,u=>u=Value.bool b
 | .int i,u=>∃ t,u=Value.int i t
 | .str x,u=>∃ t,u=Value.str x t
 | .byt b,u=>∃ t,u=Value.bytes b t
 | .flt b,u=>∃ t,u=Value.float b t
 | .ref a,u=>u=Value.ref a
 | .ty n,u=>u=Value.type n
abbrev Vals:List V->List Value->Prop:=Paired RelV
theorem Vals.length {xs:List V}{us:List Value}(r:Vals xs us):xs.length=us.length:=Paired.length r
theorem Vals.get:∀ {xs:List V} {us:List Value} {i:Nat} {x:V},Vals xs us->xs[i]?=some x->∃ u,us[i]?=some u/\RelV x u
 | _,_,_,_,.nil,e=>by simp at e
 | _,_,0,_,.cons r _,e=>by simp at e;subst e;exact⟨_,rfl,r⟩
 | _,_,i+1,x,.cons _ t,e=>by
  obtain⟨u,h1,h2⟩:=Vals.get (i:=i) (x:=x) t (by simpa using e)
  exact⟨u,by simpa using h1,h2⟩
theorem Vals.set {x:V}{u:Value}(r:RelV x u):∀ {xs:List V} {us:List Value} (i:Nat),Vals xs us->Vals (xs.set i x) (us.set i u)
 | _,_,_,.nil=>.nil
 | _,_,0,.cons _ t=>.cons r t
 | _,_,i+1,.cons q t=>.cons q (Vals.set r i t)
theorem Vals.append:∀ {xs ys:List V} {us ws:List Value},Vals xs us->Vals ys ws->Vals (xs++ys) (us++ws)
 | _,_,_,_,.nil,s=>s
 | _,_,_,_,.cons r t,s=>.cons r (Vals.append t s)
theorem Vals.take:∀ {xs:List V} {us:List Value} (n:Nat),Vals xs us->Vals (xs.take n) (us.take n)
 | _,_,0,_=>.nil
 | _,_,_+1,.nil=>.nil
 | _,_,n+1,.cons r t=>.cons r (Vals.take n t)
theorem Vals.drop:∀ {xs:List V} {us:List Value} (n:Nat),Vals xs us->Vals (xs.drop n) (us.drop n)
 | _,_,0,r=>r
 | _,_,_+1,.nil=>.nil
 | _,_,n+1,.cons _ t=>Vals.drop n t
def RelO:Option V->Option Value->Prop
 | some v,some u=>RelV v u
 | none,none=>True
 | _,_=>False
def KV {κ:Type}:List (κ × V)->List (κ × Value)->Prop:=Paired fun (p:κ × V) (q:κ × Value)=>p.1=q.1/\RelV p.2 q.2
def kV:Key->V
 | .inl i=>.int i
 | .inr x=>.str x
inductive HO where
 | lst (xs:List V)
 | tup (xs:List V)
 | dK (kvs:List (Key × V)) | dT (kvs:List (List Key × V))
 | set (S:Int->Bool) (n:Nat)
 | ins (C dx:Addr) (fs:List (Str × V))
 | own (x:Addr)
 | xd (fs:List (Str × V))
 | met (f x:Addr)
 | rng (lo hi:Int)
 | frz (o:Obj) (u:HO)
 | tbl (ps:Array Value)
 | ext (φ:Heap->Prop)
abbrev Hp:=Addr->Option HO
def upd (H:Hp)(a:Addr)(o:HO):Hp:=fun b=>if b=a then some o else H b
theorem Z7 {H:Hp}{a:Addr}{o:HO}:upd H a o a=some o:=by unfold upd;rw[if_pos rfl]
theorem Zb {H:Hp}{a b:Addr}{o:HO}(h:b≠a):upd H a o b=H b:=by unfold upd;rw[if_neg h]
theorem Z23 {H:Hp}{a b:Addr}{o u:HO}(h:H a=some o)(h':H b=some u)(d:o≠u):a≠b:=by
 intro e;subst e;rw[h] at h';exact d (Option.some.inj h')
theorem Z8 {H:Hp}{a b:Addr}{o:HO}(h:H a=some o)(h':H b=none):a≠b:=by
 intro e;subst e;rw[h] at h';cases h'
section
variable (P:Program)(w:World)
def ObjOk (H:Hp)(h:Heap)(a:Addr):HO->Prop
 | .lst xs=>xs.length<=sizeLine/\∃ (its:List Value) (n:Nat),Vals xs its/\h.get? a=some { cls:=.type "list",data:=.seq its.toArray n }
 | .tup xs=>xs.length<=sizeLine/\∃ its:List Value,Vals xs its/\IsTup h a its.toArray
 | .dK kvs=>kvs.length<=sizeLine/\(a == sysModules)=false/\∃ vs,KV kvs vs/\h.DictOf (mixKind P w) a vs
 | .dT kvs=>kvs.length<=sizeLine/\(a == sysModules)=false/\∃ xs:List (List Key × Addr × Value),
   Paired (fun (p:List Key × V) (q:List Key × Addr × Value)=>p.1=q.1/\H q.2.1=some (.tup (p.1.map kV))/\RelV p.2 q.2.2) kvs xs ∧
   ∃ o es ep,h.get? a=some o/\o.ExactDict/\o.data=.dict es ep/\es.toList=xs.map (entryOfKey (tupleKind (mixKind P w)))/\(xs.map (·.1)).Nodup
 | .set S n=>h.SetOf (intKind P w) a S n
 | .ins C dx fs=>H dx=some (.own a)/\fs.length<=1000/\dx≠a/\h.get? a=some (W.instObj C dx) ∧
   ∃ mA,h.Ns1 dx mA/\(∀ f,RelO (fs.lookup f) (mA f))/\PySem.Within mA (fs.map (·.1))
 | .own _=>∃ o,h.get? a=some o
 | .xd fs=>∃ mA,h.Ns1 a mA/\∀ f,RelO (fs.lookup f) (mA f)
 | .rng lo hi=>∃ t u v,h.get? a=some { cls:=.type "range",data:=.fields #[.int lo t,.int hi u,.int 1 v] }
 | .frz o u=>h.get? a=some o/\ObjOk H h a u
 | .tbl ps=>h.get? a=some { cls:=.none,data:=.fields ps }
 | .met f x=>h.get? a=some (W.methodObj (.ref f) (.ref x))
 | .ext φ=>φ h/\(∃ o,h.get? a=some o)/\∀ h1 h2:Heap,φ h1->(∀ o,h1.get? a=some o->h2.get? a=some o)->φ h2
def HOk (H:Hp)(h:Heap):Prop:=∀ a o,H a=some o->ObjOk P w H h a o
end
section
variable {P:Program}{w:World}{H H':Hp}{h h':Heap}{a:Addr}{o:HO}
theorem ObjOk.lt (x:ObjOk P w H h a o):a<h.objs.size:=by
 cases o with
 | lst xs=>obtain⟨_,_,_,_,e⟩:=x;exact Heap.lt_size e
 | tup xs=>obtain⟨_,_,_,p⟩:=x;exact p.lt
 | dK kvs=>obtain⟨_,_,_,_,o,_,_,e,_⟩:=x;exact Heap.lt_size e
 | dT kvs=>obtain⟨_,_,_,_,o,_,_,e,_⟩:=x;exact Heap.lt_size e
 | set S n=>obtain⟨o,_,_,_,e,_⟩:=x;exact Heap.lt_size e
 | ins C dx fs=>obtain⟨_,_,_,e,_⟩:=x;exact Heap.lt_size e
 | own y=>obtain⟨_,e⟩:=x;exact Heap.lt_size e
 | xd fs=>obtain⟨_,⟨_,_,_,e,_⟩,_⟩:=x;exact Heap.lt_size e
 | rng lo hi=>obtain⟨_,_,_,e⟩:=x;exact Heap.lt_size e
 | frz ob u=>obtain⟨e,_⟩:=x;exact Heap.lt_size e
 | tbl ps=>exact Heap.lt_size (show h.get? a=some _ from x)
 | met f y=>exact Heap.lt_size (show h.get? a=some _ from x)
 | ext φ=>obtain⟨_,⟨_,e⟩,_⟩:=x;exact Heap.lt_size e
theorem Paired.mapP {α β:Type}{F G:α->β->Prop}:∀ {l₁:List α} {l₂:List β},Paired F l₁ l₂->(∀ a b,F a b->G a b)->Paired G l₁ l₂
 | _,_,.nil,_=>.nil
 | _,_,.cons r t,f=>.cons (f _ _ r) (Paired.mapP t f)
theorem ObjOk.stay (x:ObjOk P w H h a o)(k:∀ b u,(b=a \/ H b=some (.own a))->h.get? b=some u->h'.get? b=some u)
  (ho:∀ b,H b=some (.own a)->H' b=some (.own a)) (ht:∀ b xs,H b=some (.tup xs)->H' b=some (.tup xs)):ObjOk P w H' h' a o:=by
 induction o with
 | lst xs=>obtain⟨z,its,n,r,e⟩:=x;exact⟨z,its,n,r,k _ _ (.inl rfl) e⟩
 | tup xs=>obtain⟨z,its,r,ob,e,c⟩:=x;exact⟨z,its,r,ob,k _ _ (.inl rfl) e,c⟩
 | dK kvs=>obtain⟨z,y,vs,r,ob,es,ep,e,c⟩:=x;exact⟨z,y,vs,r,ob,es,ep,k _ _ (.inl rfl) e,c⟩
 | dT kvs =>
  obtain⟨z,y,xs,r,ob,es,ep,e,c⟩:=x
  exact⟨z,y,xs,Paired.mapP r fun p q z=>⟨z.1,ht _ _ z.2.1,z.2.2⟩,ob,es,ep,k _ _ (.inl rfl) e,c⟩
 | set S n=>obtain⟨ob,es,ep,t,e,c⟩:=x;exact⟨ob,es,ep,t,k _ _ (.inl rfl) e,c⟩
 | ins C dx fs =>
  obtain⟨d,z,ne,e,mA,⟨od,es,ep,e2,c⟩,r⟩:=x
  exact⟨ho _ d,z,ne,k _ _ (.inl rfl) e,mA,⟨od,es,ep,k _ _ (.inr d) e2,c⟩,r⟩
 | own y=>obtain⟨ob,e⟩:=x;exact⟨ob,k _ _ (.inl rfl) e⟩
 | xd fs=>obtain⟨mA,⟨od,es,ep,e,c⟩,r⟩:=x;exact⟨mA,⟨od,es,ep,k _ _ (.inl rfl) e,c⟩,r⟩
 | rng lo hi=>obtain⟨t,u,v,e⟩:=x;exact⟨t,u,v,k _ _ (.inl rfl) e⟩
 | frz ob u ih=>obtain⟨e,q⟩:=x;exact⟨k _ _ (.inl rfl) e,ih q⟩
 | tbl ps =>
  have e:h.get? a=some { cls:=.none,data:=.fields ps }:=x
  show h'.get? a=some { cls:=.none,data:=.fields ps }
  exact k a _ (.inl rfl) e
 | met f y =>
  have e:h.get? a=some (W.methodObj (.ref f) (.ref y)):=x
  show h'.get? a=some (W.methodObj (.ref f) (.ref y))
  exact k a _ (.inl rfl) e
 | ext φ=>obtain⟨p,⟨o,e⟩,st⟩:=x;exact⟨st _ _ p fun o q=>k _ _ (.inl rfl) q,⟨o,k _ _ (.inl rfl) e⟩,st⟩
theorem HOk.lt (x:HOk P w H h)(e:H a=some o):a<h.objs.size:=(x a o e).lt
theorem HOk.fresh (x:HOk P w H h)(e:h.objs.size<=a):H a=none:=by
 cases q:H a with
 | none=>rfl
 | some u=>exact absurd (Nat.lt_of_lt_of_le (x.lt q) e) (Nat.lt_irrefl _)
theorem HOk.kept (x:HOk P w H h)(k:∀ b u,h.get? b=some u->h'.get? b=some u):HOk P w H h':=fun a o e =>
 (x a o e).stay (fun b u _ q=>k b u q) (fun _ q=>q) fun _ _ q=>q
theorem HOk.laid (x:HOk P w H h)(k:∀ b u,h.get? b=some u->h'.get? b=some u)(hp:h.objs.size<=a)(new:ObjOk P w (upd H a o) h' a o):HOk P w (upd H a o) h':=fun b u e=>by
 have hn:=x.fresh hp
 by_cases hb:b=a
 ·subst hb;rw[Z7] at e;cases e;exact new
 ·rw[Zb hb] at e
  exact (x b u e).stay (fun c v _ q=>k c v q) (fun c q=>by rw[Zb (Z8 q hn)];exact q) fun c xs q=>by rw[Zb (Z8 q hn)];exact q
end
def Rd (H:Hp)(a:Addr)(u:HO):Prop:=H a=some u \/ ∃ o,H a=some (.frz o u)
theorem Rd.ok {P:Program}{w:World}{H:Hp}{h:Heap}{a:Addr}{u:HO}(r:Rd H a u)(x:HOk P w H h):ObjOk P w H h a u:=by
 rcases r with r | ⟨o,r⟩
 ·exact x a u r
 ·obtain⟨_,q⟩:=x a _ r
  exact q
def Mut:Option HO->Prop
 | some (.lst _)=>True
 | some (.dK _)=>True
 | some (.dT _)=>True
 | some (.set _ _)=>True
 | some (.ins _ _ _)=>True
 | some (.ext _)=>True
 | _=>False
section
variable {P:Program}{w:World}{H:Hp}{h h':Heap}{x e:Addr}{o':HO}
theorem HOk.write (ok:HOk P w H h)(mu:Mut (H x))(he:e=x \/ H e=some (.own x))(k:∀ b u,b≠e->h.get? b=some u->h'.get? b=some u)(heo:∃ u,h'.get? e=some u)
  (new:ObjOk P w (upd H x o') h' x o'):HOk P w (upd H x o') h':=fun b u q=>by
 have nown:∀ c y,H c=some (.own y)->c≠x:=fun c y r z=>by subst z;rw[r] at mu;exact mu
 have ntup:∀ c xs,H c=some (.tup xs)->c≠x:=fun c xs r z=>by subst z;rw[r] at mu;exact mu
 by_cases hb:b=x
 ·subst hb;rw[Z7] at q;cases q;exact new
 ·rw[Zb hb] at q
  by_cases hbe:b=e
  ·have q':H b=some (.own x):=by
    rcases he with z | z
    ·exact absurd (hbe.trans z) hb
    ·rw[hbe];exact z
   rw[q] at q';cases q'
   obtain⟨v,hv⟩:=heo
   exact⟨v,by rw[hbe];exact hv⟩
  ·refine (ok b u q).stay (fun c v hc r=>k c v ?_ r) (fun c r=>by rw[Zb (nown c b r)];exact r) fun c xs r=>by rw[Zb (ntup c xs r)];exact r
   rcases hc with rfl | hc
   ·exact hbe
   ·rintro rfl
    rcases he with z | z
    ·exact nown c b hc z
    ·rw[hc] at z;cases z;exact hb rfl
end
structure Un (fs ex:List Addr)(H H':Hp)(h h':Heap):Prop where
 keep:∀ b o,h.get? b=some o->H b=none->b ∉ fs->b ∉ ex->h'.get? b=some o
 slot:∀ b o,h.get? b=some o->H b=none->b∈fs->b ∉ ex->∃ sl,h'.get? b=some { o with slots:=sl }
 free:∀ b o,h.get? b=some o->H b=none->b ∉ ex->H' b=none
 there:∀ b o,h.get? b=some o->b ∉ ex->∃ o',h'.get? b=some o'
 tups:∀ b xs,H b=some (.tup xs)->H' b=some (.tup xs)
 frzs:∀ b o u,H b=some (.frz o u)->H' b=some (.frz o u)
 tbls:∀ b ps,H b=some (.tbl ps)->∃ more,H' b=some (.tbl (ps++more))
section
variable {fs fs' ex ex':List Addr}{H H1 H2:Hp}{h h1 h2 h':Heap}{a x e:Addr}{o:HO}
theorem Un.any (u:Un fs ex H H1 h h1){b:Addr}{ob:Obj}(q:h.get? b=some ob)(n:H b=none)(hx:b ∉ ex):∃ sl,h1.get? b=some { ob with slots:=sl }:=by
 by_cases hb:b∈fs
 ·exact u.slot b ob q n hb hx
 ·exact⟨ob.slots,u.keep b ob q n hb hx⟩
theorem Un.kept (k:∀ b u,h.get? b=some u->h'.get? b=some u):Un fs ex H H h h' :=
 ⟨fun b ob q _ _ _=>k b ob q,fun b ob q _ _ _=>⟨ob.slots,k b ob q⟩,fun _ _ _ n _=>n,fun b ob q _=>⟨ob,k b ob q⟩,fun _ _ q=>q,fun _ _ _ q=>q,fun _ ps q=>⟨#[],by rw[q];simp⟩⟩
theorem Un.refl:Un fs ex H H h h:=Un.kept fun _ _ q=>q
theorem Un.laid (k:∀ b u,h.get? b=some u->h'.get? b=some u)(hp:h.objs.size<=a)(hn:H a=none):Un fs ex H (upd H a o) h h' where
 keep:=fun b u q _ _ _=>k b u q
 slot:=fun b u q _ _ _=>⟨u.slots,k b u q⟩
 free:=fun b u q n _=>by rw[Zb (Nat.ne_of_lt (Nat.lt_of_lt_of_le (Heap.lt_size q) hp))];exact n
 there:=fun b u q _=>⟨u,k b u q⟩
 tups:=fun b xs q=>by rw[Zb (Z8 q hn)];exact q
 frzs:=fun b u xs q=>by rw[Zb (Z8 q hn)];exact q
 tbls:=fun b ps q=>⟨#[],by rw[Zb (Z8 q hn),q];simp⟩
theorem Un.write (mu:Mut (H x))(he:e=x \/ H e=some (.own x))(k:∀ b u,b≠e->h.get? b=some u->h'.get? b=some u)(heo:∃ u,h'.get? e=some u):Un fs ex H (upd H x o) h h':=by
 have hx:∀ b,H b=none->b≠x:=fun b n z=>by subst z;rw[n] at mu;exact mu
 have hb:∀ b,H b=none->b≠e:=fun b n z=>by
  subst z
  rcases he with r | r
  ·exact hx b n r
  ·rw[n] at r;cases r
 have hm:∀ b u,H b=some u->¬ Mut (some u)->b≠x:=fun b u q nm z=>by subst z;rw[q] at mu;exact nm mu
 refine⟨fun b u q n _ _=>k b u (hb b n) q,fun b u q n _ _=>⟨u.slots,k b u (hb b n) q⟩,fun b u q n _=>by rw[Zb (hx b n)];exact n,fun b u q _=>?_,
  fun b xs q=>by rw[Zb (hm b _ q fun z=>z)];exact q,fun b u xs q=>by rw[Zb (hm b _ q fun z=>z)];exact q,fun b ps q=>⟨#[],by rw[Zb (hm b _ q fun z=>z),q];simp⟩⟩
 by_cases hbe:b=e
 ·subst hbe;exact heo
 ·exact⟨u,k b u hbe q⟩
end
def trk (h:Heap)(H:Hp):List Addr:=(List.range h.objs.size).filter fun a=>(H a).isSome
def hidT (h:Heap)(H:Hp):Heap:=W.hideAll h (trk h H)
theorem Fi (h:Heap)(H:Hp):(hidT h H).objs.size=h.objs.size:=W.hideAll_size _ _
theorem Bj {h:Heap}{H:Hp}{b:Addr}{o:Obj}(e:h.get? b=some o)(n:H b=none):(hidT h H).get? b=some o :=
 W.hideAll_get _ e fun hm=>by
  have q:(H b).isSome=true:=(List.mem_filter.mp hm).2
  rw[n] at q;simp at q
theorem Z17 {h:Heap}{H:Hp}{b:Addr}{o:Obj}(e:(hidT h H).get? b=some o):h.get? b=some o/\H b=none:=by
 have e':h.get? b=some o:=W.of_hideAll (trk h H) e
 refine⟨e',?_⟩
 cases q:H b with
 | none=>rfl
 | some x =>
  have hm:b∈trk h H:=List.mem_filter.mpr ⟨List.mem_range.mpr (Heap.lt_size e'),by simp[q]⟩
  have z:(hidT h H).get? b=none:=W.hideAll_none (trk h H) hm
  rw[z] at e;cases e
def allNews (g h:Heap)(L:Addr):List (Addr × Obj):=(List.range h.objs.size).filterMap fun a=>if a=L \/ (g.get? a).isSome=true then none else (h.get? a).map fun o=>(a,o)
def rest (g h:Heap)(L d:Addr):List (Addr × Obj):=(allNews g h L).filter fun p=>decide (p.1≠d)
end L2
namespace L2
open PySem PySem.Spec PyProof.Rows
structure Mod (K:W.Frag)(mg:Str->Option Value)(base:Heap):Prop where
 kin:K.In base
 glob:base.Ns mainGlobals mg
 blt:∃ mb,base.Ns builtinsNs mb/\∀ x:Str,x≠"__name__"->mb x=bootBuiltins x
 nolimit:base.NoLimit
structure Cx where
 prog:Program
 w:World
 K:W.Frag
 mg:Str->Option Value
 base:Heap
 A:Around
 N:List Str
 s₀:Shared
 H₀:Hp
 env:Env
 outer:List Env
 stack:List Env
 ex:List Addr
 fn:Str->Bool
 calm:Bool
 pn:List (Addr × Obj)
 xe:Value->Shared->Prop
def frs (l:List Env):List Addr:=l.filterMap (·.frame)
abbrev Cx.fs (X:Cx):List Addr:=frs X.outer
def Vis (sc:Scope)(x:Str):Prop:=sc.names.lookup x=some .local \/ sc.names.lookup x=some .cell \/ sc.names.lookup x=some .free
def Loc (sc:Scope)(x:Str):Prop:=sc.names.lookup x=some .local \/ sc.names.lookup x=some .cell
def Look (env:Env)(h:Heap)(m:Str->Option Value)(x:Str)(u:Value):Prop :=
 (env.kindOf x=some .local/\m x=some u) \/ ((env.kindOf x=some .cell \/ env.kindOf x=some .free)/\∃ c,env.cells.lookup x=some c/\h.IsCell c (some u))
structure Cx.Ok (X:Cx):Prop where
 mod:Mod X.K X.mg X.base
 kind:X.env.scope.kind=.function
 glob:X.env.globals=mainGlobals
 blt:X.env.builtins=builtinsNs
 above:X.s₀.heap.objs.size<=X.env.locals
 inj:∀ x y c,X.env.cells.lookup x=some c->X.env.cells.lookup y=some c->x=y
 has:∀ x,(X.env.kindOf x=some .cell \/ X.env.kindOf x=some .free)->∃ c,X.env.cells.lookup x=some c
 cab:∀ x c,X.fn x=true->X.env.cells.lookup x=some c->X.s₀.heap.objs.size<=c
 hd:X.calm=true->Sb.QtP X.A X.pn
 frames:X.A.frames=some X.stack
 stk:X.stack=X.outer \/ (X.stack=X.env::X.outer/\X.env.frame=some X.env.locals)
 exf:∀ b∈X.ex,b≠X.env.locals/\∀ x c,X.env.cells.lookup x=some c->c≠b
 bs:∀ b o,X.base.get? b=some o->X.s₀.heap.get? b=some o/\X.H₀ b=none
 bsz:X.base.objs.size<=X.s₀.heap.objs.size
 noex:∀ b o,X.base.get? b=some o->b ∉ X.ex
 exfs:∀ b∈X.ex,b ∉ X.fs
 funs:X.s₀.heap.FunFrames X.base X.outer
 frf:∀ b∈X.fs,X.H₀ b=none
structure Inv (X:Cx)(pins:List (Addr × Obj))(σ:List (Option V))(H:Hp)(s:Shared):Prop where
 ok:X.Ok
 os:s.os=X.s₀.os
 bare:AllBare s.gens
 base:Un X.fs X.ex X.H₀ H X.s₀.heap s.heap
 loc:∃ m,s.heap.Ns X.env.locals m/\∀ (i:Nat) (x:Str) (v:V),X.N[i]?=some x->σ[i]?=some (some v)->Vis X.env.scope x->∃ u,RelV v u/\Look X.env s.heap m x u
 cell:∀ x c,X.env.cells.lookup x=some c->∃ v,s.heap.IsCell c v
 free:H X.env.locals=none
 freeC:∀ x c,X.env.cells.lookup x=some c->H c=none
 pin:∀ p∈X.pn++pins,s.heap.get? p.1=some p.2/\H p.1=none/\p.1≠X.env.locals/\p.1 ∉ X.fs/\∀ v,p.2.data≠.cell v
 hok:HOk X.prog X.w H s.heap
 len:σ.length=X.N.length
theorem Inv.qt {X:Cx}{pins:List (Addr × Obj)}{σ:List (Option V)}{H:Hp}{s:Shared}(I:Inv X pins σ H s)(hc:X.calm=true):Sb.Qt X.A s.heap:=(I.ok.hd hc).at fun p hp=>(I.pin p (List.mem_append_left _ hp)).1
section
variable {X:Cx}{pins:List (Addr × Obj)}{σ:List (Option V)}{H H':Hp}{s:Shared}{h':Heap}
theorem Cx.Ok.nofr (ok:X.Ok){b:Addr}{o:Obj}(e:X.base.get? b=some o):b ∉ X.fs:=fun hb=>by
 have:=(ok.funs.mem hb).1
 rw[e] at this;cases this
theorem Inv.bs (I:Inv X pins σ H s):∀ b o,X.base.get? b=some o->s.heap.get? b=some o/\H b=none:=fun b o e =>
 ⟨I.base.keep b o (I.ok.bs b o e).1 (I.ok.bs b o e).2 (I.ok.nofr e) (I.ok.noex b o e),I.base.free b o (I.ok.bs b o e).1 (I.ok.bs b o e).2 (I.ok.noex b o e)⟩
theorem Inv.bk (I:Inv X pins σ H s):∀ b o,X.base.get? b=some o->s.heap.get? b=some o:=fun b o e=>(I.bs b o e).1
theorem Inv.mod (I:Inv X pins σ H s):Mod X.K X.mg X.base:=I.ok.mod
theorem Inv.kIn (I:Inv X pins σ H s):X.K.In s.heap:=I.ok.mod.kin.keeps I.bk
theorem Inv.lt (I:Inv X pins σ H s):X.env.locals<s.heap.objs.size:=let ⟨_,hn,_⟩:=I.loc;hn.lt
theorem Inv.sz (I:Inv X pins σ H s):X.s₀.heap.objs.size<=s.heap.objs.size:=Nat.le_trans I.ok.above (Nat.le_of_lt I.lt)
theorem Inv.nofs (I:Inv X pins σ H s){a:Addr}(h:s.heap.objs.size<=a):a ∉ X.fs:=fun hb=>by
 obtain⟨_,o,ho,_⟩:=I.ok.funs.mem hb
 exact absurd (Nat.lt_of_lt_of_le (Heap.lt_size ho) (Nat.le_trans I.sz h)) (Nat.lt_irrefl _)
theorem Inv.cne (I:Inv X pins σ H s):∀ x c,X.env.cells.lookup x=some c->c≠X.env.locals:=fun x c e z=>by
 obtain⟨v,o,ho,hd⟩:=I.cell x c e
 obtain⟨m,⟨o',es,ep,ho',hd',_⟩,_⟩:=I.loc
 rw[z,ho'] at ho;cases ho;rw[hd'] at hd;cases hd
theorem Inv.funs (I:Inv X pins σ H s):s.heap.FunFrames X.base X.outer:=by
 have all:∀ (l:List Env),(∀ b∈frs l,b∈X.fs)->X.s₀.heap.FunFrames X.base l->s.heap.FunFrames X.base l:=by
  intro l
  induction l with
  | nil=>intro _ _;trivial
  | cons env r ih =>
   intro hs hl
   obtain⟨hk,⟨L,o,hf,hn,ho,hd⟩,hr⟩:=hl
   have hL:L∈X.fs:=hs L (by unfold frs;rw[List.filterMap_cons,hf];exact List.mem_cons_self)
   obtain⟨sl,e⟩:=I.base.slot L o ho (I.ok.frf L hL) hL fun z=>I.ok.exfs L z hL
   exact⟨hk,⟨L,_,hf,hn,e,hd⟩,ih (fun b hb=>hs b (by unfold frs;rw[List.filterMap_cons,hf];exact List.mem_cons_of_mem _ hb)) hr⟩
 exact all X.outer (fun _ hb=>hb) I.ok.funs
theorem Inv.stack (I:Inv X pins σ H s):s.heap.FunFrames X.base X.stack:=by
 rcases I.ok.stk with e | ⟨e,hf⟩
 ·rw[e];exact I.funs
 ·rw[e]
  obtain⟨m,hn,_⟩:=I.loc
  refine .cons (by rw[I.ok.kind];decide) hf hn ?_ I.funs
  exact Heap.get?_none_of_le (Nat.le_trans I.ok.bsz I.ok.above)
theorem Inv.stkSub (I:Inv X pins σ H s):∀ b∈frs X.stack,b∈X.env.locals::X.fs:=fun b hb=>by
 rcases I.ok.stk with e | ⟨e,hf⟩
 ·rw[e] at hb;exact List.mem_cons_of_mem _ hb
 ·rw[e] at hb
  unfold frs at hb
  rw[List.filterMap_cons,hf] at hb
  exact hb
theorem Inv.stkFree (I:Inv X pins σ H s):∀ b∈frs X.stack,H b=none:=fun b hb=>by
 rcases List.mem_cons.mp (I.stkSub b hb) with e | hb
 ·rw[e];exact I.free
 ·obtain⟨_,o,ho,_⟩:=I.ok.funs.mem hb
  exact I.base.free b o ho (I.ok.frf b hb) fun z=>I.ok.exfs b z hb
theorem Inv.step {g':Array GenState}{t':Nat}{d':Drawn}{ch:List Addr}(I:Inv X pins σ H s)
  (hch:∀ b∈ch,(b∈X.ex \/ X.s₀.heap.objs.size<=b)/\b≠X.env.locals/\(∀ x c,X.env.cells.lookup x=some c->c≠b)/\∀ p∈X.pn++pins,p.1≠b)
  (keep:∀ b o,b≠X.env.locals->b ∉ X.fs->b ∉ ch->s.heap.get? b=some o->H b=none->h'.get? b=some o)
  (slot:∀ b o,b≠X.env.locals->b∈X.fs->b ∉ ch->s.heap.get? b=some o->H b=none->∃ sl,h'.get? b=some { o with slots:=sl }) (free:∀ b o,b ∉ ch->s.heap.get? b=some o->H b=none->H' b=none)
  (there:∀ b o,b ∉ ch->s.heap.get? b=some o->∃ o',h'.get? b=some o')
  (tups:∀ b xs,H b=some (.tup xs)->H' b=some (.tup xs)) (frzs:∀ b o u,H b=some (.frz o u)->H' b=some (.frz o u)) (tbls:∀ b ps,H b=some (.tbl ps)->∃ more,H' b=some (.tbl (ps++more)))
  (ns:∀ m,s.heap.Ns X.env.locals m->h'.Ns X.env.locals m) (hok:HOk X.prog X.w H' h') (hg:AllBare g') :
  Inv X pins σ H' { s with heap:=h',gens:=g',drawn:=d',toks:=t' }:=by
 have neL:∀ b o,X.s₀.heap.get? b=some o->b≠X.env.locals:=fun b o e=>Nat.ne_of_lt (Nat.lt_of_lt_of_le (Heap.lt_size e) I.ok.above)
 have neC:∀ b o,X.s₀.heap.get? b=some o->b ∉ X.ex->b ∉ ch:=fun b o e hx hb=>by
  rcases (hch b hb).1 with z | z
  ·exact hx z
  ·exact absurd (Nat.lt_of_lt_of_le (Heap.lt_size e) z) (Nat.lt_irrefl _)
 have cellK:∀ x c,X.env.cells.lookup x=some c->∀ v,s.heap.IsCell c v->h'.IsCell c v:=fun x c e v ⟨o,ho,hd⟩=>by
  have nch:c ∉ ch:=fun z=>(hch c z).2.2.1 x c e rfl
  by_cases hc:c∈X.fs
  ·obtain⟨sl,q⟩:=slot c o (I.cne x c e) hc nch ho (I.freeC x c e)
   exact⟨_,q,hd⟩
  ·exact⟨o,keep c o (I.cne x c e) hc nch ho (I.freeC x c e),hd⟩
 refine⟨I.ok,I.os,hg,⟨fun b o e n hb hx=>?_,fun b o e n hb hx=>?_,fun b o e n hx=>?_,fun b o e hx=>?_,fun b xs e=>tups b xs (I.base.tups b xs e),fun b o xs e=>frzs b o xs (I.base.frzs b o xs e),fun b ps e=>?_⟩,?_,fun x c e=>?_,?_,fun x c e=>?_,fun p hp=>?_,hok,I.len⟩
 ·exact keep b o (neL b o e) hb (neC b o e hx) (I.base.keep b o e n hb hx) (I.base.free b o e n hx)
 ·obtain⟨sl,e1⟩:=I.base.slot b o e n hb hx
  obtain⟨sl',e2⟩:=slot b _ (neL b o e) hb (neC b o e hx) e1 (I.base.free b o e n hx)
  exact⟨sl',e2⟩
 ·obtain⟨o',e1⟩:=I.base.there b o e hx
  exact free b o' (neC b o e hx) e1 (I.base.free b o e n hx)
 ·obtain⟨o',e1⟩:=I.base.there b o e hx
  exact there b o' (neC b o e hx) e1
 ·obtain⟨m1,e1⟩:=I.base.tbls b ps e
  obtain⟨m2,e2⟩:=tbls b _ e1
  exact⟨m1++m2,by rw[e2,Array.append_assoc]⟩
 ·obtain⟨m,hn,hl⟩:=I.loc
  refine⟨m,ns m hn,fun i x v e1 e2 e3=>?_⟩
  obtain⟨u,r,l⟩:=hl i x v e1 e2 e3
  refine⟨u,r,?_⟩
  rcases l with l | ⟨k,c,e,z⟩
  ·exact .inl l
  ·exact .inr ⟨k,c,e,cellK x c e _ z⟩
 ·obtain⟨v,z⟩:=I.cell x c e
  exact⟨v,cellK x c e v z⟩
 ·obtain⟨m,⟨o,_,_,ho,_⟩,_⟩:=I.loc
  exact free _ o (fun z=>(hch _ z).2.1 rfl) ho I.free
 ·obtain⟨v,o,ho,hd⟩:=I.cell x c e
  exact free c o (fun z=>(hch c z).2.2.1 x c e rfl) ho (I.freeC x c e)
 ·obtain⟨e,n,ne,nf,d⟩:=I.pin p hp
  have nch:p.1 ∉ ch:=fun z=>(hch p.1 z).2.2.2 p hp rfl
  exact⟨keep p.1 p.2 ne nf nch e n,free p.1 p.2 nch e n,ne,nf,d⟩
theorem Inv.un {t':Nat}(I:Inv X pins σ H s)(u:Un X.fs [] H H' s.heap h')(hok:HOk X.prog X.w H' h'):Inv X pins σ H' { s with heap:=h',toks:=t' }:=by
 obtain⟨m,⟨o,es,ep,ho,r⟩,_⟩:=id I.loc
 obtain⟨sl,hL⟩:=u.any ho I.free (by simp)
 exact I.step (g':=s.gens) (d':=s.drawn) (ch:=[]) (fun _ z=>nomatch z) (fun b o _ hb _ e n=>u.keep b o e n hb (by simp)) (fun b o _ hb _ e n=>u.slot b o e n hb (by simp)) (fun b o _ e n=>u.free b o e n (by simp)) (fun b o _ e=>u.there b o e (by simp)) u.tups u.frzs u.tbls (fun m' hm=>by
  obtain⟨o',es',ep',ho',r'⟩:=hm
  rw[ho] at ho';cases ho'
  exact⟨_,es',ep',hL,r'⟩) hok I.bare
theorem Inv.call {g':Array GenState}{t':Nat}{d':Drawn}{ch:List Addr}(I:Inv X pins σ H s)(u:Un (frs X.stack) ch H H' s.heap h')(hok:HOk X.prog X.w H' h')(hg:AllBare g')
  (hch:∀ b∈ch,(b∈X.ex \/ X.s₀.heap.objs.size<=b)/\b≠X.env.locals/\(∀ x c,X.env.cells.lookup x=some c->c≠b)/\∀ p∈X.pn++pins,p.1≠b) :
  Inv X pins σ H' { s with heap:=h',gens:=g',drawn:=d',toks:=t' }:=by
 obtain⟨m,⟨o,es,ep,ho,r⟩,_⟩:=id I.loc
 obtain⟨sl,hL⟩:=u.any ho I.free fun z=>(hch _ z).2.1 rfl
 exact I.step (ch:=ch) hch (fun b o hL hb hc e n=>u.keep b o e n (fun z=>(List.mem_cons.mp (I.stkSub b z)).elim hL hb) hc) (fun b o _ _ hc e n=>u.any e n hc) (fun b o hc e n=>u.free b o e n hc) (fun b o hc e=>u.there b o e hc) u.tups u.frzs u.tbls (fun m' hm=>by
  obtain⟨o',es',ep',ho',r'⟩:=hm
  rw[ho] at ho';cases ho'
  exact⟨_,es',ep',hL,r'⟩) hok hg
theorem Inv.turned {t':Nat}{it:Addr}(I:Inv X pins σ H s)(k:∀ b o,b≠it->s.heap.get? b=some o->h'.get? b=some o)(hn:H it=none)(hL:it≠X.env.locals)
  (h1:it∈X.ex \/ X.s₀.heap.objs.size<=it) (h2:∀ x c,X.env.cells.lookup x=some c->c≠it) (h3:∀ p∈X.pn++pins,p.1≠it):Inv X pins σ H { s with heap:=h',toks:=t' }:=by
 have nit:∀ b u,H b=some u->b≠it:=fun b u e z=>by rw[z,hn] at e;cases e
 refine I.step (g':=s.gens) (d':=s.drawn) (ch:=[it]) (fun b hb=>?_) (fun b o _ _ hc e _=>k b o (fun z=>hc (by simp[z])) e) (fun b o _ _ hc e _=>⟨o.slots,k b o (fun z=>hc (by simp[z])) e⟩) (fun _ _ _ _ n=>n)
  (fun b o hc e=>⟨o,k b o (fun z=>hc (by simp[z])) e⟩) (fun _ _ e=>e) (fun _ _ _ e=>e) (fun b ps e=>⟨#[],by rw[e];simp⟩) (fun m hm=>?_) (fun b u e=>?_) I.bare
 ·have e:b=it:=by simpa using hb
  subst e
  exact⟨h1,hL,h2,h3⟩
 ·obtain⟨o,es,ep,ho,r⟩:=hm
  exact⟨o,es,ep,k _ o (Ne.symm hL) ho,r⟩
 ·refine (I.hok b u e).stay (fun c v hc q=>k c v ?_ q) (fun _ q=>q) fun _ _ q=>q
  rcases hc with z | z
  ·rw[z];exact nit b u e
  ·exact nit c _ z
theorem Inv.tok (I:Inv X pins σ H s)(t:Nat):Inv X pins σ H { s with toks:=t }:=I.un (h':=s.heap) (t':=t) Un.refl I.hok
theorem Inv.kept {t':Nat}(I:Inv X pins σ H s)(k:∀ b u,s.heap.get? b=some u->h'.get? b=some u):Inv X pins σ H { s with heap:=h',toks:=t' }:=I.un (Un.kept k) (I.hok.kept k)
theorem Inv.laid {a:Addr}{o:HO}{t':Nat}(I:Inv X pins σ H s)(k:∀ b u,s.heap.get? b=some u->h'.get? b=some u)(hp:s.heap.objs.size<=a)(new:ObjOk X.prog X.w (upd H a o) h' a o) :
  Inv X pins σ (upd H a o) { s with heap:=h',toks:=t' }:=I.un (Un.laid k hp (I.hok.fresh hp)) (I.hok.laid k hp new)
theorem Inv.write {x e:Addr}{o:HO}{t':Nat}(I:Inv X pins σ H s)(mu:Mut (H x))(he:e=x \/ H e=some (.own x))(k:∀ b u,b≠e->s.heap.get? b=some u->h'.get? b=some u)(heo:∃ u,h'.get? e=some u)
  (new:ObjOk X.prog X.w (upd H x o) h' x o):Inv X pins σ (upd H x o) { s with heap:=h',toks:=t' }:=I.un (Un.write mu he k heo) (I.hok.write mu he k heo new)
theorem Inv.weak {σ':List (Option V)}(I:Inv X pins σ H s)(hl:σ'.length=σ.length)(w:∀ (i:Nat) v,σ'[i]?=some (some v)->σ[i]?=some (some v)):Inv X pins σ' H s :=
 ⟨I.ok,I.os,I.bare,I.base,let ⟨m,hn,hl'⟩:=I.loc;⟨m,hn,fun i x v e1 e2 e3=>hl' i x v e1 (w i v e2) e3⟩,I.cell,I.free,I.freeC,I.pin,I.hok,hl.trans I.len⟩
theorem Inv.pins_of {pins':List (Addr × Obj)}(I:Inv X pins σ H s)(h:∀ p∈pins',s.heap.get? p.1=some p.2/\H p.1=none/\p.1≠X.env.locals/\p.1 ∉ X.fs/\∀ v,p.2.data≠.cell v):Inv X pins' σ H s :=
 ⟨I.ok,I.os,I.bare,I.base,I.loc,I.cell,I.free,I.freeC,fun p hp=>(List.mem_append.mp hp).elim (fun z=>I.pin p (List.mem_append_left _ z)) (h p),I.hok,I.len⟩
theorem Rq {N:List Str}(hN:N.Nodup){i j:Nat}{x:Str}(a:N[i]?=some x)(b:N[j]?=some x):i=j:=by
 obtain⟨h1,e1⟩:=List.getElem?_eq_some_iff.mp a
 obtain⟨h2,e2⟩:=List.getElem?_eq_some_iff.mp b
 exact (List.getElem_inj hN).mp (e1.trans e2.symm)
theorem Qh {M:Model}{A:Around}{E:Value->Shared->Prop}{i:Nat}{x:Str}{v:V}{u:Value}{Q:Unit->Shared->Prop}(I:Inv X pins σ H s)(hN:X.N.Nodup)(hi:X.N[i]?=some x)(hx:Loc X.env.scope x)(r:RelV v u)
  (h:∀ s',Inv X pins (σ.set i (some v)) H s'->(∃ a,Heap.SameBut a s.heap s'.heap/\(a=X.env.locals \/ X.env.cells.lookup x=some a))->Q () s') (hf:X.fn x=true \/ X.env.scope.names.lookup x=some .local:=by first | exact .inl rfl | exact .inr rfl | assumption):wpAny M A (storeName X.env x u) Q E s:=by
 obtain⟨m,hn,hl⟩:=id I.loc
 have hcls:(X.env.scope.kind == .class || (X.env.scope.kind == .module && X.env.locals != X.env.globals))=false:=by rw[I.ok.kind];rfl
 have hiσ:i<σ.length:=by rw[I.len];exact (List.getElem?_eq_some_iff.mp hi).1
 have cne:=I.cne
 have tracked:∀ {a:Addr} {h':Heap},(∃ o,s.heap.get? a=some o/\H a=none)->Heap.SameBut a s.heap h'->HOk X.prog X.w H h':=fun {a h'} ha hs b ob e=>by
  obtain⟨_,_,hfree⟩:=ha
  refine (I.hok b ob e).stay (fun c w' hc q=>(hs.2 c ?_).trans q) (fun _ q=>q) fun _ _ q=>q
  rintro rfl
  rcases hc with rfl | hc
  ·rw[hfree] at e;cases e
  ·rw[hfree] at hc;cases hc
 rcases hx with hk | hk
 ·refine wpAny_storeName_local hk hn (fun h' hn' hs=>?_) hcls
  obtain⟨oL,_,_,hoL,_⟩:=id hn
  refine h _ ⟨I.ok,I.os,I.bare,⟨fun b o e n hb hx=>?_,fun b o e n hb hx=>?_,I.base.free,fun b o e hx=>?_,I.base.tups,I.base.frzs,I.base.tbls⟩,⟨_,hn',fun j y v' e1 e2 e3=>?_⟩,fun y c e=>?_,I.free,I.freeC,fun p hp=>?_,tracked ⟨oL,hoL,I.free⟩ hs,by simpa using I.len⟩ ⟨_,hs,.inl rfl⟩
  ·exact (hs.2 b (Nat.ne_of_lt (Nat.lt_of_lt_of_le (Heap.lt_size e) I.ok.above))).trans (I.base.keep b o e n hb hx)
  ·obtain⟨sl,e1⟩:=I.base.slot b o e n hb hx
   exact⟨sl,(hs.2 b (Nat.ne_of_lt (Nat.lt_of_lt_of_le (Heap.lt_size e) I.ok.above))).trans e1⟩
  ·obtain⟨o',e1⟩:=I.base.there b o e hx
   exact⟨o',(hs.2 b (Nat.ne_of_lt (Nat.lt_of_lt_of_le (Heap.lt_size e) I.ok.above))).trans e1⟩
  ·by_cases hj:j=i
   ·subst hj
    rw[hi] at e1;cases e1
    rw[List.getElem?_set_self hiσ] at e2
    cases e2
    exact⟨u,r,.inl ⟨hk,by simp⟩⟩
   ·rw[List.getElem?_set_ne (Ne.symm hj)] at e2
    obtain⟨u',r',q⟩:=hl j y v' e1 e2 e3
    refine⟨u',r',?_⟩
    rcases q with ⟨k,e⟩ | ⟨k,c,e,z⟩
    ·refine .inl ⟨k,?_⟩
     have:y≠x:=fun e=>hj (Rq hN e1 (e ▸ hi))
     simp[this,e]
    ·exact .inr ⟨k,c,e,z.sameBut hs (cne y c e)⟩
  ·obtain⟨w',z⟩:=I.cell y c e
   exact⟨w',z.sameBut hs (cne y c e)⟩
  ·obtain⟨e,n,ne,nf,d⟩:=I.pin p hp
   exact⟨(hs.2 p.1 ne).trans e,n,ne,nf,d⟩
 ·have hfn:X.fn x=true:=by
   rcases hf with z | z
   ·exact z
   ·rw[z] at hk;cases hk
  obtain⟨c,hc⟩:=I.ok.has x (.inl hk)
  obtain⟨w',z⟩:=I.cell x c hc
  refine wpAny_storeName_cell I.ok.kind hk hc z (fun h' hc' hs=>?_)
  obtain⟨oc,hoc,hocd⟩:=id z
  refine h { s with heap:=h' } ⟨I.ok,I.os,I.bare,⟨fun b o e n hb hx=>?_,fun b o e n hb hx=>?_,I.base.free,fun b o e hx=>?_,I.base.tups,I.base.frzs,I.base.tbls⟩,⟨m,hn.sameBut hs (Ne.symm (cne x c hc)),fun j y v' e1 e2 e3=>?_⟩,fun y c' e=>?_,I.free,I.freeC,fun p hp=>?_,tracked ⟨oc,hoc,I.freeC x c hc⟩ hs,by simpa using I.len⟩ ⟨c,hs,.inr hc⟩
  ·exact (hs.2 b (Nat.ne_of_lt (Nat.lt_of_lt_of_le (Heap.lt_size e) (I.ok.cab x c hfn hc)))).trans (I.base.keep b o e n hb hx)
  ·obtain⟨sl,e1⟩:=I.base.slot b o e n hb hx
   exact⟨sl,(hs.2 b (Nat.ne_of_lt (Nat.lt_of_lt_of_le (Heap.lt_size e) (I.ok.cab x c hfn hc)))).trans e1⟩
  ·obtain⟨o',e1⟩:=I.base.there b o e hx
   exact⟨o',(hs.2 b (Nat.ne_of_lt (Nat.lt_of_lt_of_le (Heap.lt_size e) (I.ok.cab x c hfn hc)))).trans e1⟩
  ·by_cases hj:j=i
   ·subst hj
    rw[hi] at e1;cases e1
    rw[List.getElem?_set_self hiσ] at e2
    cases e2
    exact⟨u,r,.inr ⟨.inl hk,c,hc,hc'⟩⟩
   ·rw[List.getElem?_set_ne (Ne.symm hj)] at e2
    obtain⟨u',r',q⟩:=hl j y v' e1 e2 e3
    refine⟨u',r',?_⟩
    rcases q with q | ⟨k,c',e,z'⟩
    ·exact .inl q
    ·refine .inr ⟨k,c',e,z'.sameBut hs ?_⟩
     rintro rfl
     exact hj (Rq hN e1 (I.ok.inj _ _ _ e hc ▸ hi))
  ·by_cases hcc:c'=c
   ·subst hcc;exact⟨_,hc'⟩
   ·obtain⟨w2,z2⟩:=I.cell y c' e
    exact⟨w2,z2.sameBut hs hcc⟩
  ·obtain⟨e,n,ne,nf,d⟩:=I.pin p hp
   refine⟨(hs.2 p.1 ?_).trans e,n,ne,nf,d⟩
   intro q
   rw[q,hoc] at e
   have q':oc=p.2:=Option.some.inj e
   exact d w' (by rw[← q'];exact hocd)
theorem Sz {M:Model}{A:Around}{E:Value->Shared->Prop}{i:Nat}{x:Str}{v:V}{u:Value}{Q:Unit->Shared->Prop}(I:Inv X pins σ H s)(hN:X.N.Nodup)(hi:X.N[i]?=some x)(hx:Loc X.env.scope x)(r:RelV v u)
  (h:∀ s',Inv X pins (σ.set i (some v)) H s'->Q () s') (hf:X.fn x=true \/ X.env.scope.names.lookup x=some .local:=by first | exact .inl rfl | exact .inr rfl | assumption):wpAny M A (storeName X.env x u) Q E s :=
 Qh I hN hi hx r (fun s' I' _=>h s' I') hf
theorem Inv.call' {s':Shared}{ch:List Addr}(I:Inv X pins σ H s)(ho:s'.os=s.os)(u:Un (frs X.stack) ch H H' s.heap s'.heap)(hok:HOk X.prog X.w H' s'.heap)(hg:AllBare s'.gens)
  (hch:∀ b∈ch,(b∈X.ex \/ X.s₀.heap.objs.size<=b)/\b≠X.env.locals/\(∀ x c,X.env.cells.lookup x=some c->c≠b)/\∀ p∈X.pn++pins,p.1≠b):Inv X pins σ H' s':=by
 obtain⟨h',g',d',t',o'⟩:=s'
 have e:o'=s.os:=ho
 subst e
 exact I.call (g':=g') (t':=t') (d':=d') u hok hg hch
end
abbrev XK:=Value->Option Addr->Hp->Prop
abbrev St:=List (Option V)
abbrev VK:=V->Hp->Prop
abbrev TE:=St->Hp->VK->Prop
abbrev TT:=St->Hp->(Bool->Hp->Prop)->Prop
abbrev TA:=St->Hp->(List V->Hp->Prop)->Prop
structure Ends where
 nx:St->Hp->Prop
 rt:VK
 bk:St->Hp->Prop:=fun _ _=>False
 ct:St->Hp->Prop:=fun _ _=>False
abbrev TS:=Ends->St->Hp->Prop
def EP (X:Cx)(pins:List (Addr × Obj))(σ:St)(Q:VK)(u:Value)(s':Shared):Prop:=∃ v H',Inv X pins σ H' s'/\RelV v u/\Q v H'
def TP (X:Cx)(pins:List (Addr × Obj))(σ:St)(Q:Bool->Hp->Prop)(b:Bool)(s':Shared):Prop:=∃ H',Inv X pins σ H' s'/\Q b H'
def AP (X:Cx)(pins:List (Addr × Obj))(σ:St)(Q:List V->Hp->Prop)(us:List Value)(s':Shared):Prop:=∃ vs H',Inv X pins σ H' s'/\Vals vs us/\Q vs H'
def SP (X:Cx)(pins:List (Addr × Obj))(D:Ends)(f:Flow)(s':Shared):Prop :=
 match f with
 | .next=>∃ σ' H',Inv X pins σ' H' s'/\D.nx σ' H'
 | .brk=>∃ σ' H',Inv X pins σ' H' s'/\D.bk σ' H'
 | .cont=>∃ σ' H',Inv X pins σ' H' s'/\D.ct σ' H'
 | .ret u=>∃ v σ' H',Inv X pins σ' H' s'/\RelV v u/\D.rt v H'
def PE (X:Cx)(e:Expr)(t:TE):Prop :=
 ∀ (pins:List (Addr × Obj)) (s:Shared) (σ:St) (H:Hp) (Q:VK),Inv X pins σ H s->t σ H Q->wpAny (model X.prog X.w) X.A (eval e X.env) (EP X pins σ Q) X.xe s
def PT (X:Cx)(e:Expr)(t:TT):Prop :=
 ∀ (pins:List (Addr × Obj)) (s:Shared) (σ:St) (H:Hp) (Q:Bool->Hp->Prop),Inv X pins σ H s->t σ H Q->wpAny (model X.prog X.w) X.A (isTrue e X.env (eval e X.env)) (TP X pins σ Q) X.xe s
def PW (X:Cx)(e:Expr)(t:TT):Prop :=
 ∀ (whole:Sem Value) (pins:List (Addr × Obj)) (s:Shared) (σ:St) (H:Hp) (Q:Bool->Hp->Prop),Inv X pins σ H s->t σ H Q->wpAny (model X.prog X.w) X.A (isTrue e X.env whole) (TP X pins σ Q) X.xe s
theorem PW.pt {X:Cx}{e:Expr}{t:TT}(h:PW X e t):PT X e t:=h _
def PA (X:Cx)(es:List Expr)(t:TA):Prop :=
 ∀ (pos:Pos) (pins:List (Addr × Obj)) (s:Shared) (σ:St) (H:Hp) (Q:List V->Hp->Prop),Inv X pins σ H s->t σ H Q->wpAny (model X.prog X.w) X.A (spliced (backTo pos (starEach es X.env))) (AP X pins σ Q) X.xe s
def PS (X:Cx)(st:Stmt)(t:TS):Prop :=
 ∀ (pins:List (Addr × Obj)) (s:Shared) (σ:St) (H:Hp) (D:Ends),Inv X pins σ H s->t D σ H->wpAny (model X.prog X.w) X.A (exec st X.env) (SP X pins D) X.xe s
def PSs (X:Cx)(st:List Stmt)(t:TS):Prop :=
 ∀ (pins:List (Addr × Obj)) (s:Shared) (σ:St) (H:Hp) (D:Ends),Inv X pins σ H s->t D σ H->wpAny (model X.prog X.w) X.A (execs st X.env) (SP X pins D) X.xe s
theorem thn {α:Type}{t:Sem α}{Q Q':α->Shared->Prop}{M:Model}{A:Around}{E:Value->Shared->Prop}{s:Shared}(h:wpAny M A t Q E s)(hQ:∀ a s,Q a s->Q' a s):wpAny M A t Q' E s:=wpAny_mono h hQ fun _ _ x=>x
end L2
namespace L2
open PySem PySem.Spec PyProof.Rows
section
variable {X:Cx}
def tVar (i:Nat):TE:=fun σ H Q=>∃ v,σ[i]?=some (some v)/\Q v H
def tC (v:V):TE:=fun _ H Q=>Q v H
theorem Z2e {i:Nat}{x:Str}{pos:Pos}(hN:X.N[i]?=some x)(hv:Vis X.env.scope x)(hd:(x == ("__debug__":Str))=false:=by decide)(hcd:(x == ("__classdict__":Str))=false:=by decide):PE X (.Name x pos) (tVar i):=by
 intro pins s σ H Q I h
 obtain⟨v,e,h⟩:=h
 obtain⟨m,hn,hl⟩:=I.loc
 obtain⟨u,r,l⟩:=hl i x v hN e hv
 have fin:EP X pins σ Q u s:=⟨v,H,I,r,h⟩
 rcases l with ⟨hk,hm⟩ | ⟨hk,c,hc,hcell⟩
 ·exact wpAny_Name (wpAny_loadName_local I.ok.kind hk hn hm fin) hd
 ·rcases hk with hk | hk
  ·exact wpAny_Name (wpAny_loadName_cell I.ok.kind hk hc hcell fin) hd
  ·exact wpAny_Name (wpAny_loadName_free I.ok.kind hk hc hcell fin hcd) hd
theorem Z5 {i j pos}:PE X (.Constant (.int i) j pos) (tC (.int i)):=fun _ _ _ H _ I h=>wpAny_Constant_int ⟨.int i,H,I.tok _,⟨_,rfl⟩,h⟩
theorem Wy {b j pos}:PE X (.Constant (.bool b) j pos) (tC (.bl b)):=fun _ _ _ H _ I h=>Constant_bool ⟨.bl b,H,I,rfl,h⟩
theorem Yw {j pos}:PE X (.Constant .none j pos) (tC .non):=fun _ _ _ H _ I h=>Constant_none ⟨.non,H,I,rfl,h⟩
theorem Xl {x j pos}:PE X (.Constant (.str x) j pos) (tC (.str x)):=fun _ _ _ H _ I h=>Calls.Constant_str ⟨.str x,H,I.tok _,⟨_,rfl⟩,h⟩
def Gl (X:Cx)(x:Str):Prop:=X.env.kindOf x=some .globalImplicit
theorem Wp {E:Value->Shared->Prop}{pins:List (Addr × Obj)}{s:Shared}{σ:St}{H:Hp}{x:Str}{u:Value}{pos:Pos}{Q:Value->Shared->Prop}(I:Inv X pins σ H s)(hg:Gl X x)(hm:X.mg x=some u)(h:Q u s)
  (hd:(x == ("__debug__":Str))=false:=by decide):wpAny (model X.prog X.w) X.A (eval (.Name x pos) X.env) Q E s :=
 Calls.Name_function_global I.ok.kind hg (Calls.loadGlobal_global (by rw[I.ok.glob];exact I.mod.glob.keeps I.bk) hm h) hd
theorem Wk {E:Value->Shared->Prop}{pins:List (Addr × Obj)}{s:Shared}{σ:St}{H:Hp}{x:Str}{u:Value}{pos:Pos}{Q:Value->Shared->Prop}(I:Inv X pins σ H s)(hg:Gl X x)(hm:X.mg x=none)(hv:bootBuiltins x=some u)(h:Q u s)
  (hn:x≠"__name__":=by decide) (hd:(x == ("__debug__":Str))=false:=by decide):wpAny (model X.prog X.w) X.A (eval (.Name x pos) X.env) Q E s:=by
 obtain⟨mb,h1,h2⟩:=I.mod.blt
 exact Calls.Name_function_global I.ok.kind hg (Calls.loadGlobal_builtin (by rw[I.ok.glob];exact I.mod.glob.keeps I.bk) hm (by rw[I.ok.blt];exact h1.keeps I.bk) ((h2 x hn).trans hv) h) hd
theorem Yj {x:Str}{v:V}{u:Value}{pos:Pos}(hg:Gl X x)(hm:X.mg x=some u)(r:RelV v u)(hd:(x == ("__debug__":Str))=false:=by decide):PE X (.Name x pos) (tC v) :=
 fun _ _ _ H _ I h=>Wp I hg hm ⟨v,H,I,r,h⟩ hd
theorem Z0e {x:Str}{v:V}{u:Value}{pos:Pos}(hg:Gl X x)(hm:X.mg x=none)(hv:bootBuiltins x=some u)(r:RelV v u)(hn:x≠"__name__":=by decide)(hd:(x == ("__debug__":Str))=false:=by decide):PE X (.Name x pos) (tC v) :=
 fun _ _ _ H _ I h=>Wk I hg hm hv ⟨v,H,I,r,h⟩ hn hd
variable {a b:Expr}{ta tb:TE}{pos:Pos}
def tB (t:TE):TT:=fun σ H Q=>t σ H fun x H1=>∃ c,x=.bl c/\Q c H1
theorem Xa {e:Expr}{t:TE}(h:PE X e t)(he:∀ whole,isTrue e X.env whole=(do let v ← whole;standAt e.pos;holding [v] (truthy v)):=by intro _;rfl):PT X e (tB t):=by
 intro pins s σ H Q I hw
 refine isTrue_plain (thn (h pins s σ H _ I hw) fun v s1 ⟨x,H1,I1,r1,q1⟩=>?_) (he _)
 obtain⟨d,rfl,q⟩:=q1
 cases r1
 exact wpAny_truthy_bool ⟨H1,I1,q⟩
variable {tA tB':TT}{rest:List Expr}
def tAnd (t u:TT):TT:=fun σ H Q=>t σ H fun c H1=>if c=true then u σ H1 Q else Q false H1
def tOr (t u:TT):TT:=fun σ H Q=>t σ H fun c H1=>if c=true then Q true H1 else u σ H1 Q
def tNot (t:TT):TT:=fun σ H Q=>t σ H fun c H1=>Q (!c) H1
theorem Pm (ha:PT X a tA):PW X (.BoolOp .And [a] pos) tA:=by
 intro wh pins s σ H Q I h
 refine isTrue_and (thn (ha pins s σ H Q I h) fun c s1 e=>?_)
 cases c with
 | true=>exact isTrue_and_nil e
 | false=>exact e
theorem Wd (ha:PT X a tA):PW X (.BoolOp .Or [a] pos) tA:=by
 intro wh pins s σ H Q I h
 refine isTrue_or (thn (ha pins s σ H Q I h) fun c s1 e=>?_)
 cases c with
 | false=>exact isTrue_or_nil e
 | true=>exact e
theorem Lh (ha:PT X a tA)(hb:PW X (.BoolOp .And (b::rest) pos) tB'):PW X (.BoolOp .And (a::b::rest) pos) (tAnd tA tB'):=by
 intro wh pins s σ H Q I h
 refine isTrue_and (thn (ha pins s σ H _ I h) fun c s1 ⟨H1,I1,q1⟩=>?_)
 cases c with
 | true=>exact hb wh pins s1 σ H1 Q I1 q1
 | false=>exact⟨H1,I1,q1⟩
theorem Vi (ha:PT X a tA)(hb:PW X (.BoolOp .Or (b::rest) pos) tB'):PW X (.BoolOp .Or (a::b::rest) pos) (tOr tA tB'):=by
 intro wh pins s σ H Q I h
 refine isTrue_or (thn (ha pins s σ H _ I h) fun c s1 ⟨H1,I1,q1⟩=>?_)
 cases c with
 | true=>exact⟨H1,I1,q1⟩
 | false=>exact hb wh pins s1 σ H1 Q I1 q1
theorem We (ha:PT X a tA):PT X (.UnaryOp .Not a pos) (tNot tA):=by
 intro pins s σ H Q I h
 exact isTrue_not (ha pins s σ H (fun c H1=>Q (!c) H1) I h)
def tAndV (ta tb:TE):TE:=fun σ H Q=>ta σ H fun x H1=>∃ c,x=.bl c/\if c=true then tb σ H1 Q else Q (.bl false) H1
def tOrV (ta tb:TE):TE:=fun σ H Q=>ta σ H fun x H1=>∃ c,x=.bl c/\if c=true then Q (.bl true) H1 else tb σ H1 Q
def tNotV (ta:TE):TE:=fun σ H Q=>ta σ H fun x H1=>∃ c,x=.bl c/\Q (.bl (!c)) H1
theorem Pn {op}{t:TE}(h:PE X a t):PE X (.BoolOp op [a] pos) t:=fun pins s σ H Q I hw=>BoolOp_one (h pins s σ H Q I hw)
theorem Lj (ha:PE X a ta)(hb:PE X (.BoolOp .And (b::rest) pos) tb):PE X (.BoolOp .And (a::b::rest) pos) (tAndV ta tb):=by
 intro pins s σ H Q I h
 refine BoolOp_and (thn (ha pins s σ H _ I h) fun v s1 ⟨x,H1,I1,r1,q1⟩=>?_)
 obtain⟨c,rfl,q1⟩:=q1
 cases r1
 refine wpAny_truthy_bool ?_
 cases c with
 | true=>exact hb pins s1 σ H1 Q I1 q1
 | false=>exact⟨.bl false,H1,I1,rfl,q1⟩
theorem Z3d (ha:PE X a ta)(hb:PE X (.BoolOp .Or (b::rest) pos) tb):PE X (.BoolOp .Or (a::b::rest) pos) (tOrV ta tb):=by
 intro pins s σ H Q I h
 refine BoolOp_or (thn (ha pins s σ H _ I h) fun v s1 ⟨x,H1,I1,r1,q1⟩=>?_)
 obtain⟨c,rfl,q1⟩:=q1
 cases r1
 refine wpAny_truthy_bool ?_
 cases c with
 | false=>exact hb pins s1 σ H1 Q I1 q1
 | true=>exact⟨.bl true,H1,I1,rfl,q1⟩
theorem Po (ha:PE X a ta):PE X (.UnaryOp .Not a pos) (tNotV ta):=by
 intro pins s σ H Q I h
 refine UnaryOp_ (thn (ha pins s σ H _ I h) fun v s1 ⟨x,H1,I1,r1,q1⟩=>?_)
 obtain⟨c,rfl,q1⟩:=q1
 cases r1
 exact not_of (wpAny_truthy_bool ⟨.bl (!c),H1,I1,rfl,q1⟩)
def tIf (t:TT)(ta tb:TE):TE:=fun σ H Q=>t σ H fun c H1=>if c=true then ta σ H1 Q else tb σ H1 Q
theorem Wx {c:Expr}(hc:PT X c tA)(ha:PE X a ta)(hb:PE X b tb):PE X (.IfExp c a b pos) (tIf tA ta tb):=by
 intro pins s σ H Q I h
 refine wpAny_IfExp (thn (hc pins s σ H _ I h) fun d s1 ⟨H1,I1,q1⟩=>?_)
 cases d with
 | true=>exact ha pins s1 σ H1 Q I1 q1
 | false=>exact hb pins s1 σ H1 Q I1 q1
end
end L2
namespace L2
open PySem PySem.Spec PyProof.Rows
def SqL (K:W.Frag)(H:Hp)(a:Addr)(xs:List V):Prop :=
 Rd H a (.lst xs) ∨
  ∃ (o:Obj) (its:Array Value) (n:Nat),K.lookup a=some o/\o.cls=.type "list"/\o.dict=none/\o.data=.seq its n/\its.size<=sizeLine/\Vals xs its.toList
def SqT (K:W.Frag)(H:Hp)(a:Addr)(xs:List V):Prop :=
 Rd H a (.tup xs) ∨
  ∃ (o:Obj) (its:Array Value) (n:Nat),K.lookup a=some o/\o.cls=.type "tuple"/\o.data=.seq its n/\its.size<=sizeLine/\Vals xs its.toList
def absV:Value->Option V
 | .none=>some .non
 | .bool b=>some (.bl b)
 | .int i _=>some (.int i)
 | .str x _=>some (.str x)
 | .bytes b _=>some (.byt b)
 | .float b _=>some (.flt b)
 | .ref a=>some (.ref a)
 | .type n=>some (.ty n)
 | _=>none
theorem RelV.abs {x:V}{u:Value}(r:RelV x u):absV u=some x:=by
 cases x with
 | non=>cases r;rfl
 | bl _=>cases r;rfl
 | int _=>obtain⟨t,rfl⟩:=r;rfl
 | str _=>obtain⟨t,rfl⟩:=r;rfl
 | byt _=>obtain⟨t,rfl⟩:=r;rfl
 | flt _=>obtain⟨t,rfl⟩:=r;rfl
 | ref _=>cases r;rfl
 | ty _=>cases r;rfl
theorem RelV.inj {x y:V}{u:Value}(r:RelV x u)(q:RelV y u):x=y:=Option.some.inj (r.abs.symm.trans q.abs)
theorem Vals.inj:∀ {xs ys:List V} {us:List Value},Vals xs us->Vals ys us->xs=ys
 | _,_,_,.nil,.nil=>rfl
 | _,_,_,.cons r t,.cons r' t'=>by rw[r.inj r',Vals.inj t t']
section
variable {X:Cx}{pins:List (Addr × Obj)}{σ:St}{H:Hp}{s:Shared}{a:Addr}{xs ys:List V}
theorem SqL.of {K:W.Frag}(h:H a=some (.lst xs)):SqL K H a xs:=.inl (.inl h)
theorem SqT.of {K:W.Frag}(h:H a=some (.tup xs)):SqT K H a xs:=.inl (.inl h)
theorem Inv.list (I:Inv X pins σ H s)(h:SqL X.K H a xs):∃ its:List Value,Vals xs its/\PlainL s.heap a its.toArray/\xs.length<=sizeLine:=by
 rcases h with h | ⟨o,its,n,hk,hc,hd,hs,hz,r⟩
 ·obtain⟨z,its,n,r,e⟩:=h.ok I.hok
  exact⟨its,r,⟨_,n,e,rfl,rfl,rfl⟩,z⟩
 ·refine⟨its.toList,r,⟨o,n,I.kIn a o hk,hc,hd,by simpa using hs⟩,?_⟩
  have e:=r.length
  simp only [Array.length_toList] at e
  omega
theorem Inv.tuple (I:Inv X pins σ H s)(h:SqT X.K H a xs):∃ its:List Value,Vals xs its/\IsTup s.heap a its.toArray/\xs.length<=sizeLine:=by
 rcases h with h | ⟨o,its,n,hk,hc,hs,hz,r⟩
 ·obtain⟨z,its,r,p⟩:=h.ok I.hok
  exact⟨its,r,p,z⟩
 ·refine⟨its.toList,r,⟨o,I.kIn a o hk,hc,n,by simpa using hs⟩,?_⟩
  have e:=r.length
  simp only [Array.length_toList] at e
  omega
theorem Inv.list_inj (I:Inv X pins σ H s)(h:SqL X.K H a xs)(h':SqL X.K H a ys):xs=ys:=by
 obtain⟨its,r,⟨o,n,e,_,_,d⟩,_⟩:=I.list h
 obtain⟨its',r',⟨o',n',e',_,_,d'⟩,_⟩:=I.list h'
 rw[e] at e';cases e'
 rw[d] at d'
 injection d' with d1 _
 have:its=its':=by simpa using congrArg Array.toList d1
 subst this
 exact r.inj r'
theorem Inv.tuple_inj (I:Inv X pins σ H s)(h:SqT X.K H a xs)(h':SqT X.K H a ys):xs=ys:=by
 obtain⟨its,r,⟨o,e,_,n,d⟩,_⟩:=I.tuple h
 obtain⟨its',r',⟨o',e',_,n',d'⟩,_⟩:=I.tuple h'
 rw[e] at e';cases e'
 rw[d] at d'
 injection d' with d1 _
 have:its=its':=by simpa using congrArg Array.toList d1
 subst this
 exact r.inj r'
end
abbrev Cx.wish (X:Cx)(E:Value->Shared->Prop):Cx:={ X with xe:=E }
abbrev Cx.nox (X:Cx):Cx:=X.wish fun _ _=>False
theorem Cx.Ok.wish {X:Cx}(ok:X.Ok)(E:Value->Shared->Prop):(X.wish E).Ok :=
 ⟨ok.mod,ok.kind,ok.glob,ok.blt,ok.above,ok.inj,ok.has,ok.cab,ok.hd,ok.frames,ok.stk,ok.exf,ok.bs,ok.bsz,ok.noex,ok.exfs,ok.funs,ok.frf⟩
theorem Cx.Ok.unwish {X:Cx}{E:Value->Shared->Prop}(ok:(X.wish E).Ok):X.Ok :=
 ⟨ok.mod,ok.kind,ok.glob,ok.blt,ok.above,ok.inj,ok.has,ok.cab,ok.hd,ok.frames,ok.stk,ok.exf,ok.bs,ok.bsz,ok.noex,ok.exfs,ok.funs,ok.frf⟩
section
variable {X:Cx}{pins:List (Addr × Obj)}{σ:St}{H:Hp}{s:Shared}{E:Value->Shared->Prop}
theorem Inv.wish (I:Inv X pins σ H s)(E:Value->Shared->Prop):Inv (X.wish E) pins σ H s:=⟨I.ok.wish E,I.os,I.bare,I.base,I.loc,I.cell,I.free,I.freeC,I.pin,I.hok,I.len⟩
theorem Inv.unwish (I:Inv (X.wish E) pins σ H s):Inv X pins σ H s:=⟨I.ok.unwish,I.os,I.bare,I.base,I.loc,I.cell,I.free,I.freeC,I.pin,I.hok,I.len⟩
theorem SP.unwish {D:Ends}{f:Flow}{s':Shared}(h:SP (X.wish E) pins D f s'):SP X pins D f s':=by
 cases f with
 | next=>obtain⟨σ',H',I,q⟩:=h;exact⟨σ',H',I.unwish,q⟩
 | brk=>obtain⟨σ',H',I,q⟩:=h;exact⟨σ',H',I.unwish,q⟩
 | cont=>obtain⟨σ',H',I,q⟩:=h;exact⟨σ',H',I.unwish,q⟩
 | ret u=>obtain⟨v,σ',H',I,r,q⟩:=h;exact⟨v,σ',H',I.unwish,r,q⟩
theorem PSs.nox {st:List Stmt}{t:TS}(h:PSs X.nox st t):PSs X st t:=fun pins s σ H D I hw =>
 wpAny_mono (h pins s σ H D (I.wish _) hw) (fun _ _ q=>q.unwish) fun _ _ z=>False.elim z
end
section
variable {X:Cx}{st:Stmt}{rest:List Stmt}{t u:TS}{e:Expr}{te:TE}{pos:Pos}
def tNext:TS:=fun D σ H=>D.nx σ H
def tSeq (t u:TS):TS:=fun D σ H=>t { D with nx:=u D } σ H
theorem Zt:PSs X [] tNext:=fun _ _ σ H _ I h=>wpAny_execs_nil ⟨σ,H,I,h⟩
theorem Z6 (h1:PS X st t)(h2:PSs X rest u):PSs X (st::rest) (tSeq t u):=by
 intro pins s σ H D I h
 refine wpAny_execs_cons (thn (h1 pins s σ H { D with nx:=u D } I h) fun f s1 q=>?_)
 cases f with
 | next =>
  obtain⟨σ',H',I',q⟩:=q
  exact h2 pins s1 σ' H' D I' q
 | ret v=>exact q
 | brk=>exact q
 | cont=>exact q
theorem Z9 (h1:PS X st t):PSs X [st] t:=by
 intro pins s σ H D I h
 refine wpAny_execs_cons (thn (h1 pins s σ H D I h) fun f s1 q=>?_)
 cases f with
 | next=>exact wpAny_execs_nil q
 | ret v=>exact q
 | brk=>exact q
 | cont=>exact q
theorem Inv.quiet {pins:List (Addr × Obj)}{σ:St}{H:Hp}{s:Shared}(I:Inv X pins σ H s):interactive X.env=false:=by simp[interactive,I.ok.kind]
def tDrop (te:TE):TS:=fun D σ H=>te σ H fun _ H1=>D.nx σ H1
theorem Yr (he:PE X e te)(hs:swapsWith e none pos.line X.env=pure false:=by rfl):PS X (.Expr e pos) (tDrop te):=by
 intro pins s σ H D I h
 exact wpAny_Expr_any (thn (he pins s σ H _ I h) fun v s1 ⟨x,H1,I1,r1,q1⟩=>⟨σ,H1,I1,q1⟩) I.quiet hs
def tRet (te:TE):TS:=fun D σ H=>te σ H D.rt
theorem Zf (he:PE X e te):PS X (.Return (some e) pos) (tRet te):=by
 intro pins s σ H D I h
 exact wpAny_Return_some (thn (he pins s σ H _ I h) fun v s1 ⟨x,H1,I1,r1,q1⟩=>⟨x,σ,H1,I1,r1,q1⟩)
def tIfS (c:TT)(t u:TS):TS:=fun D σ H=>c σ H fun b H1=>if b=true then t D σ H1 else u D σ H1
theorem Yd {c:Expr}{a b:List Stmt}{tc:TT}(hc:PT X c tc)(ha:PSs X a t)(hb:PSs X b u):PS X (.If c a b pos) (tIfS tc t u):=by
 intro pins s σ H D I h
 refine wpAny_If (thn (hc pins s σ H _ I h) fun d s1 ⟨H1,I1,q1⟩=>?_)
 cases d with
 | true=>exact ha pins s1 σ H1 D I1 q1
 | false=>exact hb pins s1 σ H1 D I1 q1
def tNever:TS:=fun _ _ _=>False
theorem Xt:PS X st tNever:=fun _ _ _ _ _ _ h=>h.elim
end
abbrev TG:=V->St->Hp->(St->Hp->Prop)->Prop
abbrev TGs:=List V->St->Hp->(St->Hp->Prop)->Prop
def PG (X:Cx)(target:Expr)(t:TG):Prop :=
 ∀ (pins:List (Addr × Obj)) (s:Shared) (σ:St) (H:Hp) (v:V) (u:Value) (Q:St->Hp->Prop),Inv X pins σ H s->RelV v u->t v σ H Q →
  wpAny (model X.prog X.w) X.A (assign target X.env u) (fun _ s'=>∃ σ' H',Inv X pins σ' H' s'/\Q σ' H') X.xe s
def PGs (X:Cx)(ts:List Expr)(t:TGs):Prop :=
 ∀ (pins:List (Addr × Obj)) (s:Shared) (σ:St) (H:Hp) (vs:List V) (us:List Value) (Q:St->Hp->Prop),Inv X pins σ H s->Vals vs us->t vs σ H Q →
  wpAny (model X.prog X.w) X.A (assignInOrder ((assignEach ts X.env).map (·.2)) us) (fun _ s'=>∃ σ' H',Inv X pins σ' H' s'/\Q σ' H') X.xe s
abbrev TSet:=V->V->V->Hp->(Hp->Prop)->Prop
def PSet (X:Cx)(t:TSet):Prop :=
 ∀ (pins:List (Addr × Obj)) (s:Shared) (σ:St) (H:Hp) (o i v:V) (ov iv u:Value) (Q:Hp->Prop),Inv X pins σ H s->RelV o ov->RelV i iv->RelV v u->t o i v H Q →
  wpAny (model X.prog X.w) X.A (setItem ov iv u) (fun _ s'=>∃ H',Inv X pins σ H' s'/\Q H') X.xe s
section
variable {X:Cx}{pos:Pos}
def gName (i:Nat):TG:=fun v σ H Q=>Q (σ.set i (some v)) H
theorem Zl {i:Nat}{x:Str}(hN:X.N.Nodup)(hi:X.N[i]?=some x)(hx:Loc X.env.scope x)(hf:X.fn x=true \/ X.env.scope.names.lookup x=some .local:=by first | exact .inl rfl | exact .inr rfl | assumption):PG X (.Name x pos) (gName i):=by
 intro pins s σ H v u Q I r h
 exact wpAny_assign_Name (Sz I hN hi hx r (fun s' I'=>⟨_,H,I',h⟩) hf)
def gNil:TGs:=fun vs σ H Q=>vs=[]/\Q σ H
def gCons (t:TG)(u:TGs):TGs:=fun vs σ H Q=>∃ v r,vs=v::r/\t v σ H fun σ' H'=>u r σ' H' Q
theorem Xp:PGs X [] gNil:=by
 intro pins s σ H vs us Q I r h
 obtain⟨e,h⟩:=h
 subst e
 cases r
 exact assignInOrder_nil ⟨σ,H,I,h⟩
theorem Y6 {e:Expr}{es:List Expr}{t:TG}{u:TGs}(h1:PG X e t)(h2:PGs X es u)
  (hs:(assignEach (e::es) X.env).map (·.2)=assign e X.env::(assignEach es X.env).map (·.2):=by rfl):PGs X (e::es) (gCons t u):=by
 intro pins s σ H vs us Q I r h
 obtain⟨v,vr,e1,h⟩:=h
 subst e1
 cases r with
 | cons r rr =>
  rw[hs]
  refine assignInOrder_cons (thn (h1 pins s σ H _ _ _ I r h) fun _ s1 ⟨σ1,H1,I1,q1⟩=>?_)
  exact h2 pins s1 σ1 H1 _ _ Q I1 rr q1
def gTup (K:W.Frag)(n:Nat)(t:TGs):TG:=fun v σ H Q=>∃ a xs,v=.ref a/\SqT K H a xs/\xs.length=n/\t xs σ H Q
theorem Wq {es:List Expr}{k:Nat}{t:TGs}{n:Nat}(hc:X.calm=true)(h:PGs X es t)
  (hn:(assignEach es X.env).length=n:=by rfl) (hst:(assignEach es X.env).findIdx? (·.1)=none:=by rfl):PG X (.Tuple es k pos) (gTup X.K n t):=by
 intro pins s σ H v u Q I r hw
 obtain⟨a,xs,e1,hq,hl,hw⟩:=hw
 subst e1
 cases r
 obtain⟨its,rv,ht,hz⟩:=I.tuple hq
 refine Sb.Q8 (I.qt hc) ht (by simp[hn,← hl,rv.length]) hst fun h' hx=>?_
 have I1:Inv X pins σ H { s with heap:=h' }:=I.kept (t':=s.toks) fun b o e=>hx b o (Nat.ne_of_lt (Heap.lt_size e)) e
 exact h pins _ σ H xs _ Q I1 (by simpa using rv) hw
def gSub (to ti:TE)(t:TSet):TG:=fun v σ H Q=>to σ H fun o H1=>ti σ H1 fun i H2=>t o i v H2 fun H3=>Q σ H3
theorem Rk {o i:Expr}{to ti:TE}{t:TSet}(ho:PE X o to)(hi:PE X i ti)(hs:PSet X t)
  (ha:∀ v,assign (.Subscript o i pos) X.env v=(do
   let ov ← holding [v] (eval o X.env)
   let iv ← holding [v,ov] (eval i X.env)
   standAt pos
   holding [v,ov,iv] (setItem ov iv v)
   release [v,ov,iv] []):=by intro _;rfl):PG X (.Subscript o i pos) (gSub to ti t):=by
 intro pins s σ H v u Q I r h
 rw[ha]
 refine wpAny_bind (wpAny_holding (thn (ho pins s σ H _ I h) fun ov s1 ⟨x,H1,I1,r1,q1⟩=>?_))
 refine wpAny_bind (wpAny_holding (thn (hi pins s1 σ H1 _ I1 q1) fun iv s2 ⟨y,H2,I2,r2,q2⟩=>?_))
 refine wpAny_bind (wpAny_standAt (wpAny_bind (wpAny_holding (thn (hs pins s2 σ H2 x y v ov iv u _ I2 r1 r2 r q2) fun _ s3 ⟨H3,I3,q3⟩=>?_))))
 exact wpAny_release ⟨σ,H3,I3,q3⟩
def tAsg (te:TE)(g:TG):TS:=fun D σ H=>te σ H fun x H1=>g x σ H1 D.nx
theorem Ub {tg e:Expr}{te:TE}{g:TG}(he:PE X e te)(hg:PG X tg g)(hs:swapsWithSole [tg] e pos.line X.env=pure false:=by rfl)(hw:swappedStores [tg] e X.env=pure none:=by rfl)
  (h1:(assignEach [tg] X.env).map (·.2)=[assign tg X.env]:=by rfl):PS X (.Assign [tg] e pos) (tAsg te g):=by
 intro pins s σ H D I h
 refine wpAny_Assign_stores (thn (he pins s σ H _ I h) fun v s1 ⟨x,H1,I1,r1,q1⟩=>?_) hs hw
 rw[h1]
 exact thn (hg pins s1 σ H1 x v _ I1 r1 q1) fun _ s2 q=>q
theorem Zg {i:Nat}{x:Str}{e:Expr}{te:TE}{pos':Pos}(hN:X.N.Nodup)(hi:X.N[i]?=some x)(hx:Loc X.env.scope x)(he:PE X e te)(hs:swapsWith e (some (.Name x pos')) pos.line X.env=pure false:=by rfl)(hf:X.fn x=true \/ X.env.scope.names.lookup x=some .local:=by first | exact .inl rfl | exact .inr rfl | assumption) :
  PS X (.Assign [.Name x pos'] e pos) (tAsg te (gName i)):=by
 intro pins s σ H D I h
 refine wpAny_Assign_Name (thn (he pins s σ H _ I h) fun v s1 ⟨y,H1,I1,r1,q1⟩=>?_) hs
 exact Sz I1 hN hi hx r1 (fun s2 I2=>⟨_,H1,I2,q1⟩) hf
end
section
variable {X:Cx}{pos:Pos}
def tWhile (c:TT)(tb:TS):TS:=fun D σ H=>∃ W:Nat->St->Hp->Prop,(∃ m,W m σ H)/\∀ m σ H,W m σ H →
 c σ H fun b H1=>if b=true then ∃ N:St->Hp->Prop,(∀ σ' H',N σ' H'->∃ m',m'<m/\W m' σ' H')/\tb { D with nx:=N,ct:=N,bk:=D.nx } σ H1 else D.nx σ H1
theorem Rh {c:Expr}{body:List Stmt}{tc:TT}{tb:TS}(hp:PassesOwn (model X.prog X.w) X.A X.env X.xe)(hc:PT X c tc)(hb:PSs X body tb):PS X (.While c body [] pos) (tWhile tc tb):=by
 intro pins s σ H D I h
 obtain⟨W,⟨m0,w0⟩,turn⟩:=h
 refine wpAny_While (codeAny_whileLoop (fun n s'=>∃ σ' H',Inv X pins σ' H' s'/\W n σ' H') ?_ m0 ⟨σ,H,I,w0⟩)
 rintro n s1 ⟨σ1,H1,I1,w1⟩
 refine wpAny_passesOwn hp (thn (hc pins s1 σ1 H1 _ I1 (turn n σ1 H1 w1)) fun b s2 ⟨H2,I2,q2⟩=>?_)
 cases b with
 | true =>
  obtain⟨N,hN,q2⟩:=q2
  rw[if_pos rfl]
  refine wpAny_passesOwn hp (thn (hb pins s2 σ1 H2 _ I2 q2) fun f s3 q3=>?_)
  cases f with
  | next =>
   obtain⟨σ3,H3,I3,n3⟩:=q3
   obtain⟨m',hm,w3⟩:=hN σ3 H3 n3
   exact⟨m',hm,σ3,H3,I3,w3⟩
  | cont =>
   obtain⟨σ3,H3,I3,n3⟩:=q3
   obtain⟨m',hm,w3⟩:=hN σ3 H3 n3
   exact⟨m',hm,σ3,H3,I3,w3⟩
  | brk=>exact q3
  | ret v=>exact q3
 | false =>
  rw[if_neg Bool.false_ne_true]
  exact wpAny_execs_nil ⟨σ1,H2,I2,q2⟩
end
structure It where
 go:Nat->Hp->Prop
 yld:Nat->Hp->V->Hp->Prop
 stop:Nat->Hp->Prop
def FpOk (X:Cx)(pins:List (Addr × Obj))(H:Hp)(b:Addr):Prop :=
 H b=none/\b≠X.env.locals/\b ∉ X.fs/\(b∈X.ex \/ X.s₀.heap.objs.size<=b)/\(∀ x c,X.env.cells.lookup x=some c->c≠b)/\∀ p∈X.pn++pins,p.1≠b
theorem Inv.fpOk {X:Cx}{pins:List (Addr × Obj)}{σ:St}{H H':Hp}{s:Shared}{b:Addr}(I:Inv X pins σ H s)(hb:s.heap.objs.size<=b)(hn:H' b=none):FpOk X pins H' b:=by
 refine⟨hn,Nat.ne_of_gt (Nat.lt_of_lt_of_le I.lt hb),I.nofs hb,.inr (Nat.le_trans I.sz hb),fun x c e z=>?_,fun p hp z=>?_⟩
 ·obtain⟨v,q⟩:=I.cell x c e
  exact absurd (Nat.lt_of_lt_of_le q.lt (by rw[z];exact hb)) (Nat.lt_irrefl _)
 ·exact absurd (Nat.lt_of_lt_of_le (Heap.lt_size (I.pin p hp).1) (by rw[z];exact hb)) (Nat.lt_irrefl _)
structure Turn (P:Program)(w:World)(K:W.Frag)(tg:Expr)(J:It)(fp:List Addr)(it:Addr)(tn:Nat->Heap->Prop):Prop where
 mem:it∈fp
 obj:∀ i h,tn i h->∀ b∈fp,∃ o,h.get? b=some o/\∀ v,o.data≠.cell v
 keep:∀ i h h',tn i h->(∀ b∈fp,∀ o,h.get? b=some o->h'.get? b=some o)->tn i h'
 item:∀ (X:Cx),X.prog=P->X.w=w->X.K=K->X.calm=true->∀ (i:Nat) (pins:List (Addr × Obj)) (s:Shared) (σ:St) (H:Hp) (E:Value->Shared->Prop),Inv X pins σ H s->(∀ b∈fp,FpOk X pins H b)->tn i s.heap->J.go i H →
  wpAny (model P w) X.A (pyNext (.ref it)) (fun r s1=>∃ u,r=some u ∧
   wpAny (model P w) X.A (letOwnedTupleGo tg (.ref it) u) (fun _ s2=>∃ x H',Inv X pins σ H' s2/\RelV x u/\J.yld i H x H'/\tn (i+1) s2.heap/\∀ b∈fp,H' b=none) E s1) E s
 done:∀ (X:Cx),X.prog=P->X.w=w->X.K=K->X.calm=true->∀ (i:Nat) (pins:List (Addr × Obj)) (s:Shared) (σ:St) (H:Hp) (E:Value->Shared->Prop),Inv X pins σ H s->(∀ b∈fp,FpOk X pins H b)->tn i s.heap->J.stop i H →
  wpAny (model P w) X.A (pyNext (.ref it)) (fun r s1=>r=none/\Inv X pins σ H s1) E s
 self:∀ (A:Around) (i:Nat) (s:Shared) (Q:Value->Shared->Prop) (E:Value->Shared->Prop),tn i s.heap->Q (.ref it) s->wpAny (model P w) A (pyIter (.ref it)) Q E s
abbrev TI:=St->Hp->(It->Hp->Prop)->Prop
def PIE (X:Cx)(pins:List (Addr × Obj))(σ:St)(tg:Expr)(R:It->Hp->Prop)(itv:Value)(s2:Shared):Prop :=
 ∃ (it:Addr) (fp:List Addr) (tn:Nat->Heap->Prop) (J:It) (H':Hp),itv=.ref it/\Inv X pins σ H' s2/\Turn X.prog X.w X.K tg J fp it tn/\tn 0 s2.heap/\(∀ b∈fp,FpOk X pins H' b)/\R J H'
def PI (X:Cx)(tg iter:Expr)(wi:TI):Prop :=
 ∀ (pins:List (Addr × Obj)) (s:Shared) (σ:St) (H:Hp) (R:It->Hp->Prop),Inv X pins σ H s->wi σ H R →
  wpAny (model X.prog X.w) X.A (eval iter X.env) (fun v s1=>wpAny (model X.prog X.w) X.A (pyIter v) (PIE X pins σ tg R) X.xe s1) X.xe s
theorem Bk {M:Model}{A:Around}{E:Value->Shared->Prop}{s:Shared}{tg:Expr}{it:Addr}{u:Value}{o:Obj}{n:String}{vs:Array Value}{Q:Unit->Shared->Prop}(ho:s.heap.get? it=some o)(hc:o.cls=.type n)(hd:o.data=.fields vs)
  (hn:["enumerate","zip","dict_itemiterator","dict_reverseitemiterator","odict_iterator","itertools.zip_longest","itertools.pairwise"].contains n=false) (hQ:Q () s):wpAny M A (letOwnedTupleGo tg (.ref it) u) Q E s:=by
 unfold letOwnedTupleGo
 cases tg <;> first
  | exact wpAny_pure hQ
  | (cases u <;> first
    | exact wpAny_pure hQ
    | (refine wpAny_bind (wpAny_load ho ?_)
       rw[hc,hd]
       show wpAny M A (if (["enumerate","zip","dict_itemiterator","dict_reverseitemiterator","odict_iterator","itertools.zip_longest","itertools.pairwise"].contains n && vs[0]? == some (rawInt _))=true then _ else _) Q E s
       rw[if_neg (by intro h;rw[hn,Bool.false_and] at h;cases h)]
       exact wpAny_pure hQ))
def Itl (K:W.Frag)(a:Addr):It :=
 ⟨fun i H=>∃ xs x,SqL K H a xs/\xs[i]?=some x,fun i H x H'=>H'=H/\∀ xs,SqL K H a xs->xs[i]?=some x,fun i H=>∃ xs,SqL K H a xs/\xs.length<=i⟩
def Itt (K:W.Frag)(a:Addr):It :=
 ⟨fun i H=>∃ xs x,SqT K H a xs/\xs[i]?=some x,fun i H x H'=>H'=H/\∀ xs,SqT K H a xs->xs[i]?=some x,fun i H=>∃ xs,SqT K H a xs/\xs.length<=i⟩
def Itr (lo:Int)(n:Nat):It:=⟨fun i _=>i<n,fun i H x H'=>H'=H/\x=.int (lo+i),fun i _=>n<=i⟩
theorem Th {P:Program}{w:World}{K:W.Frag}{tg:Expr}(a it:Addr):Turn P w K tg (Itl K a) [it] it (fun i h=>h.IsListIter it a i) where
 mem:=by simp
 obj:=fun i h st b hb=>by
  have e:b=it:=by simpa using hb
  subst e
  obtain⟨o,e,c,d⟩:=st
  exact⟨o,e,fun v z=>by rw[d] at z;cases z⟩
 keep:=fun i h h' st k=>st.at fun o e=>k it (by simp) o e
 item:=by
  intro X hP hw hK hc i pins s σ H E I hf st hg
  subst hP hw hK
  obtain⟨xs,x,hq,hx⟩:=hg
  obtain⟨its,rv,p,hz⟩:=I.list hq
  obtain⟨u,hu,ru⟩:=rv.get hx
  obtain⟨f0,f1,f2,f3,f4,f5⟩:=hf it (by simp)
  refine wpAny_pyNext_list_item st p.isList (x:=u) (by simpa using hu) fun h' st' sb=>?_
  have I1:Inv X pins σ H { s with heap:=h' }:=I.turned (t':=s.toks) (fun b o hb e=>(sb.2 b hb).trans e) f0 f1 f3 f4 f5
  obtain⟨o,e,c,d⟩:=id st'
  exact⟨u,rfl,Bk (s:={ s with heap:=h' }) e c d (by decide) ⟨x,H,I1,ru,⟨rfl,fun ys hy=>by rw[I.list_inj hy hq];exact hx⟩,st',fun b hb=>(hf b hb).1⟩⟩
 done:=by
  intro X hP hw hK hc i pins s σ H E I hf st hg
  subst hP hw hK
  obtain⟨xs,hq,hx⟩:=hg
  obtain⟨its,rv,p,hz⟩:=I.list hq
  obtain⟨f0,f1,f2,f3,f4,f5⟩:=hf it (by simp)
  have hl:=rv.length
  exact Sb.Rt (I.qt hc) st p.isList (by simp;omega) fun h' eb=>⟨rfl,I.turned (t':=s.toks) (fun b o hb e=>eb b o hb e) f0 f1 f3 f4 f5⟩
 self:=fun _ _ _ _ _ st h=>wpAny_pyIter_listiter st h
theorem Ua {P:Program}{w:World}{K:W.Frag}{tg:Expr}(a it:Addr):Turn P w K tg (Itt K a) [it] it (fun i h=>h.IsTupleIter it a i) where
 mem:=by simp
 obj:=fun i h st b hb=>by
  have e:b=it:=by simpa using hb
  subst e
  obtain⟨o,e,c,d⟩:=st
  exact⟨o,e,fun v z=>by rw[d] at z;cases z⟩
 keep:=fun i h h' st k=>st.at fun o e=>k it (by simp) o e
 item:=by
  intro X hP hw hK hc i pins s σ H E I hf st hg
  subst hP hw hK
  obtain⟨xs,x,hq,hx⟩:=hg
  obtain⟨its,rv,p,hz⟩:=I.tuple hq
  obtain⟨u,hu,ru⟩:=rv.get hx
  obtain⟨f0,f1,f2,f3,f4,f5⟩:=hf it (by simp)
  refine wpAny_pyNext_tuple_item st (show s.heap.IsTuple a its.toArray from p) (x:=u) (by simpa using hu) fun h' st' sb=>?_
  have I1:Inv X pins σ H { s with heap:=h' }:=I.turned (t':=s.toks) (fun b o hb e=>(sb.2 b hb).trans e) f0 f1 f3 f4 f5
  obtain⟨o,e,c,d⟩:=id st'
  exact⟨u,rfl,Bk (s:={ s with heap:=h' }) e c d (by decide) ⟨x,H,I1,ru,⟨rfl,fun ys hy=>by rw[I.tuple_inj hy hq];exact hx⟩,st',fun b hb=>(hf b hb).1⟩⟩
 done:=by
  intro X hP hw hK hc i pins s σ H E I hf st hg
  subst hP hw hK
  obtain⟨xs,hq,hx⟩:=hg
  obtain⟨its,rv,p,hz⟩:=I.tuple hq
  obtain⟨f0,f1,f2,f3,f4,f5⟩:=hf it (by simp)
  have hl:=rv.length
  exact Sb.Tv (I.qt hc) st (show s.heap.IsTuple a its.toArray from p) (by simp;omega) fun h' eb=>⟨rfl,I.turned (t':=s.toks) (fun b o hb e=>eb b o hb e) f0 f1 f3 f4 f5⟩
 self:=fun _ _ _ _ _ st h=>wpAny_pyIter_tupleiter st h
theorem L3 {P:Program}{w:World}{K:W.Frag}{tg:Expr}(it:Addr)(lo:Int)(n:Nat):Turn P w K tg (Itr lo n) [it] it (fun i h=>IsRangeIter h it (lo+(i:Nat)*1) ((n:Int) - (i:Nat)) 1) where
 mem:=by simp
 obj:=fun i h st b hb=>by
  have e:b=it:=by simpa using hb
  subst e
  exact⟨_,st,fun v z=>by
   have z':Data.fields _=Data.cell v:=z
   cases z'⟩
 keep:=fun i h h' st k=>k it (by simp) _ st
 item:=by
  intro X hP hw hK hc i pins s σ H E I hf st hg
  subst hP hw hK
  obtain⟨f0,f1,f2,f3,f4,f5⟩:=hf it (by simp)
  refine Sb.Rg i s _ _ hg st fun v h' tk hv st' kk=>?_
  obtain⟨t,rfl⟩:=hv
  have I1:Inv X pins σ H { s with heap:=h',toks:=tk }:=I.turned (fun b o hb e=>kk b o (by simpa using hb) e) f0 f1 f3 f4 f5
  refine⟨_,rfl,Bk (s:={ s with heap:=h',toks:=tk }) (n:="range_iterator") st' rfl rfl (by decide) ⟨.int (lo+i),H,I1,⟨t,?_⟩,⟨rfl,rfl⟩,st',fun b hb=>(hf b hb).1⟩⟩
  rw[Int.mul_one]
 done:=by
  intro X hP hw hK hc i pins s σ H E I hf st hg
  subst hP hw hK
  obtain⟨f0,f1,f2,f3,f4,f5⟩:=hf it (by simp)
  exact Sb.Ty (I.qt hc) st (by have:n<=i:=hg;omega) fun h' eb=>⟨rfl,I.turned (t':=s.toks) (fun b o hb e=>eb b o hb e) f0 f1 f3 f4 f5⟩
 self:=fun _ _ _ _ _ st h=>wpAny_pyIter_rangeiter st h
end L2
namespace L2
open PySem PySem.Spec PyProof.Rows
section
variable {X:Cx}{tg:Expr}
def iList (K:W.Frag)(tl:TE):TI:=fun σ H R=>tl σ H fun x H1=>∃ a,x=.ref a/\(∃ xs,SqL K H1 a xs)/\R (Itl K a) H1
def iTup (K:W.Frag)(tl:TE):TI:=fun σ H R=>tl σ H fun x H1=>∃ a,x=.ref a/\(∃ xs,SqT K H1 a xs)/\R (Itt K a) H1
theorem Xo {l:Expr}{tl:TE}(hl:PE X l tl):PI X tg l (iList X.K tl):=by
 intro pins s σ H R I h
 refine thn (hl pins s σ H _ I h) fun v s1 ⟨x,H1,I1,r1,q1⟩=>?_
 obtain⟨a,e,⟨xs,hq⟩,q⟩:=q1
 subst e
 cases r1
 obtain⟨its,rv,p,hz⟩:=I1.list hq
 refine wpAny_pyIter_list p.isList ?_
 refine⟨s1.heap.objs.size,[s1.heap.objs.size],_,_,H1,rfl,I1.kept (t':=s1.toks) fun b o e=>Heap.get?_push_of_some _ e,Th a _,⟨_,Heap.get?_push_size _ rfl,rfl,rfl⟩,fun b hb=>?_,q⟩
 have e:b=s1.heap.objs.size:=by simpa using hb
 subst e
 exact I1.fpOk (Nat.le_refl _) (I1.hok.fresh (Nat.le_refl _))
theorem Ti {l:Expr}{tl:TE}(hl:PE X l tl):PI X tg l (iTup X.K tl):=by
 intro pins s σ H R I h
 refine thn (hl pins s σ H _ I h) fun v s1 ⟨x,H1,I1,r1,q1⟩=>?_
 obtain⟨a,e,⟨xs,hq⟩,q⟩:=q1
 subst e
 cases r1
 obtain⟨its,rv,p,hz⟩:=I1.tuple hq
 refine wpAny_pyIter_tuple (show s1.heap.IsTuple a its.toArray from p) ?_
 refine⟨s1.heap.objs.size,[s1.heap.objs.size],_,_,H1,rfl,I1.kept (t':=s1.toks) fun b o e=>Heap.get?_push_of_some _ e,Ua a _,⟨_,Heap.get?_push_size _ rfl,rfl,rfl⟩,fun b hb=>?_,q⟩
 have e:b=s1.heap.objs.size:=by simpa using hb
 subst e
 exact I1.fpOk (Nat.le_refl _) (I1.hok.fresh (Nat.le_refl _))
theorem Dw {pins:List (Addr × Obj)}{σ:St}{H:Hp}{s:Shared}{R:It->Hp->Prop}{E:Value->Shared->Prop}{lo hi:Int}{t u v:Tok}{tk:Nat}(I:Inv X pins σ H s)(h1:-(2 ^ 62)<=lo)(h2:lo<2 ^ 62)(h3:-(2 ^ 62)<=hi)(h4:hi<2 ^ 62)
  (q:R (Itr lo (hi - lo).toNat) H):wpAny (model X.prog X.w) X.A (pyIter (.ref s.heap.objs.size)) (PIE X pins σ tg R) E { s with heap:=s.heap.push { cls:=.type "range",data:=.fields #[.int lo t,.int hi u,.int 1 v] },toks:=tk }:=by
 refine wpAny_pyIter_range (IsRange.new ..) (small_one h1 h2 h3 h4) ?_
 have I1:Inv X pins σ H { s with heap:=s.heap.push { cls:=.type "range",data:=.fields #[.int lo t,.int hi u,.int 1 v] },toks:=tk }:=I.kept fun b o e=>Heap.get?_push_of_some _ e
 refine⟨(s.heap.push { cls:=.type "range",data:=.fields #[.int lo t,.int hi u,.int 1 v] }).objs.size,[(s.heap.push { cls:=.type "range",data:=.fields #[.int lo t,.int hi u,.int 1 v] }).objs.size],_,_,H,rfl,
  I1.kept (t':=tk) fun b o e=>Heap.get?_push_of_some _ e,L3 _ lo (hi - lo).toNat,?_,fun b hb=>?_,q⟩
 ·have e1:lo+((0:Nat):Int)*1=lo:=by simp
  have e2:(((hi - lo).toNat:Nat):Int) - ((0:Nat):Int)=Builtin.Range.rangeSize lo hi 1:=by rw[rangeSize_one];split <;> omega
  show IsRangeIter _ _ (lo+((0:Nat):Int)*1) ((((hi - lo).toNat:Nat):Int) - ((0:Nat):Int)) 1
  rw[e1,e2]
  exact Heap.get?_push_size _ rfl
 ·have e:b=(s.heap.push { cls:=.type "range",data:=.fields #[.int lo t,.int hi u,.int 1 v] }).objs.size:=by simpa using hb
  subst e
  exact I1.fpOk (Nat.le_refl _) (I1.hok.fresh (Nat.le_refl _))
def iRng1 (ta:TA):TI:=fun σ H R=>ta σ H fun vs H1=>∃ j:Int,vs=[.int j]/\-(2 ^ 62)<=j/\j<2 ^ 62/\R (Itr 0 j.toNat) H1
theorem Yi {a:Expr}{ta:TA}{p pos:Pos}(hg:Gl X "range")(hm:X.mg "range"=none)(ha:PA X [a] ta)(hs:starEach [a] X.env=[(false,eval a X.env)]:=by rfl):PI X tg (.Call (.Name "range" p) [a] [] pos) (iRng1 ta):=by
 intro pins s σ H R I h
 refine Call_ (Wk I hg hm boot_range (PyProof.Rows.callWith_type1 (thn (ha pos pins s σ H _ I h) fun us s1 ⟨vs,H1,I1,r1,q1⟩=>?_) hs rfl))
 obtain⟨j,e,q1,q2,q⟩:=q1
 subst e
 cases r1 with
 | cons r rr =>
  cases rr
  obtain⟨t,rfl⟩:=r
  exact call_range_1 (Dw I1 (by omega) (by omega) q1 q2 (by simpa using q))
def tFor (wi:TI)(g:TG)(tb:TS):TS:=fun D σ H=>wi σ H fun J H1=>∃ W:Nat->Nat->St->Hp->Prop,(∃ m,W 0 m σ H1)/\∀ i m σ H,W i m σ H →
 (J.stop i H/\D.nx σ H) \/ (J.go i H/\∃ N:St->Hp->Prop,(∀ σ' H',N σ' H'->∃ m',m'<m/\W (i+1) m' σ' H')/\∀ x H',J.yld i H x H'->g x σ H' fun σ2 H2=>tb { D with nx:=N,ct:=N,bk:=D.nx } σ2 H2)
def pinsAt (fp:List Addr)(h:Heap):List (Addr × Obj):=fp.filterMap fun b=>(h.get? b).map fun o=>(b,o)
theorem Vb {fp:List Addr}{h:Heap}{b:Addr}{o:Obj}(hb:b∈fp)(e:h.get? b=some o):(b,o)∈pinsAt fp h:=List.mem_filterMap.mpr ⟨b,hb,by rw[e];rfl⟩
theorem Gw {fp:List Addr}{h:Heap}{p:Addr × Obj}(hp:p∈pinsAt fp h):p.1∈fp/\h.get? p.1=some p.2:=by
 obtain⟨b,hb,e⟩:=List.mem_filterMap.mp hp
 cases q:h.get? b with
 | none=>rw[q] at e;cases e
 | some o =>
  rw[q] at e
  have e':(b,o)=p:=Option.some.inj e
  subst e'
  exact⟨hb,q⟩
theorem Inv.pinned {pins:List (Addr × Obj)}{σ:St}{H:Hp}{s:Shared}{fp:List Addr}(I:Inv X pins σ H s)(hf:∀ b∈fp,FpOk X pins H b)(ho:∀ b∈fp,∃ o,s.heap.get? b=some o/\∀ v,o.data≠.cell v):Inv X (pins++pinsAt fp s.heap) σ H s :=
 I.pins_of fun p hp=>(List.mem_append.mp hp).elim (fun z=>I.pin p (List.mem_append_right _ z)) fun z=>by
  obtain⟨hb,e⟩:=Gw z
  obtain⟨f0,f1,f2,_⟩:=hf p.1 hb
  obtain⟨o,e',d⟩:=ho p.1 hb
  rw[e] at e';cases e'
  exact⟨e,f0,f1,f2,d⟩
theorem Inv.unpinned {pins pl:List (Addr × Obj)}{σ:St}{H:Hp}{s:Shared}(I:Inv X (pins++pl) σ H s):Inv X pins σ H s:=I.pins_of fun p hp=>I.pin p (List.mem_append_right _ (List.mem_append_left _ hp))
theorem Xk {iter:Expr}{body:List Stmt}{wi:TI}{g:TG}{tb:TS}{pos:Pos}(hp:PassesOwn (model X.prog X.w) X.A X.env X.xe)(hc:X.calm=true)(hi:PI X tg iter wi)(hg:PG X tg g)(hb:PSs X body tb)
  (hs:∀ x,foldedSetIterable iter X.env x=pure x:=by intro _;rfl):PS X (.For tg iter body [] pos) (tFor wi g tb):=by
 intro pins s σ H D I h
 refine wpAny_For (thn (hi pins s σ H _ I h) fun v s1 h1=>thn h1 fun itv s2 h2=>?_) hs
 obtain⟨it,fp,tn,J,H2,e,I2,T,st2,f2,W,⟨m0,w0⟩,turn⟩:=h2
 subst e
 have stat:∀ {H':Hp},(∀ b∈fp,H' b=none)->∀ b∈fp,FpOk X pins H' b:=fun hn b hb=>⟨hn b hb,(f2 b hb).2⟩
 refine codeAny_forLoop_any (fun n s'=>∃ i σ' H',Inv X pins σ' H' s'/\tn i s'.heap/\(∀ b∈fp,H' b=none)/\W i n σ' H') ?_ m0 ⟨0,σ,H2,I2,st2,fun b hb=>(f2 b hb).1,w0⟩
 rintro n s3 ⟨i,σ3,H3,I3,st3,fr3,w3⟩
 rcases turn i n σ3 H3 w3 with ⟨stop,qn⟩ | ⟨go,N,hN,step⟩
 ·refine wpAny_passesOwn hp (thn (T.done X rfl rfl rfl hc i pins s3 σ3 H3 X.xe I3 (stat fr3) st3 stop) fun r s4 ⟨hr,I4⟩=>?_)
  subst hr
  exact wpAny_execs_nil ⟨σ3,H3,I4,qn⟩
 ·refine wpAny_passesOwn hp (thn (T.item X rfl rfl rfl hc i pins s3 σ3 H3 X.xe I3 (stat fr3) st3 go) fun r s4 ⟨u,hr,h4⟩=>?_)
  subst hr
  refine wpAny_passesOwn hp (thn h4 fun _ s5 ⟨x,H5,I5,r5,y5,st5,fr5⟩=>?_)
  have I5':=I5.pinned (stat fr5) (T.obj _ _ st5)
  refine wpAny_passesOwn hp (thn (hg _ s5 σ3 H5 x u _ I5' r5 (step x H5 y5)) fun _ s6 ⟨σ6,H6,I6,q6⟩=>?_)
  refine wpAny_passesOwn hp (thn (hb _ s6 σ6 H6 _ I6 q6) fun f s7 q7=>?_)
  have again:∀ {σ7:St} {H7:Hp},Inv X (pins++pinsAt fp s5.heap) σ7 H7 s7->N σ7 H7->∃ m,m<n/\∃ i σ' H',Inv X pins σ' H' s7/\tn i s7.heap/\(∀ b∈fp,H' b=none)/\W i m σ' H':=fun {σ7 H7} I7 n7=>by
   obtain⟨m',hm,w7⟩:=hN σ7 H7 n7
   refine⟨m',hm,i+1,σ7,H7,I7.unpinned,T.keep _ _ _ st5 fun b hb o e=>(I7.pin (b,o) (List.mem_append_right _ (List.mem_append_right _ (Vb hb e)))).1,fun b hb=>?_,w7⟩
   obtain⟨o,e,d⟩:=T.obj _ _ st5 b hb
   exact (I7.pin (b,o) (List.mem_append_right _ (List.mem_append_right _ (Vb hb e)))).2.1
  cases f with
  | next=>obtain⟨σ7,H7,I7,n7⟩:=q7;exact again I7 n7
  | cont=>obtain⟨σ7,H7,I7,n7⟩:=q7;exact again I7 n7
  | brk=>obtain⟨σ7,H7,I7,q7⟩:=q7;exact⟨σ7,H7,I7.unpinned,q7⟩
  | ret v=>obtain⟨x7,σ7,H7,I7,r7,q7⟩:=q7;exact⟨x7,σ7,H7,I7.unpinned,r7,q7⟩
end
theorem Vu {K:W.Frag}{a:Addr}{xs:List V}{g:TG}{tb:TS}{D:Ends}{σ:St}{H:Hp}(Pv:Nat->St->Hp->Prop)(h0:Pv 0 σ H)(hl:∀ i σ H,i<=xs.length->Pv i σ H->SqL K H a xs)
  (hs:∀ i x σ H,xs[i]?=some x->Pv i σ H->g x σ H fun σ2 H2=>tb { D with nx:=Pv (i+1),ct:=Pv (i+1),bk:=D.nx } σ2 H2) (hd:∀ σ H,Pv xs.length σ H->D.nx σ H) :
  ∃ W:Nat->Nat->St->Hp->Prop,(∃ m,W 0 m σ H)/\∀ i m σ H,W i m σ H →
   ((Itl K a).stop i H/\D.nx σ H) \/ ((Itl K a).go i H/\∃ N:St->Hp->Prop,(∀ σ' H',N σ' H'->∃ m',m'<m/\W (i+1) m' σ' H')/\∀ x H',(Itl K a).yld i H x H'->g x σ H' fun σ2 H2=>tb { D with nx:=N,ct:=N,bk:=D.nx } σ2 H2):=by
 refine⟨fun i m σ H=>m=xs.length - i/\i<=xs.length/\Pv i σ H,⟨xs.length,by simp,Nat.zero_le _,h0⟩,?_⟩
 rintro i m σ H ⟨rfl,hi,p⟩
 have q:=hl i σ H hi p
 by_cases hlt:i<xs.length
 ·refine .inr ⟨⟨xs,xs[i],q,by simp[hlt]⟩,Pv (i+1),fun σ' H' p'=>⟨xs.length - (i+1),by omega,rfl,hlt,p'⟩,fun x H' y=>?_⟩
  obtain⟨e,y⟩:=y
  subst e
  exact hs i x σ _ (y xs q) p
 ·have e:i=xs.length:=by omega
  subst e
  exact .inl ⟨⟨xs,q,Nat.le_refl _⟩,hd σ H p⟩
theorem Z1g {K:W.Frag}{a:Addr}{xs:List V}{g:TG}{tb:TS}{D:Ends}{σ:St}{H:Hp}(Pv:Nat->St->Hp->Prop)(h0:Pv 0 σ H)(hl:∀ i σ H,i<=xs.length->Pv i σ H->SqT K H a xs)
  (hs:∀ i x σ H,xs[i]?=some x->Pv i σ H->g x σ H fun σ2 H2=>tb { D with nx:=Pv (i+1),ct:=Pv (i+1),bk:=D.nx } σ2 H2) (hd:∀ σ H,Pv xs.length σ H->D.nx σ H) :
  ∃ W:Nat->Nat->St->Hp->Prop,(∃ m,W 0 m σ H)/\∀ i m σ H,W i m σ H →
   ((Itt K a).stop i H/\D.nx σ H) \/ ((Itt K a).go i H/\∃ N:St->Hp->Prop,(∀ σ' H',N σ' H'->∃ m',m'<m/\W (i+1) m' σ' H')/\∀ x H',(Itt K a).yld i H x H'->g x σ H' fun σ2 H2=>tb { D with nx:=N,ct:=N,bk:=D.nx } σ2 H2):=by
 refine⟨fun i m σ H=>m=xs.length - i/\i<=xs.length/\Pv i σ H,⟨xs.length,by simp,Nat.zero_le _,h0⟩,?_⟩
 rintro i m σ H ⟨rfl,hi,p⟩
 have q:=hl i σ H hi p
 by_cases hlt:i<xs.length
 ·refine .inr ⟨⟨xs,xs[i],q,by simp[hlt]⟩,Pv (i+1),fun σ' H' p'=>⟨xs.length - (i+1),by omega,rfl,hlt,p'⟩,fun x H' y=>?_⟩
  obtain⟨e,y⟩:=y
  subst e
  exact hs i x σ _ (y xs q) p
 ·have e:i=xs.length:=by omega
  subst e
  exact .inl ⟨⟨xs,q,Nat.le_refl _⟩,hd σ H p⟩
theorem V1 {lo:Int}{n:Nat}{g:TG}{tb:TS}{D:Ends}{σ:St}{H:Hp}(Pv:Nat->St->Hp->Prop)(h0:Pv 0 σ H)
  (hs:∀ i σ H,i<n->Pv i σ H->g (.int (lo+i)) σ H fun σ2 H2=>tb { D with nx:=Pv (i+1),ct:=Pv (i+1),bk:=D.nx } σ2 H2) (hd:∀ σ H,Pv n σ H->D.nx σ H) :
  ∃ W:Nat->Nat->St->Hp->Prop,(∃ m,W 0 m σ H)/\∀ i m σ H,W i m σ H →
   ((Itr lo n).stop i H/\D.nx σ H) \/ ((Itr lo n).go i H/\∃ N:St->Hp->Prop,(∀ σ' H',N σ' H'->∃ m',m'<m/\W (i+1) m' σ' H')/\∀ x H',(Itr lo n).yld i H x H'->g x σ H' fun σ2 H2=>tb { D with nx:=N,ct:=N,bk:=D.nx } σ2 H2):=by
 refine⟨fun i m σ H=>m=n - i/\i<=n/\Pv i σ H,⟨n,by simp,Nat.zero_le _,h0⟩,?_⟩
 rintro i m σ H ⟨rfl,hi,p⟩
 by_cases hlt:i<n
 ·refine .inr ⟨hlt,Pv (i+1),fun σ' H' p'=>⟨n - (i+1),by omega,rfl,hlt,p'⟩,fun x H' y=>?_⟩
  obtain⟨e,y⟩:=y
  subst e y
  exact hs i σ _ hlt p
 ·have e:i=n:=by omega
  subst e
  exact .inl ⟨Nat.le_refl _,hd σ H p⟩
theorem Nj {c:TT}{tb:TS}{D:Ends}{σ:St}{H:Hp}(Pv:St->Hp->Prop)(μ:St->Hp->Nat)(h0:Pv σ H)
  (hs:∀ σ H,Pv σ H->c σ H fun b H1=>if b=true then tb { D with nx:=fun σ' H'=>Pv σ' H'/\μ σ' H'<μ σ H,ct:=fun σ' H'=>Pv σ' H'/\μ σ' H'<μ σ H,bk:=D.nx } σ H1 else D.nx σ H1)
  (mono:∀ σ H Q Q',(∀ b H1,Q b H1->Q' b H1)->c σ H Q->c σ H Q'):tWhile c tb D σ H:=by
 refine⟨fun m σ H=>m=μ σ H/\Pv σ H,⟨_,rfl,h0⟩,?_⟩
 rintro m σ H ⟨rfl,p⟩
 refine mono σ H _ _ (fun b H1 q=>?_) (hs σ H p)
 cases b with
 | true=>exact⟨_,fun σ' H' ⟨p',l⟩=>⟨_,l,rfl,p'⟩,q⟩
 | false=>exact q
end L2
namespace L2
open PySem PySem.Spec PyProof.Rows
abbrev R2:=V->V->Hp->VK->Prop
def OpR (X:Cx)(f:Value->Value->Sem Value)(r:R2):Prop :=
 ∀ (pins:List (Addr × Obj)) (s:Shared) (σ:St) (H:Hp) (x y:V) (v u:Value) (Q:VK),Inv X pins σ H s->RelV x v->RelV y u->r x y H Q →
  wpAny (model X.prog X.w) X.A (f v u) (EP X pins σ Q) X.xe s
def UnR (X:Cx)(f:Value->Sem Value)(r:V->Hp->VK->Prop):Prop :=
 ∀ (pins:List (Addr × Obj)) (s:Shared) (σ:St) (H:Hp) (x:V) (v:Value) (Q:VK),Inv X pins σ H s->RelV x v->r x H Q →
  wpAny (model X.prog X.w) X.A (f v) (EP X pins σ Q) X.xe s
def CallR (X:Cx)(f:Value)(r:List V->Hp->VK->Prop):Prop :=
 ∀ (pins:List (Addr × Obj)) (s:Shared) (σ:St) (H:Hp) (xs:List V) (us:List Value) (Q:VK),Inv X pins σ H s->Vals xs us->r xs H Q →
  wpAny (model X.prog X.w) X.A (call f us) (EP X pins σ Q) X.xe s
def TruR (X:Cx)(r:V->Hp->(Bool->Hp->Prop)->Prop):Prop :=
 ∀ (pins:List (Addr × Obj)) (s:Shared) (σ:St) (H:Hp) (x:V) (v:Value) (Q:Bool->Hp->Prop),Inv X pins σ H s->RelV x v->r x H Q →
  wpAny (model X.prog X.w) X.A (truthy v) (TP X pins σ Q) X.xe s
def tOp (r:R2)(ta tb:TE):TE:=fun σ H Q=>ta σ H fun x H1=>tb σ H1 fun y H2=>r x y H2 Q
def tUn (r:V->Hp->VK->Prop)(ta:TE):TE:=fun σ H Q=>ta σ H fun x H1=>r x H1 Q
def rI (C:Int->Int->Prop)(g:Int->Int->V):R2:=fun x y H Q=>∃ i j,x=.int i/\y=.int j/\C i j/\Q (g i j) H
def rI0 (g:Int->Int->V):R2:=fun x y H Q=>∃ i j,x=.int i/\y=.int j/\Q (g i j) H
def rU (g:Int->V):V->Hp->VK->Prop:=fun x H Q=>∃ i,x=.int i/\Q (g i) H
section
variable {X:Cx}{a b c:Expr}{ta tb tc:TE}{pos:Pos}
theorem Z37 (ha:PE X a ta)(hb:PE X b tb){pins:List (Addr × Obj)}{s:Shared}{σ:St}{H:Hp}{R:V->V->Hp->Prop}(I:Inv X pins σ H s)
  (h:ta σ H fun x H1=>tb σ H1 fun y H2=>R x y H2) {Q:Value->Shared->Prop} {f:Value->Value->Sem Value}
  (hf:∀ v u s2 x y H2,Inv X pins σ H2 s2->RelV x v->RelV y u->R x y H2->wpAny (model X.prog X.w) X.A (f v u) Q X.xe s2) :
  wpAny (model X.prog X.w) X.A (eval a X.env) (fun v s₁=>wpAny (model X.prog X.w) X.A (eval b X.env) (fun u s₂=>wpAny (model X.prog X.w) X.A (f v u) Q X.xe s₂) X.xe s₁) X.xe s:=by
 refine thn (ha pins s σ H _ I h) fun v s1 ⟨x,H1,I1,r1,q1⟩=>?_
 refine thn (hb pins s1 σ H1 _ I1 q1) fun u s2 ⟨y,H2,I2,r2,q2⟩=>?_
 exact hf v u s2 x y H2 I2 r1 r2 q2
theorem Zh {op:Operator}{r:R2}(ho:OpR X (binaryOp op) r)(ha:PE X a ta)(hb:PE X b tb):PE X (.BinOp a op b pos) (tOp r ta tb):=by
 intro pins s σ H Q I h
 exact wpAny_BinOp (Z37 ha hb I h fun v u s2 x y H2 I2 rx ry q=>ho pins s2 σ H2 x y v u Q I2 rx ry q)
theorem Vj {op:UnaryOp}{r:V->Hp->VK->Prop}(ho:UnR X (unaryOp op) r)(ha:PE X a ta):PE X (.UnaryOp op a pos) (tUn r ta):=by
 intro pins s σ H Q I h
 exact UnaryOp_ (thn (ha pins s σ H _ I h) fun v s1 ⟨x,H1,I1,r1,q1⟩=>ho pins s1 σ H1 x v Q I1 r1 q1)
theorem opI {f:Value->Value->Sem Value}{C:Int->Int->Prop}{g:Int->Int->Int}
  (rule:∀ (i j:Int) (t u:Tok) (s:Shared) (Q:Value->Shared->Prop) (E:Value->Shared->Prop),C i j->Q (.int (g i j) s.toks) { s with toks:=s.toks+1 }->wpAny (model X.prog X.w) X.A (f (.int i t) (.int j u)) Q E s) :
  OpR X f (rI C fun i j=>.int (g i j)):=by
 intro pins s σ H x y v u Q I rx ry h
 obtain⟨i,j,rfl,rfl,hc,q⟩:=h
 obtain⟨t,rfl⟩:=rx
 obtain⟨t',rfl⟩:=ry
 exact rule i j t t' s _ _ hc ⟨.int (g i j),H,I.tok _,⟨_,rfl⟩,q⟩
theorem Z3f {f:Value->Value->Sem Value}{g:Int->Int->Int}
  (rule:∀ (i j:Int) (t u:Tok) (s:Shared) (Q:Value->Shared->Prop) (E:Value->Shared->Prop),Q (.int (g i j) s.toks) { s with toks:=s.toks+1 }->wpAny (model X.prog X.w) X.A (f (.int i t) (.int j u)) Q E s) :
  OpR X f (rI0 fun i j=>.int (g i j)):=by
 intro pins s σ H x y v u Q I rx ry h
 obtain⟨i,j,rfl,rfl,q⟩:=h
 obtain⟨t,rfl⟩:=rx
 obtain⟨t',rfl⟩:=ry
 exact rule i j t t' s _ _ ⟨.int (g i j),H,I.tok _,⟨_,rfl⟩,q⟩
theorem Z0j {f:Value->Value->Sem Value}{g:Int->Int->Bool}
  (rule:∀ (i j:Int) (t u:Tok) (s:Shared) (Q:Value->Shared->Prop) (E:Value->Shared->Prop),Q (.bool (g i j)) s->wpAny (model X.prog X.w) X.A (f (.int i t) (.int j u)) Q E s) :
  OpR X f (rI0 fun i j=>.bl (g i j)):=by
 intro pins s σ H x y v u Q I rx ry h
 obtain⟨i,j,rfl,rfl,q⟩:=h
 obtain⟨t,rfl⟩:=rx
 obtain⟨t',rfl⟩:=ry
 exact rule i j t t' s _ _ ⟨.bl (g i j),H,I,rfl,q⟩
def CPow (i j:Int):Prop:=0<=j/\j<=1000000/\i.natAbs<2 ^ 64
def CMul (i j:Int):Prop:=(-(2 ^ 64)<i/\i<2 ^ 64) \/ (-(2 ^ 64)<j/\j<2 ^ 64)
theorem Yu:OpR X (binaryOp .Add) (rI0 fun i j=>.int (i+j)):=Z3f fun _ _ _ _ _ _ _ q=>add_int q
theorem Vn:OpR X (binaryOp .Sub) (rI0 fun i j=>.int (i - j)):=Z3f fun _ _ _ _ _ _ _ q=>sub_int q
theorem Wh:OpR X (binaryOp .Mod) (rI (fun _ j=>0<j) fun i j=>.int (i % j)):=opI fun i j _ _ _ _ _ hc q=>by
 have h1:(0:Int)<j:=hc
 exact mod_int' (by omega) (by rw[Int.fmod_eq_emod_of_nonneg i (by omega)];exact q)
theorem Z0i:OpR X (binaryOp .Mod) (rI (fun _ j=>j≠0) fun i j=>.int (i.fmod j)):=opI fun _ _ _ _ _ _ _ hc q=>mod_int' hc q
theorem Pt:OpR X (binaryOp .Pow) (rI CPow fun i j=>.int (i ^ j.toNat)):=opI fun _ _ _ _ _ _ _ hc q=>pow_int_small hc.1 hc.2.1 hc.2.2 q
theorem unI {f:Value->Sem Value}{g:Int->Int}
  (rule:∀ (i:Int) (t:Tok) (s:Shared) (Q:Value->Shared->Prop) (E:Value->Shared->Prop),Q (.int (g i) s.toks) { s with toks:=s.toks+1 }->wpAny (model X.prog X.w) X.A (f (.int i t)) Q E s) :
  UnR X f (rU fun i=>.int (g i)):=by
 intro pins s σ H x v Q I rx h
 obtain⟨i,rfl,q⟩:=h
 obtain⟨t,rfl⟩:=rx
 exact rule i t s _ _ ⟨.int (g i),H,I.tok _,⟨_,rfl⟩,q⟩
theorem Xz:UnR X (unaryOp .USub) (rU fun i=>.int (-i)):=unI fun _ _ _ _ _ q=>neg_int q
end
def scal:V->V->Bool
 | .non,.non=>true | .non,.int _=>true | .int _,.non=>true | .non,.bl _=>true | .bl _,.non=>true | .non,.str _=>true | .str _,.non=>true
 | .int _,.int _=>true | .bl _,.bl _=>true | .str _,.str _=>true | .byt _,.byt _=>true
 | .int _,.str _=>true | .str _,.int _=>true | .bl _,.str _=>true | .str _,.bl _=>true
 | _,_=>false
def rEq:R2:=fun x y H Q=>scal x y=true/\Q (.bl (decide (x=y))) H
def rNe:R2:=fun x y H Q=>scal x y=true/\Q (.bl (!decide (x=y))) H
theorem Jm {i j:Int}:decide (V.int i=V.int j)=(i == j):=by
 rw[Bool.eq_iff_iff]
 simp
theorem Z01 {i j:Bool}:decide (V.bl i=V.bl j)=(i == j):=by
 rw[Bool.eq_iff_iff]
 simp
theorem Jl {i j:Str}:decide (V.str i=V.str j)=(i == j):=by
 rw[Bool.eq_iff_iff]
 simp
theorem Jn {i j:Array UInt8}:decide (V.byt i=V.byt j)=(i.toList == j.toList):=by
 rw[Bool.eq_iff_iff]
 cases i
 cases j
 simp
section
variable {X:Cx}{a b c:Expr}{ta tb tc:TE}{pos:Pos}
theorem Ya {pins:List (Addr × Obj)}{σ:St}{H:Hp}{s:Shared}{Q:VK}{k k':Bool}(I:Inv X pins σ H s)(q:Q (.bl k) H)(e:k=k'):EP X pins σ Q (.bool k') s:=by
 subst e
 exact⟨.bl k,H,I,rfl,q⟩
theorem Xu:OpR X (compareOp .Eq) rEq:=by
 intro pins s σ H x y v u Q I rx ry h
 obtain⟨hs,q⟩:=h
 cases x with
 | non =>
  cases rx
  cases y with
  | non=>cases ry;exact PySem.EqNone.eq_none_none (Ya I q (by simp))
  | bl j=>cases ry;exact PySem.EqNone.eq_none_bool (Ya I q (by simp))
  | int j=>obtain⟨t',rfl⟩:=ry;exact PySem.EqNone.eq_none_int (Ya I q (by simp))
  | str j=>obtain⟨t',rfl⟩:=ry;exact PySem.EqNone.eq_none_str (Ya I q (by simp))
  | _=>exact absurd (show false=true from hs) Bool.false_ne_true
 | bl i =>
  cases rx
  cases y with
  | non=>cases ry;exact PySem.EqNone.eq_bool_none (Ya I q (by simp))
  | bl j=>cases ry;exact eq_bool (Ya I q Z01)
  | str j=>obtain⟨t',rfl⟩:=ry;exact PySem.EqMixed.eq_bool_str (Ya I q (by simp))
  | _=>exact absurd (show false=true from hs) Bool.false_ne_true
 | int i =>
  obtain⟨t,rfl⟩:=rx
  cases y with
  | non=>cases ry;exact PySem.EqNone.eq_int_none (Ya I q (by simp))
  | int j=>obtain⟨t',rfl⟩:=ry;exact eq_int (Ya I q Jm)
  | str j=>obtain⟨t',rfl⟩:=ry;exact PySem.EqMixed.eq_int_str (Ya I q (by simp))
  | _=>exact absurd (show false=true from hs) Bool.false_ne_true
 | str i =>
  obtain⟨t,rfl⟩:=rx
  cases y with
  | non=>cases ry;exact PySem.EqNone.eq_str_none (Ya I q (by simp))
  | bl j=>cases ry;exact PySem.EqMixed.eq_str_bool (Ya I q (by simp))
  | int j=>obtain⟨t',rfl⟩:=ry;exact PySem.EqMixed.eq_str_int (Ya I q (by simp))
  | str j=>obtain⟨t',rfl⟩:=ry;exact eq_str (Ya I q Jl)
  | _=>exact absurd (show false=true from hs) Bool.false_ne_true
 | byt i =>
  obtain⟨t,rfl⟩:=rx
  cases y with
  | byt j=>obtain⟨t',rfl⟩:=ry;exact W.eq_bytes (Ya I q Jn)
  | _=>exact absurd (show false=true from hs) Bool.false_ne_true
 | _=>cases y <;> exact absurd (show false=true from hs) Bool.false_ne_true
theorem J8:OpR X (compareOp .NotEq) rNe:=by
 intro pins s σ H x y v u Q I rx ry h
 obtain⟨hs,q⟩:=h
 cases x with
 | non =>
  cases rx
  cases y with
  | non=>cases ry;exact PySem.EqNone.ne_none_none (Ya I q (by simp))
  | bl j=>cases ry;exact PySem.EqNone.ne_none_bool (Ya I q (by simp))
  | int j=>obtain⟨t',rfl⟩:=ry;exact PySem.EqNone.ne_none_int (Ya I q (by simp))
  | str j=>obtain⟨t',rfl⟩:=ry;exact PySem.EqNone.ne_none_str (Ya I q (by simp))
  | _=>exact absurd (show false=true from hs) Bool.false_ne_true
 | bl i =>
  cases rx
  cases y with
  | non=>cases ry;exact PySem.EqNone.ne_bool_none (Ya I q (by simp))
  | bl j=>cases ry;exact ne_bool (Ya I q (congrArg not Z01))
  | str j=>obtain⟨t',rfl⟩:=ry;exact PySem.EqMixed.ne_bool_str (Ya I q (by simp))
  | _=>exact absurd (show false=true from hs) Bool.false_ne_true
 | int i =>
  obtain⟨t,rfl⟩:=rx
  cases y with
  | non=>cases ry;exact PySem.EqNone.ne_int_none (Ya I q (by simp))
  | int j=>obtain⟨t',rfl⟩:=ry;exact ne_int (Ya I q (congrArg not Jm))
  | str j=>obtain⟨t',rfl⟩:=ry;exact PySem.EqMixed.ne_int_str (Ya I q (by simp))
  | _=>exact absurd (show false=true from hs) Bool.false_ne_true
 | str i =>
  obtain⟨t,rfl⟩:=rx
  cases y with
  | non=>cases ry;exact PySem.EqNone.ne_str_none (Ya I q (by simp))
  | bl j=>cases ry;exact PySem.EqMixed.ne_str_bool (Ya I q (by simp))
  | int j=>obtain⟨t',rfl⟩:=ry;exact PySem.EqMixed.ne_str_int (Ya I q (by simp))
  | str j=>obtain⟨t',rfl⟩:=ry;exact ne_str (Ya I q (congrArg not Jl))
  | _=>exact absurd (show false=true from hs) Bool.false_ne_true
 | byt i =>
  obtain⟨t,rfl⟩:=rx
  cases y with
  | byt j=>obtain⟨t',rfl⟩:=ry;exact W.ne_bytes (Ya I q (congrArg not Jn))
  | _=>exact absurd (show false=true from hs) Bool.false_ne_true
 | _=>cases y <;> exact absurd (show false=true from hs) Bool.false_ne_true
theorem Ut:OpR X (compareOp .Lt) (rI0 fun i j=>.bl (decide (i<j))):=Z0j fun _ _ _ _ _ _ _ q=>lt_int q
theorem Z22:OpR X (compareOp .LtE) (rI0 fun i j=>.bl (decide (i<=j))):=Z0j fun _ _ _ _ _ _ _ q=>le_int q
theorem J9:OpR X (compareOp .Gt) (rI0 fun i j=>.bl (decide (j<i))):=Z0j fun _ _ _ _ _ _ _ q=>gt_int q
theorem Z3e:OpR X (compareOp .GtE) (rI0 fun i j=>.bl (decide (j<=i))):=Z0j fun _ _ _ _ _ _ _ q=>ge_int q
theorem Pw:OpR X (compareOp .Is) (fun x y H Q=>y=.non/\Q (.bl (decide (x=.non))) H):=by
 intro pins s σ H x y v u Q I rx ry h
 obtain⟨rfl,q⟩:=h
 cases ry
 refine is_none_gen (Ya I q ?_)
 cases x <;> first
  | (cases rx;rfl)
  | (obtain⟨t,rfl⟩:=rx;rfl)
theorem So:OpR X (compareOp .IsNot) (fun x y H Q=>y=.non/\Q (.bl (!decide (x=.non))) H):=by
 intro pins s σ H x y v u Q I rx ry h
 obtain⟨rfl,q⟩:=h
 cases ry
 refine isnot_none_gen (Ya I q ?_)
 cases x <;> first
  | (cases rx;rfl)
  | (obtain⟨t,rfl⟩:=rx;rfl)
theorem Zp (b:Expr){op:CmpOp}(h:op≠.In:=by decide)(h2:op≠.NotIn:=by decide):behindInMarks op b=false:=by
 have e1:(op == CmpOp.In)=false:=by cases op <;> first | rfl | exact absurd rfl h
 have e2:(op == CmpOp.NotIn)=false:=by cases op <;> first | rfl | exact absurd rfl h2
 cases b <;> simp[behindInMarks,e1,e2]
theorem U1 {op:CmpOp}{r:R2}(ho:OpR X (compareOp op) r)(ha:PE X a ta)(hb:PE X b tb)(hm:behindInMarks op b=false):PE X (.Compare a [op] [b] pos) (tOp r ta tb):=by
 intro pins s σ H Q I h
 exact wpAny_Compare1 (Z37 ha hb I h fun v u s2 x y H2 I2 rx ry q=>ho pins s2 σ H2 x y v u Q I2 rx ry q) hm
def tTest (t:TE):TT:=fun σ H Q=>t σ H fun x H'=>∃ k,x=.bl k/\Q k H'
theorem Zi {op:CmpOp}{r:R2}(ho:OpR X (compareOp op) r)(ha:PE X a ta)(hb:PE X b tb)(hm:behindInMarks op b=false):PT X (.Compare a [op] [b] pos) (tTest (tOp r ta tb)):=by
 intro pins s σ H Q I h
 refine wpAny_isTrue_Compare1 (thn (ha pins s σ H _ I h) fun v s1 ⟨x,H1,I1,r1,q1⟩=>thn (hb pins s1 σ H1 _ I1 q1) fun u s2 ⟨y,H2,I2,r2,q2⟩ =>
  thn (ho pins s2 σ H2 x y v u _ I2 r1 r2 q2) fun c s3 ⟨z,H3,I3,r3,k,e,q3⟩=>?_) hm
 subst e
 cases r3
 exact wpAny_truthy_bool ⟨H3,I3,q3⟩
def TruV (K:W.Frag)(x:V)(H:Hp)(k:Bool):Prop :=
 match x with
 | .non=>k=false
 | .bl b=>k=b
 | .int i=>k=(i != 0)
 | .str y=>y.length<=sizeLine/\k=((y.length:Int) != 0)
 | .byt y=>y.size<=sizeLine/\k=((y.size:Int) != 0)
 | .ref p=>(∃ xs,SqL K H p xs/\k=!xs.isEmpty) \/ (∃ xs,SqT K H p xs/\k=!xs.isEmpty) \/ ∃ kvs,H p=some (.dK kvs)/\k=!kvs.isEmpty
 | _=>False
theorem K4 {κ:Type}{kvs:List (κ × V)}{vs:List (κ × Value)}(r:KV kvs vs):(!vs.isEmpty)=!kvs.isEmpty:=by
 cases r <;> rfl
theorem Ry {xs:List V}{its:List Value}(r:Vals xs its):(!its.toArray.isEmpty)=!xs.isEmpty:=by
 cases r <;> simp
theorem Ru:(sizeLine:Nat)<2 ^ 63:=by rw[sizeLine_eq];decide
theorem Z29:TruR X (fun x H Q=>∃ k,TruV X.K x H k/\Q k H):=by
 intro pins s σ H x v Q I rx h
 obtain⟨k,e,q⟩:=h
 have hl:=Ru
 have hs:sizeLine=16777216:=sizeLine_eq
 cases x with
 | non =>
  cases rx
  have e':k=false:=e
  subst e'
  exact truthy_none ⟨H,I,q⟩
 | bl b =>
  cases rx
  have e':k=b:=e
  subst e'
  exact wpAny_truthy_bool ⟨H,I,q⟩
 | int i =>
  obtain⟨t,rfl⟩:=rx
  have e':k=(i != 0):=e
  subst e'
  exact PySem.P.truthy_int ⟨H,I,q⟩
 | str y =>
  obtain⟨t,rfl⟩:=rx
  obtain⟨hy,e'⟩:y.length<=sizeLine/\k=((y.length:Int) != 0):=e
  subst e'
  exact PySem.P.truthy_str (by omega) ⟨H,I.tok _,q⟩
 | byt y =>
  obtain⟨t,rfl⟩:=rx
  obtain⟨hy,e'⟩:y.size<=sizeLine/\k=((y.size:Int) != 0):=e
  subst e'
  exact W.truthy_bytes (by omega) ⟨H,I.tok _,q⟩
 | ref p =>
  cases rx
  have e':(∃ xs,SqL X.K H p xs/\k=!xs.isEmpty) \/ (∃ xs,SqT X.K H p xs/\k=!xs.isEmpty) \/ ∃ kvs,H p=some (.dK kvs)/\k=!kvs.isEmpty:=e
  rcases e' with ⟨xs,hx,e'⟩ | ⟨xs,hx,e'⟩ | ⟨kvs,hx,e'⟩
  ·subst e'
   obtain⟨its,r,pl,hz⟩:=I.list hx
   have hlen:=r.length
   exact wpAny_truthy_list pl.isList (by simp only [List.size_toArray];omega) ⟨H,I.tok _,by rw[Ry r];exact q⟩
  ·subst e'
   obtain⟨its,r,pl,hz⟩:=I.tuple hx
   have hlen:=r.length
   exact truthy_tuple pl (by simp only [List.size_toArray];omega) ⟨H,I.tok _,by rw[Ry r];exact q⟩
  ·subst e'
   obtain⟨hz,hS,vs,r,m⟩:kvs.length<=sizeLine/\(p == sysModules)=false/\∃ vs,KV kvs vs/\s.heap.DictOf (mixKind X.prog X.w) p vs:=I.hok p _ hx
   have hlen:kvs.length=vs.length:=Paired.length r
   exact wpAny_truthy_dict hS m (by omega) ⟨H,I.tok _,by rw[K4 r];exact q⟩
 | _=>exact (show False from e).elim
theorem Dx (ha:PE X a ta)(he:∀ whole,isTrue a X.env whole=(do let v ← whole;standAt a.pos;holding [v] (truthy v))) :
  PT X a (fun σ H Q=>ta σ H fun x H'=>∃ k,TruV X.K x H' k/\Q k H'):=by
 intro pins s σ H Q I h
 exact isTrue_plain (thn (ha pins s σ H _ I h) fun v s1 ⟨x,H1,I1,r1,q1⟩=>Z29 pins s1 σ H1 x v Q I1 r1 q1) (he _)
theorem Uh {x:V}{us:List Value}(r:Vals [x] us):∃ u,us=[u]/\RelV x u:=by
 cases r with
 | cons r1 r2=>cases r2;exact⟨_,rfl,r1⟩
theorem Nk {x y:V}{us:List Value}(r:Vals [x,y] us):∃ u w',us=[u,w']/\RelV x u/\RelV y w':=by
 cases r with
 | cons r1 r2 =>
  cases r2 with
  | cons r3 r4=>cases r4;exact⟨_,_,rfl,r1,r3⟩
theorem Mx:CallR X (.builtin "abs") (fun xs H Q=>∃ i,xs=[.int i]/\Q (.int (if i<0 then -i else i)) H):=by
 intro pins s σ H xs us Q I r h
 obtain⟨i,rfl,q⟩:=h
 obtain⟨u,rfl,t,rfl⟩:=Uh r
 exact call_abs_int fun u tk=>⟨.int (if i<0 then -i else i),H,I.tok _,⟨_,rfl⟩,q⟩
end
end L2
namespace L2
open PySem PySem.Spec PyProof.Rows
structure ObjM (h:Heap)(x dx C:Addr)(mA:Str->Option Value):Prop where
 obj:h.get? x=some (W.instObj C dx)
 ns:h.Ns1 dx mA
 ne:dx≠x
theorem F8 {h:Heap}{dx:Addr}{mA:Str->Option Value}(n:h.Ns1 dx mA):∃ od,h.get? dx=some od/\∀ name,W.lookIn name od=some (mA name):=by
 obtain⟨o,es,ep,ho,hd,hk,_,hm⟩:=n
 refine⟨o,ho,fun name=>?_⟩
 have e:=hm name
 unfold nsFind findBy at e
 rw[← Array.find?_toList] at e
 unfold W.lookIn
 rw[hd]
 dsimp only
 split
 ·rename_i y q
  rw[q] at e
  exact congrArg some e
 ·rename_i q
  rw[q] at e
  have a:es.toList.any (·.refKey)=false:=by
   rw[List.any_eq_false]
   intro y hy
   obtain⟨z,t,hkey⟩:=hk y (Array.mem_toList_iff.mp hy)
   simp[DictEntry.refKey,hkey]
  have a':¬ es.toList.any (·.refKey)=true:=by rw[a];exact Bool.false_ne_true
  rw[if_neg a']
  exact congrArg some e
theorem ObjM.look {h:Heap}{x dx C:Addr}{mA:Str->Option Value}(I:ObjM h x dx C mA):∃ od,W.InstAt h x (W.instObj C dx) C (some od)/\∀ name,W.lookIn name od=some (mA name) :=
 let ⟨od,ho,hl⟩:=F8 I.ns
 ⟨od,⟨I.obj,rfl,rfl,ho⟩,hl⟩
section
variable {prog:Program}{w:World}{A:Around}{E:Value->Shared->Prop}{s:Shared}{K:W.Frag}{x dx C f:Addr}{mA:Str->Option Value}{name:Str}{v:Value}
theorem Z1f {expr:Bool}{Q:Value->Shared->Prop}(X:K.In s.heap)(I:ObjM s.heap x dx C mA)(hg:W.plainGet K C name=true)(hh:W.hasDictIn K C=true)
  (ha:W.findIn K (.ref C) name=some none) (hv:mA name=some v) (hv':W.handedIn v=true) (h:Q v { s with toks:=s.toks+1 }) :
  wpAny (model prog w) A (getAttr (.ref x) name expr) Q E s:=by
 obtain⟨od,J,hl⟩:=I.look
 exact W.get_value X J (W.plainGet_of hg).1 (W.findObj_own hh ha rfl (by rw[hl,hv])) hv' h
theorem Z07 {ns:List Str}{Q:Unit->Shared->Prop}(X:K.In s.heap)(I:ObjM s.heap x dx C mA)
  (hs:W.findIn K (.ref C) "__setattr__"=some (some (.builtin "object.__setattr__"))) (hp:W.plainOver K C=true) (ht:W.takerIn K C name=some none) (hh:W.hasDictIn K C=true)
  (hw:PySem.Within mA ns) (hsz:ns.length<=sizeLine)
  (h:∀ h',ObjM h' x dx C (fun y=>if y=name then some v else mA y)->Heap.SameBut dx s.heap h'->Q () { s with heap:=h',toks:=s.toks+2 }) :
  wpAny (model prog w) A (setAttr (.ref x) name v) Q E s:=by
 obtain⟨od,J,hl⟩:=I.look
 refine W.set_plain X J hs (W.osa_open (s:={ s with toks:=s.toks+1 }) (r:=none) X J hp ht fun b=>?_)
 obtain⟨cd,hc,hd'⟩:=W.any_some hh
 have hx:s.heap.get? x=some ⟨.ref C,some dx,.plain,#[]⟩:=I.obj
 refine wpAny_bind (wpAny_pure (wpAny_bind (wpAny_bind (wpAny_loadPart hx (wpAny_bind (W.Looks.here (s:={ s with toks:=s.toks+1 }) (W.looks_clsIn X hc) ?_))))))
 rw[hd']
 refine wpAny_pure (a:=some dx) (wpAny_bind (wpAny_pure (wpAny_bind ?_)))
 refine wpAny_nsSet1 (s:={ s with toks:=s.toks+1 }) I.ns fun h' hn2 hs2=>?_
 obtain⟨oD,esD,epD,hoD,hdD,hcD⟩:=hn2.count (PySem.Within.cons name v hw)
 refine wpAny_bind (wpAny_lookBehind hoD (by rw[hdD];exact pastItsLine_dict (Nat.le_trans hcD (by rw[List.length_cons];omega))) ?_)
 exact wpAny_pure (h _ ⟨(hs2.2 _ (Ne.symm I.ne)).trans I.obj,hn2,I.ne⟩ hs2)
theorem Cy {R:Result->Shared->Prop}{vs:List Value}{kw:List (Str × Value)}(X:K.In s.heap)(hm:W.makesIn K C=true)
  (hi:W.findIn K (.ref C) "__init__"=some (some (.ref f))) (hf:W.typeIn K (.ref f)=some (.type "function"))
  (h:codeAny (model prog w) (A.under (.builtin "type.__call__" ⟨.ref C::vs,kw⟩)) (.call (.ref f) ⟨.ref (s.heap.objs.size+1)::vs,kw⟩) (W.InitBack (s.heap.objs.size+1) R)
   { s with heap:=(s.heap.push W.emptyDict).push (W.instObj C s.heap.objs.size) }) :
  codeAny (model prog w) A (.call (.ref C) ⟨vs,kw⟩) R s:=by
 obtain⟨hh,g,d,t,os⟩:=s
 exact W.make_core (W.makes_of X hm) (W.looks_findIn X hi) (fun self=>W.bind_fn X self hf) (.inl rfl) h
end
def putF (f:Str)(v:V):List (Str × V)->List (Str × V)
 | []=>[(f,v)]
 | (g,x)::r=>if g=f then (g,v)::r else (g,x)::putF f v r
theorem Y0 (f g:Str)(v:V):∀ fs:List (Str × V),(putF f v fs).lookup g=if g=f then some v else fs.lookup g
 | []=>by
  show List.lookup g [(f,v)]=_
  by_cases h:g=f
  ·have hb:(g == f)=true:=beq_iff_eq.mpr h
   simp only [List.lookup,hb,if_pos h]
  ·have hb:(g == f)=false:=beq_eq_false_iff_ne.mpr h
   simp only [List.lookup,hb,if_neg h]
 | (k,x)::r=>by
  have ih:=Y0 f g v r
  rw[show putF f v ((k,x)::r)=(if k=f then (k,v)::r else (k,x)::putF f v r) from rfl]
  by_cases hk:k=f
  ·rw[if_pos hk]
   by_cases h:g=k
   ·have hb:(g == k)=true:=beq_iff_eq.mpr h
    simp only [List.lookup,hb,if_pos (h.trans hk)]
   ·have hb:(g == k)=false:=beq_eq_false_iff_ne.mpr h
    simp only [List.lookup,hb,if_neg (fun e:g=f=>h (e.trans hk.symm))]
  ·rw[if_neg hk]
   by_cases h:g=k
   ·have hb:(g == k)=true:=beq_iff_eq.mpr h
    simp only [List.lookup,hb,if_neg (fun e:g=f=>hk (h.symm.trans e))]
   ·have hb:(g == k)=false:=beq_eq_false_iff_ne.mpr h
    simp only [List.lookup,hb]
    exact ih
theorem Tq (f:Str)(v:V):∀ fs:List (Str × V),f∈(putF f v fs).map (·.1)/\∀ g,g∈fs.map (·.1)->g∈(putF f v fs).map (·.1)
 | []=>⟨by simp[putF],fun g h=>by simp at h⟩
 | (k,x)::r=>by
  obtain⟨i1,i2⟩:=Tq f v r
  rw[show putF f v ((k,x)::r)=(if k=f then (k,v)::r else (k,x)::putF f v r) from rfl]
  by_cases hk:k=f
  ·rw[if_pos hk]
   subst hk
   exact⟨by simp,fun g h=>by simpa using h⟩
  ·rw[if_neg hk]
   refine⟨?_,fun g h=>?_⟩
   ·rw[List.map_cons]
    exact List.mem_cons_of_mem _ i1
   ·rw[List.map_cons] at h ⊢
    rcases List.mem_cons.mp h with e | e
    ·exact List.mem_cons.mpr (.inl e)
    ·exact List.mem_cons_of_mem _ (i2 g e)
theorem Tz (f:Str)(v:V):∀ fs:List (Str × V),(putF f v fs).length<=fs.length+1
 | []=>by simp[putF]
 | (k,x)::r=>by
  have ih:=Tz f v r
  rw[show putF f v ((k,x)::r)=(if k=f then (k,v)::r else (k,x)::putF f v r) from rfl]
  by_cases hk:k=f
  ·rw[if_pos hk,List.length_cons,List.length_cons];omega
  ·rw[if_neg hk,List.length_cons,List.length_cons];omega
theorem RelO.some_of {v:V}{o:Option Value}(r:RelO (some v) o):∃ u,o=some u/\RelV v u:=by
 cases o with
 | none=>exact (show False from r).elim
 | some u=>exact⟨u,rfl,r⟩
theorem Qz {v:V}{u:Value}(r:RelV v u):W.handedIn u=true:=by
 cases v with
 | non=>cases (show u=Value.none from r);rfl
 | bl b=>cases (show u=Value.bool b from r);rfl
 | int i=>obtain⟨t,e⟩:=(show ∃ t,u=Value.int i t from r);cases e;rfl
 | str x=>obtain⟨t,e⟩:=(show ∃ t,u=Value.str x t from r);cases e;rfl
 | byt b=>obtain⟨t,e⟩:=(show ∃ t,u=Value.bytes b t from r);cases e;rfl
 | flt b=>obtain⟨t,e⟩:=(show ∃ t,u=Value.float b t from r);cases e;rfl
 | ref a=>cases (show u=Value.ref a from r);rfl
 | ty n=>cases (show u=Value.type n from r);rfl
section
variable {P:Program}{w:World}{H H':Hp}{h h':Heap}{a C dx:Addr}{fs fs':List (Str × V)}
theorem N5 (hok:HOk P w H h)(e:H a=some (.ins C dx fs)):∃ mA,ObjM h a dx C mA/\(∀ f,RelO (fs.lookup f) (mA f))/\PySem.Within mA (fs.map (·.1))/\fs.length<=1000/\H dx=some (.own a):=by
 obtain⟨d,z,ne,ob,mA,n,r,q⟩:=(show ObjOk P w H h a (.ins C dx fs) from hok a _ e)
 exact⟨mA,⟨ob,n,ne⟩,r,q,z,d⟩
end
structure Cls (K:W.Frag)(C:Addr):Prop where
 pg:W.plainGet K C Str.empty=true
 hd:W.hasDictIn K C=true
 po:W.plainOver K C=true
 sa:W.findIn K (.ref C) "__setattr__"=some (some (.builtin "object.__setattr__"))
theorem Cls.get {K:W.Frag}{C:Addr}(c:Cls K C)(f:Str):W.plainGet K C f=true:=c.pg
def NoAttr (K:W.Frag)(C:Addr)(f:Str):Prop:=W.findIn K (.ref C) f=some none
theorem NoAttr.taker {K:W.Frag}{C:Addr}{f:Str}(n:NoAttr K C f):W.takerIn K C f=some none:=by
 unfold W.takerIn
 rw[show W.findIn K (.ref C) f=some none from n]
 rfl
structure Con (K:W.Frag)(C:Addr)(f:Str)(v:V)(u:Value):Prop where
 at_:W.findIn K (.ref C) f=some (some u)
 rel:RelV v u
 get:W.specialIn K u "__get__"=some none
 cp:W.copiedNames.contains f=false
section
variable {X:Cx}{pins:List (Addr × Obj)}{σ:St}{H:Hp}{s:Shared}{a C dx:Addr}{fs:List (Str × V)}{f:Str}{v:V}{A:Around}{E:Value->Shared->Prop}
theorem K5 {b:Bool}{Q:Value->Shared->Prop}(I:Inv X pins σ H s)(e:H a=some (.ins C dx fs))(c:Cls X.K C)(n:NoAttr X.K C f)(l:fs.lookup f=some v)
  (h:∀ u s',Inv X pins σ H s'->RelV v u->Q u s'):wpAny (model X.prog X.w) A (getAttr (.ref a) f b) Q E s:=by
 obtain⟨mA,O,r,_,_,_⟩:=N5 I.hok e
 obtain⟨u,hu,ru⟩:=RelO.some_of (v:=v) (o:=mA f) (by rw[← l];exact r f)
 exact Z1f I.kIn O (c.get f) c.hd n hu (Qz ru) (h u _ (I.tok _) ru)
theorem Le {y:V}{u:Value}{Q:Unit->Shared->Prop}(I:Inv X pins σ H s)(e:H a=some (.ins C dx fs))(c:Cls X.K C)(n:NoAttr X.K C f)(hl:fs.length<1000)(ry:RelV y u)
  (h:∀ s',Inv X pins σ (upd H a (.ins C dx (putF f y fs))) s'->Q () s'):wpAny (model X.prog X.w) A (setAttr (.ref a) f u) Q E s:=by
 obtain⟨mA,O,r,wi,_,ho⟩:=N5 I.hok e
 have hz:(fs.map (·.1)).length<=sizeLine:=by rw[List.length_map,sizeLine_eq];omega
 refine Z07 I.kIn O c.sa c.po n.taker c.hd wi hz fun h' O' sb=>h _ ?_
 have hd:∃ o,h'.get? dx=some o:=let ⟨o,_,_,e',_⟩:=O'.ns;⟨o,e'⟩
 refine I.write (x:=a) (e:=dx) (by rw[e];exact True.intro) (.inr ho) (fun b q hb z=>(sb.2 b hb).trans z) hd ?_
 refine⟨by rw[Zb O.ne];exact ho,?_,O.ne,O'.obj,_,O'.ns,fun g=>?_,fun g hg=>?_⟩
 ·have:=Tz f y fs;omega
 ·show RelO ((putF f y fs).lookup g) (if g=f then some u else mA g)
  rw[Y0]
  by_cases q:g=f
  ·rw[if_pos q,if_pos q];exact ry
  ·rw[if_neg q,if_neg q];exact r g
 ·by_cases q:g=f
  ·rw[q];exact (Tq f y fs).1
  ·refine (Tq f y fs).2 g (wi g fun z=>hg ?_)
   show (if g=f then some u else mA g)=none
   rw[if_neg q];exact z
theorem Inv.made (I:Inv X pins σ H s):Inv X pins σ (upd (upd H s.heap.objs.size (.own (s.heap.objs.size+1))) (s.heap.objs.size+1) (.ins C s.heap.objs.size []))
  { s with heap:=(s.heap.push W.emptyDict).push (W.instObj C s.heap.objs.size) }:=by
 have e1:(s.heap.push W.emptyDict).get? s.heap.objs.size=some W.emptyDict:=Heap.get?_push_size s.heap rfl
 have e2:((s.heap.push W.emptyDict).push (W.instObj C s.heap.objs.size)).get? (s.heap.objs.size+1)=some (W.instObj C s.heap.objs.size):=by
  have:=Heap.get?_push_size (s.heap.push W.emptyDict) (o:=W.instObj C s.heap.objs.size) rfl
  rwa [Heap.size_push] at this
 have e3:(s.heap.push W.emptyDict).Ns s.heap.objs.size (fun _=>none):=⟨W.emptyDict,#[],_,e1,rfl,(fun e he=>absurd he (by simp)),fun _=>rfl⟩
 have I1:=I.laid (a:=s.heap.objs.size) (o:=.own (s.heap.objs.size+1)) (h':=s.heap.push W.emptyDict) (t':=s.toks) (fun b u q=>Heap.get?_push_of_some _ q) (Nat.le_refl _) ⟨_,e1⟩
 refine I1.laid (a:=s.heap.objs.size+1) (o:=.ins C s.heap.objs.size []) (t':=s.toks) (fun b u q=>Heap.get?_push_of_some _ q) (Nat.le_of_eq (Heap.size_push _ _)) ?_
 have ne:s.heap.objs.size≠s.heap.objs.size+1:=Nat.ne_of_lt (Nat.lt_succ_self _)
 refine⟨by rw[Zb ne,Z7],Nat.zero_le _,ne,e2,fun _=>none,(Heap.Ns1.of_empty e3).at fun o q=>Heap.get?_push_of_some _ q,fun _=>True.intro,fun y hy=>absurd rfl hy⟩
theorem Jp {prog:Program}{w:World}{env:Env}{e:Expr}{f:Str}{pos:Pos}{s:Shared}{Q:Value->Shared->Prop}(hb:attributeBase e f env (eval e env)=eval e env)
  (h:wpAny (model prog w) A (eval e env) (fun o s₁=>wpAny (model prog w) A (getAttr o f true) Q E s₁) E s):wpAny (model prog w) A (eval (.Attribute e f pos) env) Q E s :=
 Attribute_any_ h (by rw[arm_eval_Attribute,hb])
end
def tFld (K:W.Frag)(ta:TE)(f:Str):TE:=fun σ H Q=>ta σ H fun x H1=>∃ a C dx fs v,x=.ref a/\H1 a=some (.ins C dx fs)/\Cls K C/\NoAttr K C f/\fs.lookup f=some v/\Q v H1
def sFld (K:W.Frag)(ta tv:TE)(f:Str):TS:=fun D σ H=>tv σ H fun y H1=>ta σ H1 fun x H2=>∃ a C dx fs,x=.ref a/\H2 a=some (.ins C dx fs)/\Cls K C/\NoAttr K C f/\fs.length<1000 ∧
 D.nx σ (upd H2 a (.ins C dx (putF f y fs)))
section
variable {X:Cx}{o e value:Expr}{f:Str}{pos pos' tpos:Pos}{ta tv:TE}
theorem Ye (he:PE X e ta)(hb:attributeBase e f X.env (eval e X.env)=eval e X.env):PE X (.Attribute e f pos) (tFld X.K ta f):=by
 intro pins s σ H Q I h
 refine Jp hb (thn (he pins s σ H _ I h) fun u s1 ⟨x,H1,I1,rx,a,C,dx,fs,v,ex,ea,c,n,l,q⟩=>?_)
 subst ex
 obtain rfl:u=Value.ref a:=rx
 exact K5 I1 ea c n l fun u' s2 I2 ru=>⟨v,H1,I2,ru,q⟩
theorem Ri (ha:PE X o ta)(hv:PE X value tv)(hs:swapsWith value (some (.Attribute o f pos')) pos.line X.env=pure false):PS X (.Assign [.Attribute o f pos'] value pos) (sFld X.K ta tv f):=by
 intro pins s σ H D I h
 refine plainObj_wpAny_Assign_Attribute (thn (hv pins s σ H _ I h) fun u s1 ⟨y,H1,I1,ry,q⟩=>thn (ha pins s1 σ H1 _ I1 q) fun ov s2 ⟨x,H2,I2,rx,a,C,dx,fs,ex,ea,c,n,l,q2⟩=>?_) hs
 subst ex
 obtain rfl:ov=Value.ref a:=rx
 exact Le I2 ea c n l ry fun s3 I3=>⟨σ,_,I3,q2⟩
end
section
variable {X:Cx}{pins:List (Addr × Obj)}{σ:St}{H:Hp}{s:Shared}{A:Around}{E:Value->Shared->Prop}{Q:Value->Shared->Prop}{c:Value}{b:Bool}
inductive TyOf (K:W.Frag) (H:Hp):V->Value->Prop where
 | non:TyOf K H .non (.type "NoneType")
 | bl (x:Bool):TyOf K H (.bl x) (.type "bool")
 | int (i:Int):TyOf K H (.int i) (.type "int")
 | str (x:Str):TyOf K H (.str x) (.type "str")
 | flt (x:UInt64):TyOf K H (.flt x) (.type "float")
 | lst {a:Addr} {xs:List V} (e:H a=some (.lst xs)):TyOf K H (.ref a) (.type "list")
 | frz {a:Addr} {o:Obj} {xs:List V} (e:H a=some (.frz o (.lst xs))):TyOf K H (.ref a) (.type "list")
 | tup {a:Addr} {xs:List V} (e:H a=some (.tup xs)):TyOf K H (.ref a) (.type "tuple")
 | dK {a:Addr} {kvs:List (Key × V)} (e:H a=some (.dK kvs)):TyOf K H (.ref a) (.type "dict")
 | dT {a:Addr} {kvs:List (List Key × V)} (e:H a=some (.dT kvs)):TyOf K H (.ref a) (.type "dict")
 | ins {a C dx:Addr} {fs:List (Str × V)} (e:H a=some (.ins C dx fs)) (cl:Cls K C) (ha:W.findIn K (.ref C) "__class__"=some (some (.builtin "object.__class__")))
   (hn:W.specialIn K (.builtin "object.__class__") "__get__"=some (some (.builtin "getset_descriptor.__get__"))) (htk:W.takesIn K (.builtin "object.__class__")=some true)
   (hm:W.mroIn K C (.type "object")=some true):TyOf K H (.ref a) (.ref C)
theorem Fe {x:V}{u t:Value}(I:Inv X pins σ H s)(rx:RelV x u)(ty:TyOf X.K H x t)(e:W.kitOne X.K t c=some b)(h:∀ tk,Q (.bool b) { s with toks:=tk }) :
  wpAny (model X.prog X.w) A (call (.builtin "isinstance") [u,c]) Q E s:=by
 cases ty with
 | non=>cases (show u=Value.none from rx);exact W.kia_one W.kitx_none I.kIn True.intro e (fun z=>nomatch z) h
 | bl y=>cases (show u=Value.bool y from rx);exact W.kia_one W.kitx_bool I.kIn True.intro e (fun z=>nomatch z) h
 | int i=>obtain⟨t,q⟩:=(show ∃ t,u=Value.int i t from rx);cases q;exact W.kia_one W.kitx_int I.kIn True.intro e (fun z=>nomatch z) h
 | str y=>obtain⟨t,q⟩:=(show ∃ t,u=Value.str y t from rx);cases q;exact W.kia_one W.kitx_str I.kIn True.intro e (fun z=>nomatch z) h
 | flt y=>obtain⟨t,q⟩:=(show ∃ t,u=Value.float y t from rx);cases q;exact W.kia_one W.kitx_float I.kIn True.intro e (fun z=>nomatch z) h
 | @lst a xs ea =>
  cases (show u=Value.ref a from rx)
  obtain⟨_,_,n,_,h1⟩:=(show ObjOk X.prog X.w H s.heap a (.lst xs) from I.hok a _ ea)
  exact W.kia_one W.kitx_list I.kIn ⟨_,h1,rfl⟩ e (fun z=>nomatch z) h
 | @frz a ob xs ea =>
  cases (show u=Value.ref a from rx)
  obtain⟨_,_,_,n,_,h1⟩:=(show ObjOk X.prog X.w H s.heap a (.frz ob (.lst xs)) from I.hok a _ ea)
  exact W.kia_one W.kitx_list I.kIn ⟨_,h1,rfl⟩ e (fun z=>nomatch z) h
 | @tup a xs ea =>
  cases (show u=Value.ref a from rx)
  obtain⟨_,_,_,p⟩:=(show ObjOk X.prog X.w H s.heap a (.tup xs) from I.hok a _ ea)
  obtain⟨o,h1,h2,_⟩:=p
  exact W.kia_one W.kitx_tuple I.kIn ⟨o,h1,h2⟩ e (fun z=>nomatch z) h
 | @dK a kvs ea =>
  cases (show u=Value.ref a from rx)
  obtain⟨_,_,vs,_,p⟩:=(show ObjOk X.prog X.w H s.heap a (.dK kvs) from I.hok a _ ea)
  obtain⟨o,es,ep,h1,h2,_⟩:=p
  exact W.kia_one W.kitx_dict I.kIn ⟨o,h1,h2.1⟩ e (fun z=>nomatch z) h
 | @dT a kvs ea =>
  cases (show u=Value.ref a from rx)
  obtain⟨_,_,xs,_,o,es,ep,h1,h2,_⟩:=(show ObjOk X.prog X.w H s.heap a (.dT kvs) from I.hok a _ ea)
  exact W.kia_one W.kitx_dict I.kIn ⟨o,h1,h2.1⟩ e (fun z=>nomatch z) h
 | @ins a C dx fs ea cl ha hn htk hm =>
  cases (show u=Value.ref a from rx)
  obtain⟨mA,O,_⟩:=N5 I.hok ea
  obtain⟨od,J,_⟩:=O.look
  exact W.kia_one (W.kitx_own (cl.get _) cl.hd ha hn htk hm) I.kIn J e (fun z=>nomatch z) h
end
end L2
namespace L2
open PySem PySem.Spec PyProof.Rows
structure Room (k:Nat)(A:Around)(sr:Bool:=false):Prop where
 hd:sr=true->A.handled=none
 dp:A.depth+3*k+5<recursionLimit
 un:A.units+16*k+200<cLine
theorem Room.mono {j k:Nat}{A:Around}{sr:Bool}(r:Room k A sr)(h:j<=k):Room j A sr:=⟨r.hd,by have:=r.dp;omega,by have:=r.un;omega⟩
theorem Room.deeper {k:Nat}{A:Around}{sr:Bool}(r:Room (k+1) A sr)(env:Env):Room k (A.deeper env) sr :=
 ⟨r.hd,by have:=r.dp;show A.depth+1+3*k+5<_;omega,by have:=r.un;show A.units+3+16*k+200<_;omega⟩
theorem Lz {A:Around}{C:Addr}{us:List Value}{kw:List (Str × Value)}:(A.under (.builtin "type.__call__" ⟨.ref C::us,kw⟩)).depth=A.depth+1:=by
 first | rfl | simp[Around.under,Code.weight,Code.isCreation,Code.isGuard,Code.isCaller,Code.frames,Code.isFrame,guardIds]
theorem Ly {A:Around}{C:Addr}{us:List Value}{kw:List (Str × Value)}:(A.under (.builtin "type.__call__" ⟨.ref C::us,kw⟩)).units=A.units+1:=by
 first | rfl | simp[Around.under,Code.cUnits,Code.frames,Code.isFrame]
theorem Room.make {k:Nat}{A:Around}{sr:Bool}(r:Room (k+1) A sr)(C:Addr)(us:List Value)(kw:List (Str × Value)):Room k (A.under (.builtin "type.__call__" ⟨.ref C::us,kw⟩)) sr :=
 ⟨r.hd,by have:=r.dp;rw[Lz];omega,by have:=r.un;rw[Ly];omega⟩
theorem Room.depth {k:Nat}{A:Around}{sr:Bool}(r:Room k A sr):A.depth<recursionLimit:=by have:=r.dp;omega
theorem Room.units {k:Nat}{A:Around}{sr:Bool}(r:Room k A sr):A.units+64<cLine:=by have:=r.un;omega
theorem Room.loose {k:Nat}{A:Around}{sr:Bool}(r:Room k A sr):Room k A:=⟨(fun z=>nomatch z),r.dp,r.un⟩
def tNil:TA:=fun _ H Q=>Q [] H
def tCons (ta:TE)(tr:TA):TA:=fun σ H Q=>ta σ H fun x H1=>tr σ H1 fun xs H2=>Q (x::xs) H2
section
variable {X:Cx}{e:Expr}{es:List Expr}{te:TE}{t:TA}{pos:Pos}
theorem Z4:PA X [] tNil:=fun _ _ _ _ H Q I h=>Calls.spliced_nil ⟨[],H,I,.nil,h⟩
theorem Z0 (ha:PE X e te)(hr:PA X es t)(hs:starEach (e::es) X.env=(false,eval e X.env)::starEach es X.env:=by rfl):PA X (e::es) (tCons te t):=by
 intro pos pins s σ H Q I h
 rw[hs]
 show wpAny _ _ (spliced ((false,eval e X.env)::backTo pos (starEach es X.env))) _ _ s
 refine Calls.spliced_cons (thn (ha pins s σ H _ I h) fun u s1 ⟨x,H1,I1,r1,q1⟩=>?_)
 exact thn (hr pos pins s1 σ H1 _ I1 q1) fun us s2 ⟨xs,H2,I2,r2,q2⟩=>⟨x::xs,H2,I2,.cons r1 r2,q2⟩
def tTup (t:TA):TE:=fun σ H Q=>t σ H fun xs H1=>xs.length<=sizeLine/\∀ p,H1 p=none->Q (.ref p) (upd H1 p (.tup xs))
def tLst (t:TA):TE:=fun σ H Q=>t σ H fun xs H1=>xs.length<=sizeLine/\∀ p,H1 p=none->Q (.ref p) (upd H1 p (.lst xs))
theorem Y8 {x1}(h:PA X es t):PE X (.Tuple es x1 pos) (tTup t):=by
 intro pins s σ H Q I hq
 refine wpAny_Tuple_spliced (thn (h pos pins s σ H _ I hq) fun us s1 ⟨xs,H1,I1,r,z,q⟩=>⟨by rw[← r.length];exact z,?_⟩)
 have hf:H1 s1.heap.objs.size=none:=I1.hok.fresh (Nat.le_refl _)
 refine⟨.ref s1.heap.objs.size,upd H1 s1.heap.objs.size (.tup xs),I1.laid (t':=s1.toks) (fun b u e=>Heap.get?_push_of_some _ e) (Nat.le_refl _) ?_,rfl,q _ hf⟩
 exact⟨z,us,r,⟨_,Heap.get?_push_size _ rfl,rfl,_,rfl⟩⟩
theorem Xb (h:PA X es t):PE X (.List es pos) (tLst t):=by
 intro pins s σ H Q I hq
 refine wpAny_List_spliced (thn (h pos pins s σ H _ I hq) fun us s1 ⟨xs,H1,I1,r,z,q⟩=>⟨by rw[← r.length];exact z,?_⟩)
 have hf:H1 s1.heap.objs.size=none:=I1.hok.fresh (Nat.le_refl _)
 refine⟨.ref s1.heap.objs.size,upd H1 s1.heap.objs.size (.lst xs),I1.laid (t':=s1.toks) (fun b u e=>Heap.get?_push_of_some _ e) (Nat.le_refl _) ?_,rfl,q _ hf⟩
 exact⟨z,us,0,r,Heap.get?_push_size _ rfl⟩
end
abbrev Sp:=List V->Hp->VK->XK->Prop
abbrev CXT:=List Env->Hp->Shared->XK->Value->Shared->Prop
structure Env0 (P:Program)(w:World)(K:W.Frag)(mg:Str->Option Value)(base:Heap)(A:Around)(outer:List Env)(s:Shared)(H:Hp):Prop where
 frames:A.frames=some outer
 mod:Mod K mg base
 bs:∀ b o,base.get? b=some o->s.heap.get? b=some o/\H b=none
 bsz:base.objs.size<=s.heap.objs.size
 funs:s.heap.FunFrames base outer
 frf:∀ b∈frs outer,H b=none
 hok:HOk P w H s.heap
 bare:AllBare s.gens
 qt:Sb.QtE A s.heap H (frs outer)
def CE (outer:List Env)(P:Program)(w:World)(H:Hp)(s:Shared)(Q:VK)(u:Value)(s':Shared):Prop :=
 ∃ v H',s'.os=s.os/\AllBare s'.gens/\Un (frs outer) [] H H' s.heap s'.heap/\HOk P w H' s'.heap/\RelV v u/\Q v H'
def CR (CX:CXT)(outer:List Env)(P:Program)(w:World)(H:Hp)(s:Shared)(Q:VK)(E:XK)(r:Result)(s':Shared):Prop :=
 match r with
 | .ok (.ret u)=>CE outer P w H s Q u s'
 | .ok _=>False
 | .error e=>CX outer H s E e s'
structure FnOk (P:Program)(w:World)(K:W.Frag)(mg:Str->Option Value)(base:Heap)(CX:CXT)(k:Nat)(f:Addr)(fd:FuncData)(ps:List Str)(sp:Sp)(sr:Bool:=false):Prop where
 len:∀ vs H Q E,sp vs H Q E->vs.length=ps.length
 run:∀ (A:Around) (outer:List Env) (s:Shared) (H:Hp) (args:Args) (us:List Value) (vs:List V) (Q:VK) (E:XK),Room k A sr->Env0 P w K mg base A outer s H->BindsTo s fd args (ps.zip us)->Vals vs us->sp vs H Q E →
  codeAny (model P w) A (.call (.ref f) args) (CR CX outer P w H s Q E) s
theorem FnOk.imp {P:Program}{w:World}{K:W.Frag}{mg:Str->Option Value}{base:Heap}{CX:CXT}{k:Nat}{f:Addr}{fd:FuncData}{ps:List Str}{sp sp':Sp}{sr:Bool}(F:FnOk P w K mg base CX k f fd ps sp sr)
  (h:∀ vs H Q E,sp' vs H Q E->sp vs H Q E):FnOk P w K mg base CX k f fd ps sp' sr :=
 ⟨fun vs H Q E q=>F.len vs H Q E (h _ _ _ _ q),fun A outer s H args us vs Q E hr he hb hv hs=>F.run A outer s H args us vs Q E hr he hb hv (h _ _ _ _ hs)⟩
theorem Env0.make {P:Program}{w:World}{K:W.Frag}{mg:Str->Option Value}{base:Heap}{A:Around}{outer:List Env}{s:Shared}{H:Hp}(e:Env0 P w K mg base A outer s H)(C:Addr)(us:List Value)(kw:List (Str × Value)) :
  Env0 P w K mg base (A.under (.builtin "type.__call__" ⟨.ref C::us,kw⟩)) outer s H:=⟨by first | exact e.frames | (simpa [Around.under,Code.envs,Code.isFrame,pushEnvs] using e.frames),e.mod,e.bs,e.bsz,e.funs,e.frf,e.hok,e.bare,e.qt⟩
section
variable {X:Cx}{pins:List (Addr × Obj)}{σ:St}{H:Hp}{s s':Shared}
theorem Inv.env0 (I:Inv X pins σ H s)(hc:X.calm=true):Env0 X.prog X.w X.K X.mg X.base X.A X.stack s H :=
 ⟨I.ok.frames,I.ok.mod,I.bs,Nat.le_trans I.ok.bsz I.sz,I.stack,I.stkFree,I.hok,I.bare,(I.ok.hd hc).imp id fun ⟨p,hp,e,n⟩=>by
  obtain⟨a1,a2,a3,a4,a5⟩:=I.pin p (List.mem_append_left _ hp)
  exact⟨p.1,p.2,e,a1,n,a2,fun z=>(List.mem_cons.mp (I.stkSub p.1 z)).elim a3 a4,a5⟩⟩
theorem Inv.after {Q:VK}{u:Value}(I:Inv X pins σ H s)(h:CE X.stack X.prog X.w H s Q u s'):EP X pins σ Q u s':=by
 obtain⟨v,H',os,bare,un,hok,r,q⟩:=h
 obtain⟨hh,g,d,t,os'⟩:=s'
 obtain rfl:os'=s.os:=os
 exact⟨v,H',I.call (h':=hh) (g':=g) (d':=d) (t':=t) (ch:=[]) un hok bare (fun b z=>absurd z (by simp)),r,q⟩
end
def tCall (sp:Sp)(dvs:List V)(E:XK)(t:TA):TE:=fun σ H Q=>t σ H fun vs H1=>sp (vs++dvs) H1 Q E
def tMake (C:Addr)(sp:Sp)(dvs:List V)(E:XK)(t:TA):TE:=fun σ H Q=>t σ H fun vs H1=>∀ x dx,H1 x=none->H1 dx=none->dx≠x →
 sp (.ref x::(vs++dvs)) (upd (upd H1 dx (.own x)) x (.ins C dx [])) (fun v H2=>v=.non/\Q (.ref x) H2) E
def Binds (K:W.Frag)(fd:FuncData)(ps:List Str)(ds:List Value):Prop :=
 ∀ (s:Shared) (us:List Value),K.In s.heap->(us++ds).length=ps.length->BindsTo s fd ⟨us,[]⟩ (ps.zip (us++ds))
theorem Binds.all {K:W.Frag}{fd:FuncData}{ps:List Str}(h:∀ us:List Value,us.length=ps.length->bindArgs fd ⟨us,[]⟩=pure (ps.zip us)):Binds K fd ps []:=fun s us _ hl=>by
 rw[List.append_nil] at hl ⊢
 exact .of_eq (h us hl)
def Passes (CX:CXT)(X:Cx)(E:XK):Prop:=∀ (pins:List (Addr × Obj)) (σ:St) (H:Hp) (s:Shared) (e:Value) (s':Shared),Inv X pins σ H s->CX X.stack H s E e s'->X.xe e s'
section
variable {X:Cx}{CX:CXT}{k:Nat}{f C:Addr}{fd:FuncData}{ps:List Str}{sp:Sp}{dvs:List V}{ds:List Value}{E:XK}{x m:Str}{p pos apos:Pos}{e o:Expr}{es:List Expr}{ta:TE}{t:TA}
theorem Z2b {pins:List (Addr × Obj)}{σ:St}{H:Hp}{s:Shared}{Q:VK}{us:List Value}{vs:List V}{sr:Bool}(F:FnOk X.prog X.w X.K X.mg X.base CX k f fd ps sp sr)(hr:Room k X.A sr)(hb:Binds X.K fd ps ds)(hd:Vals dvs ds)(hx:Passes CX X E)(hc:X.calm=true)
  (I:Inv X pins σ H s) (r:Vals vs us) (h:sp (vs++dvs) H Q E):wpAny (model X.prog X.w) X.A (call (.ref f) us) (EP X pins σ Q) X.xe s:=by
 have r2:Vals (vs++dvs) (us++ds):=r.append hd
 have hl:(us++ds).length=ps.length:=by rw[← r2.length];exact F.len _ _ _ _ h
 refine wpAny_call (codeAny_mono (F.run X.A X.stack s H ⟨us,[]⟩ (us++ds) (vs++dvs) Q E hr (I.env0 hc) (hb s us I.kIn hl) r2 h) fun r s' hq=>?_)
 cases r with
 | error e=>exact hx pins σ H s e s' I hq
 | ok fl =>
  cases fl with
  | ret u=>exact I.after hq
  | next=>exact False.elim hq
  | brk=>exact False.elim hq
  | cont=>exact False.elim hq
theorem J5 {sr:Bool}(F:FnOk X.prog X.w X.K X.mg X.base CX k f fd ps sp sr)(hr:Room k X.A sr)(hg:Gl X x)(hm:X.mg x=some (.ref f))(hk:W.keepIn X.K (.ref f)=true)(hb:Binds X.K fd ps ds)(hd:Vals dvs ds)(hx:Passes CX X E)
  (ha:PA X (e::es) t) (hdb:(x == ("__debug__":Str))=false:=by decide) (he:starEach (e::es) X.env=(false,eval e X.env)::starEach es X.env:=by rfl) (hpl:(backTo pos (starEach es X.env)).any (·.1)=false:=by rfl) (hc:X.calm=true:=by rfl) :
  PE X (.Call (.Name x p) (e::es) [] pos) (tCall sp dvs E t):=by
 intro pins s σ H Q I h
 refine wpAny_Call_Name_kw (Wp I hg hm ?_ hdb)
 refine W.callWith_K (h₀:=X.base) I.ok.mod.kin hk (thn (ha pos pins s σ H _ I h) fun us s1 ⟨vs,H1,I1,r,q⟩=>⟨I1.kIn,?_⟩) he hpl
 exact Z2b F hr hb hd hx hc I1 r q
structure Mk (K:W.Frag)(C f:Addr):Prop where
 makes:W.makesIn K C=true
 init:W.findIn K (.ref C) "__init__"=some (some (.ref f))
 fn:W.isFn K (.ref f)=true
 kp:W.keepIn K (.ref C)=true
theorem Dt {pins:List (Addr × Obj)}{σ:St}{H:Hp}{s:Shared}{Q:VK}{us:List Value}{vs:List V}(M:Mk X.K C f){sr:Bool}(F:FnOk X.prog X.w X.K X.mg X.base CX k f fd ps sp sr)(hr:Room (k+1) X.A sr)(hb:Binds X.K fd ps ds)(hd:Vals dvs ds)
  (hx:Passes CX X E) (hc:X.calm=true) (I:Inv X pins σ H s) (r:Vals vs us)
  (h:∀ x dx,H x=none->H dx=none->dx≠x->sp (.ref x::(vs++dvs)) (upd (upd H dx (.own x)) x (.ins C dx [])) (fun v H2=>v=.non/\Q (.ref x) H2) E) :
  wpAny (model X.prog X.w) X.A (call (.ref C) us) (EP X pins σ Q) X.xe s:=by
 have hq:=h (s.heap.objs.size+1) s.heap.objs.size (I.hok.fresh (Nat.le_succ _)) (I.hok.fresh (Nat.le_refl _)) (Nat.ne_of_lt (Nat.lt_succ_self _))
 have I2:=Inv.made (C:=C) I
 have r2:Vals (V.ref (s.heap.objs.size+1)::(vs++dvs)) (Value.ref (s.heap.objs.size+1)::(us++ds)):=.cons rfl (r.append hd)
 have hl:(Value.ref (s.heap.objs.size+1)::us++ds).length=ps.length:=by
  have e:=r2.length
  rw[F.len _ _ _ _ hq] at e
  exact e.symm
 refine wpAny_call (Cy (f:=f) I.kIn M.makes M.init (beq_iff_eq.mp M.fn) (codeAny_mono (F.run _ X.stack _ _ ⟨Value.ref (s.heap.objs.size+1)::us,[]⟩ (Value.ref (s.heap.objs.size+1)::(us++ds)) _ _ E (hr.make C us [])
  ((I2.env0 hc).make C us []) (hb _ (Value.ref (s.heap.objs.size+1)::us) I2.kIn hl) r2 hq) fun r s' hq'=>?_))
 cases r with
 | error e=>exact hx pins σ _ _ e s' I2 hq'
 | ok fl =>
  cases fl with
  | ret u =>
   obtain⟨v,H',I3,rv,ev,q3⟩:=I2.after hq'
   subst ev
   exact⟨rv,⟨V.ref (s.heap.objs.size+1),H',I3,rfl,q3⟩⟩
  | next=>exact False.elim hq'
  | brk=>exact False.elim hq'
  | cont=>exact False.elim hq'
theorem J4 (M:Mk X.K C f){sr:Bool}(F:FnOk X.prog X.w X.K X.mg X.base CX k f fd ps sp sr)(hr:Room (k+1) X.A sr)(hg:Gl X x)(hm:X.mg x=some (.ref C))(hb:Binds X.K fd ps ds)(hd:Vals dvs ds)(hx:Passes CX X E)
  (ha:PA X (e::es) t) (hdb:(x == ("__debug__":Str))=false:=by decide) (he:starEach (e::es) X.env=(false,eval e X.env)::starEach es X.env:=by rfl) (hpl:(backTo pos (starEach es X.env)).any (·.1)=false:=by rfl) (hc:X.calm=true:=by rfl) :
  PE X (.Call (.Name x p) (e::es) [] pos) (tMake C sp dvs E t):=by
 intro pins s σ H Q I h
 refine wpAny_Call_Name_kw (Wp I hg hm ?_ hdb)
 refine W.callWith_K (h₀:=X.base) I.ok.mod.kin M.kp (thn (ha pos pins s σ H _ I h) fun us s1 ⟨vs,H1,I1,r,q⟩=>⟨I1.kIn,?_⟩) he hpl
 exact Dt M F hr hb hd hx hc I1 r q
end
section
variable {X:Cx}{CX:CXT}{k:Nat}{f C:Addr}{fd:FuncData}{ps ks:List Str}{sp:Sp}{E:XK}{x m:Str}{p pos apos kpos:Pos}{e o:Expr}{es:List Expr}{kws:List Keyword}{te ta:TE}{t tk:TA}{nm:Option Str}
variable {g:List Value->List Value->List Value}{gV:List V->List V->List V}
end
structure FnScope (N P:List Str)(sc:Scope):Prop where
 kind:sc.kind=.function
 co:sc.isCoroutine=false
 gen:sc.isGenerator=false
 nd:N.Nodup
 pre:N.take P.length=P
 par:∀ x∈P,sc.names.lookup x=some .local \/ sc.names.lookup x=some .cell
 nofree:∀ y∈sc.names,y.2≠.free
theorem fsc {N P:List Str}{sc:Scope}(a:sc.kind=.function:=by rfl)(b:sc.isCoroutine=false:=by rfl)(c:sc.isGenerator=false:=by rfl)(d:N.Nodup:=by decide +kernel)(e:N.take P.length=P:=by rfl)(f:∀ x∈P,sc.names.lookup x=some .local ∨ sc.names.lookup x=some .cell:=by decide +kernel)(g:∀ y∈sc.names,y.2≠.free:=by decide +kernel):FnScope N P sc:=⟨a,b,c,d,e,f,g⟩
theorem Pd {kindOf:Str->Option NameKind}{x:Str}:∀ {binds:List (Str × Value)} {m:Str->Option Value},(∀ v,(x,v) ∉ binds)->bindL kindOf binds m x=m x
 | [],_,_=>rfl
 | (n,v)::r,m,h=>by
  unfold bindL
  rw[Pd fun w hw=>h w (List.mem_cons_of_mem _ hw)]
  split
  ·have:x≠n:=by rintro rfl;exact h v List.mem_cons_self
   simp[this]
  ·rfl
theorem Pf {kindOf:Str->Option NameKind}{x:Str}:∀ {binds:List (Str × Value)} {m:Str->Option Value},(∀ v,(x,v) ∉ binds)->bindC kindOf binds m x=m x
 | [],_,_=>rfl
 | (n,v)::r,m,h=>by
  unfold bindC
  rw[Pf fun w hw=>h w (List.mem_cons_of_mem _ hw)]
  split
  ·rfl
  ·have:x≠n:=by rintro rfl;exact h v List.mem_cons_self
   simp[this]
theorem Pe {kindOf:Str->Option NameKind}{x:Str}{v:Value}:∀ {P:List Str} {vs:List Value} {i:Nat} {m:Str->Option Value},P.Nodup->P[i]?=some x->vs[i]?=some v->kindOf x=some .local →
  bindL kindOf (P.zip vs) m x=some v
 | [],_,_,_,_,h,_,_=>by simp at h
 | _::_,[],_,_,_,_,h,_=>by simp at h
 | p::P,w::vs,0,m,nd,h1,h2,hk=>by
  simp at h1 h2;subst h1;subst h2
  show bindL kindOf ((p,w)::P.zip vs) m p=_
  unfold bindL
  rw[Pd fun v hv=>(List.nodup_cons.mp nd).1 (List.of_mem_zip hv).1,if_pos hk]
  simp
 | p::P,w::vs,i+1,m,nd,h1,h2,hk=>by
  show bindL kindOf ((p,w)::P.zip vs) m x=_
  unfold bindL
  exact Pe (i:=i) (List.nodup_cons.mp nd).2 (by simpa using h1) (by simpa using h2) hk
theorem Pg {kindOf:Str->Option NameKind}{x:Str}{v:Value}:∀ {P:List Str} {vs:List Value} {i:Nat} {m:Str->Option Value},P.Nodup->P[i]?=some x->vs[i]?=some v->kindOf x≠some .local →
  bindC kindOf (P.zip vs) m x=some v
 | [],_,_,_,_,h,_,_=>by simp at h
 | _::_,[],_,_,_,_,h,_=>by simp at h
 | p::P,w::vs,0,m,nd,h1,h2,hk=>by
  simp at h1 h2;subst h1;subst h2
  show bindC kindOf ((p,w)::P.zip vs) m p=_
  unfold bindC
  rw[Pf fun v hv=>(List.nodup_cons.mp nd).1 (List.of_mem_zip hv).1,if_neg hk]
  simp
 | p::P,w::vs,i+1,m,nd,h1,h2,hk=>by
  show bindC kindOf ((p,w)::P.zip vs) m x=_
  unfold bindC
  exact Pg (i:=i) (List.nodup_cons.mp nd).2 (by simpa using h1) (by simpa using h2) hk
def start (N:List Str)(vs:List V):St:=vs.map some++List.replicate (N.length - vs.length) none
def cxOf (CX:CXT)(P:Program)(w:World)(K:W.Frag)(mg:Str->Option Value)(base:Heap)(N:List Str)(qual:Str)(scope:Scope)(f:Addr)(cd:Value)(A:Around)(outer:List Env)(s:Shared)(H:Hp)(E:XK):Cx where
 prog:=P
 w:=w
 K:=K
 mg:=mg
 base:=base
 A:=A.deeper (envOfC qual scope s.heap.objs.size f cd)
 N:=N
 s₀:=s
 H₀:=H
 env:=envOfC qual scope s.heap.objs.size f cd
 outer:=outer
 stack:=envOfC qual scope s.heap.objs.size f cd::outer
 ex:=[]
 calm:=true
 fn:=fun _=>true
 pn:=Sb.qpin A s.heap
 xe:=fun e s'=>wpAny (model P w) (A.deeper (envOfC qual scope s.heap.objs.size f cd)) (leaving (envOfC qual scope s.heap.objs.size f cd) e) (fun _ s''=>CX outer H s E e s'') (fun e' s''=>CX outer H s E e' s'') s'
theorem Mv {sc:Scope}{n:Nat}{x:Str}(h:sc.names.lookup x=some .cell):∃ c,(cellsFrom n sc.names []).lookup x=some c:=by
 have q:=W.cellsFrom_some sc.names n [] (.inl h)
 exact Option.isSome_iff_exists.mp q
theorem Fh {CX:CXT}{P:Program}{w:World}{K:W.Frag}{mg:Str->Option Value}{base:Heap}{N ps:List Str}{qual:Str}{scope:Scope}{f:Addr}{cd:Value}{A:Around}{outer:List Env}{s s1:Shared}{H:Hp}{E:XK}{us:List Value}{vs:List V}
  (S:FnScope N ps scope) (e0:Env0 P w K mg base A outer s H) (hl:vs.length=ps.length) (r:Vals vs us)
  (x:InCallC s s.heap.objs.size (bindL (envOfC qual scope s.heap.objs.size f cd).kindOf (ps.zip us) fun _=>none) (cellsFrom (s.heap.objs.size+1) scope.names []) (bindC (envOfC qual scope s.heap.objs.size f cd).kindOf (ps.zip us) fun _=>none) s1) :
  Inv (cxOf CX P w K mg base N qual scope f cd A outer s H E) [] (start N vs) H s1:=by
 have hpl:ps.length<=N.length:=by have:=congrArg List.length S.pre;rw[List.length_take] at this;omega
 obtain⟨h1,tk,rfl,hk⟩:=x.done
 have noA:∀ b:Addr,b ∉ (cxOf CX P w K mg base N qual scope f cd A outer s H E).ex:=fun b z=>absurd (show b∈([]:List Addr) from z) (by simp)
 refine⟨⟨e0.mod,S.kind,rfl,rfl,Nat.le_refl _,fun y z c h1 h2=>?_,fun y hy=>?_,fun y c _ h=>?_,fun _=>e0.qt.pin,Around.frames_deeper e0.frames,.inr ⟨rfl,rfl⟩,fun b z=>absurd z (noA b),e0.bs,e0.bsz,fun b _ _=>noA b,fun b z=>absurd z (noA b),e0.funs,e0.frf⟩,
  rfl,e0.bare,Un.kept hk,⟨_,x.toInCall.ns,fun i y v h1 h2 h3=>?_⟩,fun y c h=>⟨_,x.cell y c h⟩,e0.hok.fresh (Nat.le_refl _),fun y c h=>?_,fun p hp=>?_,e0.hok.kept hk,?_⟩
 rotate_right 2
 ·obtain⟨a1,a2,a3,a4⟩:=e0.qt.mem p ((List.mem_append.mp hp).elim id fun z=>absurd z (by simp))
  exact⟨hk _ _ a1,a2,Nat.ne_of_lt (Heap.lt_size a1),a3,a4⟩
 rotate_left 1
 ·exact name_of_addr x.apart (PySem.mem_of_lookup h1) (PySem.mem_of_lookup h2)
 ·have hy:scope.names.lookup y=some .cell \/ scope.names.lookup y=some .free:=hy
  rcases hy with hy | hy
  ·exact Mv hy
  ·exact absurd rfl (S.nofree _ (PySem.mem_of_lookup hy))
 ·exact Nat.le_of_lt (x.above y c (PySem.mem_of_lookup h))
 ·have hi:i<vs.length:=by
   unfold start at h2
   by_cases hi:i<vs.length
   ·exact hi
   ·rw[List.getElem?_append_right (by simpa using hi)] at h2
    rw[List.getElem?_replicate] at h2
    split at h2 <;> cases h2
  have ha:vs[i]?=some v:=by
   unfold start at h2
   rw[List.getElem?_append_left (by simpa using hi),List.getElem?_map] at h2
   cases e:vs[i]? with
   | none=>rw[e] at h2;cases h2
   | some a=>rw[e] at h2;cases h2;rfl
  obtain⟨u,hu,rv⟩:=r.get ha
  have hp:ps[i]?=some y:=by
   rw[← S.pre,List.getElem?_take_of_lt (by omega)];exact h1
  have ndP:ps.Nodup:=by rw[← S.pre];exact S.nd.sublist (List.take_sublist _ _)
  refine⟨u,rv,?_⟩
  rcases S.par y (List.mem_of_getElem? hp) with k | k
  ·exact .inl ⟨k,Pe ndP hp hu k⟩
  ·obtain⟨c,e⟩:=Mv (n:=s.heap.objs.size+1) k
   refine .inr ⟨.inl k,c,e,?_⟩
   have q:=x.cell y c e
   rw[Pg ndP hp hu (by show scope.names.lookup y≠_;rw[k];decide)] at q
   exact q
 ·exact e0.hok.fresh (Nat.le_of_lt (x.above y c (PySem.mem_of_lookup h)))
 ·unfold start
  show _=N.length
  rw[List.length_append,List.length_map,List.length_replicate]
  omega
theorem Z25 {CX:CXT}{P:Program}{w:World}{K:W.Frag}{mg:Str->Option Value}{base:Heap}{k:Nat}{f:Addr}{name qual:Str}{params:Arguments}{body:List Stmt}{scope:Scope}{dV kV doc pm cdv ct oc:Value}{an od:Option Addr}
  {osl:Array (Option Value)} {N ps:List Str} {sp:Sp} {sr:Bool} (lk:K.lookup f=some ⟨oc,od,.func (W.fnOf name qual params body scope dV kV doc pm an cdv ct),osl⟩) (hcd:W.codeIn K cdv qual=true) (S:FnScope N ps scope)
  (len:∀ vs H Q E,sp vs H Q E->vs.length=ps.length)
  (hbody:∀ (A:Around) (outer:List Env) (s:Shared) (H:Hp) (vs:List V) (Q:VK) (E:XK),Room k (A.deeper (envOfC qual scope s.heap.objs.size f cdv)) sr->sp vs H Q E →
   ∃ t,PSs (cxOf CX P w K mg base N qual scope f cdv A outer s H E) body t/\t { nx:=fun _ H'=>Q .non H',rt:=Q } (start N vs) H) :
  FnOk P w K mg base CX (k+1) f (W.fnOf name qual params body scope dV kV doc pm an cdv ct) ps sp sr:=by
 refine⟨len,fun A outer s H args us vs Q E hr e0 hb r hsp=>?_⟩
 have hl:=len _ _ _ _ hsp
 have KX:K.In s.heap:=e0.mod.kin.keeps fun b o e=>(e0.bs b o e).1
 have lim:s.heap.NoLimit:=e0.mod.nolimit.keeps fun b o e=>(e0.bs b o e).1
 have hkind:∀ y∈ps.zip us,scope.names.lookup y.1=some .local \/ (scope.names.lookup y.1=some .cell/\((cellsFrom (s.heap.objs.size+1) scope.names []).lookup y.1).isSome=true):=fun ⟨n,v⟩ hy=>by
  rcases S.par n (List.of_mem_zip hy).1 with q | q
  ·exact .inl q
  ·exact .inr ⟨q,W.cellsFrom_some _ _ _ (.inl q)⟩
 refine codeAny_call_function hr.depth (KX _ _ lk) rfl S.co S.gen rfl (W.codeRec_of KX hcd) (hb _ _ _ _ ?_)
 refine wpAny_newFunctionEnv_cells S.kind hkind fun env he s1 x=>?_
 subst he
 refine⟨lim.keeps x.toInCall.keep,codeAny_func ?_⟩
 obtain⟨t,ht,hq⟩:=hbody A outer s H vs Q E (hr.deeper _) hsp
 have I:Inv (cxOf CX P w K mg base N qual scope f cdv A outer s H E) [] (start N vs) H s1:=Fh S e0 hl r x
 refine wpAny_mono (ht [] s1 (start N vs) H _ I hq) (fun fl s' hs=>?_) fun e s' hs=>hs
 have fin:∀ {σ':St} {H':Hp} {v:V} {u:Value},Inv (cxOf CX P w K mg base N qual scope f cdv A outer s H E) [] σ' H' s'->RelV v u->Q v H'->CE outer P w H s Q u s' :=
  fun {σ' H' v u} J rv q=>⟨v,H',J.os,J.bare,J.base,J.hok,rv,q⟩
 cases fl with
 | ret u =>
  obtain⟨v,σ',H',J,rv,q⟩:=hs
  exact fin J rv q
 | next =>
  obtain⟨σ',H',J,q⟩:=hs
  exact fin (v:=V.non) (u:=Value.none) J rfl q
 | brk =>
  obtain⟨_,_,_,q⟩:=hs
  exact False.elim q
 | cont =>
  obtain⟨_,_,_,q⟩:=hs
  exact False.elim q
end L2
namespace L2
open PySem PySem.Spec PyProof.Rows
section
variable {X:Cx}{x:Str}{p pos:Pos}{e:Expr}{es:List Expr}{t:TA}{id T:String}{r:List V->Hp->VK->Prop}
def tCB (r:List V->Hp->VK->Prop)(t:TA):TE:=fun σ H Q=>t σ H fun vs H1=>r vs H1 Q
theorem Zu (hc:CallR X (.builtin id) r)(hg:Gl X x)(hm:X.mg x=none)(hv:bootBuiltins x=some (.builtin id))(ha:PA X (e::es) t)(hn:x≠"__name__":=by decide)(hdb:(x == ("__debug__":Str))=false:=by decide)
  (he:starEach (e::es) X.env=(false,eval e X.env)::starEach es X.env:=by rfl) (hpl:(backTo pos (starEach es X.env)).any (·.1)=false:=by rfl):PE X (.Call (.Name x p) (e::es) [] pos) (tCB r t):=by
 intro pins s σ H Q I h
 refine wpAny_Call_Name_kw (Wk I hg hm hv ?_ hn hdb)
 exact PyProof.Rows.callWith_builtin1 (thn (ha pos pins s σ H _ I h) fun us s1 ⟨vs,H1,I1,r1,q1⟩=>hc pins s1 σ H1 vs us Q I1 r1 q1) he hpl
theorem Y4 (hc:CallR X (.type T) r)(hg:Gl X x)(hm:X.mg x=none)(hv:bootBuiltins x=some (.type T))(ha:PA X (e::es) t)(hn:x≠"__name__":=by decide)(hdb:(x == ("__debug__":Str))=false:=by decide)
  (he:starEach (e::es) X.env=(false,eval e X.env)::starEach es X.env:=by rfl) (hpl:(backTo pos (starEach es X.env)).any (·.1)=false:=by rfl):PE X (.Call (.Name x p) (e::es) [] pos) (tCB r t):=by
 intro pins s σ H Q I h
 refine wpAny_Call_Name_kw (Wk I hg hm hv ?_ hn hdb)
 exact PyProof.Rows.callWith_type1 (thn (ha pos pins s σ H _ I h) fun us s1 ⟨vs,H1,I1,r1,q1⟩=>hc pins s1 σ H1 vs us Q I1 r1 q1) he hpl
end
end L2
namespace HT
open PySem PyProof.Rows
section
open PySem.SeqAt
open PySem.AutoSeq1 (wpAny_loadPart')
open PySem.MeetsSeq PySem.MeetsSeq2 PySem.MeetsSeq3
end
section
variable {prog:Program}{w:World}{A:Around}{E:Value->Shared->Prop}{s:Shared}
def sIx (n d:Nat):Option Int->Nat
 | none=>d
 | some v=>if v<0 then (v+(n:Int)).toNat else min v.toNat n
theorem sIx_none (n d:Nat):sIx n d none=d:=rfl
theorem sIx_nat (n d k:Nat):sIx n d (some (k:Int))=min k n:=by
 show (if (k:Int)<0 then ((k:Int)+(n:Int)).toNat else min (k:Int).toNat n)=min k n
 rw[if_neg (by omega),Int.toNat_natCast]
end
end HT
namespace L2
open PySem PySem.Spec PyProof.Rows
abbrev TO:=St->Hp->(Option Int->Hp->Prop)->Prop
def PO (X:Cx)(e:Option Expr)(t:TO):Prop :=
 ∀ (pins:List (Addr × Obj)) (s:Shared) (σ:St) (H:Hp) (Q:Option Int->Hp->Prop),Inv X pins σ H s->t σ H Q →
  wpAny (model X.prog X.w) X.A (evalPart e X.env) (fun u s'=>∃ o H',Inv X pins σ H' s'/\IsPart u o/\Q o H') X.xe s
def tNoPart:TO:=fun _ H Q=>Q none H
def tPart (t:TE):TO:=fun σ H Q=>t σ H fun x H1=>∃ i,x=.int i/\Q (some i) H1
theorem Rz {ns:List Int}:∀ {us:List Value},Vals (ns.map V.int) us->IntsAre us ns:=by
 induction ns with
 | nil=>intro us r;rw[List.map_nil] at r;cases r;exact .nil
 | cons n ns ih =>
  intro us r
  rw[List.map_cons] at r
  cases r with
  | cons r1 r2 =>
   obtain⟨t,e⟩:=r1
   subst e
   exact .cons n t (ih r2)
section
variable {X:Cx}{e:Expr}{te:TE}{lo hi:Option Expr}{tl th:TO}{pos p2:Pos}
theorem Sm:PO X none tNoPart:=by
 intro pins s σ H Q I h
 rw[evalPart_none]
 exact wpAny_pure ⟨none,H,I,.none,h⟩
theorem Sl (h:PE X e te):PO X (some e) (tPart te):=by
 intro pins s σ H Q I hw
 rw[evalPart_some]
 refine thn (h pins s σ H _ I hw) fun u s1 ⟨x,H1,I1,r1,q1⟩=>?_
 obtain⟨i,rfl,q⟩:=q1
 obtain⟨t,rfl⟩:=r1
 exact⟨some i,H1,I1,.int i t,q⟩
def SlR (X:Cx)(r:V->Option Int->Option Int->Hp->VK->Prop):Prop :=
 ∀ (pins:List (Addr × Obj)) (s:Shared) (σ:St) (H:Hp) (x:V) (v vl vu:Value) (lo hi:Option Int) (sl:Addr) (Q:VK),Inv X pins σ H s->RelV x v->s.heap.IsSliceOf sl vl vu .none->IsPart vl lo->IsPart vu hi->r x lo hi H Q →
  ∃ T id,typeLookup (.type T) "__getitem__"=pure (some (.builtin id))/\s.TypeIs v T/\wpAny (model X.prog X.w) X.A (getItem v (.ref sl)) (EP X pins σ Q) X.xe s
def tSl (r:V->Option Int->Option Int->Hp->VK->Prop)(te:TE)(tl th:TO):TE:=fun σ H Q=>te σ H fun x H1=>tl σ H1 fun l H2=>th σ H2 fun u H3=>r x l u H3 Q
theorem Uq {r:V->Option Int->Option Int->Hp->VK->Prop}(hr:SlR X r)(he:PE X e te)(hl:PO X lo tl)(hu:PO X hi th):PE X (.Subscript e (.Slice lo hi none p2) pos) (tSl r te tl th):=by
 intro pins s σ H Q I h
 refine Subscript_ (thn (he pins s σ H _ I h) fun v s1 ⟨x,H1,I1,r1,q1⟩=>?_)
 refine wpAny_Slice (thn (hl pins s1 σ H1 _ I1 q1) fun vl s2 ⟨l,H2,I2,pl,q2⟩=>thn (hu pins s2 σ H2 _ I2 q2) fun vu s3 ⟨u,H3,I3,pu,q3⟩=>?_)
 rw[evalPart_none]
 refine wpAny_pure ?_
 have I4:Inv X pins σ H3 { s3 with heap:=s3.heap.push { cls:=.type "slice",data:=.fields #[vl,vu,.none] } }:=I3.kept (t':=s3.toks) fun b ob q=>Heap.get?_push_of_some _ q
 obtain⟨T,id,hT,ht,hg⟩:=hr pins { s3 with heap:=s3.heap.push { cls:=.type "slice",data:=.fields #[vl,vu,.none] } } σ H3 x v vl vu l u s3.heap.objs.size Q I4 r1 (Heap.IsSliceOf.new ..) pl pu q3
 show wpAny (model X.prog X.w) X.A (subscriptTail e (.Slice lo hi none p2) v (.ref s3.heap.objs.size)) (EP X pins σ Q) X.xe { s3 with heap:=s3.heap.push { cls:=.type "slice",data:=.fields #[vl,vu,.none] } }
 exact tail_any (ops:=[.ref s3.heap.objs.size,v]) ht hT hg (by with_unfolding_all rfl)
def cutV (xs:List V)(lo hi:Option Int):List V:=(xs.drop (HT.sIx xs.length 0 lo)).take (HT.sIx xs.length xs.length hi - HT.sIx xs.length 0 lo)
theorem Mt (xs:List V)(lo hi:Option Int):(cutV xs lo hi).length<=xs.length:=by
 unfold cutV
 rw[List.length_take,List.length_drop]
 omega
end
end L2
namespace L2
open PySem PySem.Spec PyProof.Rows
def ixN (n:Nat)(i:Int):Option Nat:=if 0<=i then (if i<n then some i.toNat else none) else if -(n:Int)<=i then some (i+n).toNat else none
def atI {α:Type}(xs:List α)(i:Int):Option α:=(ixN xs.length i).bind fun j=>xs[j]?
theorem Jd {n:Nat}{i:Int}{j:Nat}(h:ixN n i=some j):seqIndex? i n=some j/\j<n/\-(n:Int)<=i/\i<n:=by
 unfold ixN at h
 by_cases h0:0<=i
 ·rw[if_pos h0] at h
  by_cases h1:i<n
  ·rw[if_pos h1] at h
   have e:i.toNat=j:=Option.some.inj h
   exact⟨by rw[seqIndex_of h0 h1,e],by omega,by omega,h1⟩
  ·rw[if_neg h1] at h;cases h
 ·rw[if_neg h0] at h
  by_cases h1:-(n:Int)<=i
  ·rw[if_pos h1] at h
   have e:(i+n).toNat=j:=Option.some.inj h
   exact⟨by rw[seqIndex_neg (by omega) h1,e],by omega,h1,by omega⟩
  ·rw[if_neg h1] at h;cases h
theorem Jr {α:Type}{xs:List α}{i:Int}{v:α}(h:atI xs i=some v):∃ j,seqIndex? i xs.length=some j/\xs[j]?=some v/\j<xs.length/\-(xs.length:Int)<=i/\i<xs.length:=by
 unfold atI at h
 cases e:ixN xs.length i with
 | none=>rw[e] at h;cases h
 | some j =>
  rw[e] at h
  obtain⟨h1,h2,h3,h4⟩:=Jd e
  exact⟨j,h1,h,h2,h3,h4⟩
theorem Zd {α:Type}{xs:List α}{j:Nat}{v:α}(h:xs[j]?=some v):atI xs (j:Int)=some v:=by
 have hj:j<xs.length:=(List.getElem?_eq_some_iff.mp h).1
 have e:ixN xs.length (j:Int)=some j:=by
  unfold ixN
  rw[if_pos (by omega),if_pos (by omega)];simp
 unfold atI;rw[e];exact h
def PlainIx (b:Expr):Prop:=∀ o i,subscripted b false o i=operate [o,i] (getItem o i)
def IxR (X:Cx)(r:R2):Prop :=
 ∀ (value slice:Expr) (pins:List (Addr × Obj)) (s:Shared) (σ:St) (H:Hp) (x y:V) (v u:Value) (Q:VK),Inv X pins σ H s->RelV x v->RelV y u->r x y H Q →
  subscripted slice false v u=operate [v,u] (getItem v u)->wpAny (model X.prog X.w) X.A (subscriptTail value slice v u) (EP X pins σ Q) X.xe s
def MtR (X:Cx)(id:String)(r:V->List V->Hp->VK->Prop):Prop :=
 ∀ (pins:List (Addr × Obj)) (s:Shared) (σ:St) (H:Hp) (x:V) (xs:List V) (v:Value) (us:List Value) (Q:VK),Inv X pins σ H s->RelV x v->Vals xs us->r x xs H Q →
  wpAny (model X.prog X.w) X.A (call (.builtin id) (v::us)) (EP X pins σ Q) X.xe s
section
variable {X:Cx}{a b:Expr}{ta tb:TE}{pos:Pos}
theorem Ze {r:R2}(hr:IxR X r)(ha:PE X a ta)(hb:PE X b tb)(hs:PlainIx b):PE X (.Subscript a b pos) (tOp r ta tb):=by
 intro pins s σ H Q I h
 exact Subscript_ (Z37 ha hb I h fun v u s2 x y H2 I2 rx ry q=>hr a b pins s2 σ H2 x y v u Q I2 rx ry q (hs _ _))
def rIxL (K:W.Frag):R2:=fun x y H Q=>∃ p xs i v,x=.ref p/\y=.int i/\SqL K H p xs/\atI xs i=some v/\Q v H
def rIxT (K:W.Frag):R2:=fun x y H Q=>∃ p xs i v,x=.ref p/\y=.int i/\SqT K H p xs/\atI xs i=some v/\Q v H
theorem Zy:IxR X (rIxL X.K):=by
 intro value slice pins s σ H x y v u Q I rx ry h hs
 obtain⟨p,xs,i,z,rfl,rfl,hq,he,q⟩:=h
 cases rx
 obtain⟨t,rfl⟩:=ry
 obtain⟨its,r,pl,hz⟩:=I.list hq
 obtain⟨j,h1,h2,h3,h4,h5⟩:=Jr he
 obtain⟨w,ew,rw'⟩:=r.get h2
 have hl:=r.length
 have hn:=Ru
 have fin:EP X pins σ Q w s:=⟨z,H,I,rw',q⟩
 by_cases h0:0<=i
 ·have hj:i.toNat=j:=by
   rw[seqIndex_of h0 h5] at h1
   exact Option.some.inj h1
  exact item_listR pl.isList h0 (by omega) (by rw[hj];simpa using ew) fin hs
 ·have hj:(i+(its.toArray.size:Int)).toNat=j:=by
   rw[seqIndex_neg (by omega) h4] at h1
   rw[List.size_toArray,← hl]
   exact Option.some.inj h1
  exact subscriptTail_builtinR (x:=w) pl.isList.typeIs slot_list_getitem.lookup
   (wpAny_getItem_list_neg (Q:=fun r s'=>r=w/\EP X pins σ Q r s') pl.isList (by omega) (by rw[List.size_toArray] <;> omega) (by omega) (by rw[hj];simpa using ew) ⟨rfl,fin⟩) hs
theorem Yg:IxR X (rIxT X.K):=by
 intro value slice pins s σ H x y v u Q I rx ry h hs
 obtain⟨p,xs,i,z,rfl,rfl,hq,he,q⟩:=h
 cases rx
 obtain⟨t,rfl⟩:=ry
 obtain⟨its,r,pl,hz⟩:=I.tuple hq
 obtain⟨j,h1,h2,h3,h4,h5⟩:=Jr he
 obtain⟨w,ew,rw'⟩:=r.get h2
 have hl:=r.length
 have hn:=Ru
 have fin:EP X pins σ Q w s:=⟨z,H,I,rw',q⟩
 exact subscriptTail_builtinR (x:=w) pl.typeIs slot_tuple_getitem.lookup
  (getItem_tuple (j:=j) (Q:=fun r s'=>r=w/\EP X pins σ Q r s') pl (by omega) (by omega) (by rw[List.size_toArray,← hl];exact h1) (by simpa using ew) ⟨rfl,fin⟩) hs
theorem Lx (its:List Value)(n j:Nat)(u:Value):Obj.mapSeq (·.setIfInBounds j u) { cls:=.type "list",data:=.seq its.toArray n }={ cls:=.type "list",data:=.seq (its.set j u).toArray n }:=by
 simp[Obj.mapSeq]
theorem Inv.lst {pins:List (Addr × Obj)}{σ:St}{H:Hp}{s:Shared}{p:Addr}{xs:List V}(I:Inv X pins σ H s)(h:H p=some (.lst xs)) :
  ∃ (its:List Value) (n:Nat),Vals xs its/\s.heap.get? p=some { cls:=.type "list",data:=.seq its.toArray n }/\xs.length<=sizeLine:=by
 obtain⟨z,its,n,r,e⟩:=I.hok p _ h
 exact⟨its,n,r,e,z⟩
theorem Inv.lstUpd {pins:List (Addr × Obj)}{σ:St}{H:Hp}{s:Shared}{p:Addr}{xs ys:List V}{its its':List Value}{n n':Nat}{f:Obj->Obj}(I:Inv X pins σ H s)(h:H p=some (.lst xs))
  (ho:s.heap.get? p=some { cls:=.type "list",data:=.seq its.toArray n }) (hf:f { cls:=.type "list",data:=.seq its.toArray n }={ cls:=.type "list",data:=.seq its'.toArray n' }) (r:Vals ys its') (hz:ys.length<=sizeLine) (t:Nat) :
  Inv X pins σ (upd H p (.lst ys)) { s with heap:=s.heap.update p f,toks:=t }:=by
 have e:(s.heap.update p f).get? p=some { cls:=.type "list",data:=.seq its'.toArray n' }:=by
  rw[Heap.get?_update_self f ho (by rw[hf] <;> rfl),hf]
 refine I.write (x:=p) (e:=p) (by rw[h];trivial) (.inl rfl) (fun b u hb q=>(Heap.get?_update_other _ _ (Ne.symm hb)).trans q) ⟨_,e⟩ ?_
 exact⟨hz,its',n',r,e⟩
def rSetL:V->V->V->Hp->(Hp->Prop)->Prop:=fun o i v H Q=>∃ p xs k j,o=.ref p/\i=.int k/\H p=some (.lst xs)/\ixN xs.length k=some j/\Q (upd H p (.lst (xs.set j v)))
theorem Vk:PSet X rSetL:=by
 intro pins s σ H o i v ov iv u Q I ro ri rv h
 obtain⟨p,xs,k,j,rfl,rfl,hp,hj,q⟩:=h
 cases ro
 obtain⟨t,rfl⟩:=ri
 obtain⟨its,n,r,ho,hz⟩:=I.lst hp
 obtain⟨h1,h2,h3,h4⟩:=Jd hj
 have hl:=r.length
 have hn:=Ru
 have I':Inv X pins σ (upd H p (.lst (xs.set j v))) { s with heap:=s.heap.update p (Obj.mapSeq (·.setIfInBounds j u)) } :=
  I.lstUpd hp ho (Lx its n j u) (r.set rv j) (by rw[List.length_set];exact hz) s.toks
 by_cases h0:0<=k
 ·have hk:k.toNat=j:=by
   rw[seqIndex_of h0 h4] at h1
   exact Option.some.inj h1
  exact W.ki_setAt ho h0 (by omega) (by rw[List.size_toArray,← hl];exact h4) (by rw[hk];exact⟨_,I',q⟩)
 ·have hk:(k+(its.toArray.size:Int)).toNat=j:=by
   rw[seqIndex_neg (by omega) h3] at h1
   rw[List.size_toArray,← hl]
   exact Option.some.inj h1
  exact W.ki_setBack ho (by omega) (by rw[List.size_toArray,← hl];exact h3) (by omega) (by rw[hk];exact⟨_,I',q⟩)
theorem Ph (lo hi:Option Int)(n:Nat):(sliceBounds lo hi none n).1=((HT.sIx n 0 lo:Nat):Int)/\(sliceBounds lo hi none n).2.1=((HT.sIx n n hi:Nat):Int)/\(sliceBounds lo hi none n).2.2=1:=by
 refine⟨?_,?_,rfl⟩
 ·cases lo with
  | none=>simp[sliceBounds,HT.sIx]
  | some i =>
   simp only [sliceBounds,HT.sIx,Option.getD_none,show (1:Int) > 0 by decide,if_true]
   by_cases h:i<0
   ·simp only [h,if_true] <;> omega
   ·simp only [h,if_false] <;> omega
 ·cases hi with
  | none=>simp[sliceBounds,HT.sIx]
  | some i =>
   simp only [sliceBounds,HT.sIx,Option.getD_none,show (1:Int) > 0 by decide,if_true]
   by_cases h:i<0
   ·simp only [h,if_true] <;> omega
   ·simp only [h,if_false] <;> omega
theorem Qa (its:List Value)(lo hi:Option Int):slicePick its.toArray lo hi none=((its.drop (HT.sIx its.length 0 lo)).take (HT.sIx its.length its.length hi - HT.sIx its.length 0 lo)).toArray:=by
 obtain⟨h1,h2,h3⟩:=Ph lo hi its.toArray.size
 unfold slicePick
 rw[h1,h2,h3]
 simp only [sliceRange_one,pick_run,List.size_toArray] <;> rfl
def rSlL (K:W.Frag):V->Option Int->Option Int->Hp->VK->Prop:=fun x lo hi H Q=>∃ a xs,x=.ref a/\SqL K H a xs/\∀ p,H p=none->Q (.ref p) (upd H p (.lst (cutV xs lo hi)))
theorem Sk:SlR X (rSlL X.K):=by
 intro pins s σ H x v vl vu lo hi sl Q I rx hs pl pu h
 obtain⟨a,xs,rfl,hx,q⟩:=h
 cases rx
 obtain⟨its,r,ht,hz⟩:=I.list hx
 have hlen:=r.length
 refine⟨"list",_,slot_list_getitem.lookup,ht.isList.typeIs,?_⟩
 refine wpAny_getItem_list_slice ht.isList hs pl pu .none (by simp) ?_ (by rw[List.size_toArray] <;> omega)
 rw[Qa,← hlen]
 refine⟨.ref s.heap.objs.size,_,I.laid (t':=s.toks) (o:=.lst (cutV xs lo hi)) (fun b ob q=>Heap.get?_push_of_some _ q) (Nat.le_refl _) ?_,rfl,q _ (I.hok.fresh (Nat.le_refl _))⟩
 exact⟨Nat.le_trans (Mt xs lo hi) hz,_,0,(r.drop (HT.sIx xs.length 0 lo)).take (HT.sIx xs.length xs.length hi - HT.sIx xs.length 0 lo),Heap.get?_push_size _ rfl⟩
def flatV:V->Bool
 | .non=>true
 | .bl _=>true
 | .int _=>true
 | .str _=>true
 | _=>false
def eqV:V->V->Bool
 | .non,.non=>true
 | .bl a,.bl b=>a == b
 | .bl a,.int b=>(if a then 1 else 0) == b
 | .int a,.bl b=>a == (if b then 1 else 0)
 | .int a,.int b=>a == b
 | .str a,.str b=>a == b
 | _,_=>false
theorem Z34 {A:Around}{s:Shared}{y x:V}{u v:Value}(ry:RelV y u)(rx:RelV x v)(fy:flatV y=true)(fx:flatV x=true):SeqAt.EqAt A s u v (eqV y x):=by
 cases y with
 | non =>
  cases ry
  cases x with
  | non=>cases rx;exact SeqAt.EqAt.same _
  | bl b=>cases rx;exact SeqAt.EqAt.none_bool b
  | int b=>obtain⟨t,rfl⟩:=rx;exact SeqAt.EqAt.none_int b t
  | str b=>obtain⟨t,rfl⟩:=rx;exact SeqAt.EqAt.none_str b t
  | _=>exact absurd (show false=true from fx) Bool.false_ne_true
 | bl a =>
  cases ry
  cases x with
  | non=>cases rx;exact SeqAt.EqAt.bool_none a
  | bl b=>cases rx;exact SeqAt.EqAt.bool_bool a b
  | int b=>obtain⟨t,rfl⟩:=rx;exact SeqAt.EqAt.bool_int a b t
  | str b=>obtain⟨t,rfl⟩:=rx;exact SeqAt.EqAt.bool_str a b t
  | _=>exact absurd (show false=true from fx) Bool.false_ne_true
 | int a =>
  obtain⟨t',rfl⟩:=ry
  cases x with
  | non=>cases rx;exact SeqAt.EqAt.int_none a t'
  | bl b=>cases rx;exact SeqAt.EqAt.int_bool a t' b
  | int b=>obtain⟨t,rfl⟩:=rx;exact SeqAt.EqAt.int_int a t' b t
  | str b=>obtain⟨t,rfl⟩:=rx;exact SeqAt.EqAt.int_str a t' b t
  | _=>exact absurd (show false=true from fx) Bool.false_ne_true
 | str a =>
  obtain⟨t',rfl⟩:=ry
  cases x with
  | non=>cases rx;exact SeqAt.EqAt.str_none a t'
  | bl b=>cases rx;exact SeqAt.EqAt.str_bool a t' b
  | int b=>obtain⟨t,rfl⟩:=rx;exact SeqAt.EqAt.str_int a t' b t
  | str b=>obtain⟨t,rfl⟩:=rx;exact SeqAt.EqAt.str_str a t' b t
  | _=>exact absurd (show false=true from fx) Bool.false_ne_true
 | _=>exact absurd (show false=true from fy) Bool.false_ne_true
def eqU (x:V)(u:Value):Bool:=match u with
 | .none=>eqV .non x
 | .bool b=>eqV (.bl b) x
 | .int i _=>eqV (.int i) x
 | .str z _=>eqV (.str z) x
 | _=>false
theorem Bu {x y:V}{u:Value}(r:RelV y u)(f:flatV y=true):eqU x u=eqV y x:=by
 cases y with
 | non=>cases r;rfl
 | bl b=>cases r;rfl
 | int i=>obtain⟨t,rfl⟩:=r;rfl
 | str z=>obtain⟨t,rfl⟩:=r;rfl
 | _=>exact absurd (show false=true from f) Bool.false_ne_true
theorem Tf {x:V}:∀ {xs:List V} {us:List Value},Vals xs us->xs.all flatV=true->us.any (eqU x)=xs.any fun y=>eqV y x
 | _,_,.nil,_=>rfl
 | y::xs,u::us,.cons r t,f=>by
  rw[List.all_cons,Bool.and_eq_true] at f
  rw[List.any_cons,List.any_cons,Bu r f.1,Tf t f.2]
theorem Vq {A:Around}{s:Shared}{x:V}{v:Value}(rx:RelV x v)(fx:flatV x=true):∀ {xs:List V} {us:List Value},Vals xs us->xs.all flatV=true->∀ u∈us,SeqAt.EqAt A s u v (eqU x u)
 | _,_,.nil,_=>fun u hu=>by cases hu
 | y::xs,u::us,.cons r t,f=>fun u' hu=>by
  rw[List.all_cons,Bool.and_eq_true] at f
  rcases List.mem_cons.mp hu with rfl | hu
  ·rw[Bu r f.1];exact Z34 r rx f.1 fx
  ·exact Vq rx fx t f.2 u' hu
def inV (x:V)(xs:List V):Bool:=xs.any fun y=>eqV y x
def rIn (K:W.Frag)(neg:Bool):R2:=fun x y H Q=>∃ p xs,y=.ref p/\(SqL K H p xs \/ SqT K H p xs)/\flatV x=true/\xs.all flatV=true/\Q (.bl (if neg then !inV x xs else inV x xs)) H
theorem Xm:OpR X (compareOp .In) (rIn X.K false):=by
 intro pins s σ H x y v u Q I rx ry h
 obtain⟨p,xs,rfl,hq,fx,fs,q⟩:=h
 cases ry
 rcases hq with hq | hq
 ·obtain⟨its,r,pl,hz⟩:=I.list hq
  refine SeqAt.in_listAt (eqU x) pl.isList (fun w hw=>Vq rx fx r fs w (by simpa using hw)) ⟨.bl _,H,I,rfl,?_⟩
  rw[show its.toArray.any (eqU x)=its.any (eqU x) by simp,Tf r fs]
  exact q
 ·obtain⟨its,r,pl,hz⟩:=I.tuple hq
  refine SeqAt.in_tupleAt (eqU x) pl (fun w hw=>Vq rx fx r fs w (by simpa using hw)) ⟨.bl _,H,I,rfl,?_⟩
  rw[show its.toArray.any (eqU x)=its.any (eqU x) by simp,Tf r fs]
  exact q
theorem Pu:OpR X (compareOp .NotIn) (rIn X.K true):=by
 intro pins s σ H x y v u Q I rx ry h
 obtain⟨p,xs,rfl,hq,fx,fs,q⟩:=h
 cases ry
 rcases hq with hq | hq
 ·obtain⟨its,r,pl,hz⟩:=I.list hq
  refine SeqAt.notIn_listAt (eqU x) pl.isList (fun w hw=>Vq rx fx r fs w (by simpa using hw)) ⟨.bl _,H,I,rfl,?_⟩
  rw[show its.toArray.any (eqU x)=its.any (eqU x) by simp,Tf r fs]
  exact q
 ·obtain⟨its,r,pl,hz⟩:=I.tuple hq
  refine SeqAt.notIn_tupleAt (eqU x) pl (fun w hw=>Vq rx fx r fs w (by simpa using hw)) ⟨.bl _,H,I,rfl,?_⟩
  rw[show its.toArray.any (eqU x)=its.any (eqU x) by simp,Tf r fs]
  exact q
theorem Y1:CallR X (.builtin "len") (fun xs H Q=>∃ p ys,xs=[.ref p]/\(SqL X.K H p ys \/ SqT X.K H p ys)/\Q (.int ys.length) H):=by
 intro pins s σ H xs us Q I r h
 obtain⟨p,ys,rfl,hq,q⟩:=h
 obtain⟨u,rfl,rx⟩:=Uh r
 cases rx
 have hn:=Ru
 rcases hq with hq | hq
 ·obtain⟨its,r',pl,hz⟩:=I.list hq
  have hlen:=r'.length
  exact Calls.call_len_list pl.isList (by simp only [List.size_toArray] <;> omega) ⟨.int ys.length,H,I.tok _,⟨s.toks+1,by rw[List.size_toArray,hlen]⟩,q⟩
 ·obtain⟨its,r',pl,hz⟩:=I.tuple hq
  have hlen:=r'.length
  exact len_tuple pl (by simp only [List.size_toArray] <;> omega) ⟨.int ys.length,H,I.tok _,⟨s.toks+1,by rw[List.size_toArray,hlen]⟩,q⟩
theorem Xi:CallR X (.type "list") (fun xs H Q=>∃ p ys,xs=[.ref p]/\(SqL X.K H p ys \/ SqT X.K H p ys)/\∀ l,H l=none->Q (.ref l) (upd H l (.lst ys))):=by
 intro pins s σ H xs us Q I r h
 obtain⟨p,ys,rfl,hq,q⟩:=h
 obtain⟨u,rfl,rx⟩:=Uh r
 cases rx
 have fin:∀ (its:List Value),Vals ys its->ys.length<=sizeLine->∀ (h':Heap) (c':Nat),(∀ b o',s.heap.get? b=some o'->h'.get? b=some o') →
   h'.get? s.heap.objs.size=some { cls:=.type "list",dict:=none,data:=.seq its.toArray c',slots:=#[] }->EP X pins σ Q (.ref s.heap.objs.size) { s with heap:=h' }:=fun its r' hz h' c' kp e =>
  ⟨.ref s.heap.objs.size,_,I.laid (t':=s.toks) kp (Nat.le_refl _) (show ObjOk X.prog X.w _ h' _ (.lst ys) from ⟨hz,its,c',r',e⟩),rfl,q _ (I.hok.fresh (Nat.le_refl _))⟩
 rcases hq with hq | hq
 ·obtain⟨its,r',pl,hz⟩:=I.list hq
  have hlen:=r'.length
  obtain⟨o,ho,hc,n,hd⟩:=pl.isList
  exact call_list_seq p (.inl rfl) ho hc hd (fun h' c' kp e=>fin its r' hz h' c' kp e) (by simp only [List.size_toArray] <;> omega)
 ·obtain⟨its,r',pl,hz⟩:=I.tuple hq
  have hlen:=r'.length
  obtain⟨o,ho,hc,n,hd⟩:=pl
  exact call_list_seq p (.inr rfl) ho hc hd (fun h' c' kp e=>fin its r' hz h' c' kp e) (by simp only [List.size_toArray] <;> omega)
theorem Zz:CallR X (.type "tuple") (fun xs H Q=>∃ p ys,xs=[.ref p]/\((SqL X.K H p ys/\∀ l,H l=none->Q (.ref l) (upd H l (.tup ys))) \/ (SqT X.K H p ys/\Q (.ref p) H))):=by
 intro pins s σ H xs us Q I r h
 obtain⟨p,ys,rfl,h⟩:=h
 obtain⟨u,rfl,rx⟩:=Uh r
 cases rx
 rcases h with ⟨hq,q⟩ | ⟨hq,q⟩
 ·obtain⟨its,r',pl,hz⟩:=I.list hq
  have hlen:=r'.length
  refine call_tuple_list pl.isList (fun h' kp=>?_) (by simp only [List.size_toArray] <;> omega)
  have I1:Inv X pins σ H { s with heap:=h' }:=I.kept (t':=s.toks) kp
  have I2:Inv X pins σ (upd H h'.objs.size (.tup ys)) { s with heap:=h'.push { cls:=.type "tuple",data:=.seq its.toArray } } :=
   I1.laid (t':=s.toks) (fun b o e=>Heap.get?_push_of_some _ e) (Nat.le_refl _) (show ObjOk X.prog X.w _ _ _ (.tup ys) from ⟨hz,its,r',IsTup.new _ _⟩)
  exact⟨.ref h'.objs.size,_,I2,rfl,q _ (I1.hok.fresh (Nat.le_refl _))⟩
 ·obtain⟨its,r',pl,hz⟩:=I.tuple hq
  exact call_tuple_same pl ⟨.ref p,H,I,rfl,q⟩
def tyV (K:W.Frag)(T:String)(x:V)(H:Hp):Prop:=match x with
 | .str _=>T="str"
 | .int _=>T="int"
 | .ref p=>(T="list"/\∃ xs,SqL K H p xs) \/ (T="tuple"/\∃ o,K.lookup p=some o/\o.cls=.type "tuple"/\o.dict=none) ∨
   (T="dict"/\((∃ kvs,H p=some (.dK kvs)) \/ ∃ kvs,H p=some (.dT kvs))) \/ (T="set"/\∃ S n,H p=some (.set S n))
 | _=>False
theorem Z28 {pins:List (Addr × Obj)}{σ:St}{H:Hp}{s:Shared}{T:String}{x:V}{v:Value}(I:Inv X pins σ H s)(r:RelV x v)(ty:tyV X.K T x H) :
  s.TypeIs v T/\∀ a,v=.ref a->∃ ob,s.heap.get? a=some ob/\ob.dict=none:=by
 cases x with
 | str z =>
  obtain⟨t,rfl⟩:=r
  cases (show T="str" from ty)
  exact⟨typeIs_str s z t,fun _ e=>nomatch e⟩
 | int i =>
  obtain⟨t,rfl⟩:=r
  cases (show T="int" from ty)
  exact⟨typeIs_int s i t,fun _ e=>nomatch e⟩
 | ref p =>
  cases r
  rcases ty with ⟨rfl,xs,hq⟩ | ⟨rfl,o,hk,hc,hd⟩ | ⟨rfl,hk⟩ | ⟨rfl,S,n,hk⟩
  ·obtain⟨its,_,pl,_⟩:=I.list hq
   refine⟨pl.isList.typeIs,fun a e=>?_⟩
   cases e
   obtain⟨o,n,e,c,hd,_⟩:=pl
   exact⟨o,e,hd⟩
  ·refine⟨⟨o,I.kIn p o hk,hc⟩,fun a e=>?_⟩
   cases e
   exact⟨o,I.kIn _ o hk,hd⟩
  ·have z:∃ o,s.heap.get? p=some o/\o.ExactDict:=by
    rcases hk with ⟨kvs,hk⟩ | ⟨kvs,hk⟩
    ·obtain⟨_,_,_,_,o,_,_,e,ex,_⟩:=I.hok p _ hk
     exact⟨o,e,ex⟩
    ·obtain⟨_,_,_,_,o,_,_,e,ex,_⟩:=I.hok p _ hk
     exact⟨o,e,ex⟩
   obtain⟨o,e,ex⟩:=z
   refine⟨⟨o,e,ex.1⟩,fun a e2=>?_⟩
   cases e2
   exact⟨o,e,ex.2.1⟩
  ·obtain⟨o,_,_,_,e,ex,_⟩:=I.hok p _ hk
   refine⟨⟨o,e,ex.1⟩,fun a e2=>?_⟩
   cases e2
   exact⟨o,e,ex.2.1⟩
 | _=>exact False.elim ty
def tBM (K:W.Frag)(T:String)(r:V->List V->Hp->VK->Prop)(to:TE)(t:TA):TE:=fun σ H Q=>to σ H fun x H1=>tyV K T x H1/\t σ H1 fun xs H2=>r x xs H2 Q
variable {o e:Expr}{es:List Expr}{to:TE}{t:TA}{name:Str}{apos cpos:Pos}{T id:String}{r:V->List V->Hp->VK->Prop}
theorem Wf (pa:PlainAttrs T)(slot:Slot T name id)(hty:typeOf (.builtin id)=pure (.type "method_descriptor"))(hm:MtR X id r)(ho:PE X o to)(ha:PA X (e::es) t)
  (hbase:attributeBase o name X.env (eval o X.env)=eval o X.env:=by rfl)
  (hfew:((backTo cpos (starEach (e::es) X.env)).all (fun x=>!x.1) && (backToKw cpos (keywordEach [] X.env)).all (fun x=>x.1.isSome)
   && decide ((e::es).length+([]:List Keyword).length+(if ([]:List Keyword).isEmpty then 0 else 1)<30))=true:=by rfl)
  (hline:(apos.endLine == cpos.line)=true:=by rfl) (hs:starEach (e::es) X.env=(false,eval e X.env)::starEach es X.env:=by rfl) (hplain:(backTo cpos (starEach es X.env)).any (·.1)=false:=by rfl) :
  PE X (.Call (.Attribute o name apos) (e::es) [] cpos) (tBM X.K T r to t):=by
 intro pins s σ H Q I h
 refine wpAny_Call_method_late hbase hfew hline rfl (thn (ho pins s σ H _ I h) fun v s1 ⟨x,H1,I1,r1,ty,q1⟩=>?_)
 obtain⟨h1,h2⟩:=Z28 I1 r1 ty
 refine⟨T,id,pa,slot,hty,h1,h2,?_⟩
 have hA:=ha cpos pins s1 σ H1 _ I1 q1
 rw[hs] at hA ⊢
 refine Calls.callWith_builtin (by show (false || (backTo cpos (starEach es X.env)).any (·.1))=false;rw[hplain] <;> rfl) (Calls.evalArgs_plain ?_)
 exact thn hA fun us s2 ⟨vs,H2,I2,r2,q2⟩=>hm pins s2 σ H2 x vs v us Q I2 r1 r2 q2
end
end L2
namespace L2
open PySem PySem.Spec PyProof.Rows
def MtM (X:Cx)(id:String)(r:V->List V->Hp->VK->Prop):Prop :=
 ∀ (pins:List (Addr × Obj)) (s:Shared) (σ:St) (H:Hp) (x:V) (xs:List V) (v:Value) (us:List Value) (Q:VK),Inv X pins σ H s->RelV x v->Vals xs us->r x xs H Q →
  wpAny (model X.prog X.w) X.A (call (.builtin id) (v::us)) (EP X pins σ Q) X.xe s
theorem Vals.one:∀ {x:V} {us:List Value},Vals [x] us->∃ u,us=[u]/\RelV x u
 | _,_,.cons r .nil=>⟨_,rfl,r⟩
theorem Vals.rep {xs:List V}{us:List Value}(h:Vals xs us):∀ k:Nat,Vals (List.replicate k xs).flatten (List.replicate k us).flatten
 | 0=>.nil
 | k+1=>by
  rw[List.replicate_succ,List.replicate_succ,List.flatten_cons,List.flatten_cons]
  exact Vals.append h (Vals.rep h k)
theorem P5 (its:List Value):∀ (k:Nat) (acc:List Value),
  List.foldl (fun x1 x2=>x1++x2) acc.toArray (List.replicate k its.toArray)=(acc++(List.replicate k its).flatten).toArray
 | 0,acc=>by simp
 | k+1,acc=>by
  have e:acc.toArray++its.toArray=(acc++its).toArray:=by simp
  have e2:(acc++its)++(List.replicate k its).flatten=acc++(List.replicate (k+1) its).flatten:=by
   rw[List.replicate_succ,List.flatten_cons,List.append_assoc]
  rw[← e2,← P5 its k (acc++its),← e,List.replicate_succ,List.foldl_cons]
section
variable {X:Cx}{pins:List (Addr × Obj)}{σ:St}{H:Hp}{s:Shared}{l b:Addr}{xs ys zs:List V}
theorem Inv.lset {its its':List Value}{n:Nat}{f:Array Value->Array Value}{t':Nat}(I:Inv X pins σ H s)(hH:H l=some (.lst xs))
  (e:s.heap.get? l=some { cls:=.type "list",data:=.seq its.toArray n }) (hf:f its.toArray=its'.toArray) (hv:Vals ys its') (hz:ys.length<=sizeLine) :
  Inv X pins σ (upd H l (.lst ys)) { s with heap:=s.heap.update l (Obj.mapSeq f),toks:=t' }:=by
 have q:=PySem.IsL.update e f
 rw[hf] at q
 refine I.write (x:=l) (e:=l) (by rw[hH];exact trivial) (.inl rfl) (fun b' u hb hu=>(Heap.get?_update_other s.heap (Obj.mapSeq f) (Ne.symm hb)).trans hu) ⟨_,q⟩ ?_
 exact⟨hz,its',_,hv,q⟩
theorem Inv.lnew {its:List Value}{t':Nat}(I:Inv X pins σ H s)(hv:Vals ys its)(hz:ys.length<=sizeLine) :
  Inv X pins σ (upd H s.heap.objs.size (.lst ys)) { s with heap:=s.heap.push { cls:=.type "list",data:=.seq its.toArray },toks:=t' } :=
 I.laid (fun _ _ q=>Heap.get?_push_of_some _ q) (Nat.le_refl _) ⟨hz,its,0,hv,Heap.get?_push_size _ rfl⟩
theorem Inv.fresh (I:Inv X pins σ H s):H s.heap.objs.size=none:=I.hok.fresh (Nat.le_refl _)
theorem Inv.lstM (I:Inv X pins σ H s)(hH:H l=some (.lst xs)):xs.length<=sizeLine/\∃ (its:List Value) (n:Nat),Vals xs its/\xs.length=its.length/\s.heap.get? l=some { cls:=.type "list",data:=.seq its.toArray n }:=by
 obtain⟨z,its,n,r,e⟩:=I.hok l _ hH
 exact⟨z,its,n,r,r.length,e⟩
theorem Cr {n:Nat}(h:n<=sizeLine):Builtin.List.listTooLong n=false:=by
 unfold Builtin.List.listTooLong
 exact decide_eq_false (by omega)
end
section
variable {X:Cx}
def rAppend:V->List V->Hp->VK->Prop:=fun x vs H Q=>∃ l xs y,x=.ref l/\vs=[y]/\H l=some (.lst xs)/\xs.length<sizeLine/\Q .non (upd H l (.lst (xs++[y])))
theorem Yl:MtM X "list.append" rAppend:=by
 intro pins s σ H x vs v us Q I rx rv h
 obtain⟨l,xs,y,rfl,rfl,hH,hz,q⟩:=h
 cases rx
 obtain⟨u,rfl,ru⟩:=rv.one
 obtain⟨z,its,n,r,hl,e⟩:=I.lstM hH
 refine call_meets F.slot_list_append ⟨_,e,rfl⟩ F.entry_list_append (F.args_list_append_2 _ _) (PySem.list_append l its.toArray n u (by rw[List.size_toArray];omega)) ⟨e,?_⟩
 refine⟨.non,_,I.lset (its':=its++[u]) hH e (by simp) (r.append (.cons ru .nil)) ?_,rfl,q⟩
 rw[List.length_append,List.length_singleton]
 omega
def rExtend:V->List V->Hp->VK->Prop:=fun x vs H Q=>∃ l b xs zs,x=.ref l/\vs=[.ref b]/\H l=some (.lst xs)/\H b=some (.lst zs)/\xs.length+zs.length<=sizeLine/\Q .non (upd H l (.lst (xs++zs)))
theorem F6:MtM X "list.extend" rExtend:=by
 intro pins s σ H x vs v us Q I rx rv h
 obtain⟨l,b,xs,zs,rfl,rfl,hH,hB,hz,q⟩:=h
 cases rx
 obtain⟨u,rfl,ru⟩:=rv.one
 cases ru
 obtain⟨z,its,n,r,hl,e⟩:=I.lstM hH
 obtain⟨z2,its2,n2,r2,hl2,e2⟩:=I.lstM hB
 have hsz:its.toArray.size+its2.toArray.size<=sizeLine:=by rw[List.size_toArray,List.size_toArray];omega
 have hlong:¬ (!its.toArray.isEmpty && Builtin.List.listTooLong (its.toArray.size+its2.toArray.size))=true:=by
  rw[Cr hsz,Bool.and_false]
  exact Bool.false_ne_true
 refine call_meets F.slot_list_extend ⟨_,e,rfl⟩ F.entry_list_extend (F.args_list_extend_2 _ _)
  (AutoSeq1.list_extend_list_list_0 l its.toArray n b its2.toArray n2 hlong (by rw[List.size_toArray];omega) (by omega)) ⟨e,e2,?_⟩
 refine⟨.non,_,I.lset (its':=its++its2) hH e (by simp) (r.append r2) ?_,rfl,q⟩
 rw[List.length_append]
 omega
def rCat:R2:=fun x y H Q=>∃ l b xs zs,x=.ref l/\y=.ref b/\H l=some (.lst xs)/\H b=some (.lst zs)/\xs.length+zs.length<=sizeLine/\∀ p,H p=none->Q (.ref p) (upd H p (.lst (xs++zs)))
theorem Ll:OpR X (binaryOp .Add) rCat:=by
 intro pins s σ H x y v u Q I rx ry h
 obtain⟨l,b,xs,zs,rfl,rfl,hH,hB,hz,q⟩:=h
 cases rx
 cases ry
 obtain⟨z,its,n,r,hl,e⟩:=I.lstM hH
 obtain⟨z2,its2,n2,r2,hl2,e2⟩:=I.lstM hB
 refine PySem.P.add_list e e2 ?_ (by rw[List.size_toArray,List.size_toArray];omega)
 have ea:its.toArray++its2.toArray=(its++its2).toArray:=by simp
 rw[ea]
 exact⟨.ref _,_,I.lnew (t':=s.toks) (r.append r2) (by rw[List.length_append];omega),rfl,q _ I.fresh⟩
theorem Z1b {α:Type}(xs:List α)(k:Nat):(List.replicate k xs).flatten.length=k*xs.length:=by
 induction k with
 | zero=>simp
 | succ k ih=>rw[List.replicate_succ,List.flatten_cons,List.length_append,ih,Nat.succ_mul,Nat.add_comm]
end
section
variable {prog:Program}{w:World}{A:Around}{E:Value->Shared->Prop}{s:Shared}
end
section
variable {X:Cx}
end
end L2
namespace Att
open PySem PySem.W PySem.Calls PyProof.Rows
theorem Si {P:Params}{h:Heap}:∀ (ns:List Int) (vs:List Value),WellAll P h vs (ns.map WData.int)->IntsAre vs ns:=by
 intro ns
 induction ns with
 | nil =>
  intro vs w
  rw[List.map_nil] at w
  cases w
  exact .nil
 | cons n ns ih =>
  intro vs w
  rw[List.map_cons] at w
  cases w with
  | cons a b =>
   cases a
   exact .cons _ _ (ih _ b)
theorem G9 {l:OpenLaw}{n:Nat}(hn:l.most=some n){P:Params}{h:Heap}{args:List WData}{vals:List Value}
  (hpre:l.row.toRowW.claim.pre args=true) (hwl:WellAll P h vals args) :
  ∃ a vs ns,vals=[Value.ref a]/\args=[WData.list (ns.map WData.int)]/\h.get? a=some { cls:=.type "list",data:=.seq vs.toArray }/\IntsAre vs ns/\ns.length<=n:=by
 have hsh:WShape.hasAll [] args [.list .int]=true:=(pre_splitW hpre).1
 have hc:l.pre.holds [] { args:=args }=true:=(pre_splitW hpre).2
 obtain⟨d,r,rfl,h1,h2⟩:=hasAllW_cons hsh
 obtain rfl:=hasAllW_nil h2
 obtain⟨xs,rfl,h3⟩:=hasW_list h1
 obtain⟨ns,rfl⟩:=items_int h3
 have hlen:ns.length<=n:=by
  unfold OpenLaw.pre at hc
  have h4:(WTm.not (.lt (.lit (.int (n:Int))) (.len (.arg 0)))).holds [] { args:=[.list (ns.map .int)] }=true:=by
   have h4:=(holds_andW hc).1
   rw[hn] at h4
   exact h4
  have h5:=condW_of h4 (w_not (w_lt w_lit (w_len_list (w_arg rfl))))
  rw[List.length_map] at h5
  refine Nat.le_of_not_lt fun q=>?_
  have q':(n:Int)<((ns.length:Nat):Int):=by omega
  first
   | (rw[decide_eq_true q'] at h5;exact absurd h5 (by decide))
   | (simp at h5;omega)
 cases hwl with
 | cons w1 w2 =>
  cases w2
  cases w1 with
  | list ho hall=>exact⟨_,_,ns,rfl,rfl,ho,Si ns _ hall,hlen⟩
theorem Ge (l:OpenLaw)(args:List WData):l.row.toRowW.claim.post args (.bool true) args=true :=
 postW_of (r:=l.row.toRowW) (X:=(true == true))
  (show WShape.has [] (.bool true) .bool=true by first | rfl | decide | simp[WShape.has,WShape.arms,WShape.armsAll])
  (show (WTm.eq .res (.lit (.bool true))).value [] { args:=args,res:=some (.bool true),after:=args }=some (.bool (true == true)) from w_eq_bool (w_res rfl) w_lit) rfl
theorem attach_call {l:OpenLaw}{n:Nat}{q:Program}{loose:List Str}{XP:(Str->Option Value)->Heap->Prop}{YP:World->Heap->Prop}{d:DefRec}
  (hn:l.most=some n) (hdf:d.params.defaults=[])
  (call:∀ (w:World) (s₀ s₁:Shared) (mg mb:Str->Option Value) (fa:Addr) (o:Obj) (pm cd doc:Value) (a:Addr) (vs:List Value) (ns:List Int),
   Ground q loose [] XP w s₀ mg mb s₁.heap->YP w s₁.heap →
   s₁.heap.get? fa=some o->o.data=.func (docDef d.name d.params d.body d.scope pm cd doc)->s₁.heap.CodeRec cd d.name->mg d.name=some (.ref fa) →
   s₁.heap.get? a=some { cls:=.type "list",data:=.seq vs.toArray }->IntsAre vs ns->ns.length<=n->s₁.gens=#[] →
   codeAny (model l.prog w) callerA (.call (.ref fa) ⟨[.ref a],[]⟩) (fun r s'=>r=.ok (.ret (.bool true))/\OldK s₁.heap s'.heap/\s'.os=s₁.os/\AllBare s'.gens) s₁) :
  WalkO q loose XP YP l.row.toRowW d [] (fun f vs=>PySem.call f vs):=by
 intro w s₀ s₁ mg mb G Y fa o pm cd doc dV kV ho hd hcd hD hmg hg args vals as hpre hlay hrd hwl hlo
 obtain rfl:dV=.none:=Dflts.none hD hdf
 obtain rfl:kV=.none:=Dflts.noKw hD
 obtain⟨a,vs,ns,rfl,rfl,hobj,hints,hlen⟩:=G9 hn hpre hwl
 refine enter_call (codeAny_mono (call w s₀ s₁ mg mb fa o pm cd doc a vs ns G Y ho (fd_plain hd) hcd hmg hobj hints hlen hg) fun r s' hq=>?_)
 obtain⟨rfl,h2,h3,h4⟩:=hq
 exact⟨.inl ⟨.bool true,.bool true,[],rfl,fun _=>rfl,.bool true,Ge l _,fun _=>⟨List.Pairwise.nil,fun _ hm=>(nomatch hm)⟩⟩,h2,h3,h4⟩
section
variable {prog:Program}{w:World}{A:Around}{E:Value->Shared->Prop}{s:Shared}{K:Frag}
def ledger (h:Heap)(L d:Addr):List (Addr × Obj):=(List.range h.objs.size).filterMap fun a=>if a=L \/ a=d then none else (h.get? a).map fun o=>(a,o)
end
end Att
namespace L2
open PySem PySem.Spec PyProof.Rows
theorem Qe:∀ {vs:List Value} {ns:List Int},IntsAre vs ns->Vals (ns.map V.int) vs
 | _,_,.nil=>.nil
 | _,_,.cons n t h=>.cons ⟨t,rfl⟩ (Qe h)
def Only (H:Hp):Prop:=∀ b,H b=none \/ ∃ o xs,H b=some (.frz o (.lst xs))
theorem B0 {P:Program}{w:World}{K:W.Frag}{mg mb:Str->Option Value}{CX:CXT}{k:Nat}{fa a:Addr}{fd:FuncData}{x:Str}{sp:Sp}{s₁:Shared}{vs:List Value}{ns:List Int}
  (KX:K.In s₁.heap) (hns:s₁.heap.Ns mainGlobals mg) (hb:s₁.heap.Ns builtinsNs mb) (hbb:∀ x:Str,x≠"__name__"->mb x=bootBuiltins x) (hlim:s₁.heap.NoLimit) (hg:s₁.gens=#[])
  (ha:s₁.heap.get? a=some { cls:=.type "list",data:=.seq vs.toArray }) (hi:IntsAre vs ns) (hl:ns.length<=sizeLine) {sr:Bool} (hr:Room k callerA sr)
  (F:∀ base:Heap,K.In base->base.Ns mainGlobals mg->FnOk P w K mg base CX k fa fd [x] sp sr) (hbind:∀ (s:Shared) (u:Value),BindsTo s fd ⟨[u],[]⟩ [(x,u)])
  (hsp:∀ H:Hp,Only H->SqL K H a (ns.map V.int)->sp [.ref a] H (fun v _=>v=.bl true) fun _ _ _=>False)
  (hCX:∀ H e s',CX [] H s₁ (fun _ _ _=>False) e s'->False) :
  codeAny (model P w) callerA (.call (.ref fa) ⟨[.ref a],[]⟩) (fun r s'=>r=.ok (.ret (.bool true))/\OldK s₁.heap s'.heap/\s'.os=s₁.os/\AllBare s'.gens) s₁:=by
 have rv:=Qe hi
 have lenV:=hi.length
 have core:∀ H:Hp,Only H->SqL K H a (ns.map V.int)->HOk P w H s₁.heap->(∀ b,H b≠none->b=a)->(H a≠none->K.lookup a=none) →
   codeAny (model P w) callerA (.call (.ref fa) ⟨[.ref a],[]⟩) (fun r s'=>r=.ok (.ret (.bool true))/\OldK s₁.heap s'.heap/\s'.os=s₁.os/\AllBare s'.gens) s₁:=by
  intro H hO hS hok hA hK
  have base_of:∀ {b:Addr} {o:Obj},s₁.heap.get? b=some o->H b=none->(hidT s₁.heap H).get? b=some o:=fun e n=>Bj e n
  have noA:∀ {b:Addr} {o:Obj} {es:Array DictEntry} {ep:Nat},s₁.heap.get? b=some o->o.data=.dict es ep->H b=none:=fun {b o es ep} e d=>by
   cases q:H b with
   | none=>rfl
   | some u =>
    have e':b=a:=hA b (by rw[q];simp)
    subst e'
    rw[ha] at e;cases e
    have d':Data.seq vs.toArray _=Data.dict es ep:=d
    cases d'
  have nsK:∀ {b:Addr} {m:Str->Option Value},s₁.heap.Ns b m->(hidT s₁.heap H).Ns b m:=fun {b m} ⟨o,es,ep,e,d,r⟩=>⟨o,es,ep,base_of e (noA e d),d,r⟩
  have hKb:K.In (hidT s₁.heap H):=fun b o e=>base_of (KX b o e) (by
   cases q:H b with
   | none=>rfl
   | some u =>
    have e':b=a:=hA b (by rw[q];simp)
    subst e'
    rw[hK (by rw[q];simp)] at e;cases e)
  have hM:Mod K mg (hidT s₁.heap H):=⟨hKb,nsK hns,⟨mb,nsK hb,hbb⟩,let ⟨mc,h1,h2⟩:=hlim;⟨mc,nsK h1,h2⟩⟩
  have e0:Env0 P w K mg (hidT s₁.heap H) callerA [] s₁ H:=⟨rfl,hM,fun b o e=>Z17 e,Nat.le_of_eq (Fi _ _),trivial,fun b hb=>absurd (show b∈([]:List Addr) from hb) (by simp),hok,.of_eq hg,.inl rfl⟩
  refine codeAny_mono ((F _ hKb (nsK hns)).run callerA [] s₁ H ⟨[.ref a],[]⟩ [.ref a] [.ref a] _ _ hr e0 (hbind s₁ (.ref a)) (.cons rfl .nil) (hsp H hO hS)) fun r s' h=>?_
  cases r with
  | error e=>exact (hCX H e s' h).elim
  | ok fl =>
   cases fl with
   | next=>exact False.elim h
   | brk=>exact False.elim h
   | cont=>exact False.elim h
   | ret u =>
    obtain⟨v,H',os,bare,un,hok',r',q⟩:=h
    have q':v=.bl true:=q
    subst q'
    obtain rfl:u=Value.bool true:=r'
    refine⟨rfl,OldK.of_keep fun b o e=>?_,os,bare⟩
    cases q:H b with
    | none=>exact un.keep b o e q (by intro z;exact absurd (show b∈([]:List Addr) from z) (by simp)) (by simp)
    | some u =>
     rcases hO b with z | ⟨ob,xs,z⟩
     ·rw[q] at z;cases z
     ·have z2:=un.frzs b ob _ z
      obtain⟨e1,_⟩:=hok b _ z
      obtain⟨e2,_⟩:=hok' b _ z2
      rw[e] at e1;cases e1
      exact e2
 cases hk:K.lookup a with
 | some o =>
  have e:=KX a o hk
  rw[ha] at e
  cases e
  refine core (fun _=>none) (fun _=>.inl rfl) (.inr ⟨_,vs.toArray,_,hk,rfl,rfl,rfl,by rw[List.size_toArray,lenV];exact hl,by simpa using rv⟩) (fun b u z=>by have z':(none:Option HO)=some u:=z;cases z') (fun b z=>absurd rfl z) fun z=>absurd rfl z
 | none =>
  refine core (fun b=>if b=a then some (.frz { cls:=.type "list",data:=.seq vs.toArray } (.lst (ns.map V.int))) else none) (fun b=>?_) (.inl (.inr ⟨{ cls:=.type "list",data:=.seq vs.toArray },if_pos rfl⟩)) (fun b u z=>?_) (fun b z=>?_) fun _=>hk
  ·by_cases hb:b=a
   ·exact .inr ⟨_,_,if_pos hb⟩
   ·exact .inl (if_neg hb)
  ·by_cases hb:b=a
   ·have z':=(if_pos hb).symm.trans z
    cases z'
    subst hb
    exact⟨ha,by rw[List.length_map];exact hl,vs,_,rv,ha⟩
   ·have z':=(if_neg hb).symm.trans z
    cases z'
  ·by_cases hb:b=a
   ·exact hb
   ·exact absurd (if_neg hb) z
end L2
namespace L2
open PySem PySem.Spec PyProof.Rows
abbrev KOf {K:W.Frag}{h:Heap}(_:K.In h):W.Frag:=K
theorem Z05 {l:W.OpenLaw}{n k:Nat}{q:Program}{loose:List Str}{XP:(Str->Option Value)->Heap->Prop}{YP:World->Heap->Prop}{d:DefRec}{K:Params->W.Frag}{CX:World->CXT}{sp:World->Sp}{x:Str}
  (hn:l.most=some n) (hn2:n<=sizeLine) (hdf:d.params.defaults=[]) {sr:Bool} (hr:Room k callerA sr)
  (hY:∀ (w:World) (h:Heap),YP w h->(K w.params).In h)
  (F:∀ (w:World) (mg:Str->Option Value) (fa:Addr) (h:Heap),(K w.params).In h->h.Ns mainGlobals mg->mg d.name=some (.ref fa) →
   ∃ fd:FuncData,(∀ (s:Shared) (u:Value),BindsTo s fd ⟨[u],[]⟩ [(x,u)]) ∧
    ∀ base:Heap,(K w.params).In base->base.Ns mainGlobals mg->FnOk l.prog w (K w.params) mg base (CX w) k fa fd [x] (sp w) sr)
  (hsp:∀ (w:World) (H:Hp) (a:Addr) (ns:List Int),ns.length<=n->Only H->SqL (K w.params) H a (ns.map V.int)->sp w [.ref a] H (fun v _=>v=.bl true) fun _ _ _=>False)
  (hCX:∀ (w:World) (H:Hp) (s:Shared) (e:Value) (s':Shared),CX w [] H s (fun _ _ _=>False) e s'->False) :
  W.WalkO q loose XP YP l.row.toRowW d [] (fun f vs=>PySem.call f vs):=by
 refine Att.attach_call hn hdf fun w s₀ s₁ mg mb fa o pm cd doc a vs ns G Y ho hd hcd hmg hobj hints hlen hg=>?_
 have KX:=hY w _ Y
 obtain⟨fd,hb,hF⟩:=F w mg fa _ KX G.T.g hmg
 exact B0 KX G.T.g G.T.b G.T.builtins G.T.nolimit hg hobj hints (Nat.le_trans hlen hn2) hr hF hb (fun H hO hS=>hsp w H a ns hlen hO hS) fun H e s'=>hCX w H s₁ e s'
theorem Fz {l:W.OpenLaw}{n k:Nat}{q:Program}{loose:List Str}{XP:(Str->Option Value)->Heap->Prop}{YP:World->Heap->Prop}{d:DefRec}{K:Params->W.Frag}{CX:CXT}{sp:W.Frag->Sp}{x:Str}
  (hn:l.most=some n) (hn2:n<=sizeLine) (hdf:d.params.defaults=[]) {sr:Bool} (hr:Room k callerA sr)
  (hY:∀ (w:World) (h:Heap),YP w h->(K w.params).In h)
  (F:∀ (w:World) (mg:Str->Option Value) (fa:Addr) (h:Heap),(K w.params).In h->h.Ns mainGlobals mg->mg d.name=some (.ref fa) →
   ∃ fd:FuncData,(∀ (s:Shared) (u:Value),BindsTo s fd ⟨[u],[]⟩ [(x,u)]) ∧
    ∀ base:Heap,(K w.params).In base->base.Ns mainGlobals mg->FnOk l.prog w (K w.params) mg base CX k fa fd [x] (sp (K w.params)) sr)
  (hsp:∀ (K:W.Frag) (H:Hp) (a:Addr) (ns:List Int),ns.length<=n->Only H->SqL K H a (ns.map V.int)->sp K [.ref a] H (fun v _=>v=.bl true) fun _ _ _=>False)
  (hCX:∀ (H:Hp) (s:Shared) (e:Value) (s':Shared),CX [] H s (fun _ _ _=>False) e s'->False) :
  W.WalkO q loose XP YP l.row.toRowW d [] (fun f vs=>PySem.call f vs) :=
 Z05 (K:=K) (CX:=fun _=>CX) (sp:=fun w=>sp (K w.params)) hn hn2 hdf hr hY F (fun w H a ns h1 h2 h3=>hsp (K w.params) H a ns h1 h2 h3) fun _ H s e s'=>hCX H s e s'
end L2
namespace L2
open PySem PySem.Spec PyProof.Rows
def inClass (s:Stmt)(j:Nat):Stmt:=match s with
 | .ClassDef _ _ _ body _ _ _ _ _ _ _=>body.getD j (.Pass ⟨0,0,0,0⟩)
 | _=>.Pass ⟨0,0,0,0⟩
def defArgs (s:Stmt):Arguments:=match s with
 | .FunctionDef _ a _ _ _ _ _ _ _ _=>a
 | _=>{ posonlyargs:=[],args:=[],vararg:=none,kwonlyargs:=[],kw_defaults:=[],kwarg:=none,defaults:=[] }
def defBody (s:Stmt):List Stmt:=match s with
 | .FunctionDef _ _ b _ _ _ _ _ _ _=>b
 | _=>[]
def defScope (s:Stmt):Scope:=match s with
 | .FunctionDef _ _ _ _ _ _ sc _ _ _=>sc
 | _=>{ kind:=.function,names:=[],isGenerator:=false,isCoroutine:=false }
abbrev CX0:CXT:=fun _ _ _ _ _ _=>False
abbrev E0:XK:=fun _ _ _=>False
theorem J6 {X:Cx}:Passes CX0 X E0:=fun _ _ _ _ _ _ _ h=>h.elim
structure Fun (K:W.Frag)(x qual:Str)(st:Stmt)(f:Addr)(fd:FuncData):Prop where
 ex:∃ (oc:Value) (od:Option Addr) (kV doc pm:Value) (an:Option Addr) (cdv ct:Value) (osl:Array (Option Value)),
  fd=W.fnOf x qual (defArgs st) (defBody st) (defScope st) .none kV doc pm an cdv ct/\K.lookup f=some ⟨oc,od,.func fd,osl⟩/\W.codeIn K cdv qual=true
 kp:W.keepIn K (.ref f)=true
section
variable {P:Program}{w:World}{K:W.Frag}{mg:Str->Option Value}{base:Heap}
theorem Fun.ok {x qual:Str}{st:Stmt}{f:Addr}{fd:FuncData}{N ps:List Str}{k:Nat}{sp:Sp}{sr:Bool}(F:Fun K x qual st f fd)(S:FnScope N ps (defScope st))(len:∀ vs H Q E,sp vs H Q E->vs.length=ps.length)
  (hbody:∀ (cdv:Value) (A:Around) (outer:List Env) (s:Shared) (H:Hp) (vs:List V) (Q:VK) (E:XK),Room k (A.deeper (envOfC qual (defScope st) s.heap.objs.size f cdv)) sr->sp vs H Q E →
   ∃ t,PSs (cxOf CX0 P w K mg base N qual (defScope st) f cdv A outer s H E).nox (defBody st) t/\t { nx:=fun _ H'=>Q .non H',rt:=Q } (start N vs) H):FnOk P w K mg base CX0 (k+1) f fd ps sp sr:=by
 obtain⟨oc,od,kV,doc,pm,an,cdv,ct,osl,rfl,lk,hcd⟩:=F.ex
 refine Z25 lk hcd S len fun A outer s H vs Q E hr hsp=>?_
 obtain⟨t,h,q⟩:=hbody cdv A outer s H vs Q E hr hsp
 exact⟨t,h.nox,q⟩
theorem Fun.binds {x qual:Str}{st:Stmt}{f:Addr}{fd:FuncData}{ps:List Str}(F:Fun K x qual st f fd)
  (h:∀ (kV doc pm:Value) (an:Option Addr) (cdv ct:Value) (us:List Value),us.length=ps.length->bindArgs (W.fnOf x qual (defArgs st) (defBody st) (defScope st) .none kV doc pm an cdv ct) ⟨us,[]⟩=pure (ps.zip us)):Binds K fd ps []:=by
 obtain⟨oc,od,kV,doc,pm,an,cdv,ct,osl,rfl,lk,hcd⟩:=F.ex
 exact .all (h kV doc pm an cdv ct)
theorem Ts {x qual:Str}{st:Stmt}{f:Addr}{oc:Value}{od an:Option Addr}{osl:Array (Option Value)}{kV doc pm cdv ct:Value}(l:K.lookup f=some ⟨oc,od,.func (W.fnOf x qual (defArgs st) (defBody st) (defScope st) .none kV doc pm an cdv ct),osl⟩)
  (c:W.codeIn K cdv qual=true) (k:W.keepIn K (.ref f)=true):Fun K x qual st f (W.fnOf x qual (defArgs st) (defBody st) (defScope st) .none kV doc pm an cdv ct):=⟨⟨oc,od,kV,doc,pm,an,cdv,ct,osl,rfl,l,c⟩,k⟩
end
theorem Bi {A:Around}{k:Nat}{sr:Bool}(hr:Room k A sr):A.units+1<cLine:=Nat.lt_of_le_of_lt (Nat.add_le_add_left (by decide:1<=64) _) hr.units
theorem Xd {n:Nat}(h:n<=1000):n<sizeLine:=Nat.lt_of_le_of_lt h (by decide)
section
variable {X:Cx}
theorem pv (i:Nat){x:Str}{pos:Pos}(hN:X.N[i]?=some x:=by rfl)(hv:Vis X.env.scope x:=by first | exact Or.inl rfl | exact Or.inr (Or.inl rfl) | exact Or.inr (Or.inr rfl))(hd:(x == ("__debug__":Str))=false:=by decide)
  (hcd:(x == ("__classdict__":Str))=false:=by decide):PE X (.Name x pos) (tVar i):=Z2e hN hv hd hcd
end
theorem Xf {A B:Prop}(h:B):if false=true then A else B:=by
 rw[if_neg Bool.false_ne_true]
 exact h
theorem Rx {A B:Prop}(h:A):if true=true then A else B:=by
 rw[if_pos rfl]
 exact h
theorem Xc {c A B:Prop}[Decidable c](h1:c->A)(h2:¬ c->B):if c then A else B:=by
 by_cases h:c
 ·rw[if_pos h]
  exact h1 h
 ·rw[if_neg h]
  exact h2 h
theorem Bf {c A B:Prop}[Decidable c](hc:c)(h:B):if (!decide c)=true then A else B:=by
 rw[decide_eq_true hc]
 exact Xf h
def Same (H H':Hp):Prop:=∀ b o,H b=some o->H' b=some o
theorem Same.refl (H:Hp):Same H H:=fun _ _ h=>h
theorem Same.trans {H H1 H2:Hp}(a:Same H H1)(b:Same H1 H2):Same H H2:=fun c o h=>b c o (a c o h)
end L2
namespace Sb
def Bd (n:Nat)(x:Int):Prop:=x.natAbs<2 ^ n
theorem Bd.mono {m n:Nat}{x:Int}(h:Bd m x)(k:m<=n):Bd n x:=Nat.lt_of_lt_of_le h (Nat.pow_le_pow_right (by decide) k)
theorem Bd.mul {m n:Nat}{x y:Int}(h:Bd m x)(k:Bd n y):Bd (m+n) (x*y):=by
 unfold Bd at *
 rw[Int.natAbs_mul,Nat.pow_add]
 exact Nat.mul_lt_mul'' h k
theorem Bd.add {n:Nat}{x y:Int}(h:Bd n x)(k:Bd n y):Bd (n+1) (x+y):=by
 unfold Bd at *
 rw[Nat.pow_succ]
 omega
theorem Bd.sub {n:Nat}{x y:Int}(h:Bd n x)(k:Bd n y):Bd (n+1) (x - y):=by
 unfold Bd at *
 rw[Nat.pow_succ]
 omega
theorem Bd.neg {n:Nat}{x:Int}(h:Bd n x):Bd n (-x):=by
 unfold Bd at *
 omega
theorem Bd.of_le {n:Nat}{x y:Int}(h:x.natAbs<=y.natAbs)(k:Bd n y):Bd n x:=Nat.lt_of_le_of_lt h k
theorem Bd.of_le' {n:Nat}{x y:Int}(k:Bd n y)(h:x.natAbs<=y.natAbs):Bd n x:=Nat.lt_of_le_of_lt h k
theorem Bd.log {n:Nat}{x:Int}(h:Bd n x)(k:n<9000):x.natAbs.log2<9000:=by
 rcases Nat.eq_zero_or_pos x.natAbs with h0 | hp
 ·rw[h0];decide
 ·have:=(Nat.log2_lt (Nat.ne_of_gt hp)).mpr h
  omega
def gI (p q:Int):Int:=(Int.gcd p q:Int)
def sg (p q:Int):Int:=if q<0 then -(gI p q) else gI p q
def nT (p q:Int):Int:=p.fdiv (sg p q)
def nB (p q:Int):Int:=q.fdiv (sg p q)
theorem K7 {p q:Int}(h:q≠0):0<gI p q:=by
 have:=Int.gcd_pos_of_ne_zero_right p h
 unfold gI;omega
theorem Qi {p q:Int}(h:q≠0):sg p q≠0:=by
 have:=K7 (p:=p) h
 unfold sg;split <;> omega
theorem Lc (p q:Int):sg p q ∣ p:=by
 unfold sg gI;split
 ·exact Int.neg_dvd.mpr (Int.gcd_dvd_left ..)
 ·exact Int.gcd_dvd_left ..
theorem Ld (p q:Int):sg p q ∣ q:=by
 unfold sg gI;split
 ·exact Int.neg_dvd.mpr (Int.gcd_dvd_right ..)
 ·exact Int.gcd_dvd_right ..
theorem Uf {a b:Int}(h:b ∣ a):a.fdiv b*b=a:=by
 rw[Int.fdiv_eq_ediv_of_dvd h]
 exact Int.ediv_mul_cancel h
theorem Lq (p q:Int):nT p q*sg p q=p:=Uf (Lc p q)
theorem Tm (p q:Int):nB p q*sg p q=q:=Uf (Ld p q)
theorem N0 {p q:Int}(h:q≠0):0<nB p q:=by
 have e:=Tm p q
 have g:=K7 (p:=p) h
 by_cases hq:q<0
 ·have s:sg p q=-(gI p q):=by unfold sg;rw[if_pos hq]
  rw[s] at e
  rcases Int.lt_trichotomy 0 (nB p q) with k | k | k
  ·exact k
  ·rw[← k] at e;simp at e;omega
  ·have:=Int.mul_pos_of_neg_of_neg k (show -(gI p q)<0 by omega);omega
 ·have s:sg p q=gI p q:=by unfold sg;rw[if_neg hq]
  rw[s] at e
  rcases Int.lt_trichotomy 0 (nB p q) with k | k | k
  ·exact k
  ·rw[← k] at e;simp at e;omega
  ·have:=Int.mul_neg_of_neg_of_pos k g;omega
theorem Ys (p q:Int):nT p q*q=p*nB p q:=by
 have h1:=Lq p q
 have h2:=Tm p q
 calc nT p q*q=nT p q*(nB p q*sg p q):=by rw[h2]
  _=(nT p q*sg p q)*nB p q:=by rw[Int.mul_comm (nB p q),Int.mul_assoc]
  _=p*nB p q:=by rw[h1]
theorem Cu {p q:Int}(h:q≠0):Int.gcd (nT p q) (nB p q)=1:=by
 have g:=K7 (p:=p) h
 have e1:=Lq p q
 have e2:=Tm p q
 have e:Int.gcd p q=Int.gcd (nT p q) (nB p q)*(sg p q).natAbs:=by
  have z:=Int.gcd_mul_right (nT p q) (sg p q) (nB p q)
  rw[e1,e2] at z
  exact z
 have s:(sg p q).natAbs=Int.gcd p q:=by
  unfold sg gI;split <;> simp
 rw[s] at e
 have gp:0<Int.gcd p q:=by unfold gI at g;omega
 have e':1*Int.gcd p q=Int.gcd (nT p q) (nB p q)*Int.gcd p q:=by omega
 exact (Nat.eq_of_mul_eq_mul_right gp e').symm
theorem D9 {p q:Int}(h:q≠0):1<=(sg p q).natAbs:=by
 have:=Qi (p:=p) h
 omega
theorem Tp {a b c:Int}(h:a*b=c)(hb:1<=b.natAbs):a.natAbs<=c.natAbs:=by
 rw[← h,Int.natAbs_mul]
 exact Nat.le_mul_of_pos_right _ hb
theorem Z3n {p q:Int}(h:q≠0):(nT p q).natAbs<=p.natAbs:=Tp (Lq p q) (D9 h)
theorem Z3o {p q:Int}(h:q≠0):(nB p q).natAbs<=q.natAbs:=Tp (Tm p q) (D9 h)
theorem Z3c {p q:Int}(h:q≠0):(sg p q).natAbs<=q.natAbs:=by
 have e:=Tm p q
 rw[Int.mul_comm] at e
 have:=N0 (p:=p) h
 exact Tp e (by omega)
theorem gcd_step {a b:Int}:Int.gcd b (a % b)=Int.gcd a b:=by
 rw[Int.gcd_comm b,Int.emod_def]
 rw[Int.gcd_sub_mul_left_left]
theorem Fj (a b:Int):Int.gcd b (a.fmod b)=Int.gcd a b:=by
 rw[Int.gcd_comm b,Int.fmod_def]
 rw[Int.gcd_sub_mul_left_left]
theorem Bm (a:Int){b:Int}(h:b≠0):(a.fmod b).natAbs<b.natAbs:=by
 rcases Int.lt_or_gt_of_ne h with k | k
 ·have h0:=Int.neg_fmod_neg a b
  have h1:=Int.fmod_nonneg_of_pos (-a) (show 0 < -b by omega)
  have h2:=Int.fmod_lt_of_pos (-a) (show 0 < -b by omega)
  omega
 ·have h1:=Int.fmod_nonneg_of_pos a k
  have h2:=Int.fmod_lt_of_pos a k
  omega
theorem Z32 (a b:Int)(ha:0<=a)(h:b=0):a=(Int.gcd a b:Int):=by
 subst h
 simp
 omega
end Sb
namespace Sb
open PySem PySem.Spec PyProof.Rows L2
theorem Bd.bits {n:Nat}{x:Int}(h:Bd n x):Builtin.Int.intBits x<=n:=by
 unfold Builtin.Int.intBits
 split
 ·exact Nat.zero_le _
 ·rename_i h0
  have hn:x.natAbs≠0:=by
   intro z
   have:x=0:=by omega
   exact h0 (by simp[this])
  have:=(Nat.log2_lt hn).mpr h
  omega
theorem Bd.mulOk {m n:Nat}{x y:Int}(h:Bd m x)(k:Bd n y)(hm:m<=1048576)(hn:n<=1048576):IntMulOk x y :=
 IntMulOk.of_bits (Nat.le_trans h.bits (Nat.le_trans hm (by decide))) (Nat.le_trans k.bits (Nat.le_trans hn (by decide)))
theorem F4 {x y:Int}(h1:-(2 ^ 64)<x)(h2:x<2 ^ 64):IntMulOk x y:=IntMulOk.of_left (intBits_le_64 h1 h2)
theorem Gz {x y:Int}(h1:-(2 ^ 64)<y)(h2:y<2 ^ 64):IntMulOk x y:=IntMulOk.of_right (intBits_le_64 h1 h2)
section
variable {X:Cx}
theorem Zv:OpR X (binaryOp .Mult) (rI IntMulOk fun i j=>.int (i*j)):=opI fun _ _ _ _ _ _ _ hc q=>mul_int q hc
def DivOk (_ j:Int):Prop:=j≠0/\j.natAbs.log2<9000
theorem W4:OpR X (binaryOp .FloorDiv) (rI DivOk fun i j=>.int (i.fdiv j)):=opI fun _ _ _ _ _ _ _ hc q=>floordiv_int hc.1 q (.inl (PyProof.noPylong_of_log2 hc.2))
def rP0 (K:W.Frag):R2:=fun x y H Q=>∃ p u v,x=.ref p/\y=.int 0/\SqT K H p [u,v]/\Q u H
def rP1 (K:W.Frag):R2:=fun x y H Q=>∃ p u v,x=.ref p/\y=.int 1/\SqT K H p [u,v]/\Q v H
def rL0 (K:W.Frag):R2:=fun x y H Q=>∃ p u v,x=.ref p/\y=.int 0/\SqL K H p [u,v]/\Q u H
def rL1 (K:W.Frag):R2:=fun x y H Q=>∃ p u v,x=.ref p/\y=.int 1/\SqL K H p [u,v]/\Q v H
theorem at0 {α:Type}(x:α)(xs:List α):atI (x::xs) 0=some x:=Zd (j:=0) rfl
theorem at1 {α:Type}(x y:α)(xs:List α):atI (x::y::xs) 1=some y:=Zd (j:=1) rfl
theorem Xg:IxR X (rP0 X.K):=fun vl sl pins s σ H x y v u Q I rx ry ⟨p,a,b,e1,e2,h,q⟩ hs=>Yg vl sl pins s σ H x y v u Q I rx ry ⟨p,_,_,_,e1,e2,h,at0 _ _,q⟩ hs
theorem Yq:IxR X (rP1 X.K):=fun vl sl pins s σ H x y v u Q I rx ry ⟨p,a,b,e1,e2,h,q⟩ hs=>Yg vl sl pins s σ H x y v u Q I rx ry ⟨p,_,_,_,e1,e2,h,at1 _ _ _,q⟩ hs
theorem Jc:IxR X (rL0 X.K):=fun vl sl pins s σ H x y v u Q I rx ry ⟨p,a,b,e1,e2,h,q⟩ hs=>Zy vl sl pins s σ H x y v u Q I rx ry ⟨p,_,_,_,e1,e2,h,at0 _ _,q⟩ hs
theorem Jb:IxR X (rL1 X.K):=fun vl sl pins s σ H x y v u Q I rx ry ⟨p,a,b,e1,e2,h,q⟩ hs=>Zy vl sl pins s σ H x y v u Q I rx ry ⟨p,_,_,_,e1,e2,h,at1 _ _ _,q⟩ hs
theorem Rm {x:Str}{T:String}{pos:Pos}(hm:X.mg x=none)(hv:bootBuiltins x=some (.type T))(hg:Gl X x:=by rfl)(hn:x≠"__name__":=by decide)(hd:(x == ("__debug__":Str))=false:=by decide):PE X (.Name x pos) (tC (.ty T)) :=
 Z0e hg hm hv rfl hn hd
theorem Xy:CallR X (.builtin "isinstance") (fun xs H Q=>∃ x T t b,xs=[x,.ty T]/\TyOf X.K H x t/\W.kitOne X.K t (.type T)=some b/\Q (.bl b) H):=by
 intro pins s σ H xs us Q I r h
 obtain⟨x,T,t,b,rfl,ty,k,q⟩:=h
 obtain⟨u,w',rfl,rx,ry⟩:=Nk r
 cases (show w'=Value.type T from ry)
 exact Fe I rx ty k fun tk=>⟨.bl b,H,I.tok tk,rfl,q⟩
theorem Nh:CallR X (.builtin "isinstance") (fun xs H Q=>∃ a ys T b,xs=[.ref a,.ty T]/\SqT X.K H a ys/\W.kitOne X.K (.type "tuple") (.type T)=some b/\Q (.bl b) H):=by
 intro pins s σ H xs us Q I r h
 obtain⟨a,ys,T,b,rfl,hs,k,q⟩:=h
 obtain⟨u,w',rfl,rx,ry⟩:=Nk r
 cases (show w'=Value.type T from ry)
 cases (show u=Value.ref a from rx)
 obtain⟨its,_,tup,_⟩:=I.tuple hs
 obtain⟨o,h1,h2,_⟩:=tup
 exact W.kia_one W.kitx_tuple I.kIn ⟨o,h1,h2⟩ k (fun z=>nomatch z) fun tk=>⟨.bl b,H,I.tok tk,rfl,q⟩
end
theorem T4 {K:W.Frag}{T:String}:W.kitOne K (.type T) (.type T)=some true:=by
 unfold W.kitOne
 rw[if_pos (by simp)]
theorem T7 {K:W.Frag}:W.kitOne K (.type "int") (.type "bool")=some false:=by
 show (if (Value.type "int" == Value.type "bool")=true then some true else (if W.kitMeta "bool"=true then (fastBuiltinMro "int").map (·.contains (Value.type "bool")) else none))=some false
 decide +kernel
def Has (P:Program)(w:World)(K:W.Frag)(mg:Str->Option Value)(base:Heap)(k:Nat)(x:Str)(ps:List Str)(sp:Sp)(sr:Bool:=false):Prop :=
 ∃ (f:Addr) (fd:FuncData),FnOk P w K mg base CX0 k f fd ps sp sr/\mg x=some (.ref f)/\W.keepIn K (.ref f)=true/\Binds K fd ps []
def Def (K:W.Frag)(mg:Str->Option Value)(x:Str)(st:Stmt)(ps:List Str):Prop :=
 ∃ (f:Addr) (fd:FuncData),Fun K x x st f fd/\mg x=some (.ref f)/\Binds K fd ps []
theorem Def.has {P:Program}{w:World}{K:W.Frag}{mg:Str->Option Value}{base:Heap}{k:Nat}{x:Str}{st:Stmt}{ps:List Str}{sp:Sp}{sr:Bool}(D:Def K mg x st ps)
  (h:∀ (f:Addr) (fd:FuncData),Fun K x x st f fd->FnOk P w K mg base CX0 k f fd ps sp sr):Has P w K mg base k x ps sp sr:=by
 obtain⟨f,fd,F,hm,b⟩:=D
 exact⟨f,fd,h f fd F,hm,F.kp,b⟩
section
variable {X:Cx}{k:Nat}{x:Str}{ps:List Str}{sp:Sp}{e:Expr}{es:List Expr}{t:TA}{p pos:Pos}
theorem Rl {sr:Bool}(h:Has X.prog X.w X.K X.mg X.base k x ps sp)(hr:Room k X.A sr)(hg:Gl X x)(ha:PA X (e::es) t)(hdb:(x == ("__debug__":Str))=false:=by decide)
  (he:starEach (e::es) X.env=(false,eval e X.env)::starEach es X.env:=by rfl) (hpl:(backTo pos (starEach es X.env)).any (·.1)=false:=by rfl) (hc:X.calm=true:=by rfl):PE X (.Call (.Name x p) (e::es) [] pos) (tCall sp [] E0 t):=by
 obtain⟨f,fd,F,hm,hk,hb⟩:=h
 exact J5 F hr.loose hg hm hk hb .nil J6 ha hdb he hpl hc
theorem Z0c (h:Has X.prog X.w X.K X.mg X.base k x ps sp true)(hr:Room k X.A true)(hg:Gl X x)(ha:PA X (e::es) t)(hdb:(x == ("__debug__":Str))=false:=by decide)
  (he:starEach (e::es) X.env=(false,eval e X.env)::starEach es X.env:=by rfl) (hpl:(backTo pos (starEach es X.env)).any (·.1)=false:=by rfl) (hc:X.calm=true:=by rfl):PE X (.Call (.Name x p) (e::es) [] pos) (tCall sp [] E0 t):=by
 obtain⟨f,fd,F,hm,hk,hb⟩:=h
 exact J5 F hr hg hm hk hb .nil J6 ha hdb he hpl hc
theorem Zc {j:Nat}{sr:Bool}(h:Has X.prog X.w X.K X.mg X.base k x ps sp)(hr:Room j X.A sr)(ha:PA X (e::es) t)(hg:Gl X x:=by rfl)(hj:k<=j:=by decide)(hdb:(x == ("__debug__":Str))=false:=by decide)
  (he:starEach (e::es) X.env=(false,eval e X.env)::starEach es X.env:=by rfl) (hpl:(backTo pos (starEach es X.env)).any (·.1)=false:=by rfl) (hc:X.calm=true:=by rfl):PE X (.Call (.Name x p) (e::es) [] pos) (tCall sp [] E0 t):=Rl h (hr.mono hj) hg ha hdb he hpl hc
end
section
variable {X:Cx}{st:Stmt}{t:TS}{e:Expr}{te:TE}{tt:TT}
def tJ (t:TS):TS:=fun D σ H=>∃ J:L2.St->Hp->Prop,t { D with nx:=J } σ H/\∀ σ' H',J σ' H'->D.nx σ' H'
theorem Wo (h:PS X st t):PS X st (tJ t):=by
 intro pins s σ H D I ⟨J,a,b⟩
 refine thn (h pins s σ H _ I a) fun f s' q=>?_
 cases f with
 | next=>obtain⟨σ',H',I',q⟩:=q;exact⟨σ',H',I',b _ _ q⟩
 | brk=>exact q
 | cont=>exact q
 | ret v=>exact q
end
def SameX (a:Addr)(H H':Hp):Prop:=∀ b o,H b=some o->b≠a->H' b=some o
theorem SameX.refl (a:Addr)(H:Hp):SameX a H H:=fun _ _ h _=>h
theorem SameX.trans {a:Addr}{H H1 H2:Hp}(x:SameX a H H1)(y:SameX a H1 H2):SameX a H H2:=fun b o h n=>y b o (x b o h n) n
theorem SameX.of {a:Addr}{H H':Hp}(x:Same H H'):SameX a H H':=fun b o h _=>x b o h
theorem SameX.upd (a:Addr)(H:Hp)(o:HO):SameX a H (upd H a o):=fun b u h n=>by rw[Zb n];exact h
theorem Same.new {H:Hp}{a:Addr}{o:HO}(h:H a=none):Same H (upd H a o):=fun b u e=>by rw[Zb (Z8 e h)];exact e
theorem Zo {K:W.Frag}{H H':Hp}{a:Addr}{xs:List V}(e:Same H H')(h:SqT K H a xs):SqT K H' a xs:=by
 rcases h with (h | ⟨o,h⟩) | h
 ·exact .inl (.inl (e _ _ h))
 ·exact .inl (.inr ⟨o,e _ _ h⟩)
 ·exact .inr h
def BagAt (H:Hp)(a:Addr)(n:Nat):Prop:=∃ x y:Int,H a=some (.lst [.int x,.int y])/\0<=y/\y<=n
theorem BagAt.mono {H:Hp}{a:Addr}{m n:Nat}(h:BagAt H a m)(k:m<=n):BagAt H a n:=by
 obtain⟨x,y,e,h1,h2⟩:=h
 exact⟨x,y,e,h1,by omega⟩
theorem BagAt.same {H H':Hp}{a:Addr}{n:Nat}(h:BagAt H a n)(x:Same H H'):BagAt H' a n:=by
 obtain⟨p,q,e,r⟩:=h
 exact⟨p,q,x _ _ e,r⟩
theorem BagAt.upd {H:Hp}{a l:Addr}{o:HO}{n:Nat}(h:BagAt H a n)(k:a≠l):BagAt (L2.upd H l o) a n:=by
 obtain⟨p,q,e,r⟩:=h
 exact⟨p,q,by rw[Zb k];exact e,r⟩
theorem BagAt.lst {H:Hp}{a:Addr}{n:Nat}(h:BagAt H a n):∃ ys,H a=some (.lst ys):=by
 obtain⟨x,y,e,_⟩:=h
 exact⟨_,e⟩
theorem Zm {K:W.Frag}{h:Heap}{mg:Str->Option Value}{x:Str}{st:Stmt}{ps:List Str}{f:Addr}{oc:Value}{od an:Option Addr}{sl:Array (Option Value)}{kV dc pm cd ct:Value}(X:K.In h)(G:h.Ns mainGlobals mg)
  (a:W.nsIn K mainGlobals x=some (some (.ref f))) (l:K.lookup f=some ⟨oc,od,.func (W.fnOf x x (defArgs st) (defBody st) (defScope st) .none kV dc pm an cd ct),sl⟩) (c:W.codeIn K cd x=true) (k:W.keepIn K (.ref f)=true)
  (b:∀ (kV doc pm:Value) (an:Option Addr) (cdv ct:Value) (us:List Value),us.length=ps.length->bindArgs (W.fnOf x x (defArgs st) (defBody st) (defScope st) .none kV doc pm an cdv ct) ⟨us,[]⟩=pure (ps.zip us)):Def K mg x st ps :=
 ⟨f,_,Ts l c k,W.mg_of X G a,(Ts l c k).binds b⟩
theorem Z2v {P:Program}{w:World}{K:W.Frag}{h:Heap}{mg:Str->Option Value}{x:Str}{st:Stmt}{fa f:Addr}{oc:Value}{od an:Option Addr}{sl:Array (Option Value)}{kV dc pm cd ct:Value}{n:Nat}{sp:Sp}{sr:Bool}(X:K.In h)(G:h.Ns mainGlobals mg)(hfa:mg "law"=some (.ref fa))
  (a:W.nsIn K mainGlobals "law"=some (some (.ref f))) (l:K.lookup f=some ⟨oc,od,.func (W.fnOf "law" "law" (defArgs st) (defBody st) (defScope st) .none kV dc pm an cd ct),sl⟩) (c:W.codeIn K cd "law"=true) (k:W.keepIn K (.ref f)=true)
  (b:∀ (s:Shared) (v:Value),BindsTo s (W.fnOf "law" "law" (defArgs st) (defBody st) (defScope st) .none kV dc pm an cd ct) ⟨[v],[]⟩ [(x,v)])
  (ok:∀ (fd:FuncData) (base:Heap),Fun K "law" "law" st fa fd->FnOk P w K mg base CX0 n fa fd [x] sp sr) :
  ∃ fd:FuncData,(∀ (s:Shared) (v:Value),BindsTo s fd ⟨[v],[]⟩ [(x,v)])/\∀ base:Heap,K.In base->base.Ns mainGlobals mg->FnOk P w K mg base CX0 n fa fd [x] sp sr:=by
 have e:=hfa.symm.trans (W.mg_of X G a)
 cases e
 exact⟨_,b,fun base _ _=>ok _ base (Ts l c k)⟩
theorem Ug (env:Env):∀ (ns:List (Str × NameKind)) (cs:List (Str × Addr)),(∀ y∈ns,y.2=.free->∃ c,env.cells.lookup y.1=some c)->(∀ y c,cs.lookup y=some c->env.cells.lookup y=some c) →
  ∃ cl,(forIn ns cs (fun (x:Str × NameKind) (r:List (Str × Addr))=>(if (x.2 == .free)=true then do let a ← cellOf env x.1;pure (ForInStep.yield ((x.1,a)::r)) else pure (ForInStep.yield r):Sem (ForInStep (List (Str × Addr))))))=pure cl ∧
   (∀ y c,cl.lookup y=some c->env.cells.lookup y=some c)/\(∀ y c,cs.lookup y=some c->∃ c',cl.lookup y=some c')/\∀ y∈ns,y.2=.free->∃ c,cl.lookup y.1=some c
 | [],cs,_,hs=>⟨cs,by simp,hs,fun y c e=>⟨c,e⟩,fun y hy=>nomatch hy⟩
 | (n,k)::r,cs,hf,hs=>by
  have hr:∀ y∈r,y.2=.free->∃ c,env.cells.lookup y.1=some c:=fun y hy=>hf y (List.mem_cons_of_mem _ hy)
  by_cases hk:k=.free
  ·subst hk
   obtain⟨c,hc⟩:=hf (n,.free) List.mem_cons_self rfl
   have hc':env.cells.lookup n=some c:=hc
   have hs':∀ y d,((n,c)::cs).lookup y=some d->env.cells.lookup y=some d:=fun y d e=>by
    by_cases hy:y=n
    ·subst hy
     simp only [List.lookup_cons,beq_self_eq_true] at e
     cases e
     exact hc'
    ·have hb:(y == n)=false:=beq_eq_false_iff_ne.mpr hy
     simp only [List.lookup_cons,hb] at e
     exact hs y d e
   obtain⟨cl,h1,h2,h3,h4⟩:=Ug env r ((n,c)::cs) hr hs'
   have up:∃ c',cl.lookup n=some c':=h3 n c (by simp[List.lookup_cons])
   refine⟨cl,?_,h2,fun y d e=>?_,fun y hy hyf=>?_⟩
   ·have e:cellOf env n=pure c:=by unfold cellOf;rw[hc']
    simp only [List.forIn_cons,beq_self_eq_true,if_true,e]
    exact h1
   ·by_cases hy:y=n
    ·subst hy;exact up
    ·have hb:(y == n)=false:=beq_eq_false_iff_ne.mpr hy
     exact h3 y d (by simp only [List.lookup_cons,hb];exact e)
   ·rcases List.mem_cons.mp hy with z | z
    ·subst z;exact up
    ·exact h4 y z hyf
  ·obtain⟨cl,h1,h2,h3,h4⟩:=Ug env r cs hr hs
   refine⟨cl,?_,h2,h3,fun y hy hyf=>?_⟩
   ·have hb:(k == NameKind.free)=false:=beq_eq_false_iff_ne.mpr hk
    simp only [List.forIn_cons,hb,Bool.false_eq_true,if_false]
    exact h1
   ·rcases List.mem_cons.mp hy with z | z
    ·subst z;exact absurd hyf hk
    ·exact h4 y z hyf
theorem U6 {env:Env}{scope:Scope}(hf:∀ y∈scope.names,y.2=.free->∃ c,env.cells.lookup y.1=some c) :
  ∃ cl,closureFor scope env=pure cl/\(∀ y c,cl.lookup y=some c->env.cells.lookup y=some c)/\∀ y∈scope.names,y.2=.free->∃ c,cl.lookup y.1=some c:=by
 obtain⟨cl,h1,h2,_,h4⟩:=Ug env scope.names [] hf (fun y c e=>by simp at e)
 refine⟨cl,?_,h2,h4⟩
 have e:closureFor scope env=((forIn scope.names ([]:List (Str × Addr)) (fun (x:Str × NameKind) (r:List (Str × Addr))=>(if (x.2 == .free)=true then do let a ← cellOf env x.1;pure (ForInStep.yield ((x.1,a)::r)) else pure (ForInStep.yield r):Sem (ForInStep (List (Str × Addr)))))) >>= fun r=>pure r):=by
  unfold closureFor
  congr 1
 rw[e,h1]
 rfl
theorem Lv {l:List (Str × NameKind)}{x:Str}{q:NameKind}(h:l.lookup x=some q):(x,q)∈l:=by
 obtain⟨a,b,e,_⟩:=List.lookup_eq_some_iff.mp h
 rw[e]
 simp
theorem Uo {env:Env}(hf:env.scope.kind=.function):∀ {names:List (Str × NameKind)} {x:Str},names.lookup x=some .free->env.kindOf x=some .cell →
  (names.map fun (n,k)=>if (k == .free && env.scope.kind == .function && env.kindOf n == some .cell) then (n,NameKind.cell) else (n,k)).lookup x=some .cell
 | [],_,h,_=>by simp at h
 | (n,k)::r,x,h,hx=>by
  by_cases e:x=n
  ·subst e
   simp only [List.lookup_cons,beq_self_eq_true] at h
   cases h
   simp[List.lookup_cons,hf,hx]
  ·have hb:(x == n)=false:=beq_eq_false_iff_ne.mpr e
   simp only [List.lookup_cons,hb] at h
   have ih:=Uo hf h hx
   show List.lookup x ((if (k == .free && env.scope.kind == .function && env.kindOf n == some .cell)=true then (n,NameKind.cell) else (n,k))::_)=_
   by_cases c:(k == .free && env.scope.kind == .function && env.kindOf n == some .cell)=true
   ·rw[if_pos c];simp only [List.lookup_cons,hb];exact ih
   ·rw[if_neg c];simp only [List.lookup_cons,hb];exact ih
theorem V8 {env:Env}:∀ {names:List (Str × NameKind)} {x:Str} {q:NameKind},(q=.cell \/ q=.free) →
  (names.map fun (n,k)=>if (k == .free && env.scope.kind == .function && env.kindOf n == some .cell) then (n,NameKind.cell) else (n,k)).lookup x=some q →
  ∃ y∈names,y.1=x/\(y.2=.free \/ y.2=.cell)
 | [],_,_,_,h=>by simp at h
 | (n,k)::r,x,q,hq,h=>by
  by_cases e:x=n
  ·subst e
   refine⟨(x,k),List.mem_cons_self,rfl,?_⟩
   replace h:List.lookup x ((if (k == .free && env.scope.kind == .function && env.kindOf x == some .cell)=true then (x,NameKind.cell) else (x,k))::_)=some q:=h
   by_cases c:(k == .free && env.scope.kind == .function && env.kindOf x == some .cell)=true
   ·have:k=.free:=by
     rw[Bool.and_eq_true,Bool.and_eq_true] at c
     exact beq_iff_eq.mp c.1.1
    exact .inl this
   ·rw[if_neg c] at h
    simp only [List.lookup_cons,beq_self_eq_true] at h
    cases h
    rcases hq with z | z
    ·exact .inr z
    ·exact .inl z
  ·have hb:(x == n)=false:=beq_eq_false_iff_ne.mpr e
   replace h:List.lookup x ((if (k == .free && env.scope.kind == .function && env.kindOf n == some .cell)=true then (n,NameKind.cell) else (n,k))::_)=some q:=h
   have h':(r.map fun (n,k)=>if (k == .free && env.scope.kind == .function && env.kindOf n == some .cell) then (n,NameKind.cell) else (n,k)).lookup x=some q:=by
    by_cases c:(k == .free && env.scope.kind == .function && env.kindOf n == some .cell)=true
    ·rw[if_pos c] at h;simp only [List.lookup_cons,hb] at h;exact h
    ·rw[if_neg c] at h;simp only [List.lookup_cons,hb] at h;exact h
   obtain⟨y,hy,z⟩:=V8 hq h'
   exact⟨y,List.mem_cons_of_mem _ hy,z⟩
section
variable {prog:Program}{w:World}{A:Around}{R:Result->Shared->Prop}{s:Shared}
abbrev noX:Value->Shared->Prop:=fun _ _=>False
theorem Fq {elt tg iter:Expr}{ifs:List Expr}{scope:Scope}{pos:Pos}{it acc:Value}{env:Env}(J:Nat->Shared->Prop)
  (turn:∀ n s,J n s->wpAny (model prog w) A (pyNext it) (fun r s1=>match r with
   | none=>R (.ok .next) s1
   | some v=>wpAny (model prog w) A (letOwnedTupleGo tg it v) (fun _ s2=>wpAny (model prog w) A (assign tg env v) (fun _ s3 =>
     wpAny (model prog w) A (forIn ifs true fun c r=>if r=true then do let ok ← isTrue c env (eval c env);pure (ForInStep.yield ok) else pure (ForInStep.yield r)) (fun ok s4 =>
      if ok=true then wpAny (model prog w) A (eval elt env) (fun x s5=>wpAny (model prog w) A (call (.builtin "list.append") [acc,x]) (fun _ s6=>∃ m,m<n/\J m s6) noX s5) noX s4
      else ∃ m,m<n/\J m s4) noX s3) noX s2) noX s1) noX s)
  (n:Nat) (h:J n s):codeAny (model prog w) A (.compLoop (.ListComp elt [⟨tg,iter,ifs,0⟩] scope pos) 0 it acc env) R s:=by
 have no:∀ {Z:Value->Shared->Prop} (a:Value) (b:Shared),noX a b->Z a b:=fun _ _ f=>f.elim
 refine codeAny_loop rfl J (fun n s hJ=>?_) n h
 show wpAny _ A ((compTurn (.ListComp elt [⟨tg,iter,ifs,0⟩] scope pos) 0 it acc env).onRaise (fun x=>do noteFrame x env;theTreesLotGoes x)) _ _ s
 refine wpAny_noted ?_
 rw[compTurn_list]
 refine wpAny_bind (wpAny_standAt (wpAny_bind (wpAny_mono (turn n s hJ) (fun r s1 h1=>?_) no)))
 cases r with
 | none=>exact wpAny_pure h1
 | some v =>
  refine wpAny_bind (wpAny_mono h1 (fun _ s2 h2=>wpAny_bind (wpAny_mono h2 (fun _ s3 h3=>wpAny_bind (wpAny_mono h3 (fun ok s4 h4=>?_) no)) no)) no)
  cases ok with
  | false=>exact wpAny_pure ⟨rfl,h4⟩
  | true=>exact wpAny_bind (wpAny_bind (wpAny_mono h4 (fun x s5 h5=>wpAny_bind (wpAny_mono h5 (fun _ s6 h6=>wpAny_pure (wpAny_pure ⟨rfl,h6⟩)) no)) no))
end
def compCx (X:Cx)(N:List Str)(scope:Scope)(cl:List (Str × Addr))(C:Addr)(fp:List Addr)(s:Shared)(H:Hp):Cx where
 prog:=X.prog
 w:=X.w
 K:=X.K
 mg:=X.mg
 base:=X.base
 A:=X.A
 N:=N
 s₀:=s
 H₀:=H
 env:=compEnvC scope cl C X.env
 outer:=X.stack
 stack:=X.stack
 ex:=fp
 fn:=fun _=>false
 calm:=true
 pn:=X.pn
 xe:=noX
def comp0 (k:Nat)(fv:List Nat)(σ:L2.St):L2.St:=List.replicate k none++fv.map fun j=>σ.getD j none
def PTs (X:Cx)(ifs:List Expr)(t:TT):Prop :=
 ∀ (pins:List (Addr × Obj)) (s:Shared) (σ:L2.St) (H:Hp) (Q:Bool->Hp->Prop),Inv X pins σ H s->t σ H Q →
  wpAny (model X.prog X.w) X.A (forIn ifs true fun c r=>if r=true then do let ok ← isTrue c X.env (eval c X.env);pure (ForInStep.yield ok) else pure (ForInStep.yield r)) (TP X pins σ Q) X.xe s
def tYes:TT:=fun _ H Q=>Q true H
theorem Yh {X:Cx}:PTs X [] tYes:=fun _ _ _ H _ I h=>wpAny_tests_nil ⟨H,I,h⟩
theorem Up {X:Cx}{c:Expr}{t:TT}(h:PT X c t):PTs X [c] t:=fun pins s σ H Q I q=>wpAny_tests_one (h pins s σ H Q I q)
def Weaker (σ4 σ0:L2.St):Prop:=σ0.length=σ4.length/\∀ (i:Nat) (v:V),σ0[i]?=some (some v)->σ4[i]?=some (some v)
def tComp (wi:TI)(g:TG)(tt:TT)(te:TE)(k:Nat)(fv:List Nat):TE:=fun σ H Q=>wi σ H fun J H1=>∀ d,H1 d=none->∃ (n:Nat) (W:Nat->List V->Hp->Prop),n<=sizeLine/\W 0 [] (upd H1 d (.lst [])) ∧
 (∀ i ys H2,i<n->W i ys H2->H2 d=some (.lst ys)->J.go i H2/\∀ x H3,J.yld i H2 x H3->g x (comp0 k fv σ) H3 fun σ4 H4=>tt σ4 H4 fun b H5 =>
  if b=true then te σ4 H5 fun y H6=>H6 d=some (.lst ys)/\W (i+1) (ys++[y]) (upd H6 d (.lst (ys++[y]))) else H5 d=some (.lst ys)/\W (i+1) ys H5) ∧
 (∀ ys H2,W n ys H2->H2 d=some (.lst ys)->J.stop n H2/\Q (.ref d) H2)
theorem Z1e {P:Program}{w:World}{H:Hp}{h h':Heap}{C:Addr}(x:HOk P w H h)(hn:H C=none)(k:∀ b,b≠C->h'.get? b=h.get? b):HOk P w H h':=fun a o e =>
 (x a o e).stay (fun b u hb q=>by
  rw[k b]
  ·exact q
  ·rintro rfl
   rcases hb with rfl | hb
   ·rw[hn] at e;cases e
   ·rw[hn] at hb;cases hb) (fun _ q=>q) fun _ _ q=>q
theorem Z27 {fs ex:List Addr}{H H':Hp}{h h1 h2:Heap}{C:Addr}(u:Un fs ex H H' h h1)(hC:h.get? C=none)(k:∀ b,b≠C->h2.get? b=h1.get? b):Un fs ex H H' h h2:=by
 have ne:∀ b o,h.get? b=some o->b≠C:=fun b o e z=>by rw[z,hC] at e;cases e
 exact⟨fun b o e n hf hx=>by rw[k b (ne b o e)];exact u.keep b o e n hf hx,fun b o e n hf hx=>by rw[k b (ne b o e)];exact u.slot b o e n hf hx,u.free,fun b o e hx=>by rw[k b (ne b o e)];exact u.there b o e hx,u.tups,u.frzs,u.tbls⟩
section
variable {X:Cx}{pins:List (Addr × Obj)}{σ:L2.St}{H:Hp}{s:Shared}{N:List Str}{scope:Scope}{cl:List (Str × Addr)}{fp:List Addr}{k:Nat}{fv:List Nat}
theorem Z1r (I:Inv X pins σ H s)(hc:X.calm=true)(hf:∀ b∈fp,FpOk X pins H b)(hl:∀ b∈fp,b<s.heap.objs.size)(hkind:scope.kind=.function)(hcell:∀ y∈scope.names,y.2≠.cell)
  (h1:∀ y c,cl.lookup y=some c->X.env.cells.lookup y=some c) (h2:∀ y∈scope.names,y.2=.free->∃ c,cl.lookup y.1=some c):(compCx X N scope cl s.heap.objs.size fp s H).Ok where
 mod:=I.ok.mod
 kind:=hkind
 glob:=I.ok.glob
 blt:=I.ok.blt
 above:=Nat.le_refl _
 inj:=fun x y c a b=>I.ok.inj x y c (h1 x c a) (h1 y c b)
 has:=fun x hx=>by
  have:∃ y∈scope.names,y.1=x/\(y.2=.free \/ y.2=.cell):=by
   rcases hx with z | z
   ·exact V8 (.inl rfl) z
   ·exact V8 (.inr rfl) z
  obtain⟨y,hy,e,z⟩:=this
  rcases z with z | z
  ·obtain⟨c,hcl⟩:=h2 y hy z
   exact⟨c,by rw[← e];exact hcl⟩
  ·exact absurd z (hcell y hy)
 cab:=fun x c z=>by cases z
 hd:=fun _=>I.ok.hd hc
 frames:=I.ok.frames
 stk:=.inl rfl
 exf:=fun b hb=>⟨Nat.ne_of_lt (hl b hb),fun x c e=>(hf b hb).2.2.2.2.1 x c (h1 x c e)⟩
 bs:=I.bs
 bsz:=Nat.le_trans I.ok.bsz I.sz
 noex:=fun b o e hb=>by
  rcases (hf b hb).2.2.2.1 with z | z
  ·exact I.ok.noex b o e z
  ·exact absurd (Nat.lt_of_lt_of_le (Heap.lt_size (I.ok.bs b o e).1) z) (Nat.lt_irrefl _)
 exfs:=fun b hb z=>(List.mem_cons.mp (I.stkSub b z)).elim (fun e=>(hf b hb).2.1 e) fun e=>(hf b hb).2.2.1 e
 funs:=I.stack
 frf:=I.stkFree
theorem Z03 (I:Inv X pins σ H s)(hc:X.calm=true)(hf:∀ b∈fp,FpOk X pins H b)(hl:∀ b∈fp,b<s.heap.objs.size)(hkind:scope.kind=.function)(hcell:∀ y∈scope.names,y.2≠.cell)
  (h1:∀ y c,cl.lookup y=some c->X.env.cells.lookup y=some c) (h2:∀ y∈scope.names,y.2=.free->∃ c,cl.lookup y.1=some c)
  (hN:N.length=k+fv.length) (hfv:fv.map (fun j=>X.N[j]?)=(N.drop k).map some) (hk:(N.drop k).map X.env.kindOf=(N.drop k).map fun _=>some .cell) (hfl:∀ y∈N.drop k,scope.names.lookup y=some .free)
  {h':Heap} {tk:Nat} (hn:h'.Ns s.heap.objs.size fun _=>none) (hb:∀ b o,s.heap.get? b=some o->h'.get? b=some o) :
  Inv (compCx X N scope cl s.heap.objs.size fp s H) [] (comp0 k fv σ) H { s with heap:=h',toks:=tk } where
 ok:=Z1r I hc hf hl hkind hcell h1 h2
 os:=rfl
 bare:=I.bare
 base:=Un.kept hb
 loc:=⟨_,hn,fun i x v e1 e2 e3=>by
  have hik:k<=i:=by
   apply Nat.le_of_not_lt
   intro z
   have:(comp0 k fv σ)[i]?=some none:=by
    unfold comp0
    rw[List.getElem?_append_left (by simpa using z)]
    simp[z]
   rw[this] at e2
   cases e2
  obtain⟨j,rfl⟩:∃ j,i=k+j:=⟨i - k,by omega⟩
  have e2':(fv.map fun j=>σ.getD j none)[j]?=some (some v):=by
   have:(comp0 k fv σ)[k+j]?=(fv.map fun j=>σ.getD j none)[j]?:=by
    unfold comp0
    rw[List.getElem?_append_right (by simp)]
    simp
   rw[← this]
   exact e2
  rw[List.getElem?_map] at e2'
  cases hj:fv[j]? with
  | none=>rw[hj] at e2';cases e2'
  | some m =>
   rw[hj] at e2'
   have e4:σ.getD m none=some v:=Option.some.inj e2'
   have e5:(N.drop k)[j]?=some x:=by rw[List.getElem?_drop];exact e1
   have e6:X.N[m]?=some x:=by
    have a:=congrArg (fun l=>l[j]?) hfv
    simp only [List.getElem?_map,hj,e5,Option.map_some] at a
    exact Option.some.inj a
   have e7:X.env.kindOf x=some .cell:=by
    have a:=congrArg (fun l=>l[j]?) hk
    simp only [List.getElem?_map,e5,Option.map_some] at a
    exact Option.some.inj a
   have e8:σ[m]?=some (some v):=by
    cases q:σ[m]? with
    | none=>rw[List.getD,q] at e4;cases e4
    | some o=>rw[List.getD,q] at e4;rw[show o=some v from e4]
   obtain⟨m0,hm0,hl0⟩:=I.loc
   obtain⟨u,ru,lk⟩:=hl0 m x v e6 e8 (.inr (.inl e7))
   refine⟨u,ru,?_⟩
   rcases lk with ⟨z,_⟩ | ⟨_,c,hcc,ic⟩
   ·rw[e7] at z;cases z
   ·have mem:x∈N.drop k:=List.mem_of_getElem? e5
    have fr:=hfl x mem
    obtain⟨c',hc'⟩:=h2 (x,.free) (Lv fr) rfl
    have ec:=h1 x c' hc'
    rw[hcc] at ec
    cases ec
    refine .inr ⟨.inl (Uo I.ok.kind fr e7),c,hc',?_⟩
    obtain⟨o,ho,hd⟩:=ic
    exact⟨o,hb _ _ ho,hd⟩⟩
 cell:=fun x c e=>by
  obtain⟨v,o,ho,hd⟩:=I.cell x c (h1 x c e)
  exact⟨v,o,hb _ _ ho,hd⟩
 free:=I.hok.fresh (Nat.le_refl _)
 freeC:=fun x c e=>I.freeC x c (h1 x c e)
 pin:=fun p hp=>by
  obtain⟨a1,a2,a3,a4,a5⟩:=I.pin p (List.mem_append_left _ ((List.mem_append.mp hp).elim id fun z=>nomatch z))
  exact⟨hb _ _ a1,a2,Nat.ne_of_lt (Heap.lt_size a1),fun z=>(List.mem_cons.mp (I.stkSub p.1 z)).elim a3 a4,a5⟩
 hok:=I.hok.kept hb
 len:=by
  show (comp0 k fv σ).length=N.length
  unfold comp0
  simp[hN]
end
section
variable {X:Cx}
set_option maxHeartbeats 1000000 in
theorem Q7 {elt iter tg:Expr}{ifs:List Expr}{scope:Scope}{pos:Pos}{g:TG}{tt:TT}{te:TE}{N:List Str}{k:Nat}{fv:List Nat}{cl:List (Str × Addr)}
  {pins:List (Addr × Obj)} {σ:L2.St} {H:Hp} {s:Shared} {it:Addr} {fp:List Addr} {tn:Nat->Heap->Prop} {J:It} {Q:VK} {RR:Value->Addr->Result->Shared->Prop} {E:Value->Shared->Prop}
  (hc:X.calm=true) (hg:∀ cl C fp s H,PG (compCx X N scope cl C fp s H) tg g) (ht:∀ cl C fp s H,PTs (compCx X N scope cl C fp s H) ifs tt) (he:∀ cl C fp s H,PE (compCx X N scope cl C fp s H) elt te)
  (hw:∀ r x H Q,g x (List.replicate k none++r) H Q->g x (List.replicate k none++r) H fun σ4 H4=>Q σ4 H4/\Weaker σ4 (List.replicate k none++r))
  (hN:N.length=k+fv.length) (hfv:fv.map (fun j=>X.N[j]?)=(N.drop k).map some) (hk:(N.drop k).map X.env.kindOf=(N.drop k).map fun _=>some .cell) (hfl:∀ y∈N.drop k,scope.names.lookup y=some .free)
  (hcell:∀ y∈scope.names,y.2≠.cell) (hkind:scope.kind=.function) (h1:∀ y c,cl.lookup y=some c->X.env.cells.lookup y=some c) (h2:∀ y∈scope.names,y.2=.free->∃ c,cl.lookup y.1=some c)
  (I:Inv X pins σ H s) (T:Turn X.prog X.w X.K tg J fp it tn) (st:tn 0 s.heap) (f:∀ b∈fp,FpOk X pins H b)
  (body:∀ d,H d=none->∃ (n:Nat) (W:Nat->List V->Hp->Prop),n<=sizeLine/\W 0 [] (upd H d (.lst [])) ∧
   (∀ i ys H2,i<n->W i ys H2->H2 d=some (.lst ys)->J.go i H2/\∀ x H3,J.yld i H2 x H3->g x (comp0 k fv σ) H3 fun σ4 H4=>tt σ4 H4 fun b H5 =>
    if b=true then te σ4 H5 fun y H6=>H6 d=some (.lst ys)/\W (i+1) (ys++[y]) (upd H6 d (.lst (ys++[y]))) else H5 d=some (.lst ys)/\W (i+1) ys H5) ∧
   (∀ ys H2,W n ys H2->H2 d=some (.lst ys)->J.stop n H2/\Q (.ref d) H2))
  (hR:∀ (D C:Addr) (H':Hp) (s':Shared),(∃ m,s'.heap.Ns C m)->FpOk X pins H' C->Q (.ref D) H'->(∀ h',Heap.SameBut C s'.heap h'->Inv X pins σ H' { s' with heap:=h' })->RR (.ref D) C (.ok .next) s') :
  wpAny (model X.prog X.w) X.A (newList []) (fun acc s3=>wpAny (model X.prog X.w) X.A (newFunctionEnv scope X.env.globals cl [] X.env.qual none .none (some X.env)) (fun cenv s4 =>
   codeAny (model X.prog X.w) X.A (.compStart (.ListComp elt [⟨tg,iter,ifs,0⟩] scope pos) 0 (.ref it) acc { cenv with scope:=relabel scope X.env }) (RR acc cenv.locals) s4) E s3) E s:=by
 refine wpAny_newObj_type ?_
 have I3:=I.lnew (its:=[]) (ys:=[]) (t':=s.toks) .nil (Nat.zero_le _)
 have fresh:=I.fresh
 generalize hD:s.heap.objs.size=D at I3 fresh ⊢
 have f3:∀ b∈fp,FpOk X pins (upd H D (.lst [])) b:=fun b hb=>by
  refine⟨?_,(f b hb).2⟩
  have hne:b≠D:=by
   obtain⟨o,e,_⟩:=T.obj 0 _ st b hb
   rw[← hD]
   exact Nat.ne_of_lt (Heap.lt_size e)
  rw[Zb hne]
  exact (f b hb).1
 have up3:∀ b o,s.heap.get? b=some o->(s.heap.push { cls:=.type "list",data:=.seq ([]:List Value).toArray }).get? b=some o:=fun b o e=>Heap.get?_push_of_some _ e
 have st3:tn 0 (s.heap.push { cls:=.type "list",data:=.seq ([]:List Value).toArray }):=T.keep 0 _ _ st fun b _ o e=>up3 b o e
 have hl3:∀ b∈fp,b<(s.heap.push { cls:=.type "list",data:=.seq ([]:List Value).toArray }).objs.size:=fun b hb=>by
  obtain⟨o,e,_⟩:=T.obj 0 _ st3 b hb
  exact Heap.lt_size e
 obtain⟨n,W,hn,w0,step,fin⟩:=body D fresh
 generalize hS3:({ s with heap:=s.heap.push { cls:=.type "list",data:=.seq ([]:List Value).toArray },toks:=s.toks }:Shared)=s3 at I3
 have eS3:s3.heap=s.heap.push { cls:=.type "list",data:=.seq ([]:List Value).toArray }:=by rw[← hS3]
 rw[← eS3] at st3 hl3
 refine wpAny_newFunctionEnv hcell (fun y hy=>nomatch hy) (fun h4 hns hsb=>?_) hkind
 have old:∀ b o,s3.heap.get? b=some o->h4.get? b=some o:=fun b o e=>(hsb.2 b (Nat.ne_of_lt (Heap.lt_size e))).trans (Heap.get?_push_of_some _ e)
 have I4:=Z03 (N:=N) (tk:=s3.toks+([]:List (Str × Value)).length) I3 hc f3 hl3 hkind hcell h1 h2 hN hfv hk hfl (h':=h4) hns old
 have st4:tn 0 h4:=T.keep 0 _ _ st3 fun b _ o e=>old b o e
 have hCn:s3.heap.get? s3.heap.objs.size=none:=by
  cases e:s3.heap.get? s3.heap.objs.size with
  | none=>rfl
  | some o=>exact absurd (Heap.lt_size e) (Nat.lt_irrefl _)
 generalize hC:s3.heap.objs.size=C at I4 hCn ⊢
 have stat:∀ {H':Hp} {ps:List (Addr × Obj)},(∀ b∈fp,H' b=none)->(∀ p∈ps,p.1 ∉ fp)->∀ b∈fp,FpOk (compCx X N scope cl C fp s3 (upd H D (.lst []))) ps H' b:=fun {H' ps} hn hp b hb =>
  ⟨hn b hb,by rw[← hC];exact Nat.ne_of_lt (hl3 b hb),fun z=>(List.mem_cons.mp (I3.stkSub b z)).elim (fun e=>(f3 b hb).2.1 e) fun e=>(f3 b hb).2.2.1 e,.inl hb,fun x c e=>(f3 b hb).2.2.2.2.1 x c (h1 x c e),fun p q z=>(List.mem_append.mp q).elim (fun q=>(f3 b hb).2.2.2.2.2 p (List.mem_append_left _ q) z) fun q=>hp p q (by rw[z];exact hb)⟩
 have loop:∀ s4:Shared,s4={ s3 with heap:=h4,toks:=s3.toks+([]:List (Str × Value)).length } →
   codeAny (model X.prog X.w) X.A (.compLoop (.ListComp elt [⟨tg,iter,ifs,0⟩] scope pos) 0 (.ref it) (.ref D) (compEnvC scope cl C X.env)) (RR (.ref D) C) s4:=by
  rintro s4 rfl
  refine Fq (fun m s'=>∃ i ys H',Inv (compCx X N scope cl C fp s3 (upd H D (.lst []))) [] (comp0 k fv σ) H' s'/\tn i s'.heap/\(∀ b∈fp,H' b=none)/\i<=n/\m=n+1 - i/\ys.length<=i/\H' D=some (.lst ys)/\W i ys H') ?_ (n+1)
   ⟨0,[],_,I4,st4,fun b hb=>(f3 b hb).1,Nat.zero_le _,rfl,Nat.le_refl _,Z7,w0⟩
  rintro m s5 ⟨i,ys,H5,I5,st5,fr5,hi,rfl,hys,hD5,w5⟩
  by_cases hlt:i<n
  ·obtain⟨go,stp⟩:=step i ys H5 hlt w5 hD5
   refine thn (T.item (compCx X N scope cl C fp s3 (upd H D (.lst []))) rfl rfl rfl rfl i [] s5 _ H5 noX I5 (stat fr5 (by simp)) st5 go) fun r s6 ⟨u,er,h6⟩=>?_
   subst er
   refine thn h6 fun _ s7 ⟨x,H7,I7,r7,y7,st7,fr7⟩=>?_
   have I7':=I7.pinned (stat fr7 (by simp)) (T.obj _ _ st7)
   refine thn (hg cl C fp s3 _ _ s7 _ H7 x u _ I7' r7 (hw _ x H7 _ (stp x H7 y7))) fun _ s8 ⟨σ8,H8,I8,q8,wk⟩=>?_
   refine thn (ht cl C fp s3 _ _ s8 σ8 H8 _ I8 q8) fun ok s9 ⟨H9,I9,q9⟩=>?_
   have back:∀ {σ':L2.St} {H':Hp} {s':Shared},Inv (compCx X N scope cl C fp s3 (upd H D (.lst []))) ([]++pinsAt fp s7.heap) σ' H' s'->Weaker σ' (comp0 k fv σ) →
     Inv (compCx X N scope cl C fp s3 (upd H D (.lst []))) [] (comp0 k fv σ) H' s'/\tn (i+1) s'.heap/\∀ b∈fp,H' b=none:=fun {σ' H' s'} I' wk'=>by
    refine⟨I'.unpinned.weak wk'.1 wk'.2,T.keep _ _ _ st7 fun b hb o e=>(I'.pin (b,o) (List.mem_append_right _ (List.mem_append_right _ (Vb hb e)))).1,fun b hb=>?_⟩
    obtain⟨o,e,_⟩:=T.obj _ _ st7 b hb
    exact (I'.pin (b,o) (List.mem_append_right _ (List.mem_append_right _ (Vb hb e)))).2.1
   cases ok with
   | false =>
    rw[if_neg Bool.false_ne_true] at q9 ⊢
    obtain⟨hD9,w9⟩:=q9
    obtain⟨a1,a2,a3⟩:=back I9 wk
    exact⟨n+1 - (i+1),by omega,i+1,ys,H9,a1,a2,a3,hlt,rfl,Nat.le_succ_of_le hys,hD9,w9⟩
   | true =>
    rw[if_pos rfl] at q9 ⊢
    refine thn (he cl C fp s3 _ _ s9 σ8 H9 _ I9 q9) fun y s10 ⟨yv,H10,I10,r10,hD10,w10⟩=>?_
    refine thn (Yl _ s10 σ8 H10 (.ref D) [yv] (.ref D) [y] (fun _ H'=>H'=upd H10 D (.lst (ys++[yv]))) I10 rfl (.cons r10 .nil) ⟨D,ys,yv,rfl,rfl,hD10,Nat.lt_of_le_of_lt hys (Nat.lt_of_lt_of_le hlt hn),rfl⟩) fun _ s11 ⟨_,H11,I11,_,e11⟩=>?_
    subst e11
    obtain⟨a1,a2,a3⟩:=back I11 wk
    exact⟨n+1 - (i+1),by omega,i+1,ys++[yv],_,a1,a2,a3,hlt,rfl,by rw[List.length_append];show ys.length+1<=i+1;omega,Z7,w10⟩
  ·obtain rfl:i=n:=Nat.le_antisymm hi (Nat.not_lt.mp hlt)
   obtain⟨stop,q⟩:=fin ys H5 w5 hD5
   refine thn (T.done (compCx X N scope cl C fp s3 (upd H D (.lst []))) rfl rfl rfl rfl i [] s5 _ H5 noX I5 (stat fr5 (by simp)) st5 stop) fun r s6 ⟨er,I6⟩=>?_
   subst er
   refine hR D C H5 s6 ?_ (I3.fpOk (by rw[hC];exact Nat.le_refl _) I6.free) q fun h' hs'=>?_
   ·obtain⟨m,hm,_⟩:=I6.loc
    exact⟨m,hm⟩
   ·have hs2:∀ b,b≠C->h'.get? b=s6.heap.get? b:=fun b hb=>hs'.2 b hb
    refine I3.call' (s':={ s6 with heap:=h' }) (ch:=fp) ?_ (Z27 I6.base hCn hs2) (Z1e I6.hok I6.free hs2) I6.bare fun b hb=>?_
    ·exact I6.os
    ·exact⟨(f3 b hb).2.2.2.1,(f3 b hb).2.1,(f3 b hb).2.2.2.2.1,(f3 b hb).2.2.2.2.2⟩
 exact codeAny_compStart_list (loop _ rfl) (T.self _ 0 _ _ _ st4 (loop _ rfl))
theorem Yn {elt iter tg:Expr}{ifs:List Expr}{scope:Scope}{pos:Pos}{wi:TI}{g:TG}{tt:TT}{te:TE}{N:List Str}{k:Nat}{fv:List Nat}
  (hc:X.calm=true) (hi:PI X tg iter wi) (hg:∀ cl C fp s H,PG (compCx X N scope cl C fp s H) tg g) (ht:∀ cl C fp s H,PTs (compCx X N scope cl C fp s H) ifs tt) (he:∀ cl C fp s H,PE (compCx X N scope cl C fp s H) elt te)
  (hw:∀ r x H Q,g x (List.replicate k none++r) H Q->g x (List.replicate k none++r) H fun σ4 H4=>Q σ4 H4/\Weaker σ4 (List.replicate k none++r))
  (hN:N.length=k+fv.length:=by rfl) (hfv:fv.map (fun j=>X.N[j]?)=(N.drop k).map some:=by rfl) (hk:(N.drop k).map X.env.kindOf=(N.drop k).map (fun _=>some .cell):=by rfl)
  (hfl:∀ y∈N.drop k,scope.names.lookup y=some .free:=by decide +kernel) (hfr:∀ y∈scope.names,y.2=.free->y.1∈N.drop k:=by decide +kernel)
  (hcell:∀ y∈scope.names,y.2≠.cell:=by decide +kernel) (hkind:scope.kind=.function:=by rfl) (hnames:∀ y∈scope.names,y.2=.local->scope.names.lookup y.1=some .local:=by decide +kernel)
  (hs:∀ x,foldedSetIterable iter X.env x=pure x:=by intro _;rfl):PE X (.ListComp elt [⟨tg,iter,ifs,0⟩] scope pos) (tComp wi g tt te k fv):=by
 intro pins s σ H Q I h
 have kc:∀ y∈N.drop k,X.env.kindOf y=some .cell:=fun y hy=>by
  obtain⟨j,hj⟩:=List.getElem?_of_mem hy
  have a:=congrArg (fun l=>l[j]?) hk
  simp only [List.getElem?_map,hj,Option.map_some] at a
  exact Option.some.inj a
 obtain⟨cl,hclos,h1,h2⟩:=U6 (env:=X.env) (scope:=scope) fun y hy hf=>I.ok.has y.1 (.inl (kc y.1 (hfr y hy hf)))
 rw[eval_ListComp]
 refine wpAny_comprehension_free (use:=none) rfl hs hclos hkind hnames (thn (hi pins s σ H _ I h) fun xv s1 h1'=>thn h1' fun itv s2 h2'=>?_)
 obtain⟨it,fp,tn,J,H2,e,I2,T,st2,f2,body⟩:=h2'
 subst e
 exact Q7 (RR:=fun acc C=>compPost (model X.prog X.w) X.A X.xe none (EP X pins σ Q) acc C) hc hg ht he hw hN hfv hk hfl hcell hkind h1 h2 I2 T st2 f2 body fun D C H' s' ⟨m,hm⟩ _ q iv=>⟨m,hm,fun h' hs'=>⟨.ref D,H',iv h' hs',rfl,q⟩⟩
theorem Y2:∀ (r:L2.St) (x:V) (H:Hp) (Q:L2.St->Hp->Prop),gName 0 x (List.replicate 1 none++r) H Q->gName 0 x (List.replicate 1 none++r) H fun σ4 H4=>Q σ4 H4/\Weaker σ4 (List.replicate 1 none++r):=fun r x H Q h =>
 ⟨h,by simp,fun i v e=>by
  cases i with
  | zero=>cases e
  | succ j=>exact e⟩
theorem Vw {K:W.Frag}:∀ (r:L2.St) (x:V) (H:Hp) (Q:L2.St->Hp->Prop),gTup K 2 (gCons (gName 0) (gCons (gName 1) gNil)) x (List.replicate 2 none++r) H Q →
  gTup K 2 (gCons (gName 0) (gCons (gName 1) gNil)) x (List.replicate 2 none++r) H fun σ4 H4=>Q σ4 H4/\Weaker σ4 (List.replicate 2 none++r):=by
 rintro r x H Q ⟨a,xs,e1,hq,hl,v,t,e2,v',t',e3,e4,q⟩
 refine⟨a,xs,e1,hq,hl,v,t,e2,v',t',e3,e4,q,by simp,fun i z e=>?_⟩
 cases i with
 | zero=>cases e
 | succ j =>
  cases j with
  | zero=>cases e
  | succ j=>exact e
end
theorem Yo {x:V}{σ:L2.St}{H:Hp}{A B:L2.St->Hp->Prop}(h:A (σ.set 0 (some x)) H):gName 0 x σ H fun σ4 H4=>tYes σ4 H4 fun b H5=>if b=true then A σ4 H5 else B σ4 H5:=by
 show if true=true then A (σ.set 0 (some x)) H else B (σ.set 0 (some x)) H
 exact Rx h
section
variable {X:Cx}
def rIxA (K:W.Frag):R2:=fun x y H Q=>∃ p xs i v,x=.ref p/\y=.int i/\(SqL K H p xs \/ SqT K H p xs)/\atI xs i=some v/\Q v H
theorem K2:IxR X (rIxA X.K):=fun vl sl pins s σ H x y v u Q I rx ry ⟨p,xs,i,z,e1,e2,h,ea,q⟩ hs=>by
 rcases h with h | h
 ·exact Zy vl sl pins s σ H x y v u Q I rx ry ⟨p,xs,i,z,e1,e2,h,ea,q⟩ hs
 ·exact Yg vl sl pins s σ H x y v u Q I rx ry ⟨p,xs,i,z,e1,e2,h,ea,q⟩ hs
end
section
variable {X:Cx}{K:W.Frag}
theorem Rw (h:X.K=K:=by rfl):IxR X (rIxT K):=h ▸ Yg
theorem Bb (h:X.K=K:=by rfl):IxR X (rIxL K):=h ▸ Zy
theorem Z3q (h:X.K=K:=by rfl):IxR X (rIxA K):=h ▸ K2
theorem K1 (h:X.K=K:=by rfl):IxR X (rP0 K):=h ▸ Xg
theorem Z30 (h:X.K=K:=by rfl):IxR X (rP1 K):=h ▸ Yq
end
theorem Uv {x:V}{σ:L2.St}{H:Hp}{A B:L2.St->Hp->Prop}{t:TT}(h:t (σ.set 0 (some x)) H fun b H5=>if b=true then A (σ.set 0 (some x)) H5 else B (σ.set 0 (some x)) H5) :
  gName 0 x σ H fun σ4 H4=>t σ4 H4 fun b H5=>if b=true then A σ4 H5 else B σ4 H5:=h
theorem Pr {K:W.Frag}{p:Addr}{u v:V}{σ:L2.St}{H:Hp}{A B:L2.St->Hp->Prop}(hp:SqT K H p [u,v])(h:A ((σ.set 0 (some u)).set 1 (some v)) H) :
  gTup K 2 (gCons (gName 0) (gCons (gName 1) gNil)) (.ref p) σ H fun σ4 H4=>tYes σ4 H4 fun b H5=>if b=true then A σ4 H5 else B σ4 H5:=by
 refine⟨p,[u,v],rfl,hp,rfl,u,[v],rfl,v,[],rfl,rfl,?_⟩
 show if true=true then A ((σ.set 0 (some u)).set 1 (some v)) H else B ((σ.set 0 (some u)).set 1 (some v)) H
 exact Rx h
section
variable {X:Cx}
end
end Sb
namespace Sb
open PySem PySem.Builtin.SmallTypes
section
variable {prog:Program}{w:World}{A:Around}{E:Value->Shared->Prop}{s:Shared}
theorem Ct {it t:Addr}{j:Nat}{ys:Array Value}{y:Value}{Q:Value->Shared->Prop}(ti:s.heap.IsTupleIter it t j)(tt:s.heap.IsTuple t ys)(ey:ys[j]?=some y)
  (hQ:∀ h',h'.IsTupleIter it t (j+1)->Heap.SameBut it s.heap h'->Q y { s with heap:=h' }):wpAny (model prog w) A (nextOf (.ref it)) Q E s:=by
 obtain⟨oi,ei,ci,di⟩:=id ti
 obtain⟨ot,et,_,nt,dt⟩:=tt
 unfold nextOf
 refine wpAny_bind (wpAny_callSpecial?_slot (name:=Str.ofString "__next__") ti.typeIs F.slot_tuple_iterator_next (wpAny_call_entry F.slot_tuple_iterator_next ti.typeIs F.entry_tuple_iterator_next ?_ (F.args_tuple_iterator_next_1 _)))
 show wpAny _ _ (field (.ref it) 0 >>= _) _ _ _
 refine wpAny_bind (wpAny_field ei di (x:=.ref t) rfl ?_)
 show wpAny _ _ (if (Value.ref t == Value.none)=true then _ else _) _ _ _
 rw[if_neg (show ¬ ((Value.ref t == Value.none)=true) from fun q=>Bool.false_ne_true q)]
 show wpAny _ _ (field (.ref it) 1 >>= _) _ _ _
 refine wpAny_bind (wpAny_field ei di (x:=.int j 0) rfl ?_)
 show wpAny _ _ (seqItems? (.ref t) >>= _) _ _ _
 refine wpAny_bind (wpAny_seqItems et dt ?_)
 simp only [Int.toNat_natCast,ey]
 refine wpAny_bind (wpAny_setField ei di (by simp) (wpAny_pure ⟨y,rfl,wpAny_pure (hQ _ ?_ (Heap.SameBut.update ..))⟩))
 refine⟨_,Heap.get?_update_self _ ei (Obj.isFreed_of_fields (Obj.data_mapFields di _)),(Obj.cls_mapFields ..).trans ci,?_⟩
 rw[Obj.data_mapFields di]
 simp[rawInt]
theorem Pz {it t:Addr}{j:Nat}{ys:Array Value}{Q:Value->Shared->Prop}(hq:Qt A s.heap)(ti:s.heap.IsTupleIter it t j)(tt:s.heap.IsTuple t ys)(ey:ys[j]?=none)
  (hE:∀ h' e,Heap.ExtBut it s.heap h'->(∃ o,h'.get? e=some o/\o.cls=.type "StopIteration")->E (.ref e) { s with heap:=h' }):wpAny (model prog w) A (nextOf (.ref it)) Q E s:=by
 obtain⟨oi,ei,ci,di⟩:=id ti
 obtain⟨ot,et,_,nt,dt⟩:=tt
 unfold nextOf
 refine wpAny_bind (wpAny_callSpecial?_slot (name:=Str.ofString "__next__") ti.typeIs F.slot_tuple_iterator_next (wpAny_call_entry F.slot_tuple_iterator_next ti.typeIs F.entry_tuple_iterator_next ?_ (F.args_tuple_iterator_next_1 _)))
 show wpAny _ _ (field (.ref it) 0 >>= _) _ _ _
 refine wpAny_bind (wpAny_field ei di (x:=.ref t) rfl ?_)
 show wpAny _ _ (if (Value.ref t == Value.none)=true then _ else _) _ _ _
 rw[if_neg (show ¬ ((Value.ref t == Value.none)=true) from fun q=>Bool.false_ne_true q)]
 show wpAny _ _ (field (.ref it) 1 >>= _) _ _ _
 refine wpAny_bind (wpAny_field ei di (x:=.int j 0) rfl ?_)
 show wpAny _ _ (seqItems? (.ref t) >>= _) _ _ _
 refine wpAny_bind (wpAny_seqItems et dt ?_)
 simp only [Int.toNat_natCast,ey]
 refine wpAny_bind (wpAny_rule (wpAny_bind (wpAny_setField ei di (by simp) ?_)))
 refine R7 (hq:=(hq.but ei fun n=>?_)) fun h' e k he=>hE _ _ (fun b o hb e=>k b o ((Heap.SameBut.update ..).extBut b o hb e)) he
 obtain⟨vs,e1,e2⟩:=n
 rw[di] at e1
 cases e1
 simp at e2
theorem Pa {qs:List (Addr × Obj)}(hq:QtP A qs)(it t:Addr)(ne:t≠it)(hqs:∀ p∈qs,p.1≠it)(ys:Array Value) :
  Draws prog w A it (it::t::qs.map Prod.fst) ys.size (fun i x=>ys[i]?=some x) (fun i h=>h.IsTupleIter it t i/\h.IsTuple t ys/\∀ p∈qs,h.get? p.1=some p.2) where
 live:=fun i h st=>by
  obtain⟨⟨o,e,_⟩,_⟩:=st
  exact⟨o,e⟩
 frame:=fun i h h' st k=>by
  obtain⟨⟨o,e,r⟩,⟨o',e',r'⟩,st⟩:=st
  exact⟨⟨o,k it (by simp) o e,r⟩,⟨o',k t (by simp) o' e',r'⟩,fun p hp=>k p.1 (by simp;exact .inr (.inr ⟨p.2,hp⟩)) p.2 (st p hp)⟩
 item:=fun i s Q E lt st hQ=>Ct st.1 st.2.1 (Array.getElem?_eq_getElem lt) fun h' a b=>hQ _ h' s.toks (Array.getElem?_eq_getElem lt) ⟨a,st.2.1.extBut b.extBut ne,fun p hp=>b.extBut p.1 p.2 (hqs p hp) (st.2.2 p hp)⟩ b
 done:=fun s Q E st hE=>Pz (hq.at st.2.2) st.1 st.2.1 (Array.getElem?_eq_none (Nat.le_refl _)) hE
end
structure Off (z TI TO i1 i2:Addr)(f1 f2:List Addr):Prop where
 a1:TI≠z
 a2:TO≠z
 a3:i1≠z
 a4:i2≠z
 a5:TI≠TO
 a6:TI≠i1
 a7:TI≠i2
 a8:TO≠i1
 a9:TO≠i2
 b1:i1≠i2
 z1:z ∉ f1
 o1:TO ∉ f1
 n1:i2 ∉ f1
 z2:z ∉ f2
 o2:TO ∉ f2
 n2:i1 ∉ f2
section
variable {prog:Program}{w:World}{A:Around}{E:Value->Shared->Prop}{s:Shared}{z TI TO i1 i2:Addr}{f1 f2:List Addr}{n1 n2:Nat}{P1 P2:Nat->Value->Prop}{S1 S2:Nat->Heap->Prop}
set_option maxHeartbeats 1000000 in
theorem Ju {k:Nat}{a b:Value}{Q:Value->Shared->Prop}(D:Off z TI TO i1 i2 f1 f2)(D1:Draws prog w A i1 f1 n1 P1 S1)(D2:Draws prog w A i2 f2 n2 P2 S2)
  (hz:IsZip s.heap z TI TO .none) (hTI:IsPair s.heap TI (.ref i1) (.ref i2)) (hTO:IsPair s.heap TO a b) (c1:S1 k s.heap) (c2:S2 k s.heap) (l1:k<n1) (l2:k<n2)
  (hQ:∀ x y h' tk,P1 k x->P2 k y->IsZip h' z TI TO (rawInt s.heap.objs.size)->IsPair h' TO x y->S1 (k+1) h'->S2 (k+1) h'->IsPair h' s.heap.objs.size x y->h'.objs.size=s.heap.objs.size+1 →
   (∀ c o,c≠z->c≠TO->c≠i1->c≠i2->s.heap.get? c=some o->h'.get? c=some o)->Q (.ref s.heap.objs.size) { s with heap:=h',toks:=tk }) :
  wpAny (model prog w) A (Builtin.«zip.__next__» ⟨[.ref z],[]⟩) (fun fin s'=>∃ v,fin=.done (.ret v)/\Q v s') E s:=by
 show wpAny _ _ (field (.ref z) 2 >>= _) _ _ _
 refine wpAny_bind (wpAny_field hz rfl (x:=.bool false) rfl ?_)
 show wpAny _ _ (field (.ref z) 3 >>= _) _ _ _
 refine wpAny_bind (wpAny_field hz rfl (x:=.ref TI) rfl ?_)
 refine wpAny_bind (wpAny_seqItems hTI rfl ?_)
 show wpAny _ _ (ownedTupleIsFree (.ref z) >>= _) _ _ _
 refine wpAny_bind ?_
 unfold ownedTupleIsFree
 refine wpAny_bind (wpAny_field hz rfl (x:=.none) rfl (wpAny_pure ?_))
 simp only [if_true]
 refine wpAny_bind (wpAny_rule ?_)
 refine wpAny_bind (wpAny_field hz rfl (x:=.ref TO) rfl ?_)
 refine wpAny_bind (wpAny_setField_rec hz (by simp) fun g1 z1 s1=>?_)
 replace z1:IsZip g1 z TI TO .ellipsis:=z1
 refine wpAny_bind ?_
 simp only [List.zipIdx_cons,List.zipIdx_nil,List.forIn_cons,List.forIn_nil]
 refine wpAny_bind (wpAny_bind (wpAny_onRaise ?_))
 show wpAny _ _ (nextOf (.ref i1) >>= _) _ _ _
 have c11:S1 k g1:=D1.frame _ _ _ c1 fun b hb o e=>s1.extBut b o (fun q=>D.z1 (q ▸ hb)) e
 refine wpAny_bind (D1.item k _ _ _ l1 c11 fun x g2 tk2 p1 c12 s2=>wpAny_pure ?_)
 replace s2:Heap.SameBut i1 g1 g2:=s2
 have t2:IsPair g2 TO a b:=s2.extBut _ _ D.a8 (s1.extBut _ _ D.a2 hTO)
 refine wpAny_bind (wpAny_seqItems t2 rfl ?_)
 refine wpAny_bind (wpAny_updateSeq_pair t2 fun g3 t3 s3=>?_)
 replace t3:IsPair g3 TO x b:=t3
 replace s3:Heap.SameBut TO g2 g3:=s3
 refine wpAny_bind (wpAny_letGo (wpAny_pure ?_))
 refine wpAny_bind (wpAny_bind (wpAny_onRaise ?_))
 show wpAny _ _ (nextOf (.ref i2) >>= _) _ _ _
 have c23:S2 k g3:=D2.frame _ _ _ c2 fun b hb o e=>s3.extBut b o (fun q=>D.o2 (q ▸ hb)) (s2.extBut b o (fun q=>D.n2 (q ▸ hb)) (s1.extBut b o (fun q=>D.z2 (q ▸ hb)) e))
 have c13:S1 (k+1) g3:=D1.frame _ _ _ c12 fun b hb o e=>s3.extBut b o (fun q=>D.o1 (q ▸ hb)) e
 refine wpAny_bind (D2.item k _ _ _ l2 c23 fun y g4 tk4 p2 c24 s4=>wpAny_pure ?_)
 replace s4:Heap.SameBut i2 g3 g4:=s4
 have t4:IsPair g4 TO x b:=s4.extBut _ _ D.a9 t3
 refine wpAny_bind (wpAny_seqItems t4 rfl ?_)
 refine wpAny_bind (wpAny_updateSeq_pair t4 fun g5 t5 s5=>?_)
 replace t5:IsPair g5 TO x y:=t5
 replace s5:Heap.SameBut TO g4 g5:=s5
 refine wpAny_bind (wpAny_letGo (wpAny_pure (wpAny_pure ?_)))
 refine wpAny_bind (wpAny_seqItems t5 rfl ?_)
 refine wpAny_bind (wpAny_newTuple ?_)
 have sz:g5.objs.size=s.heap.objs.size:=by rw[s5.1,s4.1,s3.1,s2.1,s1.1]
 have z5:IsZip g5 z TI TO .ellipsis:=s5.extBut _ _ D.a2.symm (s4.extBut _ _ D.a4.symm (s3.extBut _ _ D.a2.symm (s2.extBut _ _ D.a3.symm z1)))
 have k5:∀ c o,c≠z->c≠TO->c≠i1->c≠i2->s.heap.get? c=some o->g5.get? c=some o:=fun c o q1 q2 q3 q4 e =>
  s5.extBut _ _ q2 (s4.extBut _ _ q4 (s3.extBut _ _ q2 (s2.extBut _ _ q3 (s1.extBut _ _ q1 e))))
 have c15:S1 (k+1) g5:=D1.frame _ _ _ c13 fun b hb o e=>s5.extBut b o (fun q=>D.o1 (q ▸ hb)) (s4.extBut b o (fun q=>D.n1 (q ▸ hb)) e)
 have c25:S2 (k+1) g5:=D2.frame _ _ _ c24 fun b hb o e=>s5.extBut b o (fun q=>D.o2 (q ▸ hb)) e
 have zlt:z<g5.objs.size:=Heap.lt_size z5
 show wpAny _ _ (ownedTupleHandOut (.ref z) (.ref g5.objs.size) >>= _) _ _ _
 refine wpAny_bind ?_
 unfold ownedTupleHandOut
 have z6:IsZip (g5.push { cls:=.type "tuple",data:=.seq #[x,y] }) z TI TO .ellipsis:=Heap.get?_push_of_some _ z5
 refine wpAny_bind (wpAny_setField_rec z6 (by simp) fun g7 z7 s7=>?_)
 replace z7:IsZip g7 z TI TO (rawInt g5.objs.size):=z7
 refine wpAny_setField_rec z7 (by simp) fun g8 z8 s8=>?_
 replace z8:IsZip g8 z TI TO (rawInt g5.objs.size):=z8
 have up:∀ c o,c≠z->g5.get? c=some o->g8.get? c=some o:=fun c o q e=>s8.extBut _ _ q (s7.extBut _ _ q (Heap.get?_push_of_some _ e))
 have t8:IsPair g8 g5.objs.size x y:=s8.extBut _ _ (Nat.ne_of_gt zlt) (s7.extBut _ _ (Nat.ne_of_gt zlt) (Heap.get?_push_size _ rfl))
 have sz8:g8.objs.size=g5.objs.size+1:=by rw[s8.1,s7.1,Heap.size_push]
 rw[sz] at z8 t8 sz8
 refine wpAny_pure ⟨_,rfl,?_⟩
 show Q (.ref g5.objs.size) _
 rw[sz]
 exact hQ x y g8 tk4 p1 p2 z8 (up _ _ D.a2 t5) (D1.frame _ _ _ c15 fun b hb o e=>up b o (fun q=>D.z1 (q ▸ hb)) e) (D2.frame _ _ _ c25 fun b hb o e=>up b o (fun q=>D.z2 (q ▸ hb)) e) t8 sz8
  fun c o q1 q2 q3 q4 e=>up c o q1 (k5 c o q1 q2 q3 q4 e)
theorem Jt {k:Nat}{a b:Value}{Q:Fin->Shared->Prop}(D:Off z TI TO i1 i2 f1 f2)(D1:Draws prog w A i1 f1 n1 P1 S1)(hz:IsZip s.heap z TI TO .none)(hTI:IsPair s.heap TI (.ref i1) (.ref i2))(c1:S1 n1 s.heap)
  (hE:∀ h' e,(∀ c o,c≠z->c≠i1->s.heap.get? c=some o->h'.get? c=some o)->(∃ o,h'.get? e=some o/\o.cls=.type "StopIteration")->E (.ref e) { s with heap:=h' }) :
  wpAny (model prog w) A (Builtin.«zip.__next__» ⟨[.ref z],[]⟩) Q E s:=by
 show wpAny _ _ (field (.ref z) 2 >>= _) _ _ _
 refine wpAny_bind (wpAny_field hz rfl (x:=.bool false) rfl ?_)
 show wpAny _ _ (field (.ref z) 3 >>= _) _ _ _
 refine wpAny_bind (wpAny_field hz rfl (x:=.ref TI) rfl ?_)
 refine wpAny_bind (wpAny_seqItems hTI rfl ?_)
 show wpAny _ _ (ownedTupleIsFree (.ref z) >>= _) _ _ _
 refine wpAny_bind ?_
 unfold ownedTupleIsFree
 refine wpAny_bind (wpAny_field hz rfl (x:=.none) rfl (wpAny_pure ?_))
 simp only [if_true]
 refine wpAny_bind (wpAny_rule ?_)
 refine wpAny_bind (wpAny_field hz rfl (x:=.ref TO) rfl ?_)
 refine wpAny_bind (wpAny_setField_rec hz (by simp) fun g1 z1 s1=>?_)
 replace z1:IsZip g1 z TI TO .ellipsis:=z1
 refine wpAny_bind ?_
 simp only [List.zipIdx_cons,List.zipIdx_nil,List.forIn_cons,List.forIn_nil]
 refine wpAny_bind (wpAny_bind (wpAny_onRaise ?_))
 show wpAny _ _ (nextOf (.ref i1) >>= _) _ _ _
 have c11:S1 n1 g1:=D1.frame _ _ _ c1 fun b hb o e=>s1.extBut b o (fun q=>D.z1 (q ▸ hb)) e
 refine wpAny_bind (D1.done _ _ _ c11 fun g2 e s2 he=>?_)
 obtain⟨oe,eo,ce⟩:=he
 replace s2:Heap.ExtBut i1 g1 g2:=s2
 have z2:IsZip g2 z TI TO .ellipsis:=s2 _ _ D.a3.symm z1
 have ez:e≠z:=fun q=>by
  subst q
  rw[z2] at eo
  cases eo
  simp at ce
 exact wpAny_setField_rec z2 (by simp) fun g3 _ s3=>hE g3 e (fun c o q1 q3 h=>s3.extBut _ _ q1 (s2 _ _ q3 (s1.extBut _ _ q1 h))) ⟨oe,s3.extBut _ _ ez eo,ce⟩
theorem M6 {k:Nat}{a b:Value}{Q:Option Value->Shared->Prop}(D:Off z TI TO i1 i2 f1 f2)(D1:Draws prog w A.in1 i1 f1 n1 P1 S1)(D2:Draws prog w A.in1 i2 f2 n2 P2 S2)
  (hz:IsZip s.heap z TI TO .none) (hTI:IsPair s.heap TI (.ref i1) (.ref i2)) (hTO:IsPair s.heap TO a b) (c1:S1 k s.heap) (c2:S2 k s.heap) (l1:k<n1) (l2:k<n2)
  (hQ:∀ x y h' tk,P1 k x->P2 k y->IsZip h' z TI TO (rawInt s.heap.objs.size)->IsPair h' TO x y->S1 (k+1) h'->S2 (k+1) h'->IsPair h' s.heap.objs.size x y->h'.objs.size=s.heap.objs.size+1 →
   (∀ c o,c≠z->c≠TO->c≠i1->c≠i2->s.heap.get? c=some o->h'.get? c=some o)->Q (some (.ref s.heap.objs.size)) { s with heap:=h',toks:=tk }):wpAny (model prog w) A (pyNext (.ref z)) Q E s:=by
 have hT:s.TypeIs (.ref z) "zip":=⟨_,hz,rfl⟩
 unfold pyNext
 exact wpAny_bind (wpAny_attempt (wpAny_callSpecial?_slot (name:=Str.ofString "__next__") hT F.slot_zip_next (wpAny_call_entry F.slot_zip_next hT F.entry_zip_next
   (Ju D D1 D2 hz hTI hTO c1 c2 l1 l2 fun x y h' tk p1 p2 q1 q2 q3 q4 q5 q6 q7=>wpAny_pure (hQ x y h' tk p1 p2 q1 q2 q3 q4 q5 q6 q7)) (F.args_zip_next_1 _))))
theorem Sh {Q:Option Value->Shared->Prop}(D:Off z TI TO i1 i2 f1 f2)(D1:Draws prog w A.in1 i1 f1 n1 P1 S1)(hz:IsZip s.heap z TI TO .none)(hTI:IsPair s.heap TI (.ref i1) (.ref i2))(c1:S1 n1 s.heap)
  (hQ:∀ h',(∀ c o,c≠z->c≠i1->s.heap.get? c=some o->h'.get? c=some o)->Q none { s with heap:=h' }):wpAny (model prog w) A (pyNext (.ref z)) Q E s:=by
 have hT:s.TypeIs (.ref z) "zip":=⟨_,hz,rfl⟩
 unfold pyNext
 refine wpAny_bind (wpAny_attempt (wpAny_callSpecial?_slot (name:=Str.ofString "__next__") hT F.slot_zip_next (wpAny_call_entry F.slot_zip_next hT F.entry_zip_next
  (Jt (k:=0) (a:=.none) (b:=.none) D D1 hz hTI c1 fun h' e hk he=>?_) (F.args_zip_next_1 _))))
 obtain⟨o,ho,hc⟩:=he
 exact wpAny_bind (wpAny_isInstance (T:="StopIteration") (b:=true) ⟨o,ho,hc⟩ isSubtype_stop (wpAny_pure (hQ _ hk)))
end
abbrev zH1 (h:Heap)(t:Addr):Heap:=h.push { cls:=.type "tuple_iterator",data:=.fields #[.ref t,.int 0 0] }
theorem Mc (t:Addr)(ys:Array Value)(n:Nat)(dd:Option Addr)(sl:Array (Option Value)):Meets (Builtin.«enumerate.__new__» ⟨[.type "enumerate",.ref t],[]⟩) (fun _ R s=>s.heap.get? t=some { cls:=.type "tuple",dict:=dd,data:=.seq ys n,slots:=sl } ∧
  R (.ok (.ret (.ref (zH1 s.heap t).objs.size))) { s with heap:=(zH1 s.heap t).push { cls:=.type "enumerate",data:=.fields #[.none,.bool false,.ref s.heap.objs.size,rawInt 0,.none,.none] } }) :=
 .of_wp fun prog w A R s h=>by
  obtain⟨hp,g,d,tk,os⟩:=s
  obtain⟨hl,h⟩:=h
  have hsub:=sub_enumerate
  have hL:Heap.IsTuple (Shared.heap ⟨hp,g,d,tk,os⟩) t ys:=⟨_,hl,rfl,n,rfl⟩
  wp_walk using wpAny_loadPart' hl
  refine wpAny_stack_any fun st=>wpAny_pure ?_
  split
  ·rename_i c _ _ _ _ _
   cases (c == Value.type "enumerate")
   ·wp_walk using wpAny_loadPart' hl,wpAny_pyIter_tuple hL
    exact⟨_,rfl,h⟩
   ·wp_walk using wpAny_loadPart' hl,wpAny_pyIter_tuple hL
    exact⟨_,rfl,h⟩
  ·wp_walk using wpAny_loadPart' hl,wpAny_pyIter_tuple hL
   exact⟨_,rfl,h⟩
theorem Kb {prog:Program}{w:World}{A:Around}{E:Value->Shared->Prop}{s:Shared}{t:Addr}{ys:Array Value}{Q:Value->Shared->Prop}(ht:s.heap.IsTuple t ys)
  (h:∀ h',IsEnum h' (s.heap.objs.size+1) s.heap.objs.size 0 .none->h'.IsTupleIter s.heap.objs.size t 0->h'.objs.size=s.heap.objs.size+2->(∀ b o,s.heap.get? b=some o->h'.get? b=some o)->Q (.ref (s.heap.objs.size+1)) { s with heap:=h' }) :
  wpAny (model prog w) A (call (.type "enumerate") [.ref t]) Q E s:=by
 obtain⟨⟨c,dd,dt,sl⟩,e,c1,n,d1⟩:=ht
 cases c1
 cases d1
 refine callType_new F.called_enumerate (by decide) (F.typeCall_enumerate_1 _) (F.newCall_enumerate_1 _) (fun obj=>F.args_object_init_2 obj _) F.entry_enumerate_new (Mc t ys n dd sl) ⟨e,?_⟩
 have hz:(zH1 s.heap t).objs.size=s.heap.objs.size+1:=Heap.size_push ..
 show _/\_
 rw[hz]
 have he:IsEnum ((zH1 s.heap t).push { cls:=.type "enumerate",data:=.fields #[.none,.bool false,.ref s.heap.objs.size,rawInt 0,.none,.none] }) (s.heap.objs.size+1) s.heap.objs.size 0 .none:=by
  have q:=Heap.get?_push_size (zH1 s.heap t) (o:={ cls:=.type "enumerate",data:=.fields #[.none,.bool false,.ref s.heap.objs.size,rawInt 0,.none,.none] }) rfl
  rw[hz] at q
  exact q
 exact⟨⟨_,he,rfl⟩,h _ he ⟨_,Heap.get?_push_of_some _ (Heap.get?_push_size _ rfl),rfl,rfl⟩ (by rw[Heap.size_push,hz]) fun b o x=>Heap.get?_push_of_some _ (Heap.get?_push_of_some _ x)⟩
end Sb
namespace Sb
open PySem PySem.Spec PyProof.Rows L2
section
variable {X:Cx}{pins:List (Addr × Obj)}{σ:L2.St}{H:Hp}{s:Shared}{h':Heap}{t':Nat}{ch:List Addr}
theorem Ml (I:Inv X pins σ H s)(hn:∀ b∈ch,H b=none)(k:∀ b o,b ∉ ch->s.heap.get? b=some o->h'.get? b=some o):HOk X.prog X.w H h':=fun a o e =>
 (I.hok a o e).stay (fun b u hb q=>k b u (fun z=>by
  have n:=hn b z
  rcases hb with rfl | hb
  ·rw[n] at e;cases e
  ·rw[n] at hb;cases hb) q) (fun _ q=>q) fun _ _ q=>q
theorem T8 (I:Inv X pins σ H s)(hf:∀ b∈ch,FpOk X pins H b)(k:∀ b o,b ∉ ch->s.heap.get? b=some o->h'.get? b=some o):Inv X pins σ H { s with heap:=h',toks:=t' }:=by
 refine I.step (g':=s.gens) (d':=s.drawn) (ch:=ch) (fun b hb=>?_) (fun b o _ _ hc e _=>k b o hc e) (fun b o _ _ hc e _=>⟨o.slots,k b o hc e⟩) (fun _ _ _ _ n=>n) (fun b o hc e=>⟨o,k b o hc e⟩) (fun _ _ e=>e) (fun _ _ _ e=>e)
  (fun b ps e=>⟨#[],by rw[e];simp⟩) (fun m hm=>?_) (Ml I (fun b hb=>(hf b hb).1) k) I.bare
 ·exact⟨(hf b hb).2.2.2.1,(hf b hb).2.1,(hf b hb).2.2.2.2.1,(hf b hb).2.2.2.2.2⟩
 ·obtain⟨o,es,ep,ho,r⟩:=hm
  exact⟨o,es,ep,k _ o (fun z=>(hf _ z).2.1 rfl) ho,r⟩
theorem Ve {p:Addr}{u:HO}(I:Inv X pins σ H s)(hf:∀ b∈ch,FpOk X pins H b)(k:∀ b o,b ∉ ch->s.heap.get? b=some o->h'.get? b=some o)(hp:s.heap.objs.size<=p)(new:ObjOk X.prog X.w (upd H p u) h' p u) :
  Inv X pins σ (upd H p u) { s with heap:=h',toks:=t' }:=by
 have lt:∀ b o,s.heap.get? b=some o->b≠p:=fun b o e z=>absurd (Nat.lt_of_lt_of_le (Heap.lt_size e) hp) (by rw[z];exact Nat.lt_irrefl _)
 have ltH:∀ b o,H b=some o->b≠p:=fun b o e z=>absurd (Nat.lt_of_lt_of_le (I.hok.lt e) hp) (by rw[z];exact Nat.lt_irrefl _)
 have hk:=Ml I (fun b hb=>(hf b hb).1) k
 refine I.step (g':=s.gens) (d':=s.drawn) (ch:=ch) (fun b hb=>?_) (fun b o _ _ hc e _=>k b o hc e) (fun b o _ _ hc e _=>⟨o.slots,k b o hc e⟩) (fun b o _ e n=>by rw[Zb (lt b o e)];exact n) (fun b o hc e=>⟨o,k b o hc e⟩)
  (fun b _ e=>by rw[Zb (ltH b _ e)];exact e) (fun b _ _ e=>by rw[Zb (ltH b _ e)];exact e) (fun b ps e=>⟨#[],by rw[Zb (ltH b _ e),e];simp⟩) (fun m hm=>?_) (fun b o e=>?_) I.bare
 ·exact⟨(hf b hb).2.2.2.1,(hf b hb).2.1,(hf b hb).2.2.2.2.1,(hf b hb).2.2.2.2.2⟩
 ·obtain⟨o,es,ep,ho,r⟩:=hm
  exact⟨o,es,ep,k _ o (fun z=>(hf _ z).2.1 rfl) ho,r⟩
 ·by_cases hb:b=p
  ·subst hb
   rw[Z7] at e
   cases e
   exact new
  ·rw[Zb hb] at e
   exact (hk b o e).stay (fun _ _ _ q=>q) (fun c q=>by rw[Zb (ltH c _ q)];exact q) fun c xs q=>by rw[Zb (ltH c _ q)];exact q
theorem D5 {b t:Addr}{xs:List V}(I:Inv X pins σ H s)(hf:FpOk X pins H b)(h:SqT X.K H t xs):t≠b:=by
 rintro rfl
 rcases h with (h | ⟨o,h⟩) | ⟨o,its,n,h,_⟩
 ·rw[hf.1] at h;cases h
 ·rw[hf.1] at h;cases h
 ·have e:=I.ok.mod.kin _ _ h
  rcases hf.2.2.2.1 with z | z
  ·exact I.ok.noex _ _ e z
  ·exact absurd (Nat.lt_of_lt_of_le (Heap.lt_size (I.ok.bs _ _ e).1) z) (Nat.lt_irrefl _)
end
structure ZOff (z TI TO i1 i2:Addr):Prop where
 a1:TI≠z
 a2:TO≠z
 a3:i1≠z
 a4:i2≠z
 a5:TI≠TO
 a6:TI≠i1
 a7:TI≠i2
 a8:TO≠i1
 a9:TO≠i2
 b1:i1≠i2
section
variable {X:Cx}
end
def Ite (K:W.Frag)(t:Addr):It :=
 ⟨fun i H=>∃ xs,SqT K H t xs/\i<xs.length,
   fun i H v H'=>∃ p x,v=.ref p/\H p=none/\H'=upd H p (.tup [.int (i:Int),x])/\∀ xs,SqT K H t xs->xs[i]?=some x,
   fun i H=>∃ xs,SqT K H t xs/\i=xs.length⟩
theorem Jy {P:Program}{w:World}{K:W.Frag}{es:List Expr}{kk:Nat}{tp:Pos}{e it:Addr}(O:e≠it)(t:Addr) :
  Turn P w K (.Tuple es kk tp) (Ite K t) [e,it] e (fun i h=>(∃ old,IsEnum h e it (i:Int) old)/\h.IsTupleIter it t i) where
 mem:=by simp
 obj:=fun i h ⟨⟨old,he⟩,⟨o1,e1,_,d1⟩⟩ b hb=>by
  simp only [List.mem_cons,List.not_mem_nil,or_false] at hb
  rcases hb with rfl | rfl
  ·exact⟨_,he,fun v q=>by have q':Data.fields _=Data.cell v:=q;cases q'⟩
  ·exact⟨_,e1,fun v q=>by rw[d1] at q;cases q⟩
 keep:=fun i h h' ⟨⟨old,he⟩,⟨o1,e1,r1⟩⟩ k=>⟨⟨old,k e (by simp) _ he⟩,⟨o1,k it (by simp) _ e1,r1⟩⟩
 item:=by
  intro X hP hw hK hc i pins s σ H E I hf st hg
  subst hP hw hK
  obtain⟨xs,hx,lx⟩:=hg
  obtain⟨⟨old,he⟩,c1⟩:=st
  obtain⟨u1,v1,p1,_⟩:=I.tuple hx
  have n1:=v1.length
  have ne:∀ b∈[e,it],t≠b:=fun b hb=>D5 I (hf b hb) hx
  have off:∀ b∈[e,it],∀ x,(b,x) ∉ X.pn:=fun b hb x m=>(hf b hb).2.2.2.2.2 _ (List.mem_append_left _ m) rfl
  have qI:∀ p∈X.pn,s.heap.get? p.1=some p.2:=fun p hp=>(I.pin p (List.mem_append_left _ hp)).1
  have qO:∀ b∈[e,it],∀ p∈X.pn,p.1≠b:=fun b hb p hp=>(hf b hb).2.2.2.2.2 p (List.mem_append_left _ hp)
  have D1:=Pa (prog:=X.prog) (w:=X.w) (A:=X.A.in1) (I.ok.hd hc) it t (ne it (by simp)) (qO it (by simp)) u1.toArray
  refine wpAny_pyNext_enum_itemD D1 he ⟨c1,p1,qI⟩ (by simp;omega) O (by simp[O,(ne e (by simp)).symm,off e (by simp)]) fun x g tk px out s1 pr sz kp=>?_
  refine⟨_,rfl,wpAny_letOwnedTupleGo_enum out fun g2 z2 sb=>?_⟩
  obtain⟨x0,ex⟩:∃ x0,xs[i]?=some x0:=⟨xs[i],by simp[lx]⟩
  obtain⟨x1,ex1,rx⟩:=v1.get ex
  have qx:x1=x:=by
   have:u1.toArray[i]?=some x:=px
   rw[List.getElem?_toArray,ex1] at this
   exact Option.some.inj this
  subst qx
  have elt:e<s.heap.objs.size:=Heap.lt_size he
  have pe:s.heap.objs.size≠e:=Nat.ne_of_gt elt
  have sb2:∀ b,b≠e->g2.get? b=g.get? b:=fun b hb=>sb.2 b hb
  have keep:∀ b o,b ∉ [e,it]->s.heap.get? b=some o->g2.get? b=some o:=fun b o hb q=>by
   simp only [List.mem_cons,List.not_mem_nil,or_false,not_or] at hb
   rw[sb2 b hb.1]
   exact kp b o hb.1 hb.2 q
  have new:ObjOk X.prog X.w (upd H s.heap.objs.size (.tup [.int (i:Int),x0])) g2 s.heap.objs.size (.tup [.int (i:Int),x0]) :=
   ⟨by show 2<=sizeLine;decide,[.int (i:Int) tk,x1],.cons ⟨tk,rfl⟩ (.cons rx .nil),⟨_,by rw[sb2 _ pe];exact pr,rfl,0,rfl⟩⟩
  have I2:=Ve (t':=tk+1) I hf keep (Nat.le_refl _) new
  have nn:∀ b∈[e,it],upd H s.heap.objs.size (.tup [.int (i:Int),x0]) b=none:=fun b hb=>by
   have:b≠s.heap.objs.size:=by
    have ob:∃ o,s.heap.get? b=some o:=by
     simp only [List.mem_cons,List.not_mem_nil,or_false] at hb
     obtain⟨o1,e1,_⟩:=c1
     rcases hb with rfl | rfl
     ·exact⟨_,he⟩
     ·exact⟨_,e1⟩
    obtain⟨o,q⟩:=ob
    exact Nat.ne_of_lt (Heap.lt_size q)
   rw[Zb this]
   exact (hf b hb).1
  refine⟨.ref s.heap.objs.size,_,I2,rfl,⟨_,x0,rfl,I.fresh,rfl,fun xs' h1=>by rw[I.tuple_inj h1 hx];exact ex⟩,⟨⟨x1,?_⟩,?_⟩,nn⟩
  ·exact z2
  ·exact s1.1.extBut sb.extBut O.symm
 done:=by
  intro X hP hw hK hc i pins s σ H E I hf st hg
  subst hP hw hK
  obtain⟨xs,hx,rfl⟩:=hg
  obtain⟨⟨old,he⟩,c1⟩:=st
  obtain⟨u1,v1,p1,_⟩:=I.tuple hx
  have n1:=v1.length
  have ne:∀ b∈[e,it],t≠b:=fun b hb=>D5 I (hf b hb) hx
  have off:∀ b∈[e,it],∀ x,(b,x) ∉ X.pn:=fun b hb x m=>(hf b hb).2.2.2.2.2 _ (List.mem_append_left _ m) rfl
  have qI:∀ p∈X.pn,s.heap.get? p.1=some p.2:=fun p hp=>(I.pin p (List.mem_append_left _ hp)).1
  have qO:∀ b∈[e,it],∀ p∈X.pn,p.1≠b:=fun b hb p hp=>(hf b hb).2.2.2.2.2 p (List.mem_append_left _ hp)
  have D1:=Pa (prog:=X.prog) (w:=X.w) (A:=X.A.in1) (I.ok.hd hc) it t (ne it (by simp)) (qO it (by simp)) u1.toArray
  have c1':s.heap.IsTupleIter it t u1.toArray.size:=by
   rw[List.size_toArray,← n1]
   exact c1
  refine wpAny_pyNext_enum_endD D1 he ⟨c1',p1,qI⟩ fun g kp=>⟨rfl,?_⟩
  exact T8 (t':=s.toks) I hf fun b o hb q=>by
   simp only [List.mem_cons,List.not_mem_nil,or_false,not_or] at hb
   exact kp b o hb.2 q
 self:=fun _ _ _ _ _ st h=>by
  obtain⟨⟨old,he⟩,_⟩:=st
  exact wpAny_pyIter_enum he h
section
variable {X:Cx}
def iEnum (K:W.Frag)(ta:TA):TI:=fun σ H R=>ta σ H fun vs H1=>∃ t,vs=[.ref t]/\(∃ xs,SqT K H1 t xs)/\R (Ite K t) H1
theorem Z0b {a:Expr}{ta:TA}{p pos:Pos}{es:List Expr}{kk:Nat}{tp:Pos}(hg:Gl X "enumerate")(hm:X.mg "enumerate"=none)(ha:PA X [a] ta)(hs:starEach [a] X.env=[(false,eval a X.env)]:=by rfl) :
  PI X (.Tuple es kk tp) (.Call (.Name "enumerate" p) [a] [] pos) (iEnum X.K ta):=by
 intro pins s σ H R I h
 refine Call_ (Wk I hg hm boot_enumerate (PyProof.Rows.callWith_type1 (thn (ha pos pins s σ H _ I h) fun us s1 ⟨vs,H1,I1,r1,q1⟩=>?_) hs rfl))
 obtain⟨t,e,⟨xs,hx⟩,q⟩:=q1
 subst e
 obtain⟨t0,e0,rt⟩:=Uh r1
 cases (show t0=Value.ref t from rt)
 subst e0
 obtain⟨u1,v1,p1,_⟩:=I1.tuple hx
 refine Kb (ys:=u1.toArray) p1 fun g z0 i1 sz kp=>?_
 refine wpAny_pyIter_enum z0 ?_
 have I2:Inv X pins σ H1 { s1 with heap:=g }:=I1.kept (t':=s1.toks) kp
 refine⟨s1.heap.objs.size+1,[s1.heap.objs.size+1,s1.heap.objs.size],_,Ite X.K t,H1,rfl,I2,Jy (O:=?_) t,⟨⟨_,z0⟩,i1⟩,fun b hb=>?_,q⟩
 ·show @Ne Nat _ _
  omega
 ·have hb':s1.heap.objs.size<=b:=by
   simp only [List.mem_cons,List.not_mem_nil,or_false] at hb
   rcases hb with rfl | rfl
   ·exact Nat.le_add_right _ _
   ·exact Nat.le_refl _
  exact I1.fpOk hb' (I1.hok.fresh hb')
end
end Sb
namespace Sb
open PySem L2
structure Ext (H H':Hp):Prop where
 tup:∀ b xs,H b=some (.tup xs)->H' b=some (.tup xs)
 frz:∀ b o u,H b=some (.frz o u)->H' b=some (.frz o u)
theorem Ext.trans {H H1 H2:Hp}(a:Ext H H1)(b:Ext H1 H2):Ext H H2:=⟨fun c xs h=>b.tup c xs (a.tup c xs h),fun c o u h=>b.frz c o u (a.frz c o u h)⟩
theorem Ext.same {H H':Hp}(x:Same H H'):Ext H H':=⟨fun b _ h=>x b _ h,fun b _ _ h=>x b _ h⟩
theorem Ext.x {a:Addr}{H H':Hp}{ys:List V}(x:SameX a H H')(ha:H a=some (.lst ys)):Ext H H' :=
 ⟨fun b _ h=>x b _ h (Z23 h ha (by intro z;cases z)),fun b _ _ h=>x b _ h (Z23 h ha (by intro z;cases z))⟩
theorem Ext.bag {a:Addr}{n:Nat}{H H':Hp}(x:SameX a H H')(ha:BagAt H a n):Ext H H':=by
 obtain⟨ys,e⟩:=ha.lst
 exact Ext.x x e
theorem Ext.upd {l:Addr}{H:Hp}{ys:List V}{o:HO}(hl:H l=some (.lst ys)):Ext H (L2.upd H l o):=Ext.x (SameX.upd l H o) hl
theorem Ext.new {l:Addr}{H:Hp}{o:HO}(hl:H l=none):Ext H (L2.upd H l o):=Ext.same (Same.new hl)
theorem Ext.sq {K:W.Frag}{H H':Hp}{a:Addr}{xs:List V}(e:Ext H H')(h:SqT K H a xs):SqT K H' a xs:=by
 rcases h with (h | ⟨o,h⟩) | h
 ·exact .inl (.inl (e.tup _ _ h))
 ·exact .inl (.inr ⟨o,e.frz _ _ _ h⟩)
 ·exact .inr h
abbrev Rat:=Int × Int
def IsR (K:W.Frag)(H:Hp)(r:Rat)(v:V):Prop:=∃ b,v=.ref b/\SqT K H b [.int r.1,.int r.2]
theorem IsR.ext {K:W.Frag}{H H':Hp}{r:Rat}{v:V}(h:IsR K H r v)(e:Ext H H'):IsR K H' r v:=by
 obtain⟨b,q,h⟩:=h
 exact⟨b,q,e.sq h⟩
def Rs (K:W.Frag)(H:Hp)(rs:List Rat)(xs:List V):Prop:=Paired (IsR K H) rs xs
theorem Rs.ext {K:W.Frag}{H H':Hp}{rs:List Rat}{xs:List V}(h:Rs K H rs xs)(e:Ext H H'):Rs K H' rs xs:=Paired.mapP h fun _ _ q=>q.ext e
theorem Rs.snoc {K:W.Frag}{H:Hp}{rs:List Rat}{xs:List V}{r:Rat}{v:V}(h:Rs K H rs xs)(q:IsR K H r v):Rs K H (rs++[r]) (xs++[v]):=Paired.snoc h q
theorem Rs.len {K:W.Frag}{H:Hp}{rs:List Rat}{xs:List V}(h:Rs K H rs xs):rs.length=xs.length:=Paired.length h
theorem Rs.at {K:W.Frag}{H:Hp}:∀ {rs:List Rat} {xs:List V} {i:Nat} {r:Rat},Rs K H rs xs->rs[i]?=some r->∃ v,xs[i]?=some v/\IsR K H r v
 | _,_,_,_,.nil,e=>by simp at e
 | _,_,0,_,.cons q _,e=>by
  simp at e
  subst e
  exact⟨_,rfl,q⟩
 | _,_,i+1,r,.cons _ t,e=>by
  obtain⟨v,h1,h2⟩:=Rs.at (i:=i) (r:=r) t (by simpa using e)
  exact⟨v,by simpa using h1,h2⟩
theorem Rs.back {K:W.Frag}{H:Hp}{rs:List Rat}{xs:List V}{i:Nat}{v:V}(h:Rs K H rs xs)(e:xs[i]?=some v):∃ r,rs[i]?=some r/\IsR K H r v:=by
 have hi:i<xs.length:=(List.getElem?_eq_some_iff.mp e).1
 have hr:i<rs.length:=by rw[h.len];exact hi
 obtain⟨w,h1,h2⟩:=h.at (i:=i) (r:=rs[i]) (by simp[hr])
 rw[e] at h1
 cases h1
 exact⟨_,by simp[hr],h2⟩
def RowAt (K:W.Frag)(H:Hp)(a:Addr)(rs:List Rat):Prop:=∃ xs,SqT K H a xs/\Rs K H rs xs
theorem RowAt.ext {K:W.Frag}{H H':Hp}{a:Addr}{rs:List Rat}(h:RowAt K H a rs)(e:Ext H H'):RowAt K H' a rs:=by
 obtain⟨xs,h1,h2⟩:=h
 exact⟨xs,e.sq h1,h2.ext e⟩
structure Good (n:Nat)(r:Rat):Prop where
 b1:Bd n r.1
 b2:Bd n r.2
 pos:0<r.2
 cop:Int.gcd r.1 r.2=1
theorem Good.mono {m n:Nat}{r:Rat}(h:Good m r)(k:m<=n):Good n r:=⟨h.b1.mono k,h.b2.mono k,h.pos,h.cop⟩
def nrm (p q:Int):Rat:=(nT p q,nB p q)
theorem Rp {n:Nat}{p q:Int}(hp:Bd n p)(hq:Bd n q)(h:q≠0):Good n (nrm p q):=⟨hp.of_le' (Z3n h),hq.of_le' (Z3o h),N0 h,Cu h⟩
def addR (r s:Rat):Rat:=nrm (r.1*s.2+s.1*r.2) (r.2*s.2)
def subR (r s:Rat):Rat:=nrm (r.1*s.2 - s.1*r.2) (r.2*s.2)
def mulR' (r s:Rat):Rat:=nrm (r.1*s.1) (r.2*s.2)
theorem Wu {a b:Int}(ha:0<a)(hb:0<b):a*b≠0:=by
 have:=Int.mul_pos ha hb
 omega
end Sb
namespace Sb
open PySem PySem.Spec PyProof.Rows L2
set_option maxRecDepth 100000
theorem Tl:fillsNumberSlot (.type "tuple") "mul"=pure false :=
 PySem.fillsNumberSlot_seq (id:="tuple.__mul__") (r:=some (.builtin "tuple.__rmul__")) F.slot_tuple_mul.lookup (by decide +kernel) F.slot_tuple_rmul.lookup (by decide +kernel)
theorem Pl:seqRepeat? (.type "tuple")=pure (some (.builtin "tuple.__mul__")):=by
 unfold seqRepeat?
 rw[PySem.seqSlot_of (T:="tuple") (name:="__mul__") (id:="tuple.__mul__") F.slot_tuple_mul.lookup (by decide +kernel),PySem.seqSlot_of (T:="tuple") (name:="__rmul__") (id:="tuple.__rmul__") F.slot_tuple_rmul.lookup (by decide +kernel)]
 rfl
theorem Qb (a:Int)(t:Tok)(l:Addr)(items:Array Value)(n:Nat)(dd:Option Addr)(sl:Array (Option Value)) :
  Meets (Builtin.«int.__rmul__» ⟨[.int a t,.ref l],[]⟩) (fun _ R s=>s.heap.get? l=some { cls:=.type "tuple",dict:=dd,data:=.seq items n,slots:=sl }/\R (.ok (.ret Value.notImplemented)) s) :=
 .of_wp fun prog w A R s h=>by obtain⟨hp,g,d,tk,os⟩:=s;obtain⟨hl,h⟩:=h;wp_walk;exact⟨_,rfl,h⟩
theorem Jz (l:Addr)(items:Array Value)(n:Nat)(dd:Option Addr)(sl:Array (Option Value))(x:Int)(u:Tok)(h1:2<=x)(h2:items.isEmpty=false)(h3:items.size*x.toNat<=1000) :
  Meets (Builtin.«tuple.__mul__» ⟨[.ref l,.int x u],[]⟩) (fun _ R s=>s.heap.get? l=some { cls:=.type "tuple",dict:=dd,data:=.seq items n,slots:=sl } ∧
   R (.ok (.ret (Value.ref s.heap.objs.size))) { s with heap:=s.heap.push { cls:=Value.type "tuple",data:=Data.seq (List.foldl (·++·) #[] (List.replicate x.toNat items)) } }) :=
 .of_wp fun prog w A R s h=>by
  obtain⟨hp,g,d,tk,os⟩:=s;obtain⟨hl,h⟩:=h
  have f1:=AutoSeq1.idx_int
  have f2:=AutoSeq1.sub_tuple_tuple
  have b1:(items.size:Int)*x<=1000:=by
   have e:x=(x.toNat:Int):=by omega
   rw[e,← Int.natCast_mul]
   omega
  have b2:0<items.size:=by
   cases items with
   | mk l=>cases l with
    | nil=>simp at h2
    | cons a r=>simp
  have b3:x<=1000:=by
   have:(1:Int)*x<=(items.size:Int)*x:=Int.mul_le_mul_of_nonneg_right (by omega) (by omega)
   omega
  have c0:¬ (decide (x < -2 ^ 63) || decide (x ≥ 2 ^ 63))=true:=by simp;omega
  have c1:¬ (items.isEmpty || x == 1)=true:=by rw[h2];simp;omega
  have c2:¬ (decide (x<=0) || items.isEmpty)=true:=by rw[h2];simp;omega
  have c3:¬ ((items.size:Int)*x > (2 ^ 63 - 1) / 8):=by
   have:(1000:Int)<=(2 ^ 63 - 1) / 8:=by decide
   omega
  have c4:¬ Builtin.Tuple.tupleTooMany ((items.size:Int)*x)=true:=by
   unfold Builtin.Tuple.tupleTooMany
   have:((items.size:Int)*x).toNat<=1000:=by omega
   have:(1000:Nat)<=sizeLine:=by decide
   simp
   omega
  have c5:(List.foldl (fun x1 x2=>x1++x2) #[] (List.replicate x.toNat items)).size<=sizeLine:=by
   rw[AutoSeq1.size_joined]
   have:(1000:Nat)<=sizeLine:=by decide
   have e:x.toNat*items.size=items.size*x.toNat:=Nat.mul_comm ..
   simp
   omega
  wp_walk using wpAny_loadPart' hl
  refine wpAny_ite_false (decide_eq_false c0) ?_
  wp_walk using wpAny_loadPart' hl
  refine wpAny_ite_false (decide_eq_false c1) ?_
  wp_walk using wpAny_loadPart' hl
  refine wpAny_ite_false (decide_eq_false c2) ?_
  wp_walk using wpAny_loadPart' hl
  refine wpAny_ite_false (decide_eq_false c3) ?_
  wp_walk using wpAny_loadPart' hl
  exact⟨_,rfl,h⟩
section
variable {X:Cx}{K:W.Frag}
def rRepT (K:W.Frag):R2:=fun x y H Q=>∃ a k xs,x=.ref a/\y=.int k/\SqT K H a xs/\2<=k/\xs≠[]/\xs.length*k.toNat<=1000/\∀ p,H p=none->Q (.ref p) (upd H p (.tup (List.replicate k.toNat xs).flatten))
theorem J7:OpR X (binaryOp .Mult) (rRepT X.K):=by
 intro pins s σ H x y v u Q I rx ry h
 obtain⟨l,k,xs,rfl,rfl,hq,h1,h2,h3,q⟩:=h
 cases rx
 obtain⟨t,rfl⟩:=ry
 obtain⟨its,r,pl,hz⟩:=I.tuple hq
 obtain⟨⟨cls,dd,data,sl⟩,ho,hc,n,hd⟩:=id pl
 simp only at hc hd
 subst hc hd
 have hl:=r.length
 have he:its.toArray.isEmpty=false:=by
  cases its with
  | nil=>cases r;exact absurd rfl h2
  | cons a b=>rfl
 have hnew:List.foldl (fun x1 x2=>x1++x2) #[] (List.replicate k.toNat its.toArray)=(List.replicate k.toNat its).flatten.toArray:=by
  have:=P5 its k.toNat []
  rw[List.nil_append] at this
  exact this
 refine wpAny_binaryOp_repeat_ref (T:="tuple") (U:="int") (by decide) ⟨_,ho,rfl⟩ (fun s'=>typeIs_int s' k t) Tl F.fills_int_mul F.slot_int_rmul Pl F.slot_int_index.lookup
  (call_meets F.slot_int_rmul (typeIs_int s k t) F.entry_int_rmul (F.args_int_rmul_2 _ _) (Qb k t l its.toArray n dd sl)
   ⟨ho,rfl,⟨_,ho,rfl⟩,call_meets F.slot_tuple_mul ⟨_,ho,rfl⟩ F.entry_tuple_mul (F.args_tuple_mul_2 _ _) (Jz l its.toArray n dd sl k t h1 he (by rw[List.size_toArray,← hl];exact h3)) ⟨ho,?_⟩⟩)
 rw[hnew]
 refine⟨.ref s.heap.objs.size,_,I.laid (t':=s.toks) (o:=.tup (List.replicate k.toNat xs).flatten) (fun b ob q=>Heap.get?_push_of_some _ q) (Nat.le_refl _) ?_,rfl,q _ (I.hok.fresh (Nat.le_refl _))⟩
 exact⟨by rw[Z1b,Nat.mul_comm];exact Nat.le_trans h3 (by decide),_,r.rep k.toNat,IsTup.new _ _⟩
def rEqI (K:W.Frag):R2:=fun x y H Q=>∃ (a b:Addr) (ns ms:List Int),x=.ref a/\y=.ref b/\SqT K H a (ns.map V.int)/\SqT K H b (ms.map V.int)/\Q (.bl (decide (ns=ms))) H
theorem Z38 (ns ms:List Int):((List.range (min ns.length ms.length)).all (fun j=>ns.getD j 0 == ms.getD j 0) && ns.length == ms.length)=decide (ns=ms):=by
 rw[Bool.eq_iff_iff]
 simp only [Bool.and_eq_true,List.all_eq_true,List.mem_range,beq_iff_eq,decide_eq_true_eq]
 constructor
 ·rintro ⟨h,hl⟩
  refine List.ext_getElem hl fun i h1 h2=>?_
  have:=h i (by omega)
  simpa [List.getD,h1,h2] using this
 ·rintro rfl
  exact⟨fun _ _=>rfl,rfl⟩
theorem Jg {ns:List Int}{us:List Value}(r:Vals (ns.map V.int) us){j:Nat}(h:j<us.length):∃ t,us[j]=Value.int (ns.getD j 0) t:=by
 have hl:=r.length
 rw[List.length_map] at hl
 have hj:j<ns.length:=by omega
 obtain⟨u,e,q⟩:=r.get (i:=j) (show (ns.map V.int)[j]?=some (V.int ns[j]) by simp[hj])
 obtain⟨t,rfl⟩:=q
 have e2:us[j]?=some us[j]:=by simp[h]
 rw[e2] at e
 refine⟨t,?_⟩
 rw[Option.some.inj e]
 simp[List.getD,hj]
theorem C8 (hu:X.A.units<cLine)(hK:X.K=K:=by rfl):OpR X (compareOp .Eq) (rEqI K):=by
 subst hK
 intro pins s σ H x y v u Q I rx ry h
 obtain⟨a,b,ns,ms,rfl,rfl,ha,hb,q⟩:=h
 cases rx
 cases ry
 obtain⟨its,r1,p1,_⟩:=I.tuple ha
 obtain⟨its2,r2,p2,_⟩:=I.tuple hb
 have l1:=r1.length
 have l2:=r2.length
 rw[List.length_map] at l1 l2
 refine SeqAt.eq_tupleAt (e:=fun j=>ns.getD j 0 == ms.getD j 0) p1 p2 hu (fun j h1 h2=>?_) ?_
 ·obtain⟨t,e1⟩:=Jg r1 (j:=j) (by simpa using h1)
  obtain⟨t',e2⟩:=Jg r2 (j:=j) (by simpa using h2)
  have e1':its.toArray[j]=Value.int (ns.getD j 0) t:=by simpa using e1
  have e2':its2.toArray[j]=Value.int (ms.getD j 0) t':=by simpa using e2
  rw[e1',e2']
  exact SeqAt.EqAt.int_int _ _ _ _
 ·rw[List.size_toArray,List.size_toArray,← l1,← l2,Z38]
  exact⟨.bl _,H,I,rfl,q⟩
theorem C7 (h:X.K=K:=by rfl):OpR X (compareOp .In) (rIn K false):=h ▸ Xm
end
theorem V0 (i:Int)(ns:List Int):inV (.int i) (ns.map V.int)=decide (i∈ns):=by
 unfold inV
 rw[List.any_map,Bool.eq_iff_iff]
 simp only [List.any_eq_true,decide_eq_true_eq,Function.comp]
 constructor
 ·rintro ⟨x,hx,e⟩
  have:x=i:=by simpa [eqV] using e
  exact this ▸ hx
 ·intro h
  exact⟨i,h,by simp[eqV]⟩
theorem Wb (ns:List Int):(ns.map V.int).all flatV=true:=by
 rw[List.all_map,List.all_eq_true]
 intro x _
 rfl
end Sb
namespace Sb
open PySem L2
def Con (K:W.Frag)(mg:Str->Option Value)(x:Str)(r:Rat):Prop:=∃ a:Addr,mg x=some (.ref a)/\∀ H,SqT K H a [.int r.1,.int r.2]
theorem Z02 {K:W.Frag}{h:Heap}{mg:Str->Option Value}{x:Str}{a:Addr}{i j:Int}{t1 t2:Tok}{n:Nat}{dd:Option Addr}{sl:Array (Option Value)}(X:K.In h)(G:h.Ns mainGlobals mg)
  (e:W.nsIn K mainGlobals x=some (some (.ref a))) (l:K.lookup a=some ⟨.type "tuple",dd,.seq #[.int i t1,.int j t2] n,sl⟩):Con K mg x (i,j) :=
 ⟨a,W.mg_of X G e,fun H=>.inr ⟨_,_,_,l,rfl,rfl,sz2,.cons ⟨_,rfl⟩ (.cons ⟨_,rfl⟩ .nil)⟩⟩
def evI (c:Nat)(p:Nat->Bool):List Int:=((List.range c).filter p).map fun (w:Nat)=>(w:Int)
def EvAt (K:W.Frag)(H:Hp)(c:Nat)(o:Option (Nat->Bool))(v:V):Prop:=match o with
 | none=>v=.non
 | some p=>∃ a,v=.ref a/\SqT K H a ((evI c p).map V.int)
theorem EvAt.ext {K:W.Frag}{H H':Hp}{c:Nat}{o:Option (Nat->Bool)}{v:V}(h:EvAt K H c o v)(e:Ext H H'):EvAt K H' c o v:=by
 cases o with
 | none=>exact h
 | some p=>obtain⟨a,q,h⟩:=h;exact⟨a,q,e.sq h⟩
theorem EvAt.same {K:W.Frag}{H H':Hp}{c:Nat}{o:Option (Nat->Bool)}{v:V}(h:EvAt K H c o v)(e:Same H H'):EvAt K H' c o v:=h.ext (Ext.same e)
def inE (o:Option (Nat->Bool))(i:Nat):Bool:=match o with
 | none=>true
 | some p=>p i
theorem mem_evI {c:Nat}{p:Nat->Bool}{i:Nat}:((i:Int)∈evI c p) ↔ i<c/\p i=true:=by
 unfold evI
 simp only [List.mem_map,List.mem_filter,List.mem_range]
 constructor
 ·rintro ⟨j,h,e⟩
  have:j=i:=by omega
  exact this ▸ h
 ·intro h
  exact⟨i,h,rfl⟩
theorem Z1m {c:Nat}{p:Nat->Bool}{z:Int}(h:z∈evI c p):∃ i:Nat,z=(i:Int)/\i<c/\p i=true:=by
 unfold evI at h
 simp only [List.mem_map,List.mem_filter,List.mem_range] at h
 obtain⟨j,h,e⟩:=h
 exact⟨j,e.symm,h⟩
theorem V5 (c:Nat)(p:Nat->Bool):evI (c+1) p=evI c p++if p c then [(c:Int)] else []:=by
 unfold evI
 rw[List.range_succ,List.filter_append,List.map_append]
 congr 1
 cases h:p c <;> simp[h]
theorem Fn {c:Nat}{p q:Nat->Bool}(h:∀ i,i<c->p i=q i):evI c p=evI c q:=by
 unfold evI
 congr 1
 apply List.filter_congr
 intro x hx
 exact h x (List.mem_range.mp hx)
theorem Jj (c:Nat)(p:Nat->Bool):(evI c p).length<=c:=by
 unfold evI
 rw[List.length_map]
 exact Nat.le_trans (List.length_filter_le _ _) (by simp)
theorem Qx {c A B:Prop}[Decidable c](hc:c)(h:A):if decide c=true then A else B:=by rw[decide_eq_true hc];exact Rx h
theorem Qy {c A B:Prop}[Decidable c](hc:¬ c)(h:B):if decide c=true then A else B:=by rw[decide_eq_false hc];exact Xf h
theorem Z1d {b:Bool}{A B:Prop}(h1:b=true->A)(h0:b=false->B):if b=true then A else B:=by
 cases b with
 | true=>exact Rx (h1 rfl)
 | false=>exact Xf (h0 rfl)
theorem Yf {α:Type}{l:List α}{i:Nat}{x:α}(h:l[i]?=some x):l.take (i+1)=l.take i++[x]:=by rw[List.take_add_one,h];rfl
def cutR (o:Option (Nat->Bool))(rs:List Rat):List Rat:=rs.mapIdx fun i r=>if inE o i then r else (0,1)
theorem Yz {o:Option (Nat->Bool)}{rs:List Rat}{i:Nat}{r:Rat}(h:rs[i]?=some r):(cutR o rs)[i]?=some (if inE o i then r else (0,1)):=by
 unfold cutR
 rw[List.getElem?_mapIdx,h]
 rfl
theorem Yb (o:Option (Nat->Bool))(rs:List Rat):(cutR o rs).length=rs.length:=by unfold cutR;simp
def mapR {α:Type}(op:Rat->α)(rs:List Rat)(i:Nat):List α:=(rs.take i).map op
theorem F7 {α:Type}(op:Rat->α){rs:List Rat}{i:Nat}{r:Rat}(hr:rs[i]?=some r):mapR op rs (i+1)=mapR op rs i++[op r]:=by
 unfold mapR
 rw[List.take_add_one,hr,List.map_append]
 rfl
theorem Cw {α:Type}(op:Rat->α){rs:List Rat}{n:Nat}(hr:rs.length=n):mapR op rs n=rs.map op:=by
 unfold mapR
 rw[List.take_of_length_le (by omega)]
def ltR (r s:Rat):Bool:=decide (r.1*s.2<s.1*r.2)
theorem Z35 {xs:List V}{i:Nat}(h:i<=xs.length):cutV xs none (some (i:Int))=xs.take i:=by
 unfold cutV
 rw[HT.sIx_none,HT.sIx_nat,Nat.min_eq_left h]
 simp
theorem Z36 {xs:List V}{i:Nat}(h:i<=xs.length):cutV xs (some (i:Int)) none=xs.drop i:=by
 unfold cutV
 rw[HT.sIx_none,HT.sIx_nat,Nat.min_eq_left h,List.take_of_length_le (by simp)]
end Sb
namespace Sb
open PySem PySem.Spec PyProof.Rows L2
section
variable {X:Cx}{tg:Expr}{K:W.Frag}
def iSeq (K:W.Frag)(tl:TE):TI:=fun σ H R=>tl σ H fun x H1=>∃ a,x=.ref a/\(((∃ xs,SqL K H1 a xs)/\R (Itl K a) H1) \/ ((∃ xs,SqT K H1 a xs)/\R (Itt K a) H1))
theorem Z2c {l:Expr}{tl:TE}(hl:PE X l tl):PI X tg l (iSeq X.K tl):=by
 intro pins s σ H R I h
 refine thn (hl pins s σ H _ I h) fun v s1 ⟨x,H1,I1,r1,q1⟩=>?_
 obtain⟨a,e,⟨⟨xs,hq⟩,q⟩ | ⟨⟨xs,hq⟩,q⟩⟩:=q1
 ·subst e
  cases r1
  obtain⟨its,rv,p,hz⟩:=I1.list hq
  refine wpAny_pyIter_list p.isList ?_
  refine⟨s1.heap.objs.size,[s1.heap.objs.size],_,_,H1,rfl,I1.kept (t':=s1.toks) fun b o e=>Heap.get?_push_of_some _ e,Th a _,⟨_,Heap.get?_push_size _ rfl,rfl,rfl⟩,fun b hb=>?_,q⟩
  have e:b=s1.heap.objs.size:=by simpa using hb
  subst e
  exact I1.fpOk (Nat.le_refl _) (I1.hok.fresh (Nat.le_refl _))
 ·subst e
  cases r1
  obtain⟨its,rv,p,hz⟩:=I1.tuple hq
  refine wpAny_pyIter_tuple (show s1.heap.IsTuple a its.toArray from p) ?_
  refine⟨s1.heap.objs.size,[s1.heap.objs.size],_,_,H1,rfl,I1.kept (t':=s1.toks) fun b o e=>Heap.get?_push_of_some _ e,Ua a _,⟨_,Heap.get?_push_size _ rfl,rfl,rfl⟩,fun b hb=>?_,q⟩
  have e:b=s1.heap.objs.size:=by simpa using hb
  subst e
  exact I1.fpOk (Nat.le_refl _) (I1.hok.fresh (Nat.le_refl _))
theorem Z1h {a:Addr}{xs:List V}{g:TG}{tb:TS}{D:Ends}{σ:L2.St}{H:Hp}(Pv:Nat->L2.St->Hp->Prop)(hx:SqL K H a xs \/ SqT K H a xs)(h0:Pv 0 σ H)(hS:∀ i σ H',i<=xs.length->Pv i σ H'->Same H H')
  (hs:∀ i x σ H,xs[i]?=some x->Pv i σ H->g x σ H fun σ2 H2=>tb { D with nx:=Pv (i+1),ct:=Pv (i+1),bk:=D.nx } σ2 H2) (hd:∀ σ H,Pv xs.length σ H->D.nx σ H) :
  ∃ b,V.ref a=.ref b/\(((∃ xs,SqL K H b xs)/\∃ W:Nat->Nat->L2.St->Hp->Prop,(∃ m,W 0 m σ H)/\∀ i m σ H,W i m σ H →
   ((Itl K b).stop i H/\D.nx σ H) \/ ((Itl K b).go i H/\∃ N:L2.St->Hp->Prop,(∀ σ' H',N σ' H'->∃ m',m'<m/\W (i+1) m' σ' H')/\∀ x H',(Itl K b).yld i H x H'->g x σ H' fun σ2 H2=>tb { D with nx:=N,ct:=N,bk:=D.nx } σ2 H2)) ∨
   ((∃ xs,SqT K H b xs)/\∃ W:Nat->Nat->L2.St->Hp->Prop,(∃ m,W 0 m σ H)/\∀ i m σ H,W i m σ H →
   ((Itt K b).stop i H/\D.nx σ H) \/ ((Itt K b).go i H/\∃ N:L2.St->Hp->Prop,(∀ σ' H',N σ' H'->∃ m',m'<m/\W (i+1) m' σ' H')/\∀ x H',(Itt K b).yld i H x H'->g x σ H' fun σ2 H2=>tb { D with nx:=N,ct:=N,bk:=D.nx } σ2 H2))):=by
 refine⟨a,rfl,?_⟩
 rcases hx with hx | hx
 ·exact .inl ⟨⟨_,hx⟩,Vu (K:=K) (a:=a) (xs:=xs) Pv h0 (fun i σ H' hi p=>by
   rcases hx with (z | ⟨o,z⟩) | z
   ·exact .inl (.inl (hS i σ H' hi p _ _ z))
   ·exact .inl (.inr ⟨o,hS i σ H' hi p _ _ z⟩)
   ·exact .inr z) hs hd⟩
 ·exact .inr ⟨⟨_,hx⟩,Z1g (K:=K) (a:=a) (xs:=xs) Pv h0 (fun i σ H' hi p=>Zo (hS i σ H' hi p) hx) hs hd⟩
theorem Pc (hc:X.calm=true)(hK:X.K=K:=by rfl):CallR X (.builtin "sum") (fun xs H Q=>∃ (p:Addr) (ns:List Int),xs=[.ref p]/\SqL K H p (ns.map V.int)/\Q (.int ns.sum) H):=by
 subst hK
 intro pins s σ H xs us Q I r h
 obtain⟨p,ns,rfl,hs,q⟩:=h
 obtain⟨u,e0,rx⟩:=Uh r
 cases (show u=Value.ref p from rx)
 subst e0
 obtain⟨its,rv,pl,hz⟩:=I.list hs
 have hi:IntsAre its ns:=Rz rv
 obtain⟨ys,ey⟩:=hi.allInts.items
 have en:(numsOf its.toArray.toList)=ns:=hi.numsOf
 have lp:s.heap.IsList p (intItems ys):=by rw[← ey];exact pl.isList
 rw[ey,nums_intItems] at en
 refine Z3a (I.ok.hd hc) (fun p hp=>(I.pin p (List.mem_append_left _ hp)).1) lp fun h' tk t' hk=>⟨.int ns.sum,H,I.kept (t':=tk) hk,⟨t',?_⟩,q⟩
 rw[preSum_eq,List.take_of_length_le (by simp),en]
end
end Sb
namespace Sb
open PySem L2
theorem Vh {K:W.Frag}{H H':Hp}{a:Addr}{xs:List V}(e:Same H H')(h:SqL K H a xs):SqL K H' a xs:=by
 rcases h with (h | ⟨o,h⟩) | h
 ·exact .inl (.inl (e _ _ h))
 ·exact .inl (.inr ⟨o,e _ _ h⟩)
 ·exact .inr h
end Sb
namespace Sb
open PySem PySem.Spec PyProof.Rows L2
abbrev bmV:List Value:=[.type "ValueError",.type "Exception",.type "BaseException",.type "object"]
theorem M9 {P:Program}{w:World}{H:Hp}{h:Heap}{a:Addr}{o:HO}(x:ObjOk P w H h a o):∃ ob,h.get? a=some ob:=by
 cases o with
 | lst xs=>obtain⟨_,_,_,_,e⟩:=x;exact⟨_,e⟩
 | tup xs=>obtain⟨_,_,_,ob,e,_⟩:=x;exact⟨_,e⟩
 | dK kvs=>obtain⟨_,_,_,_,ob,_,_,e,_⟩:=x;exact⟨_,e⟩
 | dT kvs=>obtain⟨_,_,_,_,ob,_,_,e,_⟩:=x;exact⟨_,e⟩
 | set S n=>obtain⟨ob,_,_,_,e,_⟩:=x;exact⟨_,e⟩
 | ins C dx fs=>obtain⟨_,_,_,e,_⟩:=x;exact⟨_,e⟩
 | own y=>obtain⟨_,e⟩:=x;exact⟨_,e⟩
 | xd fs=>obtain⟨_,⟨_,_,_,e,_⟩,_⟩:=x;exact⟨_,e⟩
 | rng lo hi=>obtain⟨_,_,_,e⟩:=x;exact⟨_,e⟩
 | frz ob u=>obtain⟨e,_⟩:=x;exact⟨_,e⟩
 | tbl ps=>exact⟨_,(show h.get? a=some _ from x)⟩
 | met f y=>exact⟨_,(show h.get? a=some _ from x)⟩
 | ext φ=>obtain⟨_,e,_⟩:=x;exact e
theorem Mz {P:Program}{w:World}{fs:List Addr}{H H':Hp}{h0 h1 h2 B:Heap}(u:Un fs [] H H' h0 h1)(hB:∀ b o,h0.get? b=some o->b ∉ fs->(∃ o',B.get? b=some o')/\(H b=none->B.get? b=some o))(st:B.StaysIn h2)(up:h1.UpToSlots h2)
  (nf:∀ b∈fs,∃ o,h1.get? b=some o/\∀ vs,o.data≠.fields vs):Un fs [] H H' h0 h2 where
 keep:=fun b o e n hf _=>st b o ((hB b o e hf).2 n)
 slot:=fun b o e n hf hx=>by
  obtain⟨sl,e1⟩:=u.slot b o e n hf hx
  obtain⟨o1,e2,d⟩:=nf b hf
  rw[e1] at e2
  cases e2
  obtain⟨sl2,e3⟩:=up b _ e1 d
  exact⟨sl2,e3⟩
 free:=u.free
 there:=fun b o e hx=>by
  by_cases hf:b∈fs
  ·obtain⟨o1,e2,d⟩:=nf b hf
   obtain⟨sl,e3⟩:=up b _ e2 d
   exact⟨_,e3⟩
  ·obtain⟨o',e'⟩:=(hB b o e hf).1
   exact⟨o',st b o' e'⟩
 tups:=u.tups
 frzs:=u.frzs
 tbls:=u.tbls
section
variable {P:Program}{w:World}{K:W.Frag}{mg:Str->Option Value}{base:Heap}{N:List Str}{qual:Str}{scope:Scope}{f:Addr}{cd:Value}{A:Around}{outer:List Env}{s:Shared}{H:Hp}{E:XK}
end
structure CatchBy (K:W.Frag)(C D:Addr):Prop where
 nt:W.instIn K (.ref D) (.type "tuple")=some false
 be:W.subIn K (.ref D) (.type "BaseException")=some true
 it:W.kitOne K (.type "int") (.ref D)=some false
 sub:W.subIn K (.ref C) (.ref D)=some true
theorem CatchBy.cls {K:W.Frag}{C D:Addr}(c:CatchBy K C D):W.kitCls K (.type "int") (.ref D)=some false:=by
 have e:=c.it
 unfold W.kitOne at e
 rw[if_neg (by intro z;cases (beq_iff_eq.mp z))] at e
 exact e
theorem Se {K:W.Frag}{M:Model}{A:Around}{E:Value->Shared->Prop}{C D e:Addr}{oe:Obj}{h:Heap}{g:Array GenState}{d:Drawn}{tk:Nat}{os:OsState}{Q:Bool->Shared->Prop}(X:K.In h)(c:CatchBy K C D)
  (he:h.get? e=some oe) (hc:oe.cls=.ref C) (q:Q true ⟨h,g,d,tk,os⟩):wpAny M A (excMatches (.ref e) (.ref D)) Q E ⟨h,g,d,tk,os⟩:=by
 obtain⟨_,l2,_⟩:=W.kit_cls (M:=M) X c.cls
 have l3:=W.looks_subIn (M:=M) X c.sub
 have l1:=W.looks_instIn (M:=M) X c.nt
 have l4:=W.looks_subIn (M:=M) X c.be
 unfold excMatches
 refine wpAny_bind (l1.at ?_)
 simp only [Bool.false_eq_true,if_false]
 refine wpAny_bind (wpAny_pure ?_)
 simp only [List.forIn_cons,List.forIn_nil]
 unfold isExcClass
 refine wpAny_bind (wpAny_bind (wpAny_bind (wpAny_bind (l2.at ?_))))
 simp only [if_true]
 refine l4.at ?_
 simp only [Bool.not_true,Bool.false_eq_true,if_false]
 refine wpAny_pure ?_
 refine wpAny_pure ?_
 refine wpAny_bind ?_
 refine W.Looks.at (r:=Value.ref C) ?_ ?_
 ·exact hc ▸ (W.Looks.ld he).andThen .now
 ·refine wpAny_bind (wpAny_bind (wpAny_bind (l3.at ?_)))
  simp only [if_true]
  repeat (first | exact q | refine wpAny_pure ?_ | refine wpAny_bind ?_)
section
variable {X:Cx}{k:Nat}{x:Str}{ps:List Str}{sp:Sp}{e:Expr}{es:List Expr}{t:TA}{p pos:Pos}{EX:L2.St->XK}
def tUseX (sp:Sp)(EX:L2.St->XK)(t:TA):TE:=fun σ H Q=>t σ H fun vs H1=>sp vs H1 Q (EX σ)
end
abbrev tryCx (X:Cx)(pn:List (Addr × Obj))(E:Value->Shared->Prop):Cx:={ X with pn:=pn,xe:=E }
abbrev sutCx (X:Cx)(a:Addr)(pn:List (Addr × Obj))(E:Value->Shared->Prop):Cx:={ X with A:=X.A.mark (some (.ref a)),calm:=false,pn:=pn,xe:=E }
section
variable {X:Cx}{pins pins' pn:List (Addr × Obj)}{σ:L2.St}{H:Hp}{s:Shared}{E:Value->Shared->Prop}{a:Addr}
theorem Z2g (ok:X.Ok)(hp:∀ p∈X.pn,p∈pn):(tryCx X pn E).Ok:=⟨ok.mod,ok.kind,ok.glob,ok.blt,ok.above,ok.inj,ok.has,ok.cab,(fun hc=>(ok.hd hc).sub hp),ok.frames,ok.stk,ok.exf,ok.bs,ok.bsz,ok.noex,ok.exfs,ok.funs,ok.frf⟩
theorem Z2h (ok:X.Ok):(sutCx X a pn E).Ok:=⟨ok.mod,ok.kind,ok.glob,ok.blt,ok.above,ok.inj,ok.has,ok.cab,(fun z=>nomatch z),ok.frames,ok.stk,ok.exf,ok.bs,ok.bsz,ok.noex,ok.exfs,ok.funs,ok.frf⟩
theorem Jf (I:Inv X pins σ H s):Inv (tryCx X (X.pn++pins) E) [] σ H s :=
 ⟨Z2g I.ok (fun p hp=>List.mem_append_left _ hp),I.os,I.bare,I.base,I.loc,I.cell,I.free,I.freeC,fun p hp=>I.pin p (by simpa using hp),I.hok,I.len⟩
theorem W9 (ok:X.Ok)(I:Inv (tryCx X (X.pn++pins) E) pins' σ H s):Inv X pins σ H s :=
 ⟨ok,I.os,I.bare,I.base,I.loc,I.cell,I.free,I.freeC,fun p hp=>I.pin p (List.mem_append_left _ hp),I.hok,I.len⟩
theorem N4 (I:Inv X pins σ H s):Inv (sutCx X a (X.pn++pins) E) [] σ H s :=
 ⟨Z2h I.ok,I.os,I.bare,I.base,I.loc,I.cell,I.free,I.freeC,fun p hp=>I.pin p (by simpa using hp),I.hok,I.len⟩
theorem U3 (ok:X.Ok)(I:Inv (sutCx X a (X.pn++pins) E) pins' σ H s):Inv X pins σ H s :=
 ⟨ok,I.os,I.bare,I.base,I.loc,I.cell,I.free,I.freeC,fun p hp=>I.pin p (List.mem_append_left _ hp),I.hok,I.len⟩
theorem Nl {D:Ends}{f:Flow}{s':Shared}(ok:X.Ok)(h:SP (tryCx X (X.pn++pins) E) pins' D f s'):SP X pins D f s':=by
 cases f with
 | next=>obtain⟨σ',H',I,q⟩:=h;exact⟨σ',H',W9 ok I,q⟩
 | brk=>obtain⟨σ',H',I,q⟩:=h;exact⟨σ',H',W9 ok I,q⟩
 | cont=>obtain⟨σ',H',I,q⟩:=h;exact⟨σ',H',W9 ok I,q⟩
 | ret u=>obtain⟨v,σ',H',I,r,q⟩:=h;exact⟨v,σ',H',W9 ok I,r,q⟩
theorem D7 {D:Ends}{f:Flow}{s':Shared}(ok:X.Ok)(h:SP (sutCx X a (X.pn++pins) E) pins' D f s'):SP X pins D f s':=by
 cases f with
 | next=>obtain⟨σ',H',I,q⟩:=h;exact⟨σ',H',U3 ok I,q⟩
 | brk=>obtain⟨σ',H',I,q⟩:=h;exact⟨σ',H',U3 ok I,q⟩
 | cont=>obtain⟨σ',H',I,q⟩:=h;exact⟨σ',H',U3 ok I,q⟩
 | ret u=>obtain⟨v,σ',H',I,r,q⟩:=h;exact⟨v,σ',H',U3 ok I,r,q⟩
end
section
variable {X:Cx}{x:Str}{C D:Addr}{body:List Stmt}{b₀:Stmt}{suite:List Stmt}{np hp pos:Pos}{tb:(L2.St->XK)->TS}{ts:TS}
end
open PySem.W (Looks findIn specialIn takesIn mroIn clsIn InstAt findObj KitX)
structure ExcRead (K:W.Frag)(C:Addr):Prop where
 ga:findIn K (.ref C) "__getattribute__"=some (some (.builtin "BaseException.__getattribute__"))
 gh:findIn K (.ref C) "__getattr__"=some none
 cl:findIn K (.ref C) "__class__"=some (some (.builtin "object.__class__"))
 gt:specialIn K (.builtin "object.__class__") "__get__"=some (some (.builtin "getset_descriptor.__get__"))
 tk:takesIn K (.builtin "object.__class__")=some true
 mo:mroIn K C (.type "object")=some true
 be:W.subIn K (.ref C) (.type "BaseException")=some true
def ExAt (h:Heap)(x C:Addr):Prop:=∃ ox,h.get? x=some ox/\ox.cls=.ref C
theorem ExAt.type {M:Model}{h:Heap}{x C:Addr}(I:ExAt h x C):Looks M h (typeOf (.ref x)) (.ref C):=by
 obtain⟨ox,e,c⟩:=I
 rw[← c]
 exact (Looks.ld e).andThen .now
section
variable {K:W.Frag}{C x:Addr}{prog:Program}{w:World}{A:Around}{E:Value->Shared->Prop}{h:Heap}{g:Array GenState}{d:Drawn}{t:Nat}{os:OsState}
theorem ExcRead.find {M:Model}(R:ExcRead K C)(X:K.In h):Looks M h (Builtin.ObjectAttr.find (.ref x) (.ref C) "__class__") (.bind (.builtin "getset_descriptor.__get__") (.builtin "object.__class__")):=by
 have l1:=W.looks_findIn (M:=M) X R.cl
 have l2:Looks M h (Builtin.ObjectAttr.getOf (some (.builtin "object.__class__"))) (some (.builtin "getset_descriptor.__get__")):=W.looks_specialIn (M:=M) X R.gt
 have l3:=W.looks_takesIn (M:=M) X R.tk
 have l4:Looks M h (Builtin.ObjectAttr.dataDescriptor? (some (.builtin "object.__class__")) (some (.builtin "getset_descriptor.__get__"))) (some (.builtin "getset_descriptor.__get__",.builtin "object.__class__")):=l3.andThen .now
 exact l1.andThen (l2.andThen (l4.andThen (Looks.tag .now)))
theorem Z1l {tp:Value}{R':Result->Shared->Prop}(R:ExcRead K C)(X:K.In h)(I:ExAt h x C)(hq:R' (.ok (.ret (.ref C))) ⟨h,g,d,t,os⟩) :
  codeAny (model prog w) A (.call (.builtin "getset_descriptor.__get__") ⟨[.builtin "object.__class__",.ref x,tp],[]⟩) R' ⟨h,g,d,t,os⟩:=by
 have lt:=I.type (M:=model prog w)
 have lm:=W.looks_mroIn (M:=model prog w) X R.mo
 have ty:(⟨h,g,d,t,os⟩:Shared).TypeIs (.builtin "object.__class__") "getset_descriptor":=W.KF.type_class
 refine codeAny_call_builtin (s:=⟨h,g,d,t,os⟩) W.KF.slot_gs.plain W.KF.entry_gs ?_
 refine W.KF.slot_gs.check _ _ _ _ _ _ _ _ ty (W.KF.args_gs _ _ _) ?_
 unfold Builtin.«getset_descriptor.__get__»
 unfold Builtin.Getset_descriptor.descrGet
 rw[W.dga_obj]
 apply wpAny_bind
 apply wpAny_pure
 unfold Builtin.Getset_descriptor.descrGetter Builtin.Getset_descriptor.descrCheckInstance
 unfold Builtin.Getset_descriptor.descrNameAndClass isInstance
 simp only [W.KF.owner_class]
 repeat lk
 refine⟨?_,?_⟩
 ·exact Code.quiet_builtin _ (by decide +kernel)
 ·refine codeAny_builtin W.KF.entry_class ?_
  unfold Builtin.«object.__class__»
  unfold shownTypeOf
  repeat lk
  exact hq
theorem Fl {tk:Tok}{Q:Fin->Shared->Prop}(R:ExcRead K C)(X:K.In h)(I:ExAt h x C)(hq:Q (.done (.ret (.ref C))) ⟨h,g,d,t,os⟩) :
  wpAny (model prog w) A (Builtin.«object.__getattribute__» ⟨[.ref x,.str "__class__" tk],[]⟩) Q E ⟨h,g,d,t,os⟩:=by
 have L0:=I.type (M:=model prog w)
 have L1:=R.find (M:=model prog w) (x:=x) X
 refine wpAny_bind (wpAny_pure (wpAny_bind (wpAny_pure (wpAny_bind (L0.at (wpAny_bind (L1.at ?_)))))))
 show wpAny _ _ (holding [.builtin "object.__class__"] (call (.builtin "getset_descriptor.__get__") [.builtin "object.__class__",.ref x,.ref C]) >>= ret) _ _ _
 refine wpAny_bind (wpAny_holding (wpAny_call (Z1l R X I ?_)))
 exact wpAny_pure hq
theorem P8 {M:Model}{nv:Value}{Q:Unit->Shared->Prop}(R:ExcRead K C)(X:K.In h)(I:ExAt h x C)(hq:Q () ⟨h,g,d,t,os⟩):wpAny M A (checkBuiltinCall "BaseException.__getattribute__" ⟨[.ref x,nv],[]⟩) Q E ⟨h,g,d,t,os⟩:=by
 have L0:=I.type (M:=M)
 have L1:=W.looks_subIn (M:=M) X R.be
 have hk:builtinKind "BaseException.__getattribute__"=some .slot:=by decide +kernel
 have hs:splitId "BaseException.__getattribute__"=some ("BaseException","__getattribute__"):=by decide +kernel
 have ha:=F.args_bexc_ga (.ref x) nv
 simp only [checkBuiltinCall,hk,hs]
 refine wpAny_bind ((show Looks M h (isInstance (.ref x) (.type "BaseException")) true from L0.andThen L1).at ?_)
 repeat (first | assumption | wp_step)
theorem Br {tk:Tok}{R':Result->Shared->Prop}(R:ExcRead K C)(X:K.In h)(I:ExAt h x C)(hq:R' (.ok (.ret (.ref C))) ⟨h,g,d,t,os⟩) :
  codeAny (model prog w) A (.call (.builtin "BaseException.__getattribute__") ⟨[.ref x,.str "__class__" tk],[]⟩) R' ⟨h,g,d,t,os⟩ :=
 codeAny_call_builtin PySem.F.attr_ValueError.ga.plain F.entry_bexc_ga (P8 R X I (Fl R X I hq))
theorem Fm {Q:Option Value->Shared->Prop}(R:ExcRead K C)(X:K.In h)(I:ExAt h x C)(hq:Q (some (.ref C)) ⟨h,g,d,t+1,os⟩):wpAny (model prog w) A (getAttr? (.ref x) "__class__") Q E ⟨h,g,d,t,os⟩:=by
 have L0:=I.type (M:=model prog w)
 have L1:=W.looks_findIn (M:=model prog w) X R.ga
 have L2:=W.looks_findIn (M:=model prog w) X R.gh
 have f3:=PySem.F.attr_ValueError.ga.bind (.ref x)
 have e2:(onTheHeap (Value.ref C) && Value.builtin "BaseException.__getattribute__" == Value.builtin "object.__getattribute__")=false:=by
  show (true && (Value.builtin "BaseException.__getattribute__" == Value.builtin "object.__getattribute__"))=false
  decide +kernel
 unfold getAttr? getAttrBy? getAttrBy
 refine wpAny_bind (wpAny_mkText (wpAny_bind (wpAny_attempt (wpAny_holding (wpAny_bind (L0.at (wpAny_bind (L1.at ?_))))))))
 show wpAny _ _ (if (onTheHeap (Value.ref C) && Value.builtin "BaseException.__getattribute__" == Value.builtin "object.__getattribute__")=true then _ else _) _ _ _
 rw[e2,if_neg Bool.false_ne_true]
 unfold getAttrByItsOwn
 refine wpAny_bind ((show Looks (model prog w) h (hookBefore (.ref C)) none from L2).at ?_)
 refine wpAny_bind (wpAny_attempt (wpAny_holding ?_))
 show wpAny _ _ (boundAndCalled (.builtin "BaseException.__getattribute__") (.ref x) _) _ _ _
 unfold boundAndCalled
 rw[f3]
 refine wpAny_bind (wpAny_pure ?_)
 refine wpAny_call (Br R X I ?_)
 exact wpAny_pure (wpAny_pure hq)
theorem Mh (R:ExcRead K C):KitX K (.ref x) (.ref C) (fun h=>ExAt h x C) where
 ty:=fun _ _ _ I=>I.type
 it:=fun _ _ X _=>by
  have e:=R.mo
  unfold mroIn at e
  obtain⟨cd,hc,_⟩:=Option.bind_eq_some_iff.mp e
  unfold clsIn at hc
  split at hc
  ·rename_i ho
   intro A' Q' E' s' k q
   unfold isType loadHead
   exact wpAny_bind (wpAny_loadPart (k _ _ (X _ _ ho)) (wpAny_pure q))
  ·cases hc
 ne:=fun h tp dd its n sl X htp=>by
  have e:=R.mo
  unfold mroIn at e
  obtain⟨cd,hc,_⟩:=Option.bind_eq_some_iff.mp e
  refine Bool.eq_false_iff.mpr fun z=>?_
  cases Value.ref.inj (beq_iff_eq.mp z)
  unfold clsIn at hc
  split at hc
  ·rename_i ho
   have z:=(X _ _ ho).symm.trans htp
   cases z
  ·cases hc
 ca:=fun {_ _ _ _ _ s} X I k=>by
  obtain⟨h,g,d,t,os⟩:=s
  exact Fm R X I k
end
section
variable {X:Cx}{K:W.Frag}
end
end Sb
namespace Sb
open PySem PySem.Spec PyProof.Rows L2
section
variable {X:Cx}{pins:List (Addr × Obj)}{σ:L2.St}{H:Hp}{s:Shared}
theorem Fg {a:Addr}{o:HO}(I:Inv X pins σ H s)(hn:H a=none)(ok:ObjOk X.prog X.w (upd H a o) s.heap a o)(h0:∀ ob,X.s₀.heap.get? a=some ob->False)(hl:a≠X.env.locals)(hc:∀ x c,X.env.cells.lookup x=some c->c≠a)(hp:∀ p∈X.pn++pins,p.1≠a):Inv X pins σ (upd H a o) s where
 ok:=I.ok
 os:=I.os
 bare:=I.bare
 base:=by
  have u:=I.base
  exact⟨u.keep,u.slot,fun b ob e n hx=>by rw[Zb (show b≠a from fun z=>h0 ob (by rw[← z];exact e))];exact u.free b ob e n hx,u.there,fun b xs e=>by
   have:=u.tups b xs e
   rw[Zb (fun z=>by rw[z,hn] at this;cases this)];exact this,fun b ob v e=>by
   have:=u.frzs b ob v e
   rw[Zb (fun z=>by rw[z,hn] at this;cases this)];exact this,fun b ps e=>by
   obtain⟨m,this⟩:=u.tbls b ps e
   exact⟨m,by rw[Zb (fun z=>by rw[z,hn] at this;cases this)];exact this⟩⟩
 loc:=I.loc
 cell:=I.cell
 free:=by rw[Zb hl.symm];exact I.free
 freeC:=fun x c e=>by rw[Zb (hc x c e)];exact I.freeC x c e
 pin:=fun p q=>by
  obtain⟨h1,h2,h3⟩:=I.pin p q
  exact⟨h1,by rw[Zb (hp p q)];exact h2,h3⟩
 hok:=fun b ob e=>by
  by_cases z:b=a
  ·subst z
   rw[Z7] at e
   cases e
   exact ok
  ·rw[Zb z] at e
   exact (I.hok b ob e).stay (fun c u _ q=>q) (fun c q=>by rw[Zb (fun z=>by rw[z,hn] at q;cases q)];exact q) fun c xs q=>by rw[Zb (fun z=>by rw[z,hn] at q;cases q)];exact q
 len:=I.len
theorem Bh {i:Nat}{n:Str}{v:Option Value}{h':Heap}{m:Str->Option Value}(I:Inv X pins σ H s)(hi:X.N[i]?=some n)(hN:X.N.Nodup)(hk:X.env.kindOf n=some .local)(hm:∀ (j:Nat) (x:Str) (w:V),X.N[j]?=some x->σ[j]?=some (some w)->Vis X.env.scope x->∃ u,RelV w u/\Look X.env s.heap m x u)
  (hn:h'.Ns X.env.locals (fun x=>if x=n then v else m x)) (sb:Heap.SameBut X.env.locals s.heap h') (tk:Nat):Inv X pins (σ.set i none) H { s with heap:=h',toks:=tk } where
 ok:=I.ok
 os:=I.os
 bare:=I.bare
 base:=by
  have u:=I.base
  have k:∀ b o,b≠X.env.locals->s.heap.get? b=some o->h'.get? b=some o:=fun b o hb e=>(sb.2 b hb).trans e
  have nl:∀ b o,X.s₀.heap.get? b=some o->b≠X.env.locals:=fun b o e z=>by
   rw[z] at e
   exact absurd (Nat.lt_of_lt_of_le (Heap.lt_size e) I.ok.above) (Nat.lt_irrefl _)
  exact⟨fun b o e n1 f x=>k b o (nl b o e) (u.keep b o e n1 f x),fun b o e n1 f x=>by
    obtain⟨sl,q⟩:=u.slot b o e n1 f x
    exact⟨sl,k b _ (nl b o e) q⟩,u.free,fun b o e x=>by
    obtain⟨o',q⟩:=u.there b o e x
    exact⟨o',k b _ (nl b o e) q⟩,u.tups,u.frzs,u.tbls⟩
 loc:=⟨_,hn,fun j x w e1 e2 e3=>by
  have hj:j≠i:=by
   rintro rfl
   have:j<σ.length:=by
    have:=(List.getElem?_eq_some_iff.mp e2).1
    simpa using this
   rw[List.getElem?_set_self this] at e2
   cases e2
  rw[List.getElem?_set_ne (Ne.symm hj)] at e2
  obtain⟨u,ru,lk⟩:=hm j x w e1 e2 e3
  refine⟨u,ru,?_⟩
  have hx:x≠n:=by
   rintro rfl
   exact hj (Rq hN e1 hi)
  rcases lk with ⟨z,q⟩ | ⟨z,c,hc,ic⟩
  ·exact .inl ⟨z,by show (if x=n then v else m x)=some u;rw[if_neg hx];exact q⟩
  ·refine .inr ⟨z,c,hc,?_⟩
   obtain⟨o,ho,hd⟩:=ic
   have cl:c≠X.env.locals:=by
    rintro rfl
    obtain⟨oo,es,ep,e,d,_⟩:=hn
    obtain⟨m0,⟨oo',es',ep',e',d',_⟩,_⟩:=I.loc
    rw[ho] at e'
    cases e'
    rw[hd] at d'
    cases d'
   exact⟨o,(sb.2 c cl).trans ho,hd⟩⟩
 cell:=fun x c e=>by
  obtain⟨v',o,ho,hd⟩:=I.cell x c e
  have cl:c≠X.env.locals:=by
   rintro rfl
   obtain⟨m0,⟨oo',es',ep',e',d',_⟩,_⟩:=I.loc
   rw[ho] at e'
   cases e'
   rw[hd] at d'
   cases d'
  exact⟨v',o,(sb.2 c cl).trans ho,hd⟩
 free:=I.free
 freeC:=I.freeC
 pin:=fun p q=>by
  obtain⟨h1,h2,h3,h4⟩:=I.pin p q
  exact⟨(sb.2 p.1 h3).trans h1,h2,h3,h4⟩
 hok:=fun b ob e=>(I.hok b ob e).stay (fun c u hc q=>by
  have:c≠X.env.locals:=by
   rintro rfl
   rcases hc with rfl | hc
   ·rw[I.free] at e;cases e
   ·rw[I.free] at hc;cases hc
  exact (sb.2 c this).trans q) (fun _ q=>q) fun _ _ q=>q
 len:=by rw[List.length_set];exact I.len
end
section
variable {X:Cx}{x n:Str}{i:Nat}{C D:Addr}{body:List Stmt}{b₀:Stmt}{suite:List Stmt}{np hp pos:Pos}{tb:(L2.St->XK)->TS}{ts:TS}
def unN (i:Nat)(Ds:Ends):Ends:={ nx:=fun σ H=>Ds.nx (σ.set i none) H,rt:=Ds.rt,bk:=fun σ H=>Ds.bk (σ.set i none) H,ct:=fun σ H=>Ds.ct (σ.set i none) H }
end
def flatE:V->Bool
 | .non | .bl _ | .int _ | .str _ | .ref _=>true
 | _=>false
def EqU (K:W.Frag)(H:Hp):Nat->V->V->Prop
 | 0,x,y=>x=y/\flatE x=true
 | n+1,x,y=>(x=y/\flatE x=true) \/ ∃ (a b:Addr) (xs ys:List V),x=.ref a/\y=.ref b/\((SqL K H a xs/\SqL K H b ys) \/ (SqT K H a xs/\SqT K H b ys))/\Paired (EqU K H n) xs ys
theorem EqU.flat {K:W.Frag}{H:Hp}{n:Nat}{x:V}(h:flatE x=true):EqU K H n x x:=by
 cases n with
 | zero=>exact⟨rfl,h⟩
 | succ n=>exact .inl ⟨rfl,h⟩
theorem Paired.getB {α β:Type}{R:α->β->Prop}:∀ {xs:List α} {ys:List β} {i:Nat} {x:α} {y:β},Paired R xs ys->xs[i]?=some x->ys[i]?=some y->R x y
 | _,_,_,_,_,.nil,e,_=>by simp at e
 | _,_,0,_,_,.cons q _,e,e'=>by
  simp at e e'
  subst e e'
  exact q
 | _,_,i+1,x,y,.cons _ t,e,e'=>Paired.getB (i:=i) t (by simpa using e) (by simpa using e')
section
variable {X:Cx}{pins:List (Addr × Obj)}{σ:L2.St}{H:Hp}{s:Shared}{K:W.Frag}
theorem P9 {A:Around}{x:V}{u v:Value}(h:flatE x=true)(ru:RelV x u)(rv:RelV x v):SeqAt.EqAt A s u v true:=by
 cases x with
 | non=>cases ru;cases rv;exact SeqAt.EqAt.same _
 | bl b=>cases ru;cases rv;exact SeqAt.EqAt.same _
 | int i =>
  obtain⟨t,rfl⟩:=ru
  obtain⟨t',rfl⟩:=rv
  have:=SeqAt.EqAt.int_int (A:=A) (s:=s) i t i t'
  rwa [beq_self_eq_true] at this
 | str z =>
  obtain⟨t,rfl⟩:=ru
  obtain⟨t',rfl⟩:=rv
  have:=SeqAt.EqAt.str_str (A:=A) (s:=s) z t z t'
  rwa [beq_self_eq_true] at this
 | ref a=>cases ru;cases rv;exact SeqAt.EqAt.same _
 | byt b=>cases h
 | flt b=>cases h
 | ty b=>cases h
theorem Tg (n:Nat):(List.range n).all (fun _=>true)=true:=by simp
theorem Ka (I:Inv X pins σ H s):∀ (n:Nat) (A:Around) (x y:V) (u v:Value),A.units+n<cLine->EqU X.K H n x y->RelV x u->RelV y v->SeqAt.EqAt A s u v true
 | 0,A,x,y,u,v,_,⟨e,h⟩,ru,rv=>by
  subst e
  exact P9 h ru rv
 | n+1,A,x,y,u,v,hu,h,ru,rv=>by
  rcases h with ⟨e,h⟩ | ⟨a,b,xs,ys,rfl,rfl,h,p⟩
  ·subst e
   exact P9 h ru rv
  ·cases ru
   cases rv
   by_cases hab:a=b
   ·subst hab
    exact SeqAt.EqAt.same _
   ·refine SeqAt.EqAt.of_refs hab ?_
    have lp:=Paired.length p
    rcases h with ⟨h1,h2⟩ | ⟨h1,h2⟩
    ·obtain⟨i1,r1,p1,_⟩:=I.list h1
     obtain⟨i2,r2,p2,_⟩:=I.list h2
     have l1:=r1.length
     have l2:=r2.length
     have:=SeqAt.RcAt.lists (A:=A) (e:=fun _=>true) p1.isList p2.isList (by simp;omega) (by omega) fun j h1 h2=>by
      have h1':j<i1.length:=by simpa using h1
      have h2':j<i2.length:=by simpa using h2
      obtain⟨w1,e1,q1⟩:=r1.get (i:=j) (x:=xs[j]'(by omega)) (by simp)
      obtain⟨w2,e2,q2⟩:=r2.get (i:=j) (x:=ys[j]'(by omega)) (by simp)
      have g1:i1.toArray[j]=w1:=by
       have:i1[j]?=some i1[j]:=by simp[h1']
       rw[this] at e1
       simpa using Option.some.inj e1
      have g2:i2.toArray[j]=w2:=by
       have:i2[j]?=some i2[j]:=by simp[h2']
       rw[this] at e2
       simpa using Option.some.inj e2
      rw[g1,g2]
      exact Ka I n A.in1 _ _ _ _ (by show A.units+1+n<cLine;omega) (Paired.getB p (i:=j) (by simp) (by simp)) q1 q2
     rwa [Tg] at this
    ·obtain⟨i1,r1,p1,_⟩:=I.tuple h1
     obtain⟨i2,r2,p2,_⟩:=I.tuple h2
     have l1:=r1.length
     have l2:=r2.length
     have:=SeqAt.RcAt.tuples (A:=A) (e:=fun _=>true) p1 p2 (by omega) fun j h1 h2=>by
      have h1':j<i1.length:=by simpa using h1
      have h2':j<i2.length:=by simpa using h2
      obtain⟨w1,e1,q1⟩:=r1.get (i:=j) (x:=xs[j]'(by omega)) (by simp)
      obtain⟨w2,e2,q2⟩:=r2.get (i:=j) (x:=ys[j]'(by omega)) (by simp)
      have g1:i1.toArray[j]=w1:=by
       have:i1[j]?=some i1[j]:=by simp[h1']
       rw[this] at e1
       simpa using Option.some.inj e1
      have g2:i2.toArray[j]=w2:=by
       have:i2[j]?=some i2[j]:=by simp[h2']
       rw[this] at e2
       simpa using Option.some.inj e2
      rw[g1,g2]
      exact Ka I n A.in1 _ _ _ _ (by show A.units+1+n<cLine;omega) (Paired.getB p (i:=j) (by simp) (by simp)) q1 q2
     rw[Tg] at this
     have e:(i1.toArray.size == i2.toArray.size)=true:=by simp;omega
     rw[e] at this
     exact this
def rAlike (K:W.Frag)(ans:Bool):R2:=fun x y H Q=>∃ (n:Nat) (a b:Addr) (xs ys:List V),x=.ref a/\y=.ref b/\n<=60/\((SqL K H a xs/\SqL K H b ys) \/ (SqT K H a xs/\SqT K H b ys))/\Paired (EqU K H n) xs ys/\Q (.bl ans) H
theorem Sf (I:Inv X pins σ H s){n:Nat}{A:Around}{xs ys:List V}{i1 i2:List Value}(hu:A.units+n<cLine)(p:Paired (EqU X.K H n) xs ys)(r1:Vals xs i1)(r2:Vals ys i2)(j:Nat)(h1:j<i1.toArray.size)(h2:j<i2.toArray.size):SeqAt.EqAt A s i1.toArray[j] i2.toArray[j] true:=by
 have l1:=r1.length
 have l2:=r2.length
 have h1':j<i1.length:=by simpa using h1
 have h2':j<i2.length:=by simpa using h2
 obtain⟨w1,e1,q1⟩:=r1.get (i:=j) (x:=xs[j]'(by omega)) (by simp)
 obtain⟨w2,e2,q2⟩:=r2.get (i:=j) (x:=ys[j]'(by omega)) (by simp)
 have g1:i1.toArray[j]=w1:=by
  have:i1[j]?=some i1[j]:=by simp[h1']
  rw[this] at e1
  simpa using Option.some.inj e1
 have g2:i2.toArray[j]=w2:=by
  have:i2[j]?=some i2[j]:=by simp[h2']
  rw[this] at e2
  simpa using Option.some.inj e2
 rw[g1,g2]
 exact Ka I n A _ _ _ _ hu (Paired.getB p (i:=j) (by simp) (by simp)) q1 q2
theorem C6 (hu:X.A.units+64<cLine)(hK:X.K=K:=by rfl):OpR X (compareOp .NotEq) (rAlike K false):=by
 subst hK
 intro pins s σ H x y v u Q I rx ry h
 obtain⟨n,a,b,xs,ys,rfl,rfl,hn,h,p,q⟩:=h
 cases rx
 cases ry
 have lp:=Paired.length p
 rcases h with ⟨h1,h2⟩ | ⟨h1,h2⟩
 ·obtain⟨i1,r1,p1,_⟩:=I.list h1
  obtain⟨i2,r2,p2,_⟩:=I.list h2
  have l1:=r1.length
  have l2:=r2.length
  refine SeqAt.RcNeAt.lists (A:=X.A) (e:=fun _=>true) p1.isList p2.isList (by simp;omega) (by omega) (fun j h1 h2=>Sf I (by show X.A.units+1+n<cLine;omega) p r1 r2 j h1 h2) _ _ _ _ ?_
  rw[Tg]
  exact⟨.bl false,H,I,rfl,q⟩
 ·obtain⟨i1,r1,p1,_⟩:=I.tuple h1
  obtain⟨i2,r2,p2,_⟩:=I.tuple h2
  have l1:=r1.length
  have l2:=r2.length
  refine SeqAt.RcNeAt.tuples (A:=X.A) (e:=fun _=>true) p1 p2 (by omega) (fun j h1 h2=>Sf I (by show X.A.units+1+n<cLine;omega) p r1 r2 j h1 h2) _ _ _ _ ?_
  have e:(i1.toArray.size == i2.toArray.size)=true:=by simp;omega
  rw[Tg,e]
  exact⟨.bl false,H,I,rfl,q⟩
def rIndex (K:W.Frag):V->List V->Hp->VK->Prop:=fun x vs H Q=>∃ (l:Addr) (ns:List Int) (i:Int) (j:Nat),x=.ref l/\vs=[.int i]/\SqL K H l (ns.map V.int)/\ns[j]?=some i/\(∀ m,m<j->ns[m]?≠some i)/\ns.length<=1000/\Q (.int j) H
def eInt (i:Int):Value->Bool
 | .int a _=>a == i
 | _=>false
theorem Rr (hK:X.K=K:=by rfl):MtM X "list.index" (rIndex K):=by
 subst hK
 intro pins s σ H x vs v us Q I rx rv h
 obtain⟨l,ns,i,j,rfl,rfl,hq,hj,hno,hl,q⟩:=h
 cases rx
 obtain⟨u,rfl,ru⟩:=rv.one
 obtain⟨t,rfl⟩:=ru
 obtain⟨its,r,pl,hz⟩:=I.list hq
 obtain⟨⟨cls,dd,data,sl⟩,ho,hc,n,hd⟩:=pl.isList
 simp only at hc hd
 subst hc hd
 have lr:=r.length
 rw[List.length_map] at lr
 have at_:∀ (m:Nat) (hm:m<its.toArray.size),∃ t',its.toArray[m]=Value.int (ns[m]'(by simp at hm;omega)) t':=fun m hm=>by
  have hm':m<its.length:=by simpa using hm
  obtain⟨w,e,q⟩:=r.get (i:=m) (x:=V.int (ns[m]'(by omega))) (by simp)
  obtain⟨t',rfl⟩:=q
  refine⟨t',?_⟩
  have:its[m]?=some its[m]:=by simp[hm']
  rw[this] at e
  simpa using Option.some.inj e
 have hjn:j<ns.length:=(List.getElem?_eq_some_iff.mp hj).1
 have hjs:j<its.toArray.size:=by simp;omega
 refine call_meets F.slot_list_index ⟨_,ho,rfl⟩ F.entry_list_index (F.args_list_index_2 _ _) (SeqAt.list_indexAt l its.toArray n dd sl (.int i t) (eInt i) j hjs (by omega) ?_ ?_) ⟨ho,fun y hy=>?_,?_⟩
 ·obtain⟨t',e⟩:=at_ j hjs
  rw[e]
  have:ns[j]=i:=by
   have:=(List.getElem?_eq_some_iff.mp hj).2
   exact this
  show (ns[j] == i)=true
  rw[this]
  exact beq_self_eq_true i
 ·intro m hm hmj
  obtain⟨t',e⟩:=at_ m hm
  rw[e]
  have hm':m<ns.length:=by simp at hm;omega
  show (ns[m] == i)=false
  apply beq_false_of_ne
  intro z
  exact hno m hmj (by rw[← z];simp[hm'])
 ·obtain⟨m,hm,e⟩:=Array.mem_iff_getElem.mp hy
  obtain⟨t',e'⟩:=at_ m hm
  rw[← e,e']
  exact SeqAt.EqAt.int_int _ _ _ _
 ·exact⟨.int j,H,I.tok _,⟨_,rfl⟩,q⟩
theorem Fu (hc:X.calm=true)(hK:X.K=K:=by rfl):CallR X (.builtin "min") (fun xs H Q=>∃ (p:Addr) (ns:List Int),xs=[.ref p]/\SqL K H p (ns.map V.int)/\ns≠[]/\∀ M,M∈ns->(∀ a∈ns,M<=a)->Q (.int M) H):=by
 subst hK
 intro pins s σ H xs us Q I r h
 obtain⟨p,ns,rfl,hs,hne,q⟩:=h
 obtain⟨u,e0,rx⟩:=Uh r
 cases (show u=Value.ref p from rx)
 subst e0
 obtain⟨its,rv,pl,hz⟩:=I.list hs
 have hi:IntsAre its ns:=Rz rv
 obtain⟨ys,ey⟩:=hi.allInts.items
 have hns:ns=ys.toList.map (·.1):=by
  rw[← hi.numsOf,← nums_intItems,← ey]
 have hsz:0<ys.size:=by
  have h3:0<ns.length:=List.length_pos_iff.mpr hne
  rw[hns,List.length_map,Array.length_toList] at h3
  exact h3
 have lp:s.heap.IsList p (intItems ys):=by rw[← ey];exact pl.isList
 refine Z3p (I.ok.hd hc) (fun p hp=>(I.pin p (List.mem_append_left _ hp)).1) lp hsz fun v h' tk hv hk=>?_
 obtain⟨t,rfl⟩:=intItems_at hv
 obtain⟨h1,h2⟩:=argBest_lt (numAt ys) (ys.size - 1)
 refine⟨.int _,H,I.kept (t':=tk) hk,⟨t,rfl⟩,q _ ?_ fun a ha=>?_⟩
 ·rw[hns,numAt_eq]
  exact getD_mem (by rw[List.length_map,Array.length_toList];omega)
 ·rw[hns] at ha
  obtain⟨j,hj,rfl⟩:=mem_getD ha
  rw[List.length_map,Array.length_toList] at hj
  rw[← numAt_eq]
  exact h2 j (by omega)
end
end Sb
namespace Sb
open PySem PySem.Builtin.SmallTypes
abbrev yH1 (h:Heap)(t:Addr):Heap:=h.push { cls:=.type "list_iterator",data:=.fields #[.ref t,.int 0 0] }
abbrev yH2 (h:Heap)(t u:Addr):Heap:=(yH1 h t).push { cls:=.type "list_iterator",data:=.fields #[.ref u,.int 0 0] }
abbrev yH3 (h:Heap)(t u:Addr):Heap:=(yH2 h t u).push { cls:=.type "tuple",data:=.seq #[.ref h.objs.size,.ref (yH1 h t).objs.size] }
abbrev yH4 (h:Heap)(t u:Addr):Heap:=(yH3 h t u).push { cls:=.type "tuple",data:=.seq #[.none,.none] }
abbrev yH5 (h:Heap)(t u:Addr):Heap:=(yH4 h t u).push { cls:=.type "zip",data:=.fields #[.none,.bool false,.bool false,.ref (yH2 h t u).objs.size,.ref (yH3 h t u).objs.size] }
theorem Lw (t u:Addr)(xs ys:Array Value):Meets (Builtin.«zip.__new__» ⟨[.type "zip",.ref t,.ref u],[]⟩) (fun _ R s=>s.heap.IsList t xs/\s.heap.IsList u ys ∧
  R (.ok (.ret (.ref (yH4 s.heap t u).objs.size))) { s with heap:=yH5 s.heap t u }) :=
 .of_wp fun prog w A R s h=>by
  obtain⟨hp,g,d,tk,os⟩:=s
  obtain⟨h1,h2,h⟩:=h
  have hsub:=sub_zip
  have T1:Heap.IsList (Shared.heap ⟨hp,g,d,tk,os⟩) t xs:=h1
  have T2:Heap.IsList (Shared.heap ⟨hp.push { cls:=.type "list_iterator",data:=.fields #[.ref t,.int 0 0] },g,d,tk,os⟩) u ys:=Heap.IsList.push h2 _
  wp_walk using wpAny_pyIter_list T1,wpAny_pyIter_list T2
  exact⟨_,rfl,h⟩
theorem Ft {prog:Program}{w:World}{A:Around}{E:Value->Shared->Prop}{s:Shared}{t u:Addr}{xs ys:Array Value}{Q:Value->Shared->Prop}(h1:s.heap.IsList t xs)(h2:s.heap.IsList u ys)
  (h:∀ h',IsZip h' (s.heap.objs.size+4) (s.heap.objs.size+2) (s.heap.objs.size+3) .none->IsPair h' (s.heap.objs.size+2) (.ref s.heap.objs.size) (.ref (s.heap.objs.size+1))->IsPair h' (s.heap.objs.size+3) .none .none →
   h'.IsListIter s.heap.objs.size t 0->h'.IsListIter (s.heap.objs.size+1) u 0->h'.objs.size=s.heap.objs.size+5->(∀ c o,s.heap.get? c=some o->h'.get? c=some o)->Q (.ref (s.heap.objs.size+4)) { s with heap:=h' }) :
  wpAny (model prog w) A (call (.type "zip") [.ref t,.ref u]) Q E s:=by
 refine callType_new F.called_zip (by decide) (F.typeCall_zip_2 _ _) (F.newCall_zip_2 _ _) (fun obj=>F.args_object_init_3 obj _ _) F.entry_zip_new (Lw t u xs ys) ⟨h1,h2,?_⟩
 have e1:(yH1 s.heap t).objs.size=s.heap.objs.size+1:=Heap.size_push ..
 have e2:(yH2 s.heap t u).objs.size=s.heap.objs.size+2:=by rw[Heap.size_push,e1]
 have e3:(yH3 s.heap t u).objs.size=s.heap.objs.size+3:=by rw[Heap.size_push,e2]
 have e4:(yH4 s.heap t u).objs.size=s.heap.objs.size+4:=by rw[Heap.size_push,e3]
 have e5:(yH5 s.heap t u).objs.size=s.heap.objs.size+5:=by rw[Heap.size_push,e4]
 have p5:(yH5 s.heap t u).get? (yH4 s.heap t u).objs.size=some _:=Heap.get?_push_size _ rfl
 have p4:(yH5 s.heap t u).get? (yH3 s.heap t u).objs.size=some _:=Heap.get?_push_of_some _ (Heap.get?_push_size _ rfl)
 have p3:(yH5 s.heap t u).get? (yH2 s.heap t u).objs.size=some _:=Heap.get?_push_of_some _ (Heap.get?_push_of_some _ (Heap.get?_push_size _ rfl))
 have p2:(yH5 s.heap t u).get? (yH1 s.heap t).objs.size=some _:=Heap.get?_push_of_some _ (Heap.get?_push_of_some _ (Heap.get?_push_of_some _ (Heap.get?_push_size _ rfl)))
 have p1:(yH5 s.heap t u).get? s.heap.objs.size=some _:=Heap.get?_push_of_some _ (Heap.get?_push_of_some _ (Heap.get?_push_of_some _ (Heap.get?_push_of_some _ (Heap.get?_push_size _ rfl))))
 show _/\_
 rw[e2,e3,e4] at p5
 rw[e1,e2] at p3
 rw[e3] at p4
 rw[e1] at p2
 rw[e4]
 refine⟨⟨_,p5,rfl⟩,h _ p5 p3 p4 ⟨_,p1,rfl,rfl⟩ ⟨_,p2,rfl,rfl⟩ e5 fun c o x=>?_⟩
 exact Heap.get?_push_of_some _ (Heap.get?_push_of_some _ (Heap.get?_push_of_some _ (Heap.get?_push_of_some _ (Heap.get?_push_of_some _ x))))
theorem Md (t:Addr)(ys:Array Value)(n:Nat)(dd:Option Addr)(sl:Array (Option Value)):Meets (Builtin.«enumerate.__new__» ⟨[.type "enumerate",.ref t],[]⟩) (fun _ R s=>s.heap.get? t=some { cls:=.type "list",dict:=dd,data:=.seq ys n,slots:=sl } ∧
  R (.ok (.ret (.ref (yH1 s.heap t).objs.size))) { s with heap:=(yH1 s.heap t).push { cls:=.type "enumerate",data:=.fields #[.none,.bool false,.ref s.heap.objs.size,rawInt 0,.none,.none] } }) :=
 .of_wp fun prog w A R s h=>by
  obtain⟨hp,g,d,tk,os⟩:=s
  obtain⟨hl,h⟩:=h
  have hsub:=sub_enumerate
  have hL:Heap.IsList (Shared.heap ⟨hp,g,d,tk,os⟩) t ys:=⟨_,hl,rfl,n,rfl⟩
  wp_walk using wpAny_loadPart' hl
  refine wpAny_stack_any fun st=>wpAny_pure ?_
  split
  ·rename_i c _ _ _ _ _
   cases (c == Value.type "enumerate")
   ·wp_walk using wpAny_loadPart' hl,wpAny_pyIter_list hL
    exact⟨_,rfl,h⟩
   ·wp_walk using wpAny_loadPart' hl,wpAny_pyIter_list hL
    exact⟨_,rfl,h⟩
  ·wp_walk using wpAny_loadPart' hl,wpAny_pyIter_list hL
   exact⟨_,rfl,h⟩
theorem Kc {prog:Program}{w:World}{A:Around}{E:Value->Shared->Prop}{s:Shared}{t:Addr}{ys:Array Value}{Q:Value->Shared->Prop}(ht:s.heap.IsList t ys)
  (h:∀ h',IsEnum h' (s.heap.objs.size+1) s.heap.objs.size 0 .none->h'.IsListIter s.heap.objs.size t 0->h'.objs.size=s.heap.objs.size+2->(∀ b o,s.heap.get? b=some o->h'.get? b=some o)->Q (.ref (s.heap.objs.size+1)) { s with heap:=h' }) :
  wpAny (model prog w) A (call (.type "enumerate") [.ref t]) Q E s:=by
 obtain⟨⟨c,dd,dt,sl⟩,e,c1,n,d1⟩:=ht
 cases c1
 cases d1
 refine callType_new F.called_enumerate (by decide) (F.typeCall_enumerate_1 _) (F.newCall_enumerate_1 _) (fun obj=>F.args_object_init_2 obj _) F.entry_enumerate_new (Md t ys n dd sl) ⟨e,?_⟩
 have hz:(yH1 s.heap t).objs.size=s.heap.objs.size+1:=Heap.size_push ..
 show _/\_
 rw[hz]
 have he:IsEnum ((yH1 s.heap t).push { cls:=.type "enumerate",data:=.fields #[.none,.bool false,.ref s.heap.objs.size,rawInt 0,.none,.none] }) (s.heap.objs.size+1) s.heap.objs.size 0 .none:=by
  have q:=Heap.get?_push_size (yH1 s.heap t) (o:={ cls:=.type "enumerate",data:=.fields #[.none,.bool false,.ref s.heap.objs.size,rawInt 0,.none,.none] }) rfl
  rw[hz] at q
  exact q
 exact⟨⟨_,he,rfl⟩,h _ he ⟨_,Heap.get?_push_of_some _ (Heap.get?_push_size _ rfl),rfl,rfl⟩ (by rw[Heap.size_push,hz]) fun b o x=>Heap.get?_push_of_some _ (Heap.get?_push_of_some _ x)⟩
end Sb
namespace Sb
open PySem PySem.Spec PyProof.Rows L2
section
variable {X:Cx}{pins:List (Addr × Obj)}{σ:L2.St}{H:Hp}{s:Shared}
theorem To {b t:Addr}{xs:List V}(I:Inv X pins σ H s)(hf:FpOk X pins H b)(h:SqL X.K H t xs):t≠b:=by
 rintro rfl
 rcases h with (h | ⟨o,h⟩) | ⟨o,its,n,h,_⟩
 ·rw[hf.1] at h;cases h
 ·rw[hf.1] at h;cases h
 ·have e:=I.ok.mod.kin _ _ h
  rcases hf.2.2.2.1 with z | z
  ·exact I.ok.noex _ _ e z
  ·exact absurd (Nat.lt_of_lt_of_le (Heap.lt_size (I.ok.bs _ _ e).1) z) (Nat.lt_irrefl _)
end
def ItzL (K:W.Frag)(t u:Addr):It :=
 ⟨fun i H=>∃ xs ys,SqL K H t xs/\SqL K H u ys/\i<xs.length/\i<ys.length,
   fun i H v H'=>∃ p x y,v=.ref p/\H p=none/\H'=upd H p (.tup [x,y])/\(∀ xs,SqL K H t xs->xs[i]?=some x)/\∀ ys,SqL K H u ys->ys[i]?=some y,
   fun i H=>∃ xs ys,SqL K H t xs/\SqL K H u ys/\i=xs.length⟩
theorem Jx {P:Program}{w:World}{K:W.Frag}{es:List Expr}{kk:Nat}{tp:Pos}{z TI TO i1 i2:Addr}(O:ZOff z TI TO i1 i2)(t u:Addr) :
  Turn P w K (.Tuple es kk tp) (ItzL K t u) [z,TI,TO,i1,i2] z (fun i h=>IsZip h z TI TO .none/\IsPair h TI (.ref i1) (.ref i2)/\(∃ a b,IsPair h TO a b)/\h.IsListIter i1 t i/\h.IsListIter i2 u i) where
 mem:=by simp
 obj:=fun i h ⟨hz,hTI,⟨a,b,hTO⟩,⟨o1,e1,_,d1⟩,⟨o2,e2,_,d2⟩⟩ b hb=>by
  simp only [List.mem_cons,List.not_mem_nil,or_false] at hb
  rcases hb with rfl | rfl | rfl | rfl | rfl
  ·exact⟨_,hz,fun v q=>by have q':Data.fields _=Data.cell v:=q;cases q'⟩
  ·exact⟨_,hTI,fun v q=>by have q':Data.seq _ _=Data.cell v:=q;cases q'⟩
  ·exact⟨_,hTO,fun v q=>by have q':Data.seq _ _=Data.cell v:=q;cases q'⟩
  ·exact⟨_,e1,fun v q=>by rw[d1] at q;cases q⟩
  ·exact⟨_,e2,fun v q=>by rw[d2] at q;cases q⟩
 keep:=fun i h h' ⟨hz,hTI,⟨a,b,hTO⟩,⟨o1,e1,r1⟩,⟨o2,e2,r2⟩⟩ k=>⟨k z (by simp) _ hz,k TI (by simp) _ hTI,⟨a,b,k TO (by simp) _ hTO⟩,⟨o1,k i1 (by simp) _ e1,r1⟩,⟨o2,k i2 (by simp) _ e2,r2⟩⟩
 item:=by
  intro X hP hw hK hc i pins s σ H E I hf st hg
  subst hP hw hK
  obtain⟨xs,ys,hx,hy,lx,ly⟩:=hg
  obtain⟨hz,hTI,⟨a,b,hTO⟩,c1,c2⟩:=st
  obtain⟨u1,v1,p1',_⟩:=I.list hx
  have p1:=p1'.isList
  obtain⟨u2,v2,p2',_⟩:=I.list hy
  have p2:=p2'.isList
  have n1:=v1.length
  have n2:=v2.length
  have ne:∀ b∈[z,TI,TO,i1,i2],t≠b/\u≠b:=fun b hb=>⟨To I (hf b hb) hx,To I (hf b hb) hy⟩
  have off:∀ b∈[z,TI,TO,i1,i2],∀ x,(b,x) ∉ X.pn:=fun b hb x m=>(hf b hb).2.2.2.2.2 _ (List.mem_append_left _ m) rfl
  have qI:∀ p∈X.pn,s.heap.get? p.1=some p.2:=fun p hp=>(I.pin p (List.mem_append_left _ hp)).1
  have qO:∀ b∈[z,TI,TO,i1,i2],∀ p∈X.pn,p.1≠b:=fun b hb p hp=>(hf b hb).2.2.2.2.2 p (List.mem_append_left _ hp)
  have D:Off z TI TO i1 i2 (i1::t::X.pn.map Prod.fst) (i2::u::X.pn.map Prod.fst):=⟨O.a1,O.a2,O.a3,O.a4,O.a5,O.a6,O.a7,O.a8,O.a9,O.b1,
   by simp[O.a3.symm,(ne z (by simp)).1.symm,off z (by simp)],by simp[O.a8,(ne TO (by simp)).1.symm,off TO (by simp)],by simp[O.b1.symm,(ne i2 (by simp)).1.symm,off i2 (by simp)],
   by simp[O.a4.symm,(ne z (by simp)).2.symm,off z (by simp)],by simp[O.a9,(ne TO (by simp)).2.symm,off TO (by simp)],by simp[O.b1,(ne i1 (by simp)).2.symm,off i1 (by simp)]⟩
  have D1:=Sb.Draws.listQ (prog:=X.prog) (w:=X.w) (A:=X.A.in1) (I.ok.hd hc) i1 t (ne i1 (by simp)).1 (qO i1 (by simp)) u1.toArray
  have D2:=Sb.Draws.listQ (prog:=X.prog) (w:=X.w) (A:=X.A.in1) (I.ok.hd hc) i2 u (ne i2 (by simp)).2 (qO i2 (by simp)) u2.toArray
  refine M6 D D1 D2 hz hTI hTO ⟨c1,p1,qI⟩ ⟨c2,p2,qI⟩ (by simp;omega) (by simp;omega) fun x y g tk px py z' to' s1 s2 pr sz kp=>?_
  refine⟨_,rfl,wpAny_letOwnedTupleGo_zip z' fun g2 z2 sb=>?_⟩
  obtain⟨x0,ex⟩:∃ x0,xs[i]?=some x0:=⟨xs[i],by simp[lx]⟩
  obtain⟨y0,ey⟩:∃ y0,ys[i]?=some y0:=⟨ys[i],by simp[ly]⟩
  obtain⟨x1,ex1,rx⟩:=v1.get ex
  obtain⟨y1,ey1,ry⟩:=v2.get ey
  have qx:x1=x:=by
   have:u1.toArray[i]?=some x:=px
   rw[List.getElem?_toArray,ex1] at this
   exact Option.some.inj this
  have qy:y1=y:=by
   have:u2.toArray[i]?=some y:=py
   rw[List.getElem?_toArray,ey1] at this
   exact Option.some.inj this
  subst qx qy
  have zlt:z<s.heap.objs.size:=Heap.lt_size hz
  have pz:s.heap.objs.size≠z:=Nat.ne_of_gt zlt
  have sb2:∀ b,b≠z->g2.get? b=g.get? b:=fun b hb=>sb.2 b hb
  have keep:∀ b o,b ∉ [z,TI,TO,i1,i2]->s.heap.get? b=some o->g2.get? b=some o:=fun b o hb e=>by
   simp only [List.mem_cons,List.not_mem_nil,or_false,not_or] at hb
   rw[sb2 b hb.1]
   exact kp b o hb.1 hb.2.2.1 hb.2.2.2.1 hb.2.2.2.2 e
  have new:ObjOk X.prog X.w (upd H s.heap.objs.size (.tup [x0,y0])) g2 s.heap.objs.size (.tup [x0,y0]) :=
   ⟨by show 2<=sizeLine;decide,[x1,y1],.cons rx (.cons ry .nil),⟨_,by rw[sb2 _ pz];exact pr,rfl,0,rfl⟩⟩
  have I2:=Ve (t':=tk) I hf keep (Nat.le_refl _) new
  have nn:∀ b∈[z,TI,TO,i1,i2],upd H s.heap.objs.size (.tup [x0,y0]) b=none:=fun b hb=>by
   have:b≠s.heap.objs.size:=by
    have ob:∃ o,s.heap.get? b=some o:=by
     simp only [List.mem_cons,List.not_mem_nil,or_false] at hb
     obtain⟨o1,e1,_⟩:=c1
     obtain⟨o2,e2,_⟩:=c2
     rcases hb with rfl | rfl | rfl | rfl | rfl
     ·exact⟨_,hz⟩
     ·exact⟨_,hTI⟩
     ·exact⟨_,hTO⟩
     ·exact⟨_,e1⟩
     ·exact⟨_,e2⟩
    obtain⟨o,e⟩:=ob
    exact Nat.ne_of_lt (Heap.lt_size e)
   rw[Zb this]
   exact (hf b hb).1
  refine⟨.ref s.heap.objs.size,_,I2,rfl,⟨_,x0,y0,rfl,I.fresh,rfl,fun xs' h1=>by rw[I.list_inj h1 hx];exact ex,fun ys' h2=>by rw[I.list_inj h2 hy];exact ey⟩,⟨z2,?_,⟨x1,y1,?_⟩,?_,?_⟩,nn⟩
  ·exact (sb2 TI O.a1).trans (kp _ _ O.a1 O.a5 O.a6 O.a7 hTI)
  ·exact (sb2 TO O.a2).trans to'
  ·exact s1.1.extBut sb.extBut O.a3
  ·exact s2.1.extBut sb.extBut O.a4
 done:=by
  intro X hP hw hK hc i pins s σ H E I hf st hg
  subst hP hw hK
  obtain⟨xs,ys,hx,hy,rfl⟩:=hg
  obtain⟨hz,hTI,⟨a,b,hTO⟩,c1,c2⟩:=st
  obtain⟨u1,v1,p1',_⟩:=I.list hx
  have p1:=p1'.isList
  have n1:=v1.length
  have ne:∀ b∈[z,TI,TO,i1,i2],t≠b/\u≠b:=fun b hb=>⟨To I (hf b hb) hx,To I (hf b hb) hy⟩
  have off:∀ b∈[z,TI,TO,i1,i2],∀ x,(b,x) ∉ X.pn:=fun b hb x m=>(hf b hb).2.2.2.2.2 _ (List.mem_append_left _ m) rfl
  have qI:∀ p∈X.pn,s.heap.get? p.1=some p.2:=fun p hp=>(I.pin p (List.mem_append_left _ hp)).1
  have qO:∀ b∈[z,TI,TO,i1,i2],∀ p∈X.pn,p.1≠b:=fun b hb p hp=>(hf b hb).2.2.2.2.2 p (List.mem_append_left _ hp)
  have D:Off z TI TO i1 i2 (i1::t::X.pn.map Prod.fst) (i2::u::X.pn.map Prod.fst):=⟨O.a1,O.a2,O.a3,O.a4,O.a5,O.a6,O.a7,O.a8,O.a9,O.b1,
   by simp[O.a3.symm,(ne z (by simp)).1.symm,off z (by simp)],by simp[O.a8,(ne TO (by simp)).1.symm,off TO (by simp)],by simp[O.b1.symm,(ne i2 (by simp)).1.symm,off i2 (by simp)],
   by simp[O.a4.symm,(ne z (by simp)).2.symm,off z (by simp)],by simp[O.a9,(ne TO (by simp)).2.symm,off TO (by simp)],by simp[O.b1,(ne i1 (by simp)).2.symm,off i1 (by simp)]⟩
  have D1:=Sb.Draws.listQ (prog:=X.prog) (w:=X.w) (A:=X.A.in1) (I.ok.hd hc) i1 t (ne i1 (by simp)).1 (qO i1 (by simp)) u1.toArray
  have c1':s.heap.IsListIter i1 t u1.toArray.size:=by
   rw[List.size_toArray,← n1]
   exact c1
  refine Sh D D1 hz hTI ⟨c1',p1,qI⟩ fun g kp=>⟨rfl,?_⟩
  exact T8 (t':=s.toks) I hf fun b o hb e=>by
   simp only [List.mem_cons,List.not_mem_nil,or_false,not_or] at hb
   exact kp b o hb.1 hb.2.2.2.1 e
 self:=fun _ _ _ _ _ st h=>wpAny_pyIter_zip st.1 h
section
variable {X:Cx}
def iZipL (K:W.Frag)(ta:TA):TI:=fun σ H R=>ta σ H fun vs H1=>∃ t u,vs=[.ref t,.ref u]/\(∃ xs,SqL K H1 t xs)/\(∃ ys,SqL K H1 u ys)/\R (ItzL K t u) H1
theorem J2 {a b:Expr}{ta:TA}{p pos:Pos}{es:List Expr}{kk:Nat}{tp:Pos}(hg:Gl X "zip")(hm:X.mg "zip"=none)(ha:PA X [a,b] ta)(hs:starEach [a,b] X.env=[(false,eval a X.env),(false,eval b X.env)]:=by rfl)
  (hs2:starEach [b] X.env=[(false,eval b X.env)]:=by rfl):PI X (.Tuple es kk tp) (.Call (.Name "zip" p) [a,b] [] pos) (iZipL X.K ta):=by
 intro pins s σ H R I h
 refine Call_ (Wk I hg hm boot_zip (PyProof.Rows.callWith_type1 (thn (ha pos pins s σ H _ I h) fun us s1 ⟨vs,H1,I1,r1,q1⟩=>?_) (by rw[hs,hs2]) (by rw[hs2];rfl)))
 obtain⟨t,u,e,⟨xs,hx⟩,⟨ys,hy⟩,q⟩:=q1
 subst e
 obtain⟨t0,u0,e0,rt,ru⟩:=Nk r1
 cases (show t0=Value.ref t from rt)
 cases (show u0=Value.ref u from ru)
 subst e0
 obtain⟨u1,v1,p1',_⟩:=I1.list hx
 have p1:=p1'.isList
 obtain⟨u2,v2,p2',_⟩:=I1.list hy
 have p2:=p2'.isList
 refine Ft (xs:=u1.toArray) (ys:=u2.toArray) p1 p2 fun g z0 ti to i1 i2 sz kp=>?_
 refine wpAny_pyIter_zip z0 ?_
 have I2:Inv X pins σ H1 { s1 with heap:=g }:=I1.kept (t':=s1.toks) kp
 refine⟨s1.heap.objs.size+4,[s1.heap.objs.size+4,s1.heap.objs.size+2,s1.heap.objs.size+3,s1.heap.objs.size,s1.heap.objs.size+1],_,ItzL X.K t u,H1,rfl,I2,Jx (O:=?_) t u,⟨z0,ti,⟨_,_,to⟩,i1,i2⟩,fun b hb=>?_,q⟩
 ·refine⟨?_,?_,?_,?_,?_,?_,?_,?_,?_,?_⟩ <;> (show @Ne Nat _ _;omega)
 ·have hb':s1.heap.objs.size<=b:=by
   simp only [List.mem_cons,List.not_mem_nil,or_false] at hb
   rcases hb with rfl | rfl | rfl | rfl | rfl
   ·exact Nat.le_add_right _ _
   ·exact Nat.le_add_right _ _
   ·exact Nat.le_add_right _ _
   ·exact Nat.le_refl _
   ·exact Nat.le_add_right _ _
  exact I1.fpOk hb' (I1.hok.fresh hb')
end
def IteL (K:W.Frag)(t:Addr):It :=
 ⟨fun i H=>∃ xs,SqL K H t xs/\i<xs.length,
   fun i H v H'=>∃ p x,v=.ref p/\H p=none/\H'=upd H p (.tup [.int (i:Int),x])/\∀ xs,SqL K H t xs->xs[i]?=some x,
   fun i H=>∃ xs,SqL K H t xs/\i=xs.length⟩
theorem L4 {P:Program}{w:World}{K:W.Frag}{es:List Expr}{kk:Nat}{tp:Pos}{e it:Addr}(O:e≠it)(t:Addr) :
  Turn P w K (.Tuple es kk tp) (IteL K t) [e,it] e (fun i h=>(∃ old,IsEnum h e it (i:Int) old)/\h.IsListIter it t i) where
 mem:=by simp
 obj:=fun i h ⟨⟨old,he⟩,⟨o1,e1,_,d1⟩⟩ b hb=>by
  simp only [List.mem_cons,List.not_mem_nil,or_false] at hb
  rcases hb with rfl | rfl
  ·exact⟨_,he,fun v q=>by have q':Data.fields _=Data.cell v:=q;cases q'⟩
  ·exact⟨_,e1,fun v q=>by rw[d1] at q;cases q⟩
 keep:=fun i h h' ⟨⟨old,he⟩,⟨o1,e1,r1⟩⟩ k=>⟨⟨old,k e (by simp) _ he⟩,⟨o1,k it (by simp) _ e1,r1⟩⟩
 item:=by
  intro X hP hw hK hc i pins s σ H E I hf st hg
  subst hP hw hK
  obtain⟨xs,hx,lx⟩:=hg
  obtain⟨⟨old,he⟩,c1⟩:=st
  obtain⟨u1,v1,p1',_⟩:=I.list hx
  have p1:=p1'.isList
  have n1:=v1.length
  have ne:∀ b∈[e,it],t≠b:=fun b hb=>To I (hf b hb) hx
  have off:∀ b∈[e,it],∀ x,(b,x) ∉ X.pn:=fun b hb x m=>(hf b hb).2.2.2.2.2 _ (List.mem_append_left _ m) rfl
  have qI:∀ p∈X.pn,s.heap.get? p.1=some p.2:=fun p hp=>(I.pin p (List.mem_append_left _ hp)).1
  have qO:∀ b∈[e,it],∀ p∈X.pn,p.1≠b:=fun b hb p hp=>(hf b hb).2.2.2.2.2 p (List.mem_append_left _ hp)
  have D1:=Sb.Draws.listQ (prog:=X.prog) (w:=X.w) (A:=X.A.in1) (I.ok.hd hc) it t (ne it (by simp)) (qO it (by simp)) u1.toArray
  refine wpAny_pyNext_enum_itemD D1 he ⟨c1,p1,qI⟩ (by simp;omega) O (by simp[O,(ne e (by simp)).symm,off e (by simp)]) fun x g tk px out s1 pr sz kp=>?_
  refine⟨_,rfl,wpAny_letOwnedTupleGo_enum out fun g2 z2 sb=>?_⟩
  obtain⟨x0,ex⟩:∃ x0,xs[i]?=some x0:=⟨xs[i],by simp[lx]⟩
  obtain⟨x1,ex1,rx⟩:=v1.get ex
  have qx:x1=x:=by
   have:u1.toArray[i]?=some x:=px
   rw[List.getElem?_toArray,ex1] at this
   exact Option.some.inj this
  subst qx
  have elt:e<s.heap.objs.size:=Heap.lt_size he
  have pe:s.heap.objs.size≠e:=Nat.ne_of_gt elt
  have sb2:∀ b,b≠e->g2.get? b=g.get? b:=fun b hb=>sb.2 b hb
  have keep:∀ b o,b ∉ [e,it]->s.heap.get? b=some o->g2.get? b=some o:=fun b o hb q=>by
   simp only [List.mem_cons,List.not_mem_nil,or_false,not_or] at hb
   rw[sb2 b hb.1]
   exact kp b o hb.1 hb.2 q
  have new:ObjOk X.prog X.w (upd H s.heap.objs.size (.tup [.int (i:Int),x0])) g2 s.heap.objs.size (.tup [.int (i:Int),x0]) :=
   ⟨by show 2<=sizeLine;decide,[.int (i:Int) tk,x1],.cons ⟨tk,rfl⟩ (.cons rx .nil),⟨_,by rw[sb2 _ pe];exact pr,rfl,0,rfl⟩⟩
  have I2:=Ve (t':=tk+1) I hf keep (Nat.le_refl _) new
  have nn:∀ b∈[e,it],upd H s.heap.objs.size (.tup [.int (i:Int),x0]) b=none:=fun b hb=>by
   have:b≠s.heap.objs.size:=by
    have ob:∃ o,s.heap.get? b=some o:=by
     simp only [List.mem_cons,List.not_mem_nil,or_false] at hb
     obtain⟨o1,e1,_⟩:=c1
     rcases hb with rfl | rfl
     ·exact⟨_,he⟩
     ·exact⟨_,e1⟩
    obtain⟨o,q⟩:=ob
    exact Nat.ne_of_lt (Heap.lt_size q)
   rw[Zb this]
   exact (hf b hb).1
  refine⟨.ref s.heap.objs.size,_,I2,rfl,⟨_,x0,rfl,I.fresh,rfl,fun xs' h1=>by rw[I.list_inj h1 hx];exact ex⟩,⟨⟨x1,?_⟩,?_⟩,nn⟩
  ·exact z2
  ·exact s1.1.extBut sb.extBut O.symm
 done:=by
  intro X hP hw hK hc i pins s σ H E I hf st hg
  subst hP hw hK
  obtain⟨xs,hx,rfl⟩:=hg
  obtain⟨⟨old,he⟩,c1⟩:=st
  obtain⟨u1,v1,p1',_⟩:=I.list hx
  have p1:=p1'.isList
  have n1:=v1.length
  have ne:∀ b∈[e,it],t≠b:=fun b hb=>To I (hf b hb) hx
  have off:∀ b∈[e,it],∀ x,(b,x) ∉ X.pn:=fun b hb x m=>(hf b hb).2.2.2.2.2 _ (List.mem_append_left _ m) rfl
  have qI:∀ p∈X.pn,s.heap.get? p.1=some p.2:=fun p hp=>(I.pin p (List.mem_append_left _ hp)).1
  have qO:∀ b∈[e,it],∀ p∈X.pn,p.1≠b:=fun b hb p hp=>(hf b hb).2.2.2.2.2 p (List.mem_append_left _ hp)
  have D1:=Sb.Draws.listQ (prog:=X.prog) (w:=X.w) (A:=X.A.in1) (I.ok.hd hc) it t (ne it (by simp)) (qO it (by simp)) u1.toArray
  have c1':s.heap.IsListIter it t u1.toArray.size:=by
   rw[List.size_toArray,← n1]
   exact c1
  refine wpAny_pyNext_enum_endD D1 he ⟨c1',p1,qI⟩ fun g kp=>⟨rfl,?_⟩
  exact T8 (t':=s.toks) I hf fun b o hb q=>by
   simp only [List.mem_cons,List.not_mem_nil,or_false,not_or] at hb
   exact kp b o hb.2 q
 self:=fun _ _ _ _ _ st h=>by
  obtain⟨⟨old,he⟩,_⟩:=st
  exact wpAny_pyIter_enum he h
section
variable {X:Cx}
def iEnumL (K:W.Frag)(ta:TA):TI:=fun σ H R=>ta σ H fun vs H1=>∃ t,vs=[.ref t]/\(∃ xs,SqL K H1 t xs)/\R (IteL K t) H1
theorem Rj {a:Expr}{ta:TA}{p pos:Pos}{es:List Expr}{kk:Nat}{tp:Pos}(hg:Gl X "enumerate")(hm:X.mg "enumerate"=none)(ha:PA X [a] ta)(hs:starEach [a] X.env=[(false,eval a X.env)]:=by rfl) :
  PI X (.Tuple es kk tp) (.Call (.Name "enumerate" p) [a] [] pos) (iEnumL X.K ta):=by
 intro pins s σ H R I h
 refine Call_ (Wk I hg hm boot_enumerate (PyProof.Rows.callWith_type1 (thn (ha pos pins s σ H _ I h) fun us s1 ⟨vs,H1,I1,r1,q1⟩=>?_) hs rfl))
 obtain⟨t,e,⟨xs,hx⟩,q⟩:=q1
 subst e
 obtain⟨t0,e0,rt⟩:=Uh r1
 cases (show t0=Value.ref t from rt)
 subst e0
 obtain⟨u1,v1,p1',_⟩:=I1.list hx
 have p1:=p1'.isList
 refine Kc (ys:=u1.toArray) p1 fun g z0 i1 sz kp=>?_
 refine wpAny_pyIter_enum z0 ?_
 have I2:Inv X pins σ H1 { s1 with heap:=g }:=I1.kept (t':=s1.toks) kp
 refine⟨s1.heap.objs.size+1,[s1.heap.objs.size+1,s1.heap.objs.size],_,IteL X.K t,H1,rfl,I2,L4 (O:=?_) t,⟨⟨_,z0⟩,i1⟩,fun b hb=>?_,q⟩
 ·show @Ne Nat _ _
  omega
 ·have hb':s1.heap.objs.size<=b:=by
   simp only [List.mem_cons,List.not_mem_nil,or_false] at hb
   rcases hb with rfl | rfl
   ·exact Nat.le_add_right _ _
   ·exact Nat.le_refl _
  exact I1.fpOk hb' (I1.hok.fresh hb')
end
end Sb
namespace Sv
def sm:Nat->(Nat->Int)->Int
 | 0,_=>0
 | n+1,f=>sm n f+f n
theorem Zn {n:Nat}{f g:Nat->Int}(h:∀ i,i<n->f i=g i):sm n f=sm n g:=by
 induction n with
 | zero=>rfl
 | succ n ih =>
  show sm n f+f n=sm n g+g n
  rw[ih fun i hi=>h i (by omega),h n (by omega)]
theorem X1 (n:Nat)(f g:Nat->Int):sm n (fun i=>f i+g i)=sm n f+sm n g:=by
 induction n with
 | zero=>rfl
 | succ n ih=>show sm n _+(f n+g n)=(sm n f+f n)+(sm n g+g n);rw[ih];omega
theorem Y5 (a:Int)(n:Nat)(f:Nat->Int):sm n (fun i=>a*f i)=a*sm n f:=by
 induction n with
 | zero=>show (0:Int)=a*0;simp
 | succ n ih=>show sm n _+_=a*(sm n f+f n);rw[ih,Int.mul_add]
theorem sm_zero {n:Nat}{f:Nat->Int}(h:∀ i,i<n->f i=0):sm n f=0:=by
 induction n with
 | zero=>rfl
 | succ n ih=>show sm n f+f n=0;rw[ih fun i hi=>h i (by omega),h n (by omega)];rfl
theorem Zx {n k:Nat}{f:Nat->Int}(hk:k<n):sm n f=f k+sm n (fun i=>if i=k then 0 else f i):=by
 induction n with
 | zero=>omega
 | succ n ih =>
  show sm n f+f n=f k+(sm n (fun i=>if i=k then 0 else f i)+if n=k then 0 else f n)
  by_cases e:n=k
  ·subst e
   rw[if_pos rfl,Zn (f:=fun i=>if i=n then 0 else f i) (g:=f) fun i hi=>if_neg (by omega)]
   omega
  ·rw[if_neg e,ih (by omega)]
   omega
theorem sm_one {n k:Nat}{f:Nat->Int}(hk:k<n)(h:∀ i,i<n->i≠k->f i=0):sm n f=f k:=by
 rw[Zx hk,sm_zero fun i hi=>?_]
 ·omega
 ·by_cases e:i=k
  ·rw[if_pos e]
  ·rw[if_neg e];exact h i hi e
theorem D8 {n p q:Nat}{f:Nat->Int}(hp:p<n)(hq:q<n)(hpq:p≠q)(h:∀ i,i<n->i≠p->i≠q->f i=0):sm n f=f p+f q:=by
 rw[Zx hp,sm_one (k:=q) hq fun i hi hne=>?_]
 ·rw[if_neg (Ne.symm hpq)]
 ·by_cases e:i=p
  ·rw[if_pos e]
  ·rw[if_neg e];exact h i hi e hne
theorem sm_comm (n m:Nat)(f:Nat->Nat->Int):sm n (fun i=>sm m (fun j=>f i j))=sm m (fun j=>sm n (fun i=>f i j)):=by
 induction n with
 | zero=>exact (sm_zero fun _ _=>rfl).symm
 | succ n ih =>
  show sm n _+sm m _=_
  rw[ih,← X1]
  rfl
theorem Zw {n:Nat}{f:Nat->Int}(h:∀ i,i<n->0<=f i):0<=sm n f:=by
 induction n with
 | zero=>exact Int.le_refl _
 | succ n ih =>
  show 0<=sm n f+f n
  have:=ih fun i hi=>h i (by omega)
  have:=h n (by omega)
  omega
theorem Wc {n:Nat}{f g:Nat->Int}(h:∀ i,i<n->f i<=g i):sm n f<=sm n g:=by
 induction n with
 | zero=>exact Int.le_refl _
 | succ n ih =>
  show sm n f+f n<=sm n g+g n
  have:=ih fun i hi=>h i (by omega)
  have:=h n (by omega)
  omega
theorem L9 {n:Nat}{f:Nat->Int}(h:0<sm n f):∃ i,i<n/\0<f i:=by
 apply Classical.byContradiction
 intro hn
 have:sm n f<=sm n (fun _=>0):=Wc fun i hi=>by
  have:¬ 0<f i:=fun z=>hn ⟨i,hi,z⟩
  omega
 rw[sm_zero (f:=fun _=>0) fun _ _=>rfl] at this
 omega
theorem La (n m:Nat)(f:Nat->Int):sm (n+m) f=sm n f+sm m (fun i=>f (n+i)):=by
 induction m with
 | zero=>show sm n f=sm n f+0;omega
 | succ m ih =>
  show sm (n+m) f+f (n+m)=sm n f+(sm m (fun i=>f (n+i))+f (n+m))
  rw[ih]
  omega
theorem sm_abs {n M:Nat}{f:Nat->Int}(h:∀ i,i<n->(f i).natAbs<=M):(sm n f).natAbs<=n*M:=by
 induction n with
 | zero=>show (0:Int).natAbs<=0*M;simp
 | succ n ih =>
  show (sm n f+f n).natAbs<=(n+1)*M
  have h1:=ih fun i hi=>h i (by omega)
  have h2:=h n (by omega)
  rw[Nat.succ_mul]
  omega
abbrev Vec:=Nat->Int
abbrev Mat:=Nat->Vec
def skip (k i:Nat):Nat:=if i<k then i else i+1
def sgn:Nat->Int
 | 0=>1
 | n+1=>- sgn n
def minor (v:Mat)(k:Nat):Mat:=fun i r=>v (skip k i) (r+1)
def det:Nat->Mat->Int
 | 0,_=>1
 | m+1,v=>sm (m+1) (fun k=>sgn k*v k 0*det m (minor v k))
def put (v:Mat)(c:Nat)(x:Vec):Mat:=fun i=>if i=c then x else v i
theorem Y9 (v:Mat)(c:Nat)(x:Vec):put v c x c=x:=if_pos rfl
theorem Y3 {v:Mat}{c i:Nat}{x:Vec}(h:i≠c):put v c x i=v i:=if_neg h
theorem Vl (v:Mat)(c:Nat):put v c (v c)=v:=by
 funext i
 by_cases e:i=c
 ·subst e;exact Y9 ..
 ·exact Y3 e
theorem Xs {v:Mat}{c d:Nat}{x y:Vec}(h:c≠d):put (put v c x) d y=put (put v d y) c x:=by
 funext i
 by_cases e:i=c
 ·subst e;rw[Y3 h,Y9,Y9]
 ·by_cases e':i=d
  ·subst e';rw[Y9,Y3 e,Y9]
  ·rw[Y3 e',Y3 e,Y3 e,Y3 e']
theorem Xe:∀ {m:Nat} {v w:Mat},(∀ k r,k<m->r<m->v k r=w k r)->det m v=det m w
 | 0,_,_,_=>rfl
 | m+1,v,w,h=>by
  refine Zn fun k hk=>?_
  rw[h k 0 hk (by omega),Xe (m:=m) (v:=minor v k) (w:=minor w k) fun i r hi hr=>?_]
  exact h _ _ (by unfold skip;split <;> omega) (by omega)
def unskip (k c:Nat):Nat:=if c<k then c else c - 1
theorem Uc (v:Mat)(c:Nat)(z:Vec):minor (put v c z) c=minor v c:=by
 funext i r
 show put v c z (skip c i) (r+1)=v (skip c i) (r+1)
 rw[Y3 (by unfold skip;split <;> omega)]
theorem Tn {v:Mat}{k c:Nat}{z:Vec}(h:k≠c):minor (put v c z) k=put (minor v k) (unskip k c) (fun r=>z (r+1)):=by
 funext i r
 show put v c z (skip k i) (r+1)=_
 by_cases e:skip k i=c
 ·have e':i=unskip k c:=by
   unfold skip at e
   unfold unskip
   split at e <;> split <;> omega
  rw[e,e',Y9,Y9]
 ·have e':i≠unskip k c:=by
   unfold skip at e
   unfold unskip
   split at e <;> split <;> omega
  rw[Y3 e,Y3 e']
  rfl
theorem Tc:∀ {m:Nat} {v:Mat} {c:Nat} {a b:Int} {x y:Vec},c<m->det m (put v c (fun r=>a*x r+b*y r))=a*det m (put v c x)+b*det m (put v c y)
 | 0,_,_,_,_,_,_,h=>by omega
 | m+1,v,c,a,b,x,y,h=>by
  show sm (m+1) _=a*sm (m+1) _+b*sm (m+1) _
  rw[← Y5,← Y5,← X1]
  refine Zn fun k hk=>?_
  by_cases e:k=c
  ·subst e
   rw[Uc,Uc,Uc,Y9,Y9,Y9]
   grind
  ·rw[Tn e,Tn e,Tn e,Y3 e,Y3 e,Y3 e]
   have:=Tc (m:=m) (v:=minor v k) (c:=unskip k c) (a:=a) (b:=b) (x:=fun r=>x (r+1)) (y:=fun r=>y (r+1)) (by unfold unskip;split <;> omega)
   rw[this]
   grind
theorem Mq {m:Nat}{v:Mat}{c:Nat}(h:c<m):det m (put v c (fun _=>0))=0:=by
 have:=Tc (m:=m) (v:=v) (c:=c) (a:=0) (b:=0) (x:=fun _=>0) (y:=fun _=>0) h
 simpa using this
theorem T9 {m:Nat}{v:Mat}{c:Nat}(h:c<m)(a:Nat->Int)(u:Nat->Vec):∀ n,det m (put v c (fun r=>sm n (fun k=>a k*u k r)))=sm n (fun k=>a k*det m (put v c (u k)))
 | 0=>Mq h
 | n+1=>by
  have:=Tc (m:=m) (v:=v) (c:=c) (a:=1) (b:=a n) (x:=fun r=>sm n (fun k=>a k*u k r)) (y:=u n) h
  show _=sm n (fun k=>a k*det m (put v c (u k)))+a n*det m (put v c (u n))
  rw[← T9 h a u n]
  rw[Int.one_mul] at this
  rw[← this]
  congr 2
  funext r
  show sm n _+_=_
  rw[Int.one_mul]
theorem Mr {m:Nat}{v:Mat}{c:Nat}(h:c<m)(a:Int)(x:Vec):det m (put v c (fun r=>a*x r))=a*det m (put v c x):=by
 have:=Tc (m:=m) (v:=v) (c:=c) (a:=a) (b:=0) (x:=x) (y:=x) h
 simpa using this
theorem Nd {m:Nat}{v:Mat}{c:Nat}(h:c<m)(x y:Vec):det m (put v c (fun r=>x r+y r))=det m (put v c x)+det m (put v c y):=by
 have:=Tc (m:=m) (v:=v) (c:=c) (a:=1) (b:=1) (x:=x) (y:=y) h
 simpa using this
theorem Ss:∀ {m:Nat} {v:Mat} {p:Nat},p+1<m->v p=v (p+1)->det m v=0
 | 0,_,_,h,_=>by omega
 | m+1,v,p,h,e=>by
  show sm (m+1) _=0
  rw[D8 (p:=p) (q:=p+1) (by omega) h (by omega) fun k hk h1 h2=>?_]
  ·have e2:minor v p=minor v (p+1):=by
    funext i r
    show v (skip p i) (r+1)=v (skip (p+1) i) (r+1)
    by_cases q:i=p
    ·have a1:skip p i=p+1:=by unfold skip;split <;> omega
     have a2:skip (p+1) i=p:=by unfold skip;split <;> omega
     rw[a1,a2,e]
    ·have a1:skip p i=skip (p+1) i:=by unfold skip;split <;> split <;> omega
     rw[a1]
   rw[e2,e]
   show sgn p*_*_ + -sgn p*_*_=0
   grind
  ·have:det m (minor v k)=0:=by
    by_cases q:k<p
    ·refine Ss (p:=p - 1) (by omega) ?_
     funext r
     show v (skip k (p - 1)) (r+1)=v (skip k (p - 1+1)) (r+1)
     have a1:skip k (p - 1)=p:=by unfold skip;split <;> omega
     have a2:skip k (p - 1+1)=p+1:=by unfold skip;split <;> omega
     rw[a1,a2,e]
    ·refine Ss (p:=p) (by omega) ?_
     funext r
     show v (skip k p) (r+1)=v (skip k (p+1)) (r+1)
     have a1:skip k p=p:=by unfold skip;split <;> omega
     have a2:skip k (p+1)=p+1:=by unfold skip;split <;> omega
     rw[a1,a2,e]
   rw[this,Int.mul_zero]
theorem Ms {m:Nat}{v:Mat}{p q:Nat}(hp:p<m)(hq:q<m)(hpq:p≠q)(h0:∀ z:Vec,det m (put (put v p z) q z)=0)(x y:Vec):det m (put (put v p x) q y)=- det m (put (put v p y) q x):=by
 have e:=h0 (fun r=>x r+y r)
 rw[Nd hq,Xs hpq,Nd hp,Xs (c:=p) hpq,Nd hp] at e
 rw[Xs (Ne.symm hpq),Xs (Ne.symm hpq),Xs (Ne.symm hpq),Xs (Ne.symm hpq),h0 x,h0 y] at e
 omega
theorem Nb:∀ (d:Nat) {m:Nat} {v:Mat} {p q:Nat},q=p+1+d->q<m->v p=v q->det m v=0
 | 0,m,v,p,q,h,hq,e=>Ss (p:=p) (by omega) (by rw[e,h])
 | d+1,m,v,p,q,h,hq,e=>by
  have hz:∀ z:Vec,det m (put (put v (q - 1) z) q z)=0:=fun z=>by
   refine Ss (p:=q - 1) (by omega) ?_
   have a:q - 1+1=q:=by omega
   rw[a,Y9,Y3 (by omega),Y9]
  have s:=Ms (m:=m) (v:=v) (p:=q - 1) (q:=q) (by omega) hq (by omega) hz (v (q - 1)) (v q)
  rw[Vl,Vl] at s
  have:det m (put (put v (q - 1) (v q)) q (v (q - 1)))=0:=by
   refine Nb d (p:=p) (q:=q - 1) (by omega) (by omega) ?_
   rw[Y3 (by omega),Y3 (by omega),Y3 (by omega),Y9,e]
  rw[s,this]
  rfl
theorem Q6 {m:Nat}{v:Mat}{p q:Nat}(hp:p<m)(hq:q<m)(hpq:p≠q)(e:v p=v q):det m v=0:=by
 by_cases h:p<q
 ·exact Nb (q - p - 1) (p:=p) (q:=q) (by omega) hq e
 ·exact Nb (p - q - 1) (p:=q) (q:=p) (by omega) hp e.symm
theorem Bz {m:Nat}{v:Mat}{p q:Nat}(hp:p<m)(hq:q<m)(hpq:p≠q)(x y:Vec):det m (put (put v p x) q y)=- det m (put (put v p y) q x) :=
 Ms hp hq hpq (fun z=>Q6 hp hq hpq (by rw[Y3 hpq,Y9,Y9])) x y
def idm:Mat:=fun k r=>if k=r then 1 else 0
theorem Z00:∀ m:Nat,det m idm=1
 | 0=>rfl
 | m+1=>by
  show sm (m+1) _=1
  rw[sm_one (k:=0) (by omega) fun k hk h=>?_]
  ·have e:minor idm 0=idm:=by
    funext i r
    show (if skip 0 i=r+1 then (1:Int) else 0)=if i=r then 1 else 0
    have:skip 0 i=i+1:=by unfold skip;split <;> omega
    rw[this]
    by_cases q:i=r
    ·rw[if_pos q,if_pos (by omega)]
    ·rw[if_neg q,if_neg (by omega)]
   rw[e,Z00 m]
   show (1:Int)*(if (0:Nat)=0 then 1 else 0)*1=1
   rfl
  ·show sgn k*(if k=0 then 1 else 0)*_=0
   rw[if_neg h]
   simp
theorem Pi:∀ k,(sgn k).natAbs=1
 | 0=>rfl
 | k+1=>by show (-sgn k).natAbs=1;rw[Int.natAbs_neg];exact Pi k
theorem Tu {M:Nat}:∀ {m:Nat} {v:Mat},(∀ k r,k<m->r<m->(v k r).natAbs<=M)->(det m v).natAbs<=(m*M) ^ m
 | 0,_,_=>by show (1:Int).natAbs<=1;decide
 | m+1,v,h=>by
  have key:(sm (m+1) (fun k=>sgn k*v k 0*det m (minor v k))).natAbs<=(m+1)*(M*(m*M) ^ m):=sm_abs fun k hk=>by
   rw[Int.natAbs_mul,Int.natAbs_mul,Pi,Nat.one_mul]
   exact Nat.mul_le_mul (h k 0 hk (by omega)) (Tu (m:=m) fun i r hi hr=>h _ _ (by unfold skip;split <;> omega) (by omega))
  refine Nat.le_trans key ?_
  rw[← Nat.mul_assoc,Nat.pow_succ,Nat.mul_comm]
  exact Nat.mul_le_mul_right _ (Nat.pow_le_pow_left (Nat.mul_le_mul_right _ (by omega)) _)
end Sv
namespace Sb
theorem Na {a b c:Int}(h:a ∣ b*c)(g:Int.gcd a b=1):a ∣ c:=by
 have h1:a.natAbs ∣ b.natAbs*c.natAbs:=by
  rw[← Int.natAbs_mul]
  exact Int.natAbs_dvd_natAbs.mpr h
 exact Int.natAbs_dvd_natAbs.mp (Nat.Coprime.dvd_of_dvd_mul_left g h1)
theorem X9 {r s:Rat}(hr:0<r.2)(hs:0<s.2)(cr:Int.gcd r.1 r.2=1)(cs:Int.gcd s.1 s.2=1)(h:r.1*s.2=s.1*r.2):r=s:=by
 have d1:r.2 ∣ s.2:=by
  have:r.2 ∣ r.1*s.2:=⟨s.1,by rw[h,Int.mul_comm]⟩
  exact Na this (by rw[Int.gcd_comm];exact cr)
 have d2:s.2 ∣ r.2:=by
  have:s.2 ∣ s.1*r.2:=⟨r.1,by rw[← h,Int.mul_comm]⟩
  exact Na this (by rw[Int.gcd_comm];exact cs)
 have e:r.2=s.2:=Int.dvd_antisymm (by omega) (by omega) d1 d2
 have e1:r.1=s.1:=by
  rw[e] at h
  exact Int.eq_of_mul_eq_mul_right (by omega) h
 obtain⟨a,b⟩:=r
 obtain⟨c,d⟩:=s
 simp only at e e1
 rw[e,e1]
theorem Q5 {r:Rat}{D W:Int}(hr:0<r.2)(cr:Int.gcd r.1 r.2=1)(h:r.1*D=W*r.2):r.2 ∣ D :=
 Na (show r.2 ∣ r.1*D from ⟨W,by rw[h,Int.mul_comm]⟩) (by rw[Int.gcd_comm];exact cr)
theorem Xq {a b:Int}(hb:0<b)(h:a ∣ b):a.natAbs<=b.natAbs:=by
 have:=Int.natAbs_dvd_natAbs.mpr h
 exact Nat.le_of_dvd (by omega) this
theorem Dv {r:Rat}{D W:Int}(hD:0<D)(hr:0<r.2)(cr:Int.gcd r.1 r.2=1)(h:r.1*D=W*r.2):r.1.natAbs<=W.natAbs/\r.2.natAbs<=D.natAbs:=by
 have d:=Q5 hr cr h
 refine⟨?_,Xq hD d⟩
 obtain⟨k,e⟩:=d
 have:W=r.1*k:=by
  rw[e] at h
  have:(r.1*k)*r.2=W*r.2:=by rw[← h];rw[Int.mul_assoc,Int.mul_comm k]
  exact (Int.eq_of_mul_eq_mul_right (by omega) this).symm
 rw[this,Int.natAbs_mul]
 refine Nat.le_mul_of_pos_right _ ?_
 have:k≠0:=by
  intro z
  rw[z] at e
  simp at e
  omega
 omega
theorem Xw {n:Nat}{r:Rat}{D W:Int}(hD:0<D)(hr:0<r.2)(cr:Int.gcd r.1 r.2=1)(h:r.1*D=W*r.2)(bD:Bd n D)(bW:Bd n W):Good n r :=
 ⟨bW.of_le' (Dv hD hr cr h).1,bD.of_le' (Dv hD hr cr h).2,hr,cr⟩
theorem J1 {p q:Int}(_:q≠0):(nrm p q).1*q=p*(nrm p q).2:=Ys p q
theorem Ul {r s:Rat}{D1 D2 W1 W2:Int}(hr:0<r.2)(hs:0<s.2)(h1:r.1*D1=W1*r.2)(h2:s.1*D2=W2*s.2):(mulR' r s).1*(D1*D2)=(W1*W2)*(mulR' r s).2:=by
 have h3:(mulR' r s).1*(r.2*s.2)=(r.1*s.1)*(mulR' r s).2:=Ys _ _
 generalize mulR' r s=m at *
 have:(r.2*s.2)*(m.1*(D1*D2))=(r.2*s.2)*(W1*W2*m.2):=by grind
 exact Int.eq_of_mul_eq_mul_left (Wu hr hs) this
theorem Um {r s:Rat}{D W1 W2:Int}(hr:0<r.2)(hs:0<s.2)(h1:r.1*D=W1*r.2)(h2:s.1*D=W2*s.2):(addR r s).1*D=(W1+W2)*(addR r s).2:=by
 have h3:(addR r s).1*(r.2*s.2)=(r.1*s.2+s.1*r.2)*(addR r s).2:=Ys _ _
 generalize addR r s=m at *
 have:(r.2*s.2)*(m.1*D)=(r.2*s.2)*((W1+W2)*m.2):=by grind
 exact Int.eq_of_mul_eq_mul_left (Wu hr hs) this
theorem Vz {r s:Rat}{D W1 W2:Int}(hr:0<r.2)(hs:0<s.2)(h1:r.1*D=W1*r.2)(h2:s.1*D=W2*s.2):(subR r s).1*D=(W1 - W2)*(subR r s).2:=by
 have h3:(subR r s).1*(r.2*s.2)=(r.1*s.2 - s.1*r.2)*(subR r s).2:=Ys _ _
 generalize subR r s=m at *
 have:(r.2*s.2)*(m.1*D)=(r.2*s.2)*((W1 - W2)*m.2):=by grind
 exact Int.eq_of_mul_eq_mul_left (Wu hr hs) this
structure Low (r:Rat):Prop where
 pos:0<r.2
 cop:Int.gcd r.1 r.2=1
theorem Good.low {n:Nat}{r:Rat}(h:Good n r):Low r:=⟨h.pos,h.cop⟩
theorem X8 {p q:Int}(h:q≠0):Low (nrm p q):=⟨N0 h,Cu h⟩
theorem Sq {r s:Rat}(hr:Low r)(hs:Low s):Low (addR r s):=X8 (Wu hr.pos hs.pos)
theorem Vc {r s:Rat}(hr:Low r)(hs:Low s):Low (subR r s):=X8 (Wu hr.pos hs.pos)
theorem W5 {r s:Rat}(hr:Low r)(hs:Low s):Low (mulR' r s):=X8 (Wu hr.pos hs.pos)
theorem Uy:Low (0,1):=⟨by decide,by decide⟩
theorem low11:Low (1,1):=⟨by decide,by decide⟩
structure RepL (n:Nat)(D:Int)(Ws:List Int)(rs:List Rat):Prop where
 pos:0<D
 bD:Bd n D
 len:Ws.length=rs.length
 at_:∀ (i:Nat) (W:Int) (r:Rat),Ws[i]?=some W->rs[i]?=some r->r.1*D=W*r.2/\Bd n W/\Low r
theorem RepL.good {n:Nat}{D:Int}{Ws:List Int}{rs:List Rat}(h:RepL n D Ws rs):∀ r∈rs,Good n r:=fun r hr=>by
 obtain⟨i,hi⟩:=List.getElem?_of_mem hr
 have hl:i<rs.length:=(List.getElem?_eq_some_iff.mp hi).1
 have hw:i<Ws.length:=by rw[h.len];exact hl
 obtain⟨e,b,l⟩:=h.at_ i Ws[i] r (by simp[hw]) hi
 exact Xw h.pos l.pos l.cop e h.bD b
def lcm1 (l b:Int):Int:=(l*b).fdiv (Int.gcd l b)
theorem Fd {l b:Int}(hl:0<l)(hb:0<b):0<lcm1 l b/\l ∣ lcm1 l b/\b ∣ lcm1 l b/\∀ D,l ∣ D->b ∣ D->lcm1 l b ∣ D:=by
 have hg:0<(Int.gcd l b:Int):=by
  have:=Int.gcd_pos_of_ne_zero_left b (show l≠0 by omega)
  omega
 obtain⟨x,ex⟩:=Int.gcd_dvd_left (a:=l) (b:=b)
 obtain⟨y,ey⟩:=Int.gcd_dvd_right (a:=l) (b:=b)
 have e1:lcm1 l b=x*b:=by
  unfold lcm1
  have:l*b=(x*b)*(Int.gcd l b:Int):=by
   conv=>lhs;rw[ex]
   rw[Int.mul_comm (Int.gcd l b:Int),Int.mul_assoc,Int.mul_comm (Int.gcd l b:Int),← Int.mul_assoc]
  rw[this,Int.mul_fdiv_cancel _ (by omega)]
 have e2:lcm1 l b=l*y:=by
  unfold lcm1
  have:l*b=(l*y)*(Int.gcd l b:Int):=by
   conv=>lhs;rw[ey]
   rw[Int.mul_comm (Int.gcd l b:Int),Int.mul_assoc]
  rw[this,Int.mul_fdiv_cancel _ (by omega)]
 have hx:0<x:=by
  apply Classical.byContradiction
  intro z
  have:(Int.gcd l b:Int)*x<=0:=Int.mul_nonpos_of_nonneg_of_nonpos (by omega) (by omega)
  omega
 refine⟨by rw[e1];exact Int.mul_pos hx hb,⟨y,e2⟩,⟨x,by rw[e1,Int.mul_comm]⟩,fun D h1 h2=>?_⟩
 have:(lcm1 l b).natAbs ∣ D.natAbs:=by
  have e3:(lcm1 l b).natAbs=Nat.lcm l.natAbs b.natAbs:=by
   unfold Nat.lcm
   have g:Nat.gcd l.natAbs b.natAbs=Int.gcd l b:=rfl
   rw[g]
   have e4:(lcm1 l b).natAbs*Int.gcd l b=l.natAbs*b.natAbs:=by
    rw[← Int.natAbs_mul,e1]
    have:((x*b).natAbs)*Int.gcd l b=(x*b*(Int.gcd l b:Int)).natAbs:=by
     rw[Int.natAbs_mul (x*b)]
     rfl
    rw[this]
    congr 1
    conv=>rhs;rw[ex]
    rw[Int.mul_assoc,Int.mul_comm b,← Int.mul_assoc,Int.mul_comm x]
   rw[← e4]
   exact (Nat.mul_div_cancel _ (by omega)).symm
  rw[e3]
  exact Nat.lcm_dvd (Int.natAbs_dvd_natAbs.mpr h1) (Int.natAbs_dvd_natAbs.mpr h2)
 exact Int.natAbs_dvd_natAbs.mp this
def lcmB (rs:List Rat):Int:=rs.foldl (fun l r=>lcm1 l r.2) 1
theorem Fc (rs:List Rat)(r:Rat):lcmB (rs++[r])=lcm1 (lcmB rs) r.2:=by
 unfold lcmB
 rw[List.foldl_append]
 rfl
theorem F9 {rs:List Rat}{i:Nat}{r:Rat}(h:rs[i]?=some r):lcmB (rs.take (i+1))=lcm1 (lcmB (rs.take i)) r.2:=by rw[Yf h,Fc]
theorem Mo:∀ (rs:List Rat) (l:Int),0<l->(∀ r∈rs,0<r.2)->0<rs.foldl (fun l r=>lcm1 l r.2) l/\l ∣ rs.foldl (fun l r=>lcm1 l r.2) l/\(∀ r∈rs,r.2 ∣ rs.foldl (fun l r=>lcm1 l r.2) l)/\∀ D,l ∣ D->(∀ r∈rs,r.2 ∣ D)->rs.foldl (fun l r=>lcm1 l r.2) l ∣ D
 | [],l,hl,_=>⟨hl,Int.dvd_refl _,(fun _ h=>nomatch h),fun D h _=>h⟩
 | r::t,l,hl,h=>by
  obtain⟨p,d1,d2,m⟩:=Fd hl (h r List.mem_cons_self)
  obtain⟨p',d1',d2',m'⟩:=Mo t (lcm1 l r.2) p fun x hx=>h x (List.mem_cons_of_mem _ hx)
  refine⟨p',Int.dvd_trans d1 d1',fun x hx=>?_,fun D h1 h2=>m' D (m D h1 (h2 r List.mem_cons_self)) fun x hx=>h2 x (List.mem_cons_of_mem _ hx)⟩
  rcases List.mem_cons.mp hx with rfl | hx
  ·exact Int.dvd_trans d2 d1'
  ·exact d2' x hx
theorem Qv {rs:List Rat}(h:∀ r∈rs,0<r.2):0<lcmB rs/\(∀ r∈rs,r.2 ∣ lcmB rs)/\∀ D,(∀ r∈rs,r.2 ∣ D)->lcmB rs ∣ D:=by
 obtain⟨p,_,d,m⟩:=Mo rs 1 (by decide) h
 exact⟨p,d,fun D hD=>m D (Int.one_dvd _) hD⟩
def wholeB (rs:List Rat)(D:Int):List Int:=rs.map fun r=>r.1*D.fdiv r.2
theorem U9 {r:Rat}{D:Int}(h:r.2 ∣ D):r.1*D=(r.1*D.fdiv r.2)*r.2:=by
 have:=Uf h
 rw[Int.mul_assoc,this]
theorem RepL.least {n:Nat}{D:Int}{Ws:List Int}{rs:List Rat}(h:RepL n D Ws rs):RepL n (lcmB rs) (wholeB rs (lcmB rs)) rs:=by
 have low:∀ r∈rs,Low r:=fun r hr=>(h.good r hr).low
 obtain⟨p,d,m⟩:=Qv fun r hr=>(low r hr).pos
 have dD:∀ r∈rs,r.2 ∣ D:=fun r hr=>by
  obtain⟨i,hi⟩:=List.getElem?_of_mem hr
  have hl:i<rs.length:=(List.getElem?_eq_some_iff.mp hi).1
  have hw:i<Ws.length:=by rw[h.len];exact hl
  obtain⟨e,b,l⟩:=h.at_ i Ws[i] r (by simp[hw]) hi
  exact Q5 l.pos l.cop e
 have hd:=m D dD
 refine⟨p,h.bD.of_le' (Xq h.pos hd),by unfold wholeB;rw[List.length_map],fun i W r hW hr=>?_⟩
 have hrm:=List.mem_of_getElem? hr
 have hl:i<rs.length:=(List.getElem?_eq_some_iff.mp hr).1
 have hw:i<Ws.length:=by rw[h.len];exact hl
 obtain⟨e,b,l⟩:=h.at_ i Ws[i] r (by simp[hw]) hr
 unfold wholeB at hW
 rw[List.getElem?_map,hr] at hW
 cases hW
 refine⟨U9 (d r hrm),?_,l⟩
 obtain⟨k,ek⟩:=hd
 have e1:=U9 (D:=lcmB rs) (d r hrm)
 have hk:Ws[i]=(r.1*(lcmB rs).fdiv r.2)*k:=by
  have:(r.1*(lcmB rs).fdiv r.2*k)*r.2=Ws[i]*r.2:=by
   rw[← e,ek,← Int.mul_assoc,e1]
   grind
  exact (Int.eq_of_mul_eq_mul_right (by have:=l.pos;omega) this).symm
 have hk0:k≠0:=by
  intro z
  rw[z,Int.mul_zero] at ek
  have:=h.pos
  omega
 refine b.of_le' ?_
 rw[hk,Int.natAbs_mul _ k]
 exact Nat.le_mul_of_pos_right _ (by omega)
theorem Ji {a b:Int}(ha:0<a)(hb:0<b):(a.fdiv b).natAbs<=a.natAbs:=by
 rw[Int.fdiv_eq_ediv_of_nonneg _ (by omega)]
 have h1:=Int.ediv_nonneg (show 0<=a by omega) (show 0<=b by omega)
 have h2:=Int.ediv_le_self b (show 0<=a by omega)
 omega
def dot:List Int->List Int->Int
 | x::xs,y::ys=>x*y+dot xs ys
 | _,_=>0
theorem Z04 {n:Nat}:∀ (xs:List Int),(∀ x∈xs,Bd n x)->∀ k,xs.length<=2 ^ k->Bd (n+k) xs.sum:=fun xs h k hk=>by
 have key:∀ (xs:List Int),(∀ x∈xs,Bd n x)->xs.sum.natAbs<=xs.length*(2 ^ n - 1):=fun xs=>by
  induction xs with
  | nil=>intro _;simp
  | cons a t ih =>
   intro h
   have h1:=ih fun x hx=>h x (List.mem_cons_of_mem _ hx)
   have h2:a.natAbs<2 ^ n:=h a List.mem_cons_self
   rw[List.sum_cons,List.length_cons,Nat.succ_mul]
   omega
 have h1:=key xs h
 unfold Bd
 have h2:xs.length*(2 ^ n - 1)<=2 ^ k*(2 ^ n - 1):=Nat.mul_le_mul_right _ hk
 have h3:2 ^ k*(2 ^ n - 1)<2 ^ (n+k):=by
  rw[Nat.pow_add,Nat.mul_comm (2 ^ n)]
  have:0<2 ^ n:=Nat.pow_pos (by decide)
  exact Nat.mul_lt_mul_of_pos_left (by omega) (Nat.pow_pos (by decide))
 omega
theorem J0 {D:Int}(hD:0<D):∀ (Ns:List Int) (zs:List Rat),Ns.length=zs.length->(∀ (i:Nat) (N:Int) (z:Rat),Ns[i]?=some N->zs[i]?=some z->z.1*D=N*z.2/\Low z)->∀ (a:Rat) (A:Int),Low a->a.1*D=A*a.2->(zs.foldl addR a).1*D=(A+Ns.sum)*(zs.foldl addR a).2/\Low (zs.foldl addR a)
 | [],[],_,_,a,A,la,ha=>⟨by simpa using ha,la⟩
 | [],_::_,h,_,_,_,_,_=>by simp at h
 | _::_,[],h,_,_,_,_,_=>by simp at h
 | N::Ns,z::zs,h,hz,a,A,la,ha=>by
  obtain⟨e,lz⟩:=hz 0 N z rfl rfl
  obtain⟨h1,h2⟩:=J0 hD Ns zs (by simpa using h) (fun i N' z' e1 e2=>hz (i+1) N' z' (by simpa using e1) (by simpa using e2)) (addR a z) (A+N) (Sq la lz) (Um la.pos lz.pos ha e)
  refine⟨?_,h2⟩
  rw[List.sum_cons,← Int.add_assoc]
  exact h1
theorem RepL.mul {n n':Nat}{D D':Int}{Ws Rs:List Int}{ws rs:List Rat}(h:RepL n D Ws ws)(h':RepL n' D' Rs rs)(hl:ws.length=rs.length):RepL (n+n') (D*D') (List.zipWith (·*·) Ws Rs) (List.zipWith mulR' ws rs):=by
 refine⟨Int.mul_pos h.pos h'.pos,h.bD.mul h'.bD,by rw[List.length_zipWith,List.length_zipWith,h.len,h'.len],fun i W r hW hr=>?_⟩
 rw[List.getElem?_zipWith] at hW hr
 cases e1:Ws[i]? with
 | none=>rw[e1] at hW;cases hW
 | some x =>
  cases e2:Rs[i]? with
  | none=>rw[e1,e2] at hW;cases hW
  | some y =>
   cases e3:ws[i]? with
   | none=>rw[e3] at hr;cases hr
   | some u =>
    cases e4:rs[i]? with
    | none=>rw[e3,e4] at hr;cases hr
    | some v =>
     rw[e1,e2] at hW
     rw[e3,e4] at hr
     cases hW
     cases hr
     obtain⟨a1,b1,l1⟩:=h.at_ i x u e1 e3
     obtain⟨a2,b2,l2⟩:=h'.at_ i y v e2 e4
     exact⟨Ul l1.pos l2.pos a1 a2,b1.mul b2,W5 l1 l2⟩
theorem RepL.sum {n:Nat}{D:Int}{Ns:List Int}{zs:List Rat}(h:RepL n D Ns zs):(zs.foldl addR (0,1)).1*D=Ns.sum*(zs.foldl addR (0,1)).2/\Low (zs.foldl addR (0,1)):=by
 have:=J0 h.pos Ns zs h.len (fun i N z e1 e2=>⟨(h.at_ i N z e1 e2).1,(h.at_ i N z e1 e2).2.2⟩) (0,1) 0 Uy (by simp)
 rwa [Int.zero_add] at this
theorem RepL.take {n:Nat}{D:Int}{Ns:List Int}{zs:List Rat}(h:RepL n D Ns zs)(i:Nat):RepL n D (Ns.take i) (zs.take i):=by
 refine⟨h.pos,h.bD,by rw[List.length_take,List.length_take,h.len],fun j W r hW hr=>?_⟩
 rw[List.getElem?_take] at hW hr
 split at hW
 ·rename_i q
  rw[if_pos q] at hr
  exact h.at_ j W r hW hr
 ·cases hW
theorem RepL.sumGood {n k:Nat}{D:Int}{Ns:List Int}{zs:List Rat}(h:RepL n D Ns zs)(hk:zs.length<=2 ^ k):Good (n+k) (zs.foldl addR (0,1)):=by
 obtain⟨e,l⟩:=h.sum
 refine Xw h.pos l.pos l.cop e (h.bD.mono (by omega)) (Z04 Ns (fun x hx=>?_) k (by rw[h.len];exact hk))
 obtain⟨i,hi⟩:=List.getElem?_of_mem hx
 have hl:i<Ns.length:=(List.getElem?_eq_some_iff.mp hi).1
 have hz:i<zs.length:=by rw[← h.len];exact hl
 exact (h.at_ i x zs[i] hi (by simp[hz])).2.1
end Sb
namespace Sb
open PySem L2
def sumR (rs:List Rat):Rat:=rs.foldl addR (0,1)
theorem G6 (rs:List Rat)(r:Rat):sumR (rs++[r])=addR (sumR rs) r:=by
 unfold sumR
 rw[List.foldl_append]
 rfl
theorem G5 {rs:List Rat}{i:Nat}{r:Rat}(h:rs[i]?=some r):sumR (rs.take (i+1))=addR (sumR (rs.take i)) r:=by rw[Yf h,G6]
def isW (rs:List Rat):Bool:=!((rs.map fun r=>ltR r (0,1)).any id) && decide (sumR rs=(1,1))
theorem L7:∀ (ns:List Int) (m:Int),(∀ z∈ns,0<=z/\z<=m)->0<=ns.sum/\ns.sum<=m*ns.length
 | [],m,_=>by simp
 | z::t,m,h=>by
  obtain⟨h1,h2⟩:=L7 t m fun x hx=>h x (List.mem_cons_of_mem _ hx)
  obtain⟨h3,h4⟩:=h z List.mem_cons_self
  rw[List.sum_cons,List.length_cons]
  have:m*((t.length+1:Nat):Int)=m*t.length+m:=by rw[Int.natCast_add,Int.mul_add];simp
  omega
theorem Kd:∀ (ns:List Int),(∀ z∈ns,0<=z)->(∃ z∈ns,1<=z)->1<=ns.sum
 | [],_,h=>by obtain⟨z,hz,_⟩:=h;cases hz
 | y::t,h0,h=>by
  have ht:0<=t.sum:=by
   have:∀ l:List Int,(∀ z∈l,0<=z)->0<=l.sum:=fun l=>by
    induction l with
    | nil=>intro _;simp
    | cons a r ih =>
     intro h
     have:=ih fun x hx=>h x (List.mem_cons_of_mem _ hx)
     have:=h a List.mem_cons_self
     rw[List.sum_cons]
     omega
   exact this t fun x hx=>h0 x (List.mem_cons_of_mem _ hx)
  have hy:=h0 y List.mem_cons_self
  rw[List.sum_cons]
  obtain⟨z,hz,h1⟩:=h
  rcases List.mem_cons.mp hz with e | e
  ·subst e;omega
  ·have:=Kd t (fun x hx=>h0 x (List.mem_cons_of_mem _ hx)) ⟨z,e,h1⟩
   omega
end Sb
namespace Sb
theorem Wv {α β:Type}(f:α->β){l:List α}{i:Nat}{x:α}(h:l[i]?=some x):(l.map f).take (i+1)=(l.map f).take i++[f x]:=Yf (by rw[List.getElem?_map,h];rfl)
open Sv (sm Zn X1 Y5 sm_zero Zw Zx Wc)
theorem Yv:∀ (c:Nat) (As Bs:List Int),As.length=c->Bs.length=c->(List.zipWith (·*·) As Bs).sum=sm c (fun i=>As.getD i 0*Bs.getD i 0)
 | 0,As,Bs,h1,h2=>by
  rw[List.eq_nil_of_length_eq_zero h1]
  rfl
 | c+1,As,Bs,h1,h2=>by
  have e1:As=As.take c++[As.getD c 0]:=by
   have:As[c]?=some (As.getD c 0):=by simp[List.getD,show c<As.length by omega]
   rw[← Yf this,List.take_of_length_le (by omega)]
  have e2:Bs=Bs.take c++[Bs.getD c 0]:=by
   have:Bs[c]?=some (Bs.getD c 0):=by simp[List.getD,show c<Bs.length by omega]
   rw[← Yf this,List.take_of_length_le (by omega)]
  have l1:(As.take c).length=c:=by rw[List.length_take];omega
  have l2:(Bs.take c).length=c:=by rw[List.length_take];omega
  have ih:=Yv c (As.take c) (Bs.take c) l1 l2
  conv=>lhs;rw[e1,e2]
  rw[List.zipWith_append (by omega)]
  rw[List.sum_append,ih]
  show _+(As.getD c 0*Bs.getD c 0+0)=sm c _+As.getD c 0*Bs.getD c 0
  rw[Int.add_zero]
  congr 1
  refine Zn fun i hi=>?_
  have g:∀ L:List Int,c<=L.length->(L.take c).getD i 0=L.getD i 0:=fun L hL=>by
   simp[List.getD,List.getElem?_take,hi]
  rw[g As (by omega),g Bs (by omega)]
def cutZ (o:Option (Nat->Bool))(Zs:List Int):List Int:=Zs.mapIdx fun i z=>if inE o i then z else 0
theorem Xh (o:Option (Nat->Bool))(Zs:List Int):(cutZ o Zs).length=Zs.length:=by unfold cutZ;simp
theorem Nf {o:Option (Nat->Bool)}{Zs:List Int}{i:Nat}:(cutZ o Zs)[i]?=(Zs[i]?).map fun z=>if inE o i then z else 0:=by
 unfold cutZ
 rw[List.getElem?_mapIdx]
theorem Xn (o:Option (Nat->Bool))(Zs:List Int)(i:Nat):(cutZ o Zs).getD i 0=if inE o i then Zs.getD i 0 else 0:=by
 simp only [List.getD,Nf]
 cases Zs[i]? with
 | none=>simp
 | some z=>rfl
theorem bd0 (n:Nat):Bd n 0:=by
 show (0:Int).natAbs<2 ^ n
 exact Nat.pow_pos (by decide)
theorem RepL.cut {n:Nat}{D:Int}{Zs:List Int}{rs:List Rat}(h:RepL n D Zs rs)(o:Option (Nat->Bool)):RepL n D (cutZ o Zs) (cutR o rs):=by
 refine⟨h.pos,h.bD,by rw[Xh,Yb,h.len],fun i W r hW hr=>?_⟩
 have hl:i<rs.length:=by
  have:=(List.getElem?_eq_some_iff.mp hr).1
  rwa [Yb] at this
 have hz:i<Zs.length:=by rw[h.len];exact hl
 rw[Yz (r:=rs[i]) (by simp[hl])] at hr
 rw[Nf,show Zs[i]?=some Zs[i] by simp[hz]] at hW
 cases hr
 cases hW
 obtain⟨a,b,l⟩:=h.at_ i Zs[i] rs[i] (by simp[hz]) (by simp[hl])
 split
 ·exact⟨a,b,l⟩
 ·exact⟨by simp,bd0 n,Uy⟩
theorem RepL.ones (c:Nat):RepL 1 1 (List.replicate c 1) (List.replicate c (1,1)):=by
 refine⟨by decide,by show (1:Int).natAbs<2 ^ 1;decide,by simp,fun i W r hW hr=>?_⟩
 have h1:=List.eq_of_mem_replicate (List.mem_of_getElem? hW)
 have h2:=List.eq_of_mem_replicate (List.mem_of_getElem? hr)
 subst h1 h2
 exact⟨rfl,by show (1:Int).natAbs<2 ^ 1;decide,low11⟩
theorem RepL.mono {m n:Nat}{D:Int}{Zs:List Int}{rs:List Rat}(h:RepL m D Zs rs)(k:m<=n):RepL n D Zs rs :=
 ⟨h.pos,h.bD.mono k,h.len,fun i W r hW hr=>⟨(h.at_ i W r hW hr).1,(h.at_ i W r hW hr).2.1.mono k,(h.at_ i W r hW hr).2.2⟩⟩
theorem RepL.of_map {n:Nat}{D:Int}(hD:0<D)(bD:Bd n D){α:Type}(l:List α)(f:α->Rat)(g:α->Int)(h:∀ x∈l,(f x).1*D=g x*(f x).2/\Bd n (g x)/\Low (f x)):RepL n D (l.map g) (l.map f):=by
 refine⟨hD,bD,by simp,fun i W r hW hr=>?_⟩
 rw[List.getElem?_map] at hW hr
 cases e:l[i]? with
 | none=>rw[e] at hW;cases hW
 | some x =>
  rw[e] at hW hr
  cases hW
  cases hr
  exact h x (List.mem_of_getElem? e)
theorem Xj {r:Rat}{D W:Int}(k:Int)(h:r.1*D=W*r.2):r.1*(D*k)=(W*k)*r.2:=by
 rw[← Int.mul_assoc,h,Int.mul_assoc,Int.mul_comm r.2,← Int.mul_assoc]
theorem Du {mi sh q:Rat}{D S M:Int}(hm:0<mi.2)(hs:0<sh.2)(h1:mi.1*(D*6)=M*mi.2)(h2:sh.1*(D*1)=S*sh.2)(hq:q.1*(mi.2*sh.1)=(mi.1*sh.2)*q.2):q.1*(6*S)=M*q.2:=by
 have:(mi.2*sh.2)*(q.1*(6*S))=(mi.2*sh.2)*(M*q.2):=by
  have e1:(mi.2*sh.2)*(q.1*(6*S))=q.1*mi.2*6*(S*sh.2):=by grind
  have e2:(mi.2*sh.2)*(M*q.2)=(M*mi.2)*sh.2*q.2:=by grind
  rw[e1,e2,← h1,← h2]
  have e3:q.1*mi.2*6*(sh.1*(D*1))=(q.1*(mi.2*sh.1))*(6*D):=by grind
  rw[e3,hq]
  grind
 exact Int.eq_of_mul_eq_mul_left (Wu hm hs) this
def FitR (n:Nat)(Ws:List Int)(rs:List Rat):Prop:=∃ (D:Int) (Zs:List Int),RepL n D Zs rs/\(List.zipWith (·*·) Ws Zs).sum<=0
section
variable {c:Nat}{Ws Ro:List Int}{o:Option (Nat->Bool)}
theorem Z1o (lW:Ws.length=c)(lR:Ro.length=c)(t k C:Int) :
  (List.zipWith (·*·) Ws (cutZ o (Ro.map fun z=>t*(z*k - C)))).sum=t*(k*(List.zipWith (·*·) Ws (cutZ o Ro)).sum - C*(List.zipWith (·*·) Ws (cutZ o (List.replicate c 1))).sum):=by
 rw[Yv c _ _ lW (by rw[Xh,List.length_map];exact lR),Yv c _ _ lW (by rw[Xh];exact lR),Yv c _ _ lW (by rw[Xh];simp)]
 have e:∀ i,i<c->Ws.getD i 0*(cutZ o (Ro.map fun z=>t*(z*k - C))).getD i 0=(t*k)*(Ws.getD i 0*(cutZ o Ro).getD i 0)+(-(t*C))*(Ws.getD i 0*(cutZ o (List.replicate c 1)).getD i 0):=fun i hi=>by
  rw[Xn,Xn,Xn]
  have a1:(Ro.map fun z=>t*(z*k - C)).getD i 0=t*(Ro.getD i 0*k - C):=by
   simp[List.getD,show i<Ro.length by omega]
  have a2:(List.replicate c (1:Int)).getD i 0=1:=by simp[List.getD,hi]
  rw[a1,a2]
  split
  ·grind
  ·simp
 rw[Zn e,X1,Y5,Y5]
 grind
end
theorem By {m n k:Nat}{As Bs:List Int}(ha:∀ z∈As,Bd m z)(hb:∀ z∈Bs,Bd n z)(hl:As.length<=2 ^ k):Bd (m+n+k) (List.zipWith (·*·) As Bs).sum:=by
 refine Z04 _ (fun x hx=>?_) k (by rw[List.length_zipWith];omega)
 obtain⟨i,hi⟩:=List.getElem?_of_mem hx
 rw[List.getElem?_zipWith] at hi
 cases e1:As[i]? with
 | none=>rw[e1] at hi;cases hi
 | some a =>
  cases e2:Bs[i]? with
  | none=>rw[e1,e2] at hi;cases hi
  | some b =>
   rw[e1,e2] at hi
   cases hi
   exact (ha a (List.mem_of_getElem? e1)).mul (hb b (List.mem_of_getElem? e2))
theorem RepL.bdW {n:Nat}{D:Int}{Zs:List Int}{rs:List Rat}(h:RepL n D Zs rs):∀ z∈Zs,Bd n z:=fun z hz=>by
 obtain⟨i,hi⟩:=List.getElem?_of_mem hz
 have hl:i<Zs.length:=(List.getElem?_eq_some_iff.mp hi).1
 have hr:i<rs.length:=by rw[← h.len];exact hl
 exact (h.at_ i z rs[i] hi (by simp[hr])).2.1
end Sb
namespace Sb
open PySem L2
structure Goes (J:It)(H:Hp)(xs:List V):Prop where
 go:∀ (i:Nat) (H':Hp),Same H H'->i<xs.length->J.go i H'
 yld:∀ (i:Nat) (H':Hp) (x:V) (H'':Hp),Same H H'->J.yld i H' x H''->H''=H'/\xs[i]?=some x
 stop:∀ H':Hp,Same H H'->J.stop xs.length H'
theorem Z3t {K:W.Frag}{H:Hp}{a:Addr}{xs:List V}(h:SqL K H a xs):Goes (Itl K a) H xs :=
 ⟨fun i H' S hi=>⟨xs,xs[i],Vh S h,by simp[hi]⟩,fun _ _ _ _ S ⟨e,f⟩=>⟨e,f xs (Vh S h)⟩,fun _ S=>⟨xs,Vh S h,Nat.le_refl _⟩⟩
theorem Z3s {K:W.Frag}{H:Hp}{a:Addr}{xs:List V}(h:SqT K H a xs):Goes (Itt K a) H xs :=
 ⟨fun i H' S hi=>⟨xs,xs[i],Zo S h,by simp[hi]⟩,fun _ _ _ _ S ⟨e,f⟩=>⟨e,f xs (Zo S h)⟩,fun _ S=>⟨xs,Zo S h,Nat.le_refl _⟩⟩
section
open PySem.Spec PyProof.Rows
variable {X:Cx}{tg:Expr}
def iAny (K:W.Frag)(tl:TE):TI:=fun σ H R=>tl σ H fun x H1=>∃ (a:Addr) (xs:List V),x=.ref a/\(SqL K H1 a xs \/ SqT K H1 a xs)/\∀ J:It,Goes J H1 xs->R J H1
theorem Z2d {l:Expr}{tl:TE}(hl:PE X l tl):PI X tg l (iAny X.K tl):=by
 intro pins s σ H R I h
 refine thn (hl pins s σ H _ I h) fun v s1 ⟨x,H1,I1,r1,q1⟩=>?_
 obtain⟨a,xs,e,hq | hq,q⟩:=q1
 ·subst e
  cases r1
  obtain⟨its,rv,p,hz⟩:=I1.list hq
  refine wpAny_pyIter_list p.isList ?_
  refine⟨s1.heap.objs.size,[s1.heap.objs.size],_,_,H1,rfl,I1.kept (t':=s1.toks) fun b o e=>Heap.get?_push_of_some _ e,Th a _,⟨_,Heap.get?_push_size _ rfl,rfl,rfl⟩,fun b hb=>?_,q _ (Z3t hq)⟩
  have e:b=s1.heap.objs.size:=by simpa using hb
  subst e
  exact I1.fpOk (Nat.le_refl _) (I1.hok.fresh (Nat.le_refl _))
 ·subst e
  cases r1
  obtain⟨its,rv,p,hz⟩:=I1.tuple hq
  refine wpAny_pyIter_tuple (show s1.heap.IsTuple a its.toArray from p) ?_
  refine⟨s1.heap.objs.size,[s1.heap.objs.size],_,_,H1,rfl,I1.kept (t':=s1.toks) fun b o e=>Heap.get?_push_of_some _ e,Ua a _,⟨_,Heap.get?_push_size _ rfl,rfl,rfl⟩,fun b hb=>?_,q _ (Z3s hq)⟩
  have e:b=s1.heap.objs.size:=by simpa using hb
  subst e
  exact I1.fpOk (Nat.le_refl _) (I1.hok.fresh (Nat.le_refl _))
end
end Sb
namespace Sb
open PySem PySem.Spec PyProof.Rows L2
section
variable {X:Cx}
theorem Wn {i:Nat}{x:Str}{pos' spos:Pos}{elt iter tg:Expr}{ifs:List Expr}{scope:Scope}{pos:Pos}{wi:TI}{g:TG}{tt:TT}{te:TE}{N:List Str}{k:Nat}{fv:List Nat}
  (hXN:X.N.Nodup) (hix:X.N[i]?=some x) (hx:Loc X.env.scope x)
  (hc:X.calm=true) (hi:PI X tg iter wi) (hg:∀ cl C fp s H,PG (compCx X N scope cl C fp s H) tg g) (ht:∀ cl C fp s H,PTs (compCx X N scope cl C fp s H) ifs tt) (he:∀ cl C fp s H,PE (compCx X N scope cl C fp s H) elt te)
  (hw:∀ r x H Q,g x (List.replicate k none++r) H Q->g x (List.replicate k none++r) H fun σ4 H4=>Q σ4 H4/\Weaker σ4 (List.replicate k none++r))
  (hN:N.length=k+fv.length:=by rfl) (hfv:fv.map (fun j=>X.N[j]?)=(N.drop k).map some:=by rfl) (hk:(N.drop k).map X.env.kindOf=(N.drop k).map (fun _=>some .cell):=by rfl)
  (hfl:∀ y∈N.drop k,scope.names.lookup y=some .free:=by decide +kernel) (hfr:∀ y∈scope.names,y.2=.free->y.1∈N.drop k:=by decide +kernel)
  (hcell:∀ y∈scope.names,y.2≠.cell:=by decide +kernel) (hkind:scope.kind=.function:=by rfl) (hnames:∀ y∈scope.names,y.2=.local->scope.names.lookup y.1=some .local:=by decide +kernel)
  (hs:∀ x,foldedSetIterable iter X.env x=pure x:=by intro _;rfl)
  (hsw:swapsWith (.ListComp elt [⟨tg,iter,ifs,0⟩] scope pos) (some (.Name x pos')) spos.line X.env=pure true:=by rfl)
  (hf:X.fn x=true \/ X.env.scope.names.lookup x=some .local:=by first | exact .inl rfl | exact .inr rfl | assumption) :
  PS X (.Assign [.Name x pos'] (.ListComp elt [⟨tg,iter,ifs,0⟩] scope pos) spos) (tAsg (tComp wi g tt te k fv) (gName i)):=by
 intro pins s σ H D I h
 have kc:∀ y∈N.drop k,X.env.kindOf y=some .cell:=fun y hy=>by
  obtain⟨j,hj⟩:=List.getElem?_of_mem hy
  have a:=congrArg (fun l=>l[j]?) hk
  simp only [List.getElem?_map,hj,Option.map_some] at a
  exact Option.some.inj a
 obtain⟨cl,hclos,h1,h2⟩:=U6 (env:=X.env) (scope:=scope) fun y hy hf=>I.ok.has y.1 (.inl (kc y.1 (hfr y hy hf)))
 rw[exec_Assign_Name_used _ _ _ _ hsw]
 refine wpAny_bind (wpAny_standAt (wpAny_bind ?_))
 unfold evalThenUse
 refine wpAny_bind (wpAny_comprehension_free (use:=some (assign (.Name x pos') X.env)) rfl hs hclos hkind hnames (thn (hi pins s σ H _ I h) fun xv s1 h1'=>thn h1' fun itv s2 h2'=>?_))
 obtain⟨it,fp,tn,J,H2,e,I2,T,st2,f2,body⟩:=h2'
 subst e
 refine Q7 (Q:=fun v H1=>gName i v σ H1 D.nx) (RR:=fun acc C=>compPost (model X.prog X.w) X.A X.xe (some (assign (.Name x pos') X.env)) _ acc C) hc hg ht he hw hN hfv hk hfl hcell hkind h1 h2 I2 T st2 f2 body fun Dd C H' s' ⟨m,hm⟩ fpC q iv=>?_
 show wpAny _ _ (assign (.Name x pos') X.env (.ref Dd)) _ _ s'
 have I':Inv X pins σ H' s':=iv s'.heap ⟨rfl,fun _ _=>rfl⟩
 refine wpAny_assign_Name (Qh I' hXN hix hx (v:=.ref Dd) rfl (fun s3 I3 ⟨a,sb,ha⟩=>⟨m,?_,fun h' hs'=>?_⟩) hf)
 ·have hne:C≠a:=by
   rcases ha with rfl | ha
   ·exact fpC.2.1
   ·exact fun z=>fpC.2.2.2.2.1 x a ha z.symm
  obtain⟨o,es,ep,ho,r⟩:=hm
  exact⟨o,es,ep,by rw[sb.2 C hne];exact ho,r⟩
 ·refine wpAny_pure (wpAny_pure ?_)
  have I4:=T8 (ch:=[C]) (h':=h') (t':=s3.toks) I3 (fun b hb=>by rw[List.mem_singleton.mp hb];exact fpC) fun b o hb e=>by
   rw[hs'.2 b (fun z=>hb (by rw[z];exact List.mem_singleton.mpr rfl))]
   exact e
  exact⟨_,H',I4,q⟩
end
end Sb
namespace Sb
open PySem L2
theorem Tt {K:W.Frag}{a:Addr}{xs:List V}{g:TG}{tb:TS}{D:Ends}{σ:L2.St}{H:Hp}(Pv:Nat->L2.St->Hp->Prop)(h0:Pv 0 σ H)(hl:∀ i σ H,i<=xs.length->Pv i σ H->SqL K H a xs)
  (hs:∀ i x σ H p,xs[i]?=some x->Pv i σ H->H p=none->g (.ref p) σ (upd H p (.tup [.int (i:Int),x])) fun σ2 H2=>tb { D with nx:=Pv (i+1),ct:=Pv (i+1),bk:=D.nx } σ2 H2) (hd:∀ σ H,Pv xs.length σ H->D.nx σ H) :
  ∃ W:Nat->Nat->L2.St->Hp->Prop,(∃ m,W 0 m σ H)/\∀ i m σ H,W i m σ H →
   ((IteL K a).stop i H/\D.nx σ H) \/ ((IteL K a).go i H/\∃ N:L2.St->Hp->Prop,(∀ σ' H',N σ' H'->∃ m',m'<m/\W (i+1) m' σ' H')/\∀ x H',(IteL K a).yld i H x H'->g x σ H' fun σ2 H2=>tb { D with nx:=N,ct:=N,bk:=D.nx } σ2 H2):=by
 refine⟨fun i m σ H=>m=xs.length - i/\i<=xs.length/\Pv i σ H,⟨xs.length,by simp,Nat.zero_le _,h0⟩,?_⟩
 rintro i m σ H ⟨rfl,hi,p⟩
 have q:=hl i σ H hi p
 by_cases hlt:i<xs.length
 ·refine .inr ⟨⟨xs,q,hlt⟩,Pv (i+1),fun σ' H' p'=>⟨xs.length - (i+1),by omega,rfl,hlt,p'⟩,fun x H' y=>?_⟩
  obtain⟨pp,x0,rfl,hp,rfl,fx⟩:=y
  exact hs i x0 σ H pp (fx xs q) p hp
 ·have e:i=xs.length:=by omega
  subst e
  exact .inl ⟨⟨xs,q,rfl⟩,hd σ H p⟩
theorem Paired.appP {α β:Type}{R:α->β->Prop}:∀ {xs xs':List α} {ys ys':List β},Paired R xs ys->Paired R xs' ys'->Paired R (xs++xs') (ys++ys')
 | _,_,_,_,.nil,s=>s
 | _,_,_,_,.cons r t,s=>.cons r (Paired.appP t s)
section
variable {K:W.Frag}
def RowsAt (K:W.Frag)(H:Hp)(l:Addr)(rss:List (List Rat)):Prop:=∃ as:List Addr,H l=some (.lst (as.map V.ref))/\Paired (RowAt K H) as rss
theorem Xr {H H':Hp}{as:List Addr}{rss:List (List Rat)}(h:Paired (RowAt K H) as rss)(x:Ext H H'):Paired (RowAt K H') as rss:=Paired.mapP h fun _ _ q=>q.ext x
end
theorem Mi {c A B:Prop}[Decidable c](hc:¬ c)(h:A):if (!decide c)=true then A else B:=by
 rw[decide_eq_false hc]
 exact Rx h
end Sb
namespace Sv
structure Tab where
 b:Int
 own:Nat->Nat
 hd:Nat->Nat
 L:Nat->Nat->Int
def colOf (n:Nat)(col:Nat->Vec)(rhs:Vec)(T:Tab)(j:Nat):Vec:=if j<n then col (T.hd j) else rhs
def bas (col:Nat->Vec)(T:Tab):Mat:=fun i=>col (T.own i)
structure Inv (m n:Nat)(col:Nat->Vec)(rhs:Vec)(T:Tab):Prop where
 pos:0<T.b
 dt:det m (bas col T)=T.b
 eqs:∀ j,j<=n->∀ r,r<m->T.b*colOf n col rhs T j r=sm m (fun i=>T.L i j*bas col T i r)
 part:∀ f:Nat->Int,sm (n+m) f=sm m (fun i=>f (T.own i))+sm n (fun j=>f (T.hd j))
section
variable {m n:Nat}{col:Nat->Vec}{rhs:Vec}{T:Tab}
theorem Ng {a x y:Int}(h:0<a)(e:a*x=a*y):x=y:=Int.eq_of_mul_eq_mul_left (by omega) e
theorem Nc {i k:Nat}(hi:i<m)(hk:k<m):det m (put (bas col T) i (bas col T k))=if k=i then det m (bas col T) else 0:=by
 by_cases e:k=i
 ·subst e
  rw[if_pos rfl,Vl]
 ·rw[if_neg e]
  exact Q6 hi hk (Ne.symm e) (by rw[Y9,Y3 e])
theorem Inv.phi (I:Inv m n col rhs T){i j:Nat}(hi:i<m)(hj:j<=n):det m (put (bas col T) i (colOf n col rhs T j))=T.L i j:=by
 refine Ng I.pos ?_
 rw[← Mr hi]
 have e1:det m (put (bas col T) i (fun r=>T.b*colOf n col rhs T j r))=det m (put (bas col T) i (fun r=>sm m (fun k=>T.L k j*bas col T k r))):=by
  refine Xe fun k r hk hr=>?_
  by_cases e:k=i
  ·subst e
   rw[Y9,Y9]
   exact I.eqs j hj r hr
  ·rw[Y3 e,Y3 e]
 rw[e1,T9 hi]
 rw[sm_one (k:=i) hi fun k hk hne=>?_]
 ·rw[Nc hi hi,if_pos rfl,I.dt,Int.mul_comm]
 ·rw[Nc hi hk,if_neg hne,Int.mul_zero]
theorem Inv.phiO (I:Inv m n col rhs T){i k:Nat}(hi:i<m)(hk:k<m):det m (put (bas col T) i (bas col T k))=if k=i then T.b else 0:=by
 rw[Nc hi hk,I.dt]
theorem Inv.two (I:Inv m n col rhs T){p i c j:Nat}(hp:p<m)(hi:i<m)(hpi:i≠p)(hc:c<=n)(hj:j<=n) :
  T.b*det m (put (put (bas col T) p (colOf n col rhs T c)) i (colOf n col rhs T j))=T.L i j*T.L p c - T.L i c*T.L p j:=by
 rw[Xs (Ne.symm hpi),← Mr hp]
 have e1:det m (put (put (bas col T) i (colOf n col rhs T j)) p (fun r=>T.b*colOf n col rhs T c r))=det m (put (put (bas col T) i (colOf n col rhs T j)) p (fun r=>sm m (fun k=>T.L k c*bas col T k r))):=by
  refine Xe fun k r hk hr=>?_
  by_cases e:k=p
  ·subst e
   rw[Y9,Y9]
   exact I.eqs c hc r hr
  ·rw[Y3 e,Y3 e]
 rw[e1,T9 hp]
 rw[D8 (p:=p) (q:=i) hp hi (Ne.symm hpi) fun k hk h1 h2=>?_]
 ·have a1:put (put (bas col T) i (colOf n col rhs T j)) p (bas col T p)=put (bas col T) i (colOf n col rhs T j):=by
   rw[Xs hpi,Vl]
  have a2:det m (put (put (bas col T) i (colOf n col rhs T j)) p (bas col T i))=- T.L p j:=by
   rw[Bz hi hp hpi,Vl,I.phi hp hj]
  rw[a1,a2,I.phi hi hj]
  grind
 ·rw[Q6 (p:=p) (q:=k) hp hk (Ne.symm h1) (by rw[Y9,Y3 h1,Y3 h2]),Int.mul_zero]
def newL (T:Tab)(p c i j:Nat):Int:=if i=p then (if j=c then T.b else T.L p j) else if j=c then - T.L i c else (T.L i j*T.L p c - T.L i c*T.L p j).fdiv T.b
def up (f:Nat->Nat)(i v:Nat):Nat->Nat:=fun k=>if k=i then v else f k
def piv (T:Tab)(p c:Nat):Tab:=⟨T.L p c,up T.own p (T.hd c),up T.hd c (T.own p),newL T p c⟩
theorem Inv.newL_mul (I:Inv m n col rhs T){p c i j:Nat}(hp:p<m)(hc:c<n)(hi:i<m)(hj:j<=n)(h1:i≠p)(h2:j≠c):T.b*newL T p c i j=T.L i j*T.L p c - T.L i c*T.L p j:=by
 have h:=I.two hp hi h1 (Nat.le_of_lt hc) hj
 unfold newL
 rw[if_neg h1,if_neg h2,← h]
 rw[Int.mul_comm T.b (det m _),Int.mul_fdiv_cancel _ (by have:=I.pos;omega)]
 rw[Int.mul_comm]
theorem Z1u {k:Nat}{f:Nat->Int}{g:Nat->Nat}{i v:Nat}(hi:i<k):sm k (fun x=>f (up g i v x))=sm k (fun x=>f (g x))+f v - f (g i):=by
 rw[Zx (k:=i) hi,Zx (f:=fun x=>f (g x)) (k:=i) hi]
 have e:sm k (fun x=>if x=i then 0 else f (up g i v x))=sm k (fun x=>if x=i then 0 else f (g x)):=Zn fun x _=>by
  by_cases h:x=i
  ·rw[if_pos h,if_pos h]
  ·rw[if_neg h,if_neg h];unfold up;rw[if_neg h]
 rw[e]
 have:up g i v i=v:=if_pos rfl
 show f (up g i v i)+_=_
 rw[this]
 omega
theorem Jo (T:Tab)(p c:Nat):bas col (piv T p c)=put (bas col T) p (col (T.hd c)):=by
 funext i
 show col (up T.own p (T.hd c) i)=_
 by_cases e:i=p
 ·subst e
  rw[Y9]
  unfold up
  rw[if_pos rfl]
 ·rw[Y3 e]
  unfold up
  rw[if_neg e]
  rfl
theorem Wm {j:Nat}(h:j<n):colOf n col rhs T j=col (T.hd j):=if_pos h
theorem Inv.piv (I:Inv m n col rhs T){p c:Nat}(hp:p<m)(hc:c<n)(hk:0<T.L p c):Inv m n col rhs (piv T p c):=by
 refine⟨hk,?_,fun j hj r hr=>?_,fun f=>?_⟩
 ·rw[Jo,← Wm (col:=col) (rhs:=rhs) (T:=T) hc,I.phi hp (Nat.le_of_lt hc)]
  rfl
 ·rw[Jo]
  show T.L p c*colOf n col rhs (Sv.piv T p c) j r=sm m (fun i=>newL T p c i j*put (bas col T) p (col (T.hd c)) i r)
  have ec:=I.eqs c (Nat.le_of_lt hc) r hr
  rw[Wm hc,Zx (k:=p) hp] at ec
  rw[Zx (k:=p) hp,Y9]
  by_cases e:j=c
  ·subst e
   have e1:colOf n col rhs (Sv.piv T p j) j=bas col T p:=by
    rw[Wm hc]
    show col (up T.hd j (T.own p) j)=_
    unfold up
    rw[if_pos rfl]
    rfl
   have e2:sm m (fun i=>if i=p then 0 else newL T p j i j*put (bas col T) p (col (T.hd j)) i r)=(-1)*sm m (fun i=>if i=p then 0 else T.L i j*bas col T i r):=by
    rw[← Y5]
    refine Zn fun i hi=>?_
    by_cases h:i=p
    ·rw[if_pos h,if_pos h];rfl
    ·rw[if_neg h,if_neg h,Y3 h]
     unfold newL
     rw[if_neg h,if_pos rfl]
     grind
   have e3:newL T p j p j=T.b:=by unfold newL;rw[if_pos rfl,if_pos rfl]
   rw[e1,e2,e3]
   omega
  ·have ej:=I.eqs j hj r hr
   rw[Zx (k:=p) hp] at ej
   have e1:colOf n col rhs (Sv.piv T p c) j=colOf n col rhs T j:=by
    unfold colOf
    by_cases q:j<n
    ·rw[if_pos q,if_pos q]
     show col (up T.hd c (T.own p) j)=_
     unfold up
     rw[if_neg e]
    ·rw[if_neg q,if_neg q]
   have e3:newL T p c p j=T.L p j:=by unfold newL;rw[if_pos rfl,if_neg e]
   refine Ng I.pos ?_
   have e2:T.b*sm m (fun i=>if i=p then 0 else newL T p c i j*put (bas col T) p (col (T.hd c)) i r)=T.L p c*sm m (fun i=>if i=p then 0 else T.L i j*bas col T i r)+(- T.L p j)*sm m (fun i=>if i=p then 0 else T.L i c*bas col T i r):=by
    rw[← Y5,← Y5,← Y5,← X1]
    refine Zn fun i hi=>?_
    by_cases h:i=p
    ·rw[if_pos h,if_pos h,if_pos h];simp
    ·rw[if_neg h,if_neg h,if_neg h,Y3 h,← Int.mul_assoc,I.newL_mul hp hc hi hj h e]
     grind
   rw[e1,e3,Int.mul_add,e2]
   generalize sm m (fun i=>if i=p then 0 else T.L i j*bas col T i r)=A at *
   generalize sm m (fun i=>if i=p then 0 else T.L i c*bas col T i r)=B at *
   generalize colOf n col rhs T j r=x at *
   generalize col (T.hd c) r=y at *
   generalize bas col T p r=z at *
   clear e2
   grind
 ·show sm (n+m) f=sm m (fun i=>f (up T.own p (T.hd c) i))+sm n (fun j=>f (up T.hd c (T.own p) j))
  rw[Z1u hp,Z1u hc,I.part f]
  omega
def ind (v:Nat):Nat->Int:=fun x=>if x=v then 1 else 0
theorem Tr (v x:Nat):0<=ind v x:=by unfold ind;split <;> omega
theorem Inv.cnt (I:Inv m n col rhs T){v:Nat}(h:v<n+m):sm m (fun i=>ind v (T.own i))+sm n (fun j=>ind v (T.hd j))=1:=by
 rw[← I.part (ind v),sm_one (f:=ind v) (k:=v) h fun i hi hne=>if_neg hne]
 exact if_pos rfl
theorem Inv.big (I:Inv m n col rhs T):sm m (fun i=>if T.own i<n+m then (0:Int) else 1)+sm n (fun j=>if T.hd j<n+m then (0:Int) else 1)=0:=by
 rw[← I.part (fun x=>if x<n+m then 0 else 1)]
 exact sm_zero fun i hi=>if_pos hi
theorem Inv.ownLt (I:Inv m n col rhs T){i:Nat}(hi:i<m):T.own i<n+m:=by
 apply Classical.byContradiction
 intro h
 have e:=I.big
 have h1:0<=sm n (fun j=>if T.hd j<n+m then (0:Int) else 1):=Zw fun j _=>by split <;> omega
 rw[Zx (k:=i) hi,if_neg h] at e
 have h2:0<=sm m (fun x=>if x=i then 0 else if T.own x<n+m then (0:Int) else 1):=Zw fun j _=>by split <;> (try split) <;> omega
 omega
theorem Inv.hdLt (I:Inv m n col rhs T){j:Nat}(hj:j<n):T.hd j<n+m:=by
 apply Classical.byContradiction
 intro h
 have e:=I.big
 have h1:0<=sm m (fun j=>if T.own j<n+m then (0:Int) else 1):=Zw fun j _=>by split <;> omega
 rw[Zx (f:=fun j=>if T.hd j<n+m then (0:Int) else 1) (k:=j) hj,if_neg h] at e
 have h2:0<=sm n (fun x=>if x=j then 0 else if T.hd x<n+m then (0:Int) else 1):=Zw fun j _=>by split <;> (try split) <;> omega
 omega
theorem Inv.ne (I:Inv m n col rhs T){i j:Nat}(hi:i<m)(hj:j<n):T.own i≠T.hd j:=fun h=>by
 have e:=I.cnt (I.ownLt hi)
 rw[Zx (k:=i) hi,Zx (f:=fun x=>ind (T.own i) (T.hd x)) (k:=j) hj] at e
 have a1:ind (T.own i) (T.own i)=1:=if_pos rfl
 have a2:ind (T.own i) (T.hd j)=1:=if_pos h.symm
 have h1:0<=sm m (fun x=>if x=i then 0 else ind (T.own i) (T.own x)):=Zw fun x _=>by split;omega;exact Tr ..
 have h2:0<=sm n (fun x=>if x=j then 0 else ind (T.own i) (T.hd x)):=Zw fun x _=>by split;omega;exact Tr ..
 omega
theorem Inv.ownInj (I:Inv m n col rhs T){i k:Nat}(hi:i<m)(hk:k<m)(h:T.own i=T.own k):i=k:=by
 apply Classical.byContradiction
 intro hne
 have e:=I.cnt (I.ownLt hi)
 rw[Zx (k:=i) hi,Zx (f:=fun x=>if x=i then 0 else ind (T.own i) (T.own x)) (k:=k) hk] at e
 have a1:ind (T.own i) (T.own i)=1:=if_pos rfl
 rw[if_neg (Ne.symm hne)] at e
 have a2:ind (T.own i) (T.own k)=1:=if_pos h.symm
 have h1:0<=sm m (fun x=>if x=k then 0 else if x=i then 0 else ind (T.own i) (T.own x)):=Zw fun x _=>by split;omega;split;omega;exact Tr ..
 have h2:0<=sm n (fun x=>ind (T.own i) (T.hd x)):=Zw fun x _=>Tr ..
 omega
theorem Inv.hdInj (I:Inv m n col rhs T){i k:Nat}(hi:i<n)(hk:k<n)(h:T.hd i=T.hd k):i=k:=by
 apply Classical.byContradiction
 intro hne
 have e:=I.cnt (I.hdLt hi)
 rw[Zx (f:=fun x=>ind (T.hd i) (T.hd x)) (k:=i) hi,Zx (f:=fun x=>if x=i then 0 else ind (T.hd i) (T.hd x)) (k:=k) hk] at e
 have a1:ind (T.hd i) (T.hd i)=1:=if_pos rfl
 rw[if_neg (Ne.symm hne)] at e
 have a2:ind (T.hd i) (T.hd k)=1:=if_pos h.symm
 have h1:0<=sm n (fun x=>if x=k then 0 else if x=i then 0 else ind (T.hd i) (T.hd x)):=Zw fun x _=>by split;omega;split;omega;exact Tr ..
 have h2:0<=sm m (fun x=>ind (T.hd i) (T.own x)):=Zw fun x _=>Tr ..
 omega
theorem Inv.cover (I:Inv m n col rhs T){v:Nat}(h:v<n+m):(∃ i,i<m/\T.own i=v) \/ (∃ j,j<n/\T.hd j=v):=by
 have e:=I.cnt h
 by_cases q:0<sm m (fun i=>ind v (T.own i))
 ·obtain⟨i,hi,hp⟩:=L9 q
  refine .inl ⟨i,hi,?_⟩
  apply Classical.byContradiction
  intro z
  rw[show ind v (T.own i)=0 from if_neg z] at hp
  omega
 ·have:0<sm n (fun j=>ind v (T.hd j)):=by omega
  obtain⟨i,hi,hp⟩:=L9 this
  refine .inr ⟨i,hi,?_⟩
  apply Classical.byContradiction
  intro z
  rw[show ind v (T.hd i)=0 from if_neg z] at hp
  omega
theorem Inv.row (I:Inv m n col rhs T){i:Nat}(hi:i<m)(x:Nat->Int)(hx:∀ r,r<m->sm (n+m) (fun v=>x v*col v r)=0):T.b*x (T.own i)+sm n (fun j=>T.L i j*x (T.hd j))=0:=by
 have e1:det m (put (bas col T) i (fun r=>sm (n+m) (fun v=>x v*col v r)))=0:=by
  rw[← Mq (m:=m) (v:=bas col T) (c:=i) hi]
  refine Xe fun k r hk hr=>?_
  by_cases e:k=i
  ·subst e
   rw[Y9,Y9]
   exact hx r hr
  ·rw[Y3 e,Y3 e]
 rw[T9 hi,I.part] at e1
 have e2:sm m (fun k=>x (T.own k)*det m (put (bas col T) i (col (T.own k))))=T.b*x (T.own i):=by
  rw[sm_one (k:=i) hi fun k hk hne=>?_]
  ·have:=I.phiO hi hi
   rw[if_pos rfl] at this
   show x (T.own i)*det m (put (bas col T) i (bas col T i))=_
   rw[this,Int.mul_comm]
  ·have:=I.phiO hi hk
   rw[if_neg hne] at this
   show x (T.own k)*det m (put (bas col T) i (bas col T k))=_
   rw[this,Int.mul_zero]
 have e3:sm n (fun j=>x (T.hd j)*det m (put (bas col T) i (col (T.hd j))))=sm n (fun j=>T.L i j*x (T.hd j)):=Zn fun j hj=>by
  have:=I.phi (i:=i) (j:=j) hi (Nat.le_of_lt hj)
  rw[Wm hj] at this
  rw[this,Int.mul_comm]
 rw[e2,e3] at e1
 exact e1
def dir (m:Nat)(T:Tab)(c:Nat):Nat->Int:=fun v=>(if v=T.hd c then T.b else 0) + - sm m (fun i=>if T.own i=v then T.L i c else 0)
theorem Inv.dirO (I:Inv m n col rhs T){c i:Nat}(hc:c<n)(hi:i<m):dir m T c (T.own i)=- T.L i c:=by
 unfold dir
 rw[if_neg (I.ne hi hc),sm_one (k:=i) hi fun k hk hne=>if_neg fun z=>hne (I.ownInj hk hi z),if_pos rfl]
 omega
theorem Inv.dirH (I:Inv m n col rhs T){c j:Nat}(hc:c<n)(hj:j<n):dir m T c (T.hd j)=if j=c then T.b else 0:=by
 unfold dir
 rw[sm_zero (f:=fun i=>if T.own i=T.hd j then T.L i c else 0) fun k hk=>if_neg (I.ne hk hj)]
 by_cases e:j=c
 ·subst e
  rw[if_pos rfl,if_pos rfl]
  omega
 ·rw[if_neg e,if_neg fun z=>e (I.hdInj hj hc z)]
  omega
theorem Inv.dirSol (I:Inv m n col rhs T){c:Nat}(hc:c<n){r:Nat}(hr:r<m):sm (n+m) (fun v=>dir m T c v*col v r)=0:=by
 rw[I.part]
 have e1:sm m (fun i=>dir m T c (T.own i)*col (T.own i) r)=(-1)*sm m (fun i=>T.L i c*bas col T i r):=by
  rw[← Y5]
  refine Zn fun i hi=>?_
  rw[I.dirO hc hi]
  show _=-1*(T.L i c*col (T.own i) r)
  grind
 have e2:sm n (fun j=>dir m T c (T.hd j)*col (T.hd j) r)=T.b*col (T.hd c) r:=by
  rw[sm_one (k:=c) hc fun j hj hne=>by rw[I.dirH hc hj,if_neg hne,Int.zero_mul],I.dirH hc hc,if_pos rfl]
 have e3:=I.eqs c (Nat.le_of_lt hc) r hr
 rw[Wm hc] at e3
 rw[e1,e2,e3]
 omega
end
end Sv
namespace Sv
section
variable {m n lk i0:Nat}{col:Nat->Vec}{rhs:Vec}{T:Tab}{p c:Nat}
structure Step (m n lk i0:Nat)(T:Tab)(p c:Nat):Prop where
 hp:p<m
 hc:c<n
 nl:T.hd c≠lk
 help:0<T.L i0 c
 first:∀ j,j<n->T.hd j≠lk->0<T.L i0 j->T.hd c<=T.hd j
 el:T.own p<=lk
 key:0<T.L p c
 least:∀ i,i<m->T.own i<=lk->0<T.L i c->T.L p n*T.L i c<T.L i n*T.L p c \/ (T.L p n*T.L i c=T.L i n*T.L p c/\T.own p<=T.own i)
def Feas (m n lk:Nat)(T:Tab):Prop:=∀ i,i<m->T.own i<=lk->0<=T.L i n
theorem Gx {a x:Int}(ha:0<a)(h:0<=a*x):0<=x:=by
 apply Classical.byContradiction
 intro z
 have:=Int.mul_neg_of_pos_of_neg ha (show x<0 by omega)
 omega
theorem Inv.end_ne (I:Inv m n col rhs T)(s:Step m n lk i0 T p c){i:Nat}(hi:i<m)(h:i≠p):T.b*(Sv.piv T p c).L i n=T.L i n*T.L p c - T.L i c*T.L p n :=
 I.newL_mul s.hp s.hc hi (Nat.le_refl n) h (by have:=s.hc;omega)
theorem Z26 (s:Step m n lk i0 T p c):(piv T p c).L p n=T.L p n:=by
 show newL T p c p n=_
 unfold newL
 rw[if_pos rfl,if_neg (by have:=s.hc;omega)]
theorem own_p:(piv T p c).own p=T.hd c:=if_pos rfl
theorem own_ne {i:Nat}(h:i≠p):(piv T p c).own i=T.own i:=if_neg h
theorem Step.feas (I:Inv m n col rhs T)(s:Step m n lk i0 T p c)(F:Feas m n lk T):Feas m n lk (piv T p c):=fun i hi ho=>by
 by_cases e:i=p
 ·subst e
  rw[Z26 s]
  exact F i hi s.el
 ·rw[own_ne e] at ho
  have h:=I.end_ne s hi e
  have h0:=F i hi ho
  have h1:=F p s.hp s.el
  refine Gx I.pos ?_
  rw[h]
  by_cases q:0<T.L i c
  ·rcases s.least i hi ho q with z | ⟨z,_⟩
   ·rw[Int.mul_comm (T.L i c)];omega
   ·rw[Int.mul_comm (T.L i c)];omega
  ·have a1:0<=T.L i n*T.L p c:=Int.mul_nonneg h0 (by have:=s.key;omega)
   have a2:T.L i c*T.L p n<=0:=Int.mul_nonpos_of_nonpos_of_nonneg (by omega) h1
   omega
structure Run (m n lk i0:Nat)(col:Nat->Vec)(rhs:Vec)(K:Nat)(S:Nat->Tab)(P C:Nat->Nat):Prop where
 h0:i0<m
 I0:Inv m n col rhs (S 0)
 F0:Feas m n lk (S 0)
 st:∀ k,k<K->Step m n lk i0 (S k) (P k) (C k)
 stay:∀ k,k<K->P k≠i0
 nx:∀ k,k<K->S (k+1)=piv (S k) (P k) (C k)
variable {K:Nat}{S:Nat->Tab}{P C:Nat->Nat}
theorem Run.inv (R:Run m n lk i0 col rhs K S P C):∀ k,k<=K->Inv m n col rhs (S k)/\Feas m n lk (S k)
 | 0,_=>⟨R.I0,R.F0⟩
 | k+1,h=>by
  obtain⟨I,F⟩:=R.inv k (by omega)
  have s:=R.st k (by omega)
  rw[R.nx k (by omega)]
  exact⟨I.piv s.hp s.hc s.key,s.feas I F⟩
theorem Run.down (R:Run m n lk i0 col rhs K S P C){a:Nat}:∀ d,a+d<=K->(S (a+d)).L i0 n*(S a).b<=(S a).L i0 n*(S (a+d)).b/\((∃ l,a<=l/\l<a+d/\0<(S l).L (P l) n)->(S (a+d)).L i0 n*(S a).b<(S a).L i0 n*(S (a+d)).b)
 | 0,_=>⟨Int.le_refl _,fun ⟨l,h1,h2,_⟩=>by omega⟩
 | d+1,h=>by
  obtain⟨h1,h2⟩:=R.down (a:=a) d (by omega)
  obtain⟨I,F⟩:=R.inv (a+d) (by omega)
  obtain⟨Ia,_⟩:=R.inv a (by omega)
  have s:=R.st (a+d) (by omega)
  have e:=I.end_ne s R.h0 (Ne.symm (R.stay (a+d) (by omega)))
  have eb:(piv (S (a+d)) (P (a+d)) (C (a+d))).b=(S (a+d)).L (P (a+d)) (C (a+d)):=rfl
  rw[← Nat.add_assoc,R.nx (a+d) (by omega),eb]
  have hn:=F (P (a+d)) s.hp s.el
  have hh:=s.help
  have hk:=s.key
  have hb:=I.pos
  have ha:=Ia.pos
  have hd:0<=(S (a+d)).L i0 (C (a+d))*(S (a+d)).L (P (a+d)) n:=Int.mul_nonneg (by omega) hn
  have hds:0<(S (a+d)).L (P (a+d)) n->0<(S (a+d)).L i0 (C (a+d))*(S (a+d)).L (P (a+d)) n:=fun z=>Int.mul_pos hh z
  have hs:(∃ l,a<=l/\l<a+d+1/\0<(S l).L (P l) n)->(∃ l,a<=l/\l<a+d/\0<(S l).L (P l) n) \/ 0<(S (a+d)).L (P (a+d)) n:=fun ⟨l,l1,l2,l3⟩=>by
   by_cases q:l=a+d
   ·subst q;exact .inr l3
   ·exact .inl ⟨l,l1,by omega,l3⟩
  generalize (piv (S (a+d)) (P (a+d)) (C (a+d))).L i0 n=x' at *
  generalize (S (a+d)).L i0 n=x at *
  generalize (S (a+d)).b=b at *
  generalize (S (a+d)).L (P (a+d)) (C (a+d))=b' at *
  generalize (S a).b=ba at *
  generalize (S a).L i0 n=xa at *
  generalize (S (a+d)).L i0 (C (a+d))*(S (a+d)).L (P (a+d)) n=t at *
  have e1:b*(x'*ba)=x*ba*b' - t*ba:=by
   have:b*(x'*ba)=(b*x')*ba:=by grind
   rw[this,e];grind
  have e2:b*(xa*b')=(xa*b)*b':=by grind
  have m1:x*ba*b'<=xa*b*b':=Int.mul_le_mul_of_nonneg_right h1 (by omega)
  have m2:0<=t*ba:=Int.mul_nonneg hd (by omega)
  constructor
  ·exact Int.le_of_mul_le_mul_left (show b*(x'*ba)<=b*(xa*b') by omega) hb
  ·intro z
   rcases hs z with z | z
   ·have m3:x*ba*b'<xa*b*b':=Int.mul_lt_mul_of_pos_right (h2 z) hk
    exact Int.lt_of_mul_lt_mul_left (show b*(x'*ba)<b*(xa*b') by omega) (by omega)
   ·have m3:0<t*ba:=Int.mul_pos (hds z) ha
    exact Int.lt_of_mul_lt_mul_left (show b*(x'*ba)<b*(xa*b') by omega) (by omega)
def isOwn (m:Nat)(T:Tab)(r:Nat):Prop:=∃ i,i<m/\T.own i=r
def Zr (m n:Nat)(T:Tab)(r:Nat):Prop:=∀ i,i<m->T.own i=r->T.L i n=0
theorem K3 {r:Nat}(h:isOwn m T r)(hr:r≠T.own p):isOwn m (piv T p c) r:=by
 obtain⟨i,hi,rfl⟩:=h
 have:i≠p:=fun z=>hr (by rw[z])
 exact⟨i,hi,own_ne this⟩
theorem Ff {r:Nat}(h:¬ isOwn m T r)(hr:r≠T.hd c):¬ isOwn m (piv T p c) r:=fun ⟨i,hi,e⟩=>by
 by_cases q:i=p
 ·subst q
  rw[own_p] at e
  exact hr e.symm
 ·rw[own_ne q] at e
  exact h ⟨i,hi,e⟩
theorem Z39 (I:Inv m n col rhs T)(s:Step m n lk i0 T p c)(h0:T.L p n=0){r:Nat}:(Zr m n T r->Zr m n (piv T p c) r)/\(Zr m n (piv T p c) r->Zr m n T r):=by
 have hb:=I.pos
 have hk:=s.key
 refine⟨fun h i hi e=>?_,fun h i hi e=>?_⟩
 ·by_cases q:i=p
  ·subst q
   rw[Z26 s];exact h0
  ·rw[own_ne q] at e
   have:=I.end_ne s hi q
   rw[h i hi e,h0] at this
   refine Ng hb ?_
   rw[this];simp
 ·by_cases q:i=p
  ·subst q;exact h0
  ·have:=I.end_ne s hi q
   rw[h i hi (by rw[own_ne q];exact e),h0] at this
   refine Ng hk ?_
   have e2:T.L p c*T.L i n=T.L i n*T.L p c:=Int.mul_comm ..
   rw[e2]
   simp at this
   simp
   omega
theorem Run.Zall (R:Run m n lk i0 col rhs K S P C){a d0:Nat}(hK:a+d0<=K)(hz:∀ l,a<=l->l<a+d0->(S l).L (P l) n=0){r:Nat}:∀ d,d<=d0->(Zr m n (S (a+d)) r ↔ Zr m n (S a) r)
 | 0,_=>Iff.rfl
 | d+1,h=>by
  have ih:=R.Zall hK hz (r:=r) d (by omega)
  obtain⟨I,_⟩:=R.inv (a+d) (by omega)
  obtain⟨z1,z2⟩:=Z39 I (R.st (a+d) (by omega)) (hz (a+d) (by omega) (by omega)) (r:=r)
  rw[← Nat.add_assoc,R.nx (a+d) (by omega)]
  exact⟨fun h=>ih.mp (z2 h),fun h=>z1 (ih.mpr h)⟩
theorem Run.keeps (R:Run m n lk i0 col rhs K S P C){k r:Nat}(h:isOwn m (S k) r):∀ d,k+d<=K->(∀ l,k<=l->l<k+d->(S l).own (P l)≠r)->isOwn m (S (k+d)) r
 | 0,_,_=>h
 | d+1,hK,hl=>by
  have ih:=R.keeps h d (by omega) fun l h1 h2=>hl l h1 (by omega)
  rw[← Nat.add_assoc,R.nx (k+d) (by omega)]
  exact K3 ih (Ne.symm (hl (k+d) (by omega) (by omega)))
theorem Run.keepsN (R:Run m n lk i0 col rhs K S P C){k r:Nat}(h:¬ isOwn m (S k) r):∀ d,k+d<=K->(∀ l,k<=l->l<k+d->(S l).hd (C l)≠r)->¬ isOwn m (S (k+d)) r
 | 0,_,_=>h
 | d+1,hK,hl=>by
  have ih:=R.keepsN h d (by omega) fun l h1 h2=>hl l h1 (by omega)
  rw[← Nat.add_assoc,R.nx (k+d) (by omega)]
  exact Ff ih (Ne.symm (hl (k+d) (by omega) (by omega)))
theorem Cv (f:Nat->Nat)(a:Nat):∀ d,0<d->∃ k,a<=k/\k<a+d/\∀ l,a<=l->l<a+d->f l<=f k
 | 0,h=>by omega
 | 1,_=>⟨a,by omega,by omega,fun l h1 h2=>by rw[show l=a by omega];exact Nat.le_refl _⟩
 | d+2,_=>by
  obtain⟨k,h1,h2,h3⟩:=Cv f a (d+1) (by omega)
  by_cases q:f k<=f (a+d+1)
  ·refine⟨a+d+1,by omega,by omega,fun l l1 l2=>?_⟩
   by_cases e:l=a+d+1
   ·rw[e];exact Nat.le_refl _
   ·exact Nat.le_trans (h3 l l1 (by omega)) q
  ·refine⟨k,h1,by omega,fun l l1 l2=>?_⟩
   by_cases e:l=a+d+1
   ·rw[e];omega
   ·exact h3 l l1 (by omega)
theorem Run.once (R:Run m n lk i0 col rhs K S P C){a d:Nat}(hd:0<d)(hK:a+d<=K)(same:∀ i,i<m->(S a).own i=(S (a+d)).own i):False:=by
 obtain⟨Ia,Fa⟩:=R.inv a (by omega)
 obtain⟨Ib,Fb⟩:=R.inv (a+d) hK
 have eb:(S a).b=(S (a+d)).b:=by
  rw[← Ia.dt,← Ib.dt]
  refine Xe fun k r hk hr=>?_
  show col ((S a).own k) r=col ((S (a+d)).own k) r
  rw[same k hk]
 have ee:(S a).L i0 n=(S (a+d)).L i0 n:=by
  rw[← Ia.phi R.h0 (Nat.le_refl n),← Ib.phi R.h0 (Nat.le_refl n)]
  refine Xe fun k r hk hr=>?_
  by_cases e:k=i0
  ·subst e
   rw[Y9,Y9]
   unfold colOf
   rw[if_neg (by omega),if_neg (by omega)]
  ·rw[Y3 e,Y3 e]
   show col ((S a).own k) r=col ((S (a+d)).own k) r
   rw[same k hk]
 have hz:∀ l,a<=l->l<a+d->(S l).L (P l) n=0:=fun l h1 h2=>by
  have s:=R.st l (by omega)
  have f:=(R.inv l (by omega)).2 (P l) s.hp s.el
  apply Classical.byContradiction
  intro z
  have:=(R.down (a:=a) d hK).2 ⟨l,h1,h2,by omega⟩
  rw[← ee,← eb] at this
  omega
 have own_iff:∀ r,isOwn m (S a) r->isOwn m (S (a+d)) r:=fun r ⟨i,hi,e⟩=>⟨i,hi,by rw[← same i hi];exact e⟩
 have own_iff':∀ r,isOwn m (S (a+d)) r->isOwn m (S a) r:=fun r ⟨i,hi,e⟩=>⟨i,hi,by rw[same i hi];exact e⟩
 obtain⟨k1,h11,h12,hmax⟩:=Cv (fun k=>(S k).hd (C k)) a d hd
 have s1:=R.st k1 (by omega)
 obtain⟨I1,F1⟩:=R.inv k1 (by omega)
 have not1:¬ isOwn m (S k1) ((S k1).hd (C k1)):=fun ⟨i,hi,e⟩=>I1.ne hi s1.hc e
 have ⟨k2,h21,h22,h23⟩:∃ k,a<=k/\k<a+d/\(S k).own (P k)=(S k1).hd (C k1):=by
  apply Classical.byContradiction
  intro hn
  have hne:∀ l,a<=l->l<a+d->(S l).own (P l)≠(S k1).hd (C k1):=fun l l1 l2 z=>hn ⟨l,l1,l2,z⟩
  have o1:isOwn m (S (k1+1)) ((S k1).hd (C k1)):=⟨P k1,s1.hp,by rw[R.nx k1 (by omega)];exact own_p⟩
  have o2:=R.keeps o1 (a+d - (k1+1)) (by omega) fun l l1 l2=>hne l (by omega) (by omega)
  rw[show k1+1+(a+d - (k1+1))=a+d by omega] at o2
  have o3:=R.keeps (own_iff' _ o2) (k1 - a) (by omega) fun l l1 l2=>hne l (by omega) (by omega)
  rw[show a+(k1 - a)=k1 by omega] at o3
  exact not1 o3
 have s2:=R.st k2 (by omega)
 obtain⟨I2,F2⟩:=R.inv k2 (by omega)
 have row:=I1.row R.h0 (dir m (S k2) (C k2)) fun r hr=>I2.dirSol s2.hc hr
 have ho:∀ k,k<=K->(S k).own i0=(S 0).own i0:=fun k=>by
  induction k with
  | zero=>intro _;rfl
  | succ k ih =>
   intro h
   rw[R.nx k (by omega),own_ne (Ne.symm (R.stay k (by omega)))]
   exact ih (by omega)
 have e12:(S k1).own i0=(S k2).own i0:=by rw[ho k1 (by omega),ho k2 (by omega)]
 rw[e12,I2.dirO s2.hc R.h0] at row
 have pos:0<sm n (fun j=>(S k1).L i0 j*dir m (S k2) (C k2) ((S k1).hd j)):=by
  have:=Int.mul_pos I1.pos s2.help
  have e:(S k1).b * -(S k2).L i0 (C k2)=-((S k1).b*(S k2).L i0 (C k2)):=by grind
  rw[e] at row
  omega
 obtain⟨j,hj,hp⟩:=L9 pos
 rcases I2.cover (I1.hdLt hj) with ⟨i,hi,e⟩ | ⟨j',hj',e⟩
 ·rw[← e,I2.dirO s2.hc hi] at hp
  have own2:isOwn m (S k2) ((S k1).hd j):=⟨i,hi,e⟩
  have notown1:¬ isOwn m (S k1) ((S k1).hd j):=fun ⟨i',hi',e'⟩=>I1.ne hi' hj e'
  have ⟨k3,h31,h32,h33⟩:∃ k,a<=k/\k<a+d/\(S k).hd (C k)=(S k1).hd j:=by
   apply Classical.byContradiction
   intro hn
   have hne:∀ l,a<=l->l<a+d->(S l).hd (C l)≠(S k1).hd j:=fun l l1 l2 z=>hn ⟨l,l1,l2,z⟩
   have o2:=R.keepsN notown1 (a+d - k1) (by omega) fun l l1 l2=>hne l (by omega) (by omega)
   rw[show k1+(a+d - k1)=a+d by omega] at o2
   have o3:=R.keepsN (fun z=>o2 (own_iff _ z)) (k2 - a) (by omega) fun l l1 l2=>hne l (by omega) (by omega)
   rw[show a+(k2 - a)=k2 by omega] at o3
   exact o3 own2
  have hle:(S k1).hd j<=(S k1).hd (C k1):=by rw[← h33];exact hmax k3 h31 h32
  have s3:=R.st k3 (by omega)
  have hnl:(S k1).hd j≠lk:=by rw[← h33];exact s3.nl
  by_cases q:i=P k2
  ·
   subst q
   have ej:(S k1).hd j=(S k1).hd (C k1):=by rw[← e];exact h23
   have ec:j=C k1:=I1.hdInj hj s1.hc ej
   subst ec
   have:=Int.mul_pos s1.help s2.key
   have e':(S k1).L i0 (C k1) * -(S k2).L (P k2) (C k2)=-((S k1).L i0 (C k1)*(S k2).L (P k2) (C k2)):=by grind
   rw[e'] at hp
   omega
  ·have hlt:(S k1).hd j<(S k1).hd (C k1):=by
    rcases Nat.lt_or_ge ((S k1).hd j) ((S k1).hd (C k1)) with z | z
    ·exact z
    ·have:(S k2).own i=(S k2).own (P k2):=by rw[e,h23];omega
     exact absurd (I2.ownInj hi s2.hp this) q
   have l1:(S k1).L i0 j<=0:=by
    apply Classical.byContradiction
    intro z
    have:=s1.first j hj hnl (by omega)
    omega
   have l2:0<(S k2).L i (C k2):=by
    apply Classical.byContradiction
    intro z
    have:(S k1).L i0 j * -(S k2).L i (C k2)<=0:=Int.mul_nonpos_of_nonpos_of_nonneg l1 (by omega)
    omega
   have elr:(S k2).own i<=lk:=by rw[e];have:=s2.el;rw[h23] at this;omega
   have z3:Zr m n (S k3) ((S k1).hd j):=fun x hx ex=>absurd (by rw[ex,h33]) ((R.inv k3 (by omega)).1.ne hx s3.hc)
   have za:=(R.Zall hK hz (r:=(S k1).hd j) (k3 - a) (by omega))
   rw[show a+(k3 - a)=k3 by omega] at za
   have zb:=(R.Zall hK hz (r:=(S k1).hd j) (k2 - a) (by omega))
   rw[show a+(k2 - a)=k2 by omega] at zb
   have zi:=(zb.mpr (za.mp z3)) i hi e
   have zp:=hz k2 h21 h22
   rcases s2.least i hi elr l2 with z | ⟨_,z⟩
   ·rw[zi,zp] at z
    simp at z
   ·rw[e,h23] at z
    omega
 ·rw[← e,I2.dirH s2.hc hj'] at hp
  by_cases q:j'=C k2
  ·subst q
   rw[if_pos rfl] at hp
   have l1:0<(S k1).L i0 j:=by
    apply Classical.byContradiction
    intro z
    have:(S k1).L i0 j*(S k2).b<=0:=Int.mul_nonpos_of_nonpos_of_nonneg (by omega) (by have:=I2.pos;omega)
    omega
   have h1:=s1.first j hj (by rw[← e];exact s2.nl) l1
   have h2:=hmax k2 h21 h22
   have:(S k2).own (P k2)=(S k2).hd (C k2):=by
    rw[h23]
    have h1':(S k1).hd (C k1)<=(S k1).hd j:=h1
    have h2':(S k2).hd (C k2)<=(S k1).hd (C k1):=h2
    rw[e] at *
    omega
   exact I2.ne s2.hp s2.hc this
  ·rw[if_neg q] at hp
   simp at hp
theorem Dz:∀ (M:Nat) (f:Nat->Nat),(∀ i,i<=M->f i<M)->∃ a d,0<d/\a+d<=M/\f a=f (a+d)
 | 0,f,h=>absurd (h 0 (by omega)) (by omega)
 | M+1,f,h=>by
  by_cases q:∃ i,i<=M/\f i=f (M+1)
  ·obtain⟨i,hi,e⟩:=q
   exact⟨i,M+1 - i,by omega,by omega,by rw[show i+(M+1 - i)=M+1 by omega];exact e⟩
  ·have hne:∀ i,i<=M->f i≠f (M+1):=fun i hi z=>q ⟨i,hi,z⟩
   obtain⟨a,d,h1,h2,h3⟩:=Dz M (fun i=>if f i<f (M+1) then f i else f i - 1) fun i hi=>by
    have:=hne i hi
    have:=h i (by omega)
    have:=h (M+1) (by omega)
    show (if f i<f (M+1) then f i else f i - 1)<M
    split <;> omega
   refine⟨a,d,h1,by omega,?_⟩
   have n1:=hne a (by omega)
   have n2:=hne (a+d) (by omega)
   have h3:(if f a<f (M+1) then f a else f a - 1)=if f (a+d)<f (M+1) then f (a+d) else f (a+d) - 1:=h3
   split at h3 <;> split at h3 <;> omega
def code (N:Nat):Nat->(Nat->Nat)->Nat
 | 0,_=>0
 | k+1,f=>code N k f+f k*N ^ k
theorem Sx {N:Nat}:∀ {k:Nat} {f:Nat->Nat},(∀ i,i<k->f i<N)->code N k f<N ^ k
 | 0,_,_=>by show 0<1;decide
 | k+1,f,h=>by
  have h1:=Sx (k:=k) (f:=f) fun i hi=>h i (by omega)
  have h2:=h k (by omega)
  show code N k f+f k*N ^ k<N ^ (k+1)
  rw[Nat.pow_succ]
  have h3:(f k+1)*N ^ k<=N*N ^ k:=Nat.mul_le_mul_right _ h2
  rw[Nat.add_mul] at h3
  rw[Nat.mul_comm (N ^ k)]
  omega
theorem Mu {N:Nat}:∀ {k:Nat} {f g:Nat->Nat},(∀ i,i<k->f i<N)->(∀ i,i<k->g i<N)->code N k f=code N k g->∀ i,i<k->f i=g i
 | 0,_,_,_,_,_,i,hi=>by omega
 | k+1,f,g,hf,hg,e,i,hi=>by
  have a1:=Sx (k:=k) (f:=f) fun i hi=>hf i (by omega)
  have a2:=Sx (k:=k) (f:=g) fun i hi=>hg i (by omega)
  have e:code N k f+f k*N ^ k=code N k g+g k*N ^ k:=e
  have e1:code N k f=code N k g:=by
   have:=congrArg (· % N ^ k) e
   simp only [Nat.add_mul_mod_self_right] at this
   rwa [Nat.mod_eq_of_lt a1,Nat.mod_eq_of_lt a2] at this
  by_cases q:i=k
  ·subst q
   have:f i*N ^ i=g i*N ^ i:=by omega
   exact Nat.eq_of_mul_eq_mul_right (by omega) this
  ·exact Mu (k:=k) (fun i hi=>hf i (by omega)) (fun i hi=>hg i (by omega)) e1 i (by omega)
theorem Run.short (R:Run m n lk i0 col rhs K S P C):K<(n+m) ^ m:=by
 rcases Nat.lt_or_ge K ((n+m) ^ m) with h | h
 ·exact h
 ·obtain⟨a,d,h1,h2,h3⟩:=Dz ((n+m) ^ m) (fun k=>code (n+m) m (S k).own) fun k hk=>Sx fun i hi=>(R.inv k (by omega)).1.ownLt hi
  exact absurd (R.once h1 (by omega) fun i hi=>Mu (fun i hi=>(R.inv a (by omega)).1.ownLt hi) (fun i hi=>(R.inv (a+d) (by omega)).1.ownLt hi) h3 i hi) id
end
end Sv
namespace Sv
section
variable {m n:Nat}{col:Nat->Vec}{rhs:Vec}{T:Tab}
def numAt (n:Nat)(T:Tab)(i v:Nat):Int:=sm n (fun j=>if T.hd j=v then T.L i j else 0)
def endOf (m n:Nat)(T:Tab)(v:Nat):Int:=sm m (fun i=>if T.own i=v then T.L i n else 0)
def coef (n:Nat)(T:Tab)(i v:Nat):Int:=(if v=T.own i then T.b else 0)+numAt n T i v
theorem Inv.numH (I:Inv m n col rhs T){i j:Nat}(hj:j<n):numAt n T i (T.hd j)=T.L i j:=by
 unfold numAt
 rw[sm_one (k:=j) hj fun k hk hne=>if_neg fun z=>hne (I.hdInj hk hj z),if_pos rfl]
theorem Inv.numO (I:Inv m n col rhs T){i k:Nat}(hk:k<m):numAt n T i (T.own k)=0:=sm_zero fun j hj=>if_neg (Ne.symm (I.ne hk hj))
theorem Inv.endO (I:Inv m n col rhs T){i:Nat}(hi:i<m):endOf m n T (T.own i)=T.L i n:=by
 unfold endOf
 rw[sm_one (k:=i) hi fun k hk hne=>if_neg fun z=>hne (I.ownInj hk hi z),if_pos rfl]
theorem Inv.endH (I:Inv m n col rhs T){j:Nat}(hj:j<n):endOf m n T (T.hd j)=0:=sm_zero fun i hi=>if_neg (I.ne hi hj)
theorem Inv.coefs (I:Inv m n col rhs T){i v:Nat}(hi:i<m)(hv:v<n+m):det m (put (bas col T) i (col v))=coef n T i v:=by
 unfold coef
 rcases I.cover hv with ⟨k,hk,rfl⟩ | ⟨j,hj,rfl⟩
 ·rw[I.numO hk]
  have:=I.phiO hi hk
  show det m (put (bas col T) i (bas col T k))=_
  rw[this]
  by_cases e:k=i
  ·subst e
   rw[if_pos rfl,if_pos rfl];omega
  ·rw[if_neg e,if_neg fun z=>e (I.ownInj hk hi z)];omega
 ·rw[I.numH hj,if_neg (Ne.symm (I.ne hi hj))]
  have:=I.phi hi (Nat.le_of_lt hj)
  rw[Wm hj] at this
  rw[this];omega
theorem Inv.lin (I:Inv m n col rhs T)(hc:∀ i r,i<m->r<m->col (n+i) r=if i=r then 1 else 0){i:Nat}(hi:i<m)(x:Vec):det m (put (bas col T) i x)=sm m (fun r=>x r*coef n T i (n+r)):=by
 have e:det m (put (bas col T) i x)=det m (put (bas col T) i (fun r=>sm m (fun k=>x k*col (n+k) r))):=by
  refine Xe fun k r hk hr=>?_
  by_cases q:k=i
  ·subst q
   rw[Y9,Y9,sm_one (k:=r) hr fun k hk hne=>by rw[hc k r hk hr,if_neg hne,Int.mul_zero],hc r r hr hr,if_pos rfl,Int.mul_one]
  ·rw[Y3 q,Y3 q]
 rw[e,T9 hi]
 exact Zn fun r hr=>by rw[I.coefs hi (by omega)]
theorem Inv.size (I:Inv m n col rhs T){M:Nat}(hc:∀ v r,v<n+m->r<m->(col v r).natAbs<=M)(hr:∀ r,r<m->(rhs r).natAbs<=M){i j:Nat}(hi:i<m)(hj:j<=n):(T.L i j).natAbs<=(m*M) ^ m:=by
 rw[← I.phi hi hj]
 refine Tu fun k r hk hr'=>?_
 by_cases e:k=i
 ·subst e
  rw[Y9]
  unfold colOf
  split
  ·exact hc _ _ (I.hdLt (by assumption)) hr'
  ·exact hr r hr'
 ·rw[Y3 e]
  exact hc _ _ (I.ownLt hk) hr'
theorem Inv.sizeB (I:Inv m n col rhs T){M:Nat}(hc:∀ v r,v<n+m->r<m->(col v r).natAbs<=M):T.b.natAbs<=(m*M) ^ m:=by
 rw[← I.dt]
 exact Tu fun k r hk hr'=>hc _ _ (I.ownLt hk) hr'
theorem Inv.sol (I:Inv m n col rhs T){r:Nat}(hr:r<m):sm (n+m) (fun v=>endOf m n T v*col v r)=T.b*rhs r:=by
 rw[I.part]
 have e1:sm n (fun j=>endOf m n T (T.hd j)*col (T.hd j) r)=0:=sm_zero fun j hj=>by rw[I.endH hj,Int.zero_mul]
 have e2:sm m (fun i=>endOf m n T (T.own i)*col (T.own i) r)=sm m (fun i=>T.L i n*bas col T i r):=Zn fun i hi=>by rw[I.endO hi];rfl
 have e3:=I.eqs n (Nat.le_refl n) r hr
 unfold colOf at e3
 rw[if_neg (by omega)] at e3
 rw[e1,e2,← e3];omega
end
section
variable {n g:Nat}{A:Nat->Nat->Int}{pap gl:Nat->Int}
def colS (n g:Nat)(A:Nat->Nat->Int)(pap gl:Nat->Int):Nat->Vec:=fun v r=>if v<n then (if r<g then A r v else if r=g then pap v else gl v) else if v - n=r then 1 else 0
def rhsS (g:Nat):Vec:=fun r=>if r=g then 1 else 0
def T0 (n g:Nat)(A:Nat->Nat->Int)(pap gl:Nat->Int):Tab:=⟨1,fun i=>n+i,fun j=>j,fun i j=>if j<n then colS n g A pap gl j i else rhsS g i⟩
theorem W8 {i r:Nat}:colS n g A pap gl (n+i) r=if i=r then 1 else 0:=by
 unfold colS
 rw[if_neg (by omega)]
 have:n+i - n=i:=by omega
 rw[this]
theorem inv0:Inv (g+2) n (colS n g A pap gl) (rhsS g) (T0 n g A pap gl):=by
 refine⟨by show (0:Int)<1;decide,?_,fun j hj r hr=>?_,fun f=>?_⟩
 ·show det (g+2) _=1
  rw[← Z00 (g+2)]
  exact Xe fun k r _ _=>W8
 ·show 1*colOf n (colS n g A pap gl) (rhsS g) (T0 n g A pap gl) j r=sm (g+2) (fun i=>(if j<n then colS n g A pap gl j i else rhsS g i)*colS n g A pap gl (n+i) r)
  rw[sm_one (k:=r) hr fun k hk hne=>by rw[W8,if_neg hne,Int.mul_zero],W8,if_pos rfl]
  unfold colOf
  rw[Int.mul_one,Int.one_mul]
  split <;> rfl
 ·rw[La,Int.add_comm]
  rfl
theorem feas0:Feas (g+2) n (n+g) (T0 n g A pap gl):=fun i _ _=>by
 show 0<=if n<n then _ else rhsS g i
 rw[if_neg (by omega)]
 unfold rhsS
 split <;> omega
variable {T:Tab}
abbrev InvS (n g:Nat)(A:Nat->Nat->Int)(pap gl:Nat->Int)(T:Tab):Prop:=Inv (g+2) n (colS n g A pap gl) (rhsS g) T
theorem InvS.world (I:InvS n g A pap gl T){i w:Nat}(hi:i<g+2)(hw:w<n):coef n T i w=sm g (fun k=>A k w*coef n T i (n+k))+pap w*coef n T i (n+g)+gl w*coef n T i (n+g+1):=by
 rw[← I.coefs hi (by omega),I.lin (fun i r _ _=>W8) hi]
 show sm g _+colS n g A pap gl w g*_+colS n g A pap gl w (g+1)*_=_
 have e1:sm g (fun r=>colS n g A pap gl w r*coef n T i (n+r))=sm g (fun k=>A k w*coef n T i (n+k)):=Zn fun r hr=>by
  unfold colS
  rw[if_pos hw,if_pos hr]
 have e2:colS n g A pap gl w g=pap w:=by unfold colS;rw[if_pos hw,if_neg (by omega),if_pos rfl]
 have e3:colS n g A pap gl w (g+1)=gl w:=by unfold colS;rw[if_pos hw,if_neg (by omega),if_neg (by omega)]
 rw[e1,e2,e3]
 rfl
theorem InvS.ends (I:InvS n g A pap gl T){i:Nat}(hi:i<g+2):T.L i n=coef n T i (n+g):=by
 rw[← I.phi hi (Nat.le_refl n)]
 unfold colOf
 rw[if_neg (by omega),I.lin (fun i r _ _=>W8) hi,sm_one (k:=g) (by omega) fun k hk hne=>by unfold rhsS;rw[if_neg hne,Int.zero_mul]]
 unfold rhsS
 rw[if_pos rfl,Int.one_mul]
theorem InvS.lines (I:InvS n g A pap gl T):(∀ k,k<g->sm n (fun w=>A k w*endOf (g+2) n T w)+endOf (g+2) n T (n+k)=0)/\sm n (fun w=>pap w*endOf (g+2) n T w)+endOf (g+2) n T (n+g)=T.b/\sm n (fun w=>gl w*endOf (g+2) n T w)+endOf (g+2) n T (n+g+1)=0:=by
 have key:∀ (r:Nat) (a:Nat->Int),r<g+2->(∀ w,w<n->colS n g A pap gl w r=a w)->sm n (fun w=>a w*endOf (g+2) n T w)+endOf (g+2) n T (n+r)=T.b*rhsS g r:=fun r a hr ha=>by
  rw[← I.sol hr,La]
  congr 1
  ·exact Zn fun w hw=>by rw[ha w hw,Int.mul_comm]
  ·rw[sm_one (k:=r) hr fun k hk hne=>by rw[W8,if_neg hne,Int.mul_zero],W8,if_pos rfl,Int.mul_one]
 refine⟨fun k hk=>?_,?_,?_⟩
 ·rw[key k (fun w=>A k w) (by omega) fun w hw=>by unfold colS;rw[if_pos hw,if_pos hk]]
  unfold rhsS
  rw[if_neg (by omega),Int.mul_zero]
 ·rw[key g pap (by omega) fun w hw=>by unfold colS;rw[if_pos hw,if_neg (by omega),if_pos rfl]]
  unfold rhsS
  rw[if_pos rfl,Int.mul_one]
 ·have:=key (g+1) gl (by omega) fun w hw=>by unfold colS;rw[if_pos hw,if_neg (by omega),if_neg (by omega)]
  rw[show n+(g+1)=n+g+1 by omega] at this
  rw[this]
  unfold rhsS
  rw[if_neg (by omega),Int.mul_zero]
theorem Sw (I:InvS n g A pap gl T){i lk v:Nat}(hv:v<n+(g+2))(h1:v≠T.own i)(h2:v≠lk)(hs:∀ j,j<n->T.hd j≠lk->T.L i j<=0):coef n T i v<=0:=by
 unfold coef
 rw[if_neg h1]
 rcases I.cover hv with ⟨k,hk,rfl⟩ | ⟨j,hj,rfl⟩
 ·rw[I.numO hk];omega
 ·rw[I.numH hj]
  have:=hs j hj h2
  omega
theorem InvS.none (I:InvS n g A pap gl T){i ia:Nat}(hi:i<g+2)(ho:T.own i=n+g)(hia:ia<g+2)(hoa:T.own ia=n+g+1)(hs:∀ j,j<n->T.hd j≠n+g->T.L i j<=0) :
  (∀ k,k<g->numAt n T i (n+k)<=0)/\∀ w,w<n->pap w*T.b<=sm g (fun k=>A k w * -numAt n T i (n+k)):=by
 have hk:∀ k,k<g->coef n T i (n+k)=numAt n T i (n+k):=fun k hk=>by
  unfold coef
  rw[if_neg (by omega)];omega
 refine⟨fun k hk'=>?_,fun w hw=>?_⟩
 ·rw[← hk k hk']
  exact Sw I (by omega) (by omega) (lk:=n+g) (by omega) hs
 ·have e:=I.world hi hw
  have h:=Sw I (v:=w) (by omega) (by omega) (lk:=n+g) (by omega) hs
  have e1:coef n T i (n+g)=T.b:=by
   unfold coef
   rw[if_pos ho.symm]
   have:=I.numO (i:=i) hi
   rw[ho] at this
   omega
  have e2:coef n T i (n+g+1)=0:=by
   unfold coef
   rw[if_neg (by omega)]
   have:=I.numO (i:=i) hia
   rw[hoa] at this
   omega
  have e3:sm g (fun k=>A k w*coef n T i (n+k))=- sm g (fun k=>A k w * -numAt n T i (n+k)):=by
   have:sm g (fun k=>A k w*coef n T i (n+k))=sm g (fun k=>(-1)*(A k w * -numAt n T i (n+k))):=Zn fun k hk'=>by rw[hk k hk'];grind
   rw[this,Y5];omega
  rw[e1,e2,e3] at e
  omega
structure Most (n g:Nat)(A:Nat->Nat->Int)(pap gl:Nat->Int)(T:Tab)(i:Nat):Prop where
 x0:∀ w,w<n->0<=endOf (g+2) n T w
 fit:∀ k,k<g->sm n (fun w=>A k w*endOf (g+2) n T w)<=0
 lie:sm n (fun w=>pap w*endOf (g+2) n T w)=T.b
 val:sm n (fun w=>gl w*endOf (g+2) n T w)=- T.L i n
 y0:∀ k,k<g->numAt n T i (n+k)<=0
 show_:∀ w,w<n->gl w*T.b<=sm g (fun k=>A k w * -numAt n T i (n+k))+pap w * -T.L i n
theorem InvS.most (I:InvS n g A pap gl T)(F:Feas (g+2) n (n+g) T){i jl:Nat}(hi:i<g+2)(ho:T.own i=n+g+1)(hjl:jl<n)(hol:T.hd jl=n+g)(hs:∀ j,j<n->T.hd j≠n+g->T.L i j<=0):Most n g A pap gl T i:=by
 obtain⟨l1,l2,l3⟩:=I.lines
 have x0:∀ v,v<=n+g->0<=endOf (g+2) n T v:=fun v hv=>by
  rcases I.cover (v:=v) (by omega) with ⟨k,hk,rfl⟩ | ⟨j,hj,rfl⟩
  ·rw[I.endO hk];exact F k hk hv
  ·rw[I.endH hj];omega
 have hk:∀ k,k<g->coef n T i (n+k)=numAt n T i (n+k):=fun k hk=>by
  unfold coef
  rw[if_neg (by omega)];omega
 refine⟨fun w hw=>x0 w (by omega),fun k hk=>?_,?_,?_,fun k hk'=>?_,fun w hw=>?_⟩
 ·have:=l1 k hk
  have:=x0 (n+k) (by omega)
  omega
 ·have:=I.endH hjl
  rw[hol] at this
  rw[this] at l2
  omega
 ·have:=I.endO hi
  rw[ho] at this
  rw[this] at l3
  omega
 ·rw[← hk k hk']
  exact Sw I (by omega) (by omega) (lk:=n+g) (by omega) hs
 ·have e:=I.world hi hw
  have h:=Sw I (v:=w) (by omega) (by omega) (lk:=n+g) (by omega) hs
  have e1:=I.ends hi
  have e2:coef n T i (n+g+1)=T.b:=by
   unfold coef
   rw[if_pos ho.symm]
   have:=I.numO (i:=i) hi
   rw[ho] at this
   omega
  have e3:sm g (fun k=>A k w*coef n T i (n+k))=- sm g (fun k=>A k w * -numAt n T i (n+k)):=by
   have:sm g (fun k=>A k w*coef n T i (n+k))=sm g (fun k=>(-1)*(A k w * -numAt n T i (n+k))):=Zn fun k hk'=>by rw[hk k hk'];grind
   rw[this,Y5];omega
  rw[← e1,e2,e3] at e
  have e4:pap w * -T.L i n=-(pap w*T.L i n):=by grind
  omega
theorem InvS.bounded (I:InvS n g A pap gl T)(hpap:∀ w,w<n->0<=pap w)(hgl:∀ w,w<n->pap w=0->gl w=0){i jl c:Nat}(hi:i<g+2)(ho:T.own i=n+g+1)(hjl:jl<n)(hol:T.hd jl=n+g)(hc:c<n)(hcl:T.hd c≠n+g)(hh:0<T.L i c) :
  ∃ k,k<g+2/\T.own k<=n+g/\0<T.L k c:=by
 apply Classical.byContradiction
 intro hn
 have hle:∀ k,k<g+2->T.own k<=n+g->T.L k c<=0:=fun k h1 h2=>by
  apply Classical.byContradiction
  intro z
  exact hn ⟨k,h1,h2,by omega⟩
 have x0:∀ v,v<=n+g->0<=dir (g+2) T c v:=fun v hv=>by
  rcases I.cover (v:=v) (by omega) with ⟨k,hk,rfl⟩ | ⟨j,hj,rfl⟩
  ·rw[I.dirO hc hk]
   have:=hle k hk hv
   omega
  ·rw[I.dirH hc hj]
   have:=I.pos
   split <;> omega
 have row:∀ (r:Nat) (a:Nat->Int),r<g+2->(∀ w,w<n->colS n g A pap gl w r=a w)->sm n (fun w=>a w*dir (g+2) T c w)+dir (g+2) T c (n+r)=0:=fun r a hr ha=>by
  rw[← I.dirSol hc hr,La]
  congr 1
  ·exact Zn fun w hw=>by rw[ha w hw,Int.mul_comm]
  ·rw[sm_one (k:=r) hr fun k hk hne=>by rw[W8,if_neg hne,Int.mul_zero],W8,if_pos rfl,Int.mul_one]
 have r1:=row g pap (by omega) fun w hw=>by unfold colS;rw[if_pos hw,if_neg (by omega),if_pos rfl]
 have r2:=row (g+1) gl (by omega) fun w hw=>by unfold colS;rw[if_pos hw,if_neg (by omega),if_neg (by omega)]
 have hl:dir (g+2) T c (n+g)=0:=by
  rw[← hol,I.dirH hc hjl,if_neg fun z=>hcl (by rw[← z];exact hol)]
 have hz:∀ w,w<n->pap w*dir (g+2) T c w=0:=fun w hw=>by
  apply Classical.byContradiction
  intro z
  have h1:∀ x,x<n->0<=pap x*dir (g+2) T c x:=fun x hx=>Int.mul_nonneg (hpap x hx) (x0 x (by omega))
  rw[hl,Zx (k:=w) hw] at r1
  have h2:0<=sm n (fun i=>if i=w then 0 else pap i*dir (g+2) T c i):=Zw fun x hx=>by
   split
   ·omega
   ·exact h1 x hx
  have:=h1 w hw
  omega
 have hg:sm n (fun w=>gl w*dir (g+2) T c w)=0:=sm_zero fun w hw=>by
  by_cases q:pap w=0
  ·rw[hgl w hw q,Int.zero_mul]
  ·have:=hz w hw
   rcases Int.mul_eq_zero.mp this with z | z
   ·exact absurd z q
   ·rw[z,Int.mul_zero]
 have ha:=I.dirO hc hi
 rw[ho] at ha
 rw[hg,show n+(g+1)=n+g+1 by omega,ha] at r2
 omega
end
end Sv
namespace Sb
open PySem PySem.Spec PyProof.Rows L2
theorem Qq {α β:Type}{R:α->β->Prop}:∀ {xs:List α} {us:List β},xs.length=us.length->(∀ (j:Nat) (x:α) (u:β),xs[j]?=some x->us[j]?=some u->R x u)->Paired R xs us
 | [],[],_,_=>.nil
 | [],_::_,h,_=>by simp at h
 | _::_,[],h,_=>by simp at h
 | x::xs,u::us,h,hr=>.cons (hr 0 x u rfl rfl) (Qq (by simpa using h) fun j y w e1 e2=>hr (j+1) y w (by simpa using e1) (by simpa using e2))
section
variable {X:Cx}{K:W.Frag}
theorem C4 {p:Addr}{u v:V}{σ:L2.St}{H:Hp}{A B:L2.St->Hp->Prop}{t:TT}(hp:SqT K H p [u,v])(h:t ((σ.set 0 (some u)).set 1 (some v)) H fun b H5=>if b=true then A ((σ.set 0 (some u)).set 1 (some v)) H5 else B ((σ.set 0 (some u)).set 1 (some v)) H5) :
  gTup K 2 (gCons (gName 0) (gCons (gName 1) gNil)) (.ref p) σ H fun σ4 H4=>t σ4 H4 fun b H5=>if b=true then A σ4 H5 else B σ4 H5 :=
 ⟨p,[u,v],rfl,hp,rfl,u,[v],rfl,v,[],rfl,rfl,h⟩
theorem Pq {e:Expr}{f:Str}{pos:Pos}{ta:TE}(he:PE X e ta)(hb:attributeBase e f X.env (eval e X.env)=eval e X.env)(h:X.K=K:=by rfl):PE X (.Attribute e f pos) (tFld K ta f):=h ▸ Ye he hb
def tLR1 (ta:TA):TE:=fun σ H Q=>ta σ H fun vs H1=>∃ n:Nat,vs=[.int (n:Int)]/\n<=1000/\∀ l,H1 l=none->Q (.ref l) (upd H1 l (.lst ((List.range n).map fun (k:Nat)=>V.int (k:Int))))
def tLR2 (ta:TA):TE:=fun σ H Q=>ta σ H fun vs H1=>∃ i n:Nat,vs=[.int (i:Int),.int ((i+n:Nat):Int)]/\i<=1000/\n<=1000/\∀ l,H1 l=none->Q (.ref l) (upd H1 l (.lst ((List.range n).map fun k=>V.int ((i+k:Nat):Int))))
theorem U5 {pins:List (Addr × Obj)}{σ:L2.St}{H:Hp}{s:Shared}{Q:VK}{i n:Nat}{t u v:Tok}{tk:Nat}(hc:X.calm=true)(I:Inv X pins σ H s)(hi:i<=1000)(hn:n<=1000)
  (q:∀ l,H l=none->Q (.ref l) (upd H l (.lst ((List.range n).map fun k=>V.int ((i+k:Nat):Int))))) :
  wpAny (model X.prog X.w) X.A (call (.type "list") [.ref s.heap.objs.size]) (EP X pins σ Q) X.xe { s with heap:=s.heap.push { cls:=.type "range",data:=.fields #[.int (i:Int) t,.int ((i+n:Nat):Int) u,.int 1 v] },toks:=tk }:=by
 have I1:Inv X pins σ H { s with heap:=s.heap.push { cls:=.type "range",data:=.fields #[.int (i:Int) t,.int ((i+n:Nat):Int) u,.int 1 v] },toks:=tk }:=I.kept fun b o e=>Heap.get?_push_of_some _ e
 refine N3 (n:=n) (I1.ok.hd hc) (fun p hp=>(I1.pin p (List.mem_append_left _ hp)).1) (IsRange.new ..) (small_one (by omega) (by omega) (by omega) (by omega)) ?_ (by omega) fun h' tk' acc c' kp e items=>?_
 ·rw[rangeSize_one]
  split <;> omega
 ·refine⟨.ref _,_,I1.laid (t':=tk') (o:=.lst ((List.range n).map fun k=>V.int ((i+k:Nat):Int))) kp (Nat.le_refl _) ?_,rfl,q _ (I1.hok.fresh (Nat.le_refl _))⟩
  obtain⟨hsz,hat⟩:=items
  refine⟨by rw[List.length_map,List.length_range];exact Nat.le_trans hn (by decide),acc.toList,c',?_,by simpa using e⟩
  refine Qq (by simp[hsz]) fun j x u' e1 e2=>?_
  rw[List.getElem?_map] at e1
  cases e3:(List.range n)[j]? with
  | none=>rw[e3] at e1;cases e1
  | some k =>
   rw[e3] at e1
   cases e1
   have hk:k=j:=by
    have:=List.getElem?_eq_some_iff.mp e3
    obtain⟨_,h2⟩:=this
    rw[← h2]
    simp
   subst hk
   obtain⟨t',e4⟩:=hat k u' (by simpa using e2)
   refine⟨t',?_⟩
   rw[e4]
   congr 1
   omega
theorem Gf {a b:Expr}{ta:TA}{p p' pos pos':Pos}(hc:X.calm=true)(hgL:Gl X "list")(hmL:X.mg "list"=none)(hgR:Gl X "range")(hmR:X.mg "range"=none)(ha:PA X [a,b] ta)
  (hs:starEach [a,b] X.env=[(false,eval a X.env),(false,eval b X.env)]:=by rfl) (hs2:starEach [b] X.env=[(false,eval b X.env)]:=by rfl)
  (hs0:starEach [.Call (.Name "range" p') [a,b] [] pos'] X.env=[(false,eval (.Call (.Name "range" p') [a,b] [] pos') X.env)]:=by rfl) :
  PE X (.Call (.Name "list" p) [.Call (.Name "range" p') [a,b] [] pos'] [] pos) (tLR2 ta):=by
 intro pins s σ H Q I h
 refine wpAny_Call_Name_kw (Wk I hgL hmL PyProof.Rows.boot_list ?_)
 refine PyProof.Rows.callWith_type1 ?_ (by rw[hs0];rfl) rfl
 rw[hs0]
 show wpAny _ _ (spliced ((false,eval (.Call (.Name "range" p') [a,b] [] pos') X.env)::[])) _ _ s
 refine Calls.spliced_cons (Call_ (Wk I hgR hmR boot_range (PyProof.Rows.callWith_type1 (thn (ha pos' pins s σ H _ I h) fun us s1 ⟨vs,H1,I1,r1,q1⟩=>?_) (by rw[hs,hs2]) (by rw[hs2];rfl))))
 obtain⟨i,n,e,hi,hn,q⟩:=q1
 subst e
 obtain⟨t0,u0,e0,rt,ru⟩:=Nk r1
 obtain⟨t,rfl⟩:=rt
 obtain⟨u,rfl⟩:=ru
 subst e0
 refine call_range_2 ?_
 refine Calls.spliced_nil ?_
 exact U5 hc I1 hi hn q
theorem Gg {a:Expr}{ta:TA}{p p' pos pos':Pos}(hc:X.calm=true)(hgL:Gl X "list")(hmL:X.mg "list"=none)(hgR:Gl X "range")(hmR:X.mg "range"=none)(ha:PA X [a] ta)
  (hs:starEach [a] X.env=[(false,eval a X.env)]:=by rfl)
  (hs0:starEach [.Call (.Name "range" p') [a] [] pos'] X.env=[(false,eval (.Call (.Name "range" p') [a] [] pos') X.env)]:=by rfl) :
  PE X (.Call (.Name "list" p) [.Call (.Name "range" p') [a] [] pos'] [] pos) (tLR1 ta):=by
 intro pins s σ H Q I h
 refine wpAny_Call_Name_kw (Wk I hgL hmL PyProof.Rows.boot_list ?_)
 refine PyProof.Rows.callWith_type1 ?_ (by rw[hs0];rfl) rfl
 rw[hs0]
 show wpAny _ _ (spliced ((false,eval (.Call (.Name "range" p') [a] [] pos') X.env)::[])) _ _ s
 refine Calls.spliced_cons (Call_ (Wk I hgR hmR boot_range (PyProof.Rows.callWith_type1 (thn (ha pos' pins s σ H _ I h) fun us s1 ⟨vs,H1,I1,r1,q1⟩=>?_) hs rfl)))
 obtain⟨n,e,hn,q⟩:=q1
 subst e
 obtain⟨t0,e0,rt⟩:=Uh r1
 obtain⟨t,rfl⟩:=rt
 subst e0
 refine call_range_1 ?_
 refine Calls.spliced_nil ?_
 have:=U5 (i:=0) (n:=n) (t:=s1.toks) (u:=t) (v:=s1.toks+1) (tk:=s1.toks+1+1) (Q:=Q) hc I1 (by decide) hn (by simpa using q)
 simpa using this
end
theorem Fp (o:Obj)(f):(o.mapFields f).dict=o.dict:=by
 obtain⟨c,d,dt,sl⟩:=o
 cases dt <;> rfl
def TrD (h B:Heap)(e:Addr)(c:Value)(dd:Option Addr)(fl:Value):Prop :=
 ∃ (oe:Obj) (vs:Array Value) (T:Addr) (oT:Obj) (ts:Array Value),(h.get? e=some oe/\oe.cls=c/\oe.dict=dd/\oe.data=.fields vs/\vs[1]?=some (.ref T)/\vs[2]?=some .none)/\(B.get? T=none/\T≠e)/\(h.get? T=some oT/\oT.data=.fields ts/\ts[3]?=some fl)
theorem TrD.obj {h B:Heap}{e:Addr}{c:Value}{dd:Option Addr}{fl:Value}(x:TrD h B e c dd fl):∃ oe vs,h.get? e=some oe/\oe.cls=c/\oe.dict=dd/\oe.data=.fields vs:=by
 obtain⟨oe,vs,_,_,_,⟨e1,e2,e3,e4,_⟩,_⟩:=x
 exact⟨oe,vs,e1,e2,e3,e4⟩
theorem TrD.ctx {h B:Heap}{e:Addr}{c:Value}{dd:Option Addr}{fl:Value}(x:TrD h B e c dd fl):∃ oe,h.get? e=some oe/\oe.cls=c/\oe.dict=dd/\NoCtx oe:=by
 obtain⟨oe,vs,_,_,_,⟨e1,e2,e3,e4,_,e5⟩,_⟩:=x
 exact⟨oe,e1,e2,e3,vs,e4,e5⟩
def FlyD (B:Heap)(l:List Env)(e:Addr)(c:Value)(dd:Option Addr)(h:Heap):Prop:=B.StaysIn h/\B.get? e=none/\h.FunFrames B l/\TrD h B e c dd .none
def HeldD (B:Heap)(l:List Env)(e:Addr)(c:Value)(dd:Option Addr)(L:Addr)(h:Heap):Prop:=B.StaysIn h/\B.get? e=none/\h.FunFrames B l/\TrD h B e c dd (rawInt L)
section
variable {M:Model}{A:Around}{E:Value->Shared->Prop}{s:Shared}{B:Heap}{env:Env}{outer:List Env}{L e:Addr}{c:Value}{dd:Option Addr}{Q:Unit->Shared->Prop}
theorem Bv {oe:Obj}{vs:Array Value}{hd0:Value}{nx:Bool}(fr:A.frames=some (env::outer))(ff:s.heap.FunFrames B (env::outer))(lf:env.frame=some L)(he:s.heap.get? e=some oe)(kb:B.StaysIn s.heap)(nb:B.get? e=none)(d0:oe.data=.fields vs)(sz:1<vs.size)(hc:vs[2]?=some .none)
  (hq:∀ h',HeldD B (env::outer) e oe.cls oe.dict L h'->s.heap.UpToSlots h'->Q () { s with heap:=h' }) :
  wpAny M A (do let a ← frameOf env;let pl ← entryPlaceOf L nx;let b ← EntryCells.newEntry hd0 a .none (rawInt L) .none pl;setField (.ref e) 1 b) Q E s:=by
 have ne:e ∉ (env::outer).filterMap (·.frame):=fun z=>by
  obtain⟨_,o,ho,nf⟩:=ff.mem z
  rw[he] at ho
  cases ho
  exact nf vs d0
 refine wpAny_bind (wpAny_frameOf_fun fr ff lf fun g1 so=>?_)
 refine wpAny_bind (wpAny_entryPlaceOf fun pl ip=>?_)
 unfold EntryCells.newEntry newFields
 refine wpAny_bind (wpAny_newObj_type ?_ (ip.sizeOk5 _ _ _ _ _))
 have e1:g1.get? e=some oe:=(so.2.1 e ne).trans he
 have kb1:B.StaysIn g1:=fun b o q=>(so.2.1 b fun z=>by rw[(ff.mem z).1] at q;cases q).trans (kb b o q)
 generalize hN:({ cls:=Value.type "traceback",dict:=none,data:=.fields ([hd0,.ref L,.none,rawInt L,.none]++(if pl.isEmpty then List.replicate 6 Value.none else pl)).toArray }:Obj)=N
 have e2:=Heap.get?_push_of_some (h:=g1) N e1
 have nT:g1.objs.size≠e:=Nat.ne_of_gt (Heap.lt_size e1)
 have d3:=Obj.data_mapFields d0 (·.setIfInBounds 1 (Value.ref g1.objs.size))
 have e3:=Heap.get?_update_self (Obj.mapFields (·.setIfInBounds 1 (Value.ref g1.objs.size))) e2 (Obj.isFreed_of_fields d3)
 have kp:∀ b o,b≠e->g1.get? b=some o->((g1.push N).update e (Obj.mapFields (·.setIfInBounds 1 (Value.ref g1.objs.size)))).get? b=some o:=fun b o q z=>by
  rw[Heap.get?_update_other _ _ (Ne.symm q)]
  exact Heap.get?_push_of_some _ z
 have nr:∀ b o,s.heap.get? b=some o->(∀ vs,o.data≠.fields vs)->b≠e:=fun b o z nf q=>by
  rw[q,he] at z
  cases z
  exact nf vs d0
 refine wpAny_setField e2 d0 sz (hq _ ?_ ?_)
 ·have hT:((g1.push N).update e (Obj.mapFields (·.setIfInBounds 1 (Value.ref g1.objs.size)))).get? g1.objs.size=some N:=by
   rw[Heap.get?_update_other _ _ (Ne.symm nT)]
   exact Heap.get?_push_size g1 (by rw[← hN];rfl)
  refine⟨fun b o q=>kp b o (fun z=>by rw[z,nb] at q;cases q) (kb1 b o q),nb,ff.of_keeps fun b o z nf=>?_,?_⟩
  ·obtain⟨sl,w⟩:=so.2.2 b o z
   exact⟨_,kp b _ (nr b o z nf) w,rfl⟩
  ·refine⟨_,_,g1.objs.size,N,([hd0,.ref L,.none,rawInt L,.none]++(if pl.isEmpty then List.replicate 6 Value.none else pl)).toArray,⟨e3,Obj.cls_mapFields _ _,Fp _ _,d3,by simp[sz],by rw[Array.getElem?_setIfInBounds_ne (by decide)];exact hc⟩,⟨kb1.fresh,nT⟩,hT,by rw[← hN],?_⟩
   first | (simp;done) | (rcases ip with rfl | ⟨_,_,_,_,_,_,_,rfl⟩ <;> simp)
 ·intro b o z nf
  obtain⟨sl,w⟩:=so.2.2 b o z
  exact⟨sl,kp b _ (nr b o z nf) w⟩
theorem Qw {l:List Env}{fl:Value}(kb:B.StaysIn s.heap)(nb:B.get? e=none)(ff:s.heap.FunFrames B l)(t:TrD s.heap B e c dd fl)(hq:∀ h',FlyD B l e c dd h'->s.heap.UpToSlots h'->Q () { s with heap:=h' }):wpAny M A (setFlight (.ref e) none) Q E s:=by
 obtain⟨oe,vs,T,oT,ts,⟨he,q1,q2,d0,h1⟩,⟨nT,Te⟩,hT,dT,h3⟩:=t
 have sz:3<ts.size:=(Array.getElem?_eq_some_iff.mp h3).1
 have ot:∀ b,b≠T->(s.heap.update T (Obj.mapFields (·.setIfInBounds 3 ((none:Option Addr).elim Value.none fun f=>rawInt f)))).get? b=s.heap.get? b:=fun b q=>Heap.get?_update_other _ _ (Ne.symm q)
 have nr:∀ b o,s.heap.get? b=some o->(∀ vs,o.data≠.fields vs)->b≠T:=fun b o z nf q=>by
  rw[q,hT] at z
  cases z
  exact nf ts dT
 unfold setFlight
 refine wpAny_bind (wpAny_field he d0 h1.1 ?_)
 rw[if_pos (by simp)]
 refine wpAny_setField hT dT sz (hq _ ⟨fun b o q=>(ot b fun z=>by rw[z,nT] at q;cases q).trans (kb b o q),nb,ff.of_keeps fun b o z nf=>⟨o,(ot b (nr b o z nf)).trans z,rfl⟩,?_⟩ fun b o z nf=>⟨o.slots,(ot b (nr b o z nf)).trans z⟩)
 exact⟨oe,vs,T,_,_,⟨(ot e (Ne.symm Te)).trans he,q1,q2,d0,h1⟩,⟨nT,Te⟩,Heap.get?_update_self _ hT (Obj.isFreed_of_fields (Obj.data_mapFields dT _)),Obj.data_mapFields dT _,by simp[sz]⟩
theorem Lp {oe:Obj}{vs:Array Value}(fr:A.frames=some (env::outer))(ff:s.heap.FunFrames B (env::outer))(lf:env.frame=some L)(he:s.heap.get? e=some oe)(kb:B.StaysIn s.heap)(nb:B.get? e=none)(d0:oe.data=.fields vs)(h1:vs[1]?=some .none)(hc:vs[2]?=some .none)
  (hq:∀ h',HeldD B (env::outer) e oe.cls oe.dict L h'->s.heap.UpToSlots h'->Q () { s with heap:=h' }):wpAny M A (noteFrame (.ref e) env) Q E s:=by
 unfold noteFrame
 simp only [lf]
 refine wpAny_bind (wpAny_field he d0 h1 ?_)
 rw[if_neg (by decide)]
 exact Bv fr ff lf he kb nb d0 (Array.getElem?_eq_some_iff.mp h1).1 hc hq
theorem Tk (fr:A.frames=some (env::outer))(lf:env.frame=some L)(x:FlyD B (env::outer) e c dd s.heap)(hq:∀ h',HeldD B (env::outer) e c dd L h'->s.heap.UpToSlots h'->Q () { s with heap:=h' }):wpAny M A (noteFrame (.ref e) env) Q E s:=by
 obtain⟨kb,nb,ff,oe,vs,T,oT,ts,⟨he,rfl,rfl,d0,h1⟩,⟨nT,Te⟩,hT,dT,h3⟩:=x
 unfold noteFrame
 simp only [lf]
 refine wpAny_bind (wpAny_field he d0 h1.1 ?_)
 rw[if_pos (by simp)]
 refine wpAny_bind (wpAny_field hT dT h3 ?_)
 rw[if_neg (by simp[rawInt])]
 refine wpAny_bind (wpAny_setField hT dT (Array.getElem?_eq_some_iff.mp h3).1 ?_)
 have ot:∀ b,b≠T->(s.heap.update T (Obj.mapFields (·.setIfInBounds 3 Value.none))).get? b=s.heap.get? b:=fun b q=>Heap.get?_update_other _ _ (Ne.symm q)
 have nr:∀ b o,s.heap.get? b=some o->(∀ vs,o.data≠.fields vs)->b≠T:=fun b o z nf q=>by
  rw[q,hT] at z
  cases z
  exact nf ts dT
 exact Bv fr (ff.of_keeps fun b o z nf=>⟨o,(ot b (nr b o z nf)).trans z,rfl⟩) lf ((ot e (Ne.symm Te)).trans he) (fun b o q=>(ot b fun z=>by rw[z,nT] at q;cases q).trans (kb b o q)) nb d0 (Array.getElem?_eq_some_iff.mp h1.1).1 h1.2
  fun h' x u=>hq h' x fun b o z nf=>u b o ((ot b (nr b o z nf)).trans z) nf
theorem Mg {oe:Obj}{vs:Array Value}(fr:A.frames=some (env::outer))(ff:s.heap.FunFrames B (env::outer))(lf:env.frame=some L)(he:s.heap.get? e=some oe)(kb:B.StaysIn s.heap)(nb:B.get? e=none)(d0:oe.data=.fields vs)(h1:vs[1]?=some .none)(hc:vs[2]?=some .none)
  (hq:∀ h',FlyD B outer e oe.cls oe.dict h'->s.heap.UpToSlots h'->Q () { s with heap:=h' }):wpAny M A (leaving env (.ref e)) Q E s:=by
 unfold leaving
 refine wpAny_bind (Lp fr ff lf he kb nb d0 h1 hc fun h' x u=>Qw x.1 x.2.1 x.2.2.1 x.2.2.2 fun h2 y v=>hq h2 ⟨y.1,y.2.1,y.2.2.1.2.2,y.2.2.2⟩ (u.trans v))
theorem K0 (fr:A.frames=some (env::outer))(lf:env.frame=some L)(x:FlyD B (env::outer) e c dd s.heap)(hq:∀ h',FlyD B outer e c dd h'->s.heap.UpToSlots h'->Q () { s with heap:=h' }):wpAny M A (leaving env (.ref e)) Q E s:=by
 unfold leaving
 refine wpAny_bind (Tk fr lf x fun h' x u=>Qw x.1 x.2.1 x.2.2.1 x.2.2.2 fun h2 y v=>hq h2 ⟨y.1,y.2.1,y.2.2.1.2.2,y.2.2.2⟩ (u.trans v))
end
abbrev newTupO (vs:List Value):Obj:={ cls:=.type "tuple",data:=.seq vs.toArray }
abbrev newExcO (C:Addr)(t:Addr)(dd:Option Addr):Obj:={ cls:=.ref C,dict:=dd,data:=.fields #[.ref t,.none,.none,.none,.bool false,.none] }
abbrev excHeap (h:Heap)(C:Addr)(vs:List Value):Heap:=(h.push (newTupO vs)).push (newExcO C h.objs.size none)
section
variable {P:Program}{w:World}{A:Around}{E:Value->Shared->Prop}{h:Heap}{g:Array GenState}{d:Drawn}{tk:Nat}{os:OsState}
variable {nm q:Str}{C N fI:Addr}{bs tl bB:List Value}{hdct:Bool}{sn:List Str}{sub:List Value}{ab:Bool}{col:Option Bool}{dd:Option Addr}{k0 k1 k2 k3 k5:Option Value}{B newId initId:String}{mN:Str->Option Value}{vs:List Value}{oI:Obj}
theorem X7 {b:Addr}{o:Obj}(e:h.get? b=some o):(excHeap h C vs).get? b=some o:=Heap.get?_push_of_some _ (Heap.get?_push_of_some _ e)
theorem Q4:(excHeap h C vs).get? (h.objs.size+1)=some (newExcO C h.objs.size none):=Heap.get?_push_at (Heap.size_push ..).symm rfl
theorem L5 {Q:Fin->Shared->Prop}(F:ExcBaseFacts B newId initId bB)(T:OwnTail h bB tl)(hC:h.get? C=some (excClassObj nm q C N bs tl hdct sn sub ab col dd k0 k1 k2 k3 k5 newId))(hn:h.Ns N mN)(hi:mN "__init__"=some (.ref fI))
  (hf:h.get? fI=some oI) (hfc:oI.cls=.type "function") (hv:vs.length<=sizeLine)
  (hq:wpAny (model P w) A (call (.ref fI) (.ref (h.objs.size+1)::vs)) (fun r s'=>r=.none/\Q (.done (.ret (.ref (h.objs.size+1)))) s') E ⟨excHeap h C vs,g,d,tk,os⟩) :
  wpAny (model P w) A (Builtin.«type.__call__» ⟨.ref C::vs,[]⟩) Q E ⟨h,g,d,tk,os⟩:=by
 repeat (first | with_reducible refine wpAny_loadPart_at hC ?_ | with_reducible refine wpAny_madeBy_exc hC ?_ | wp_step)
 refine codeAny_call_builtin_code (Code.quiet_builtin _ F.quiet) (wpAny_check_new_subT F T hC (codeAny_exc_new_subT F T hC ?_ hv))
 show wpAny _ _ _ _ _ _
 have hC1:(excHeap h C vs).get? C=_:=X7 hC
 have hg1:(excHeap h C vs).get? (h.objs.size+1)=_:=Q4
 have hn1:(excHeap h C vs).Ns N mN:=hn.keeps fun b o e=>X7 e
 have T1:OwnTail (excHeap h C vs) bB tl:=T.keeps fun b o e=>X7 e
 have cC:(Value.ref C::tl).contains (.ref C)=true:=by simp
 unfold isInstance
 repeat (first | with_reducible refine wpAny_loadPart_at hg1 ?_ | (with_reducible refine wpAny_isSubtype_exc hC1 ?_;rw[cC]) | wp_step)
 show wpAny _ _ (typeLookup (.ref C) _) _ _ _
 refine wpAny_typeLookup_tail hC1 hn1 T1 F.mroIs F.init.lookup ?_
 rw[hi]
 refine wpAny_holding (wpAny_bind ?_)
 unfold bindSpecial
 refine wpAny_bind (wpAny_typeOf (T:="function") ⟨_,X7 hf,hfc⟩ ?_)
 rw[if_pos (by decide)]
 refine wpAny_pure (wpAny_bind (wpAny_mono hq (fun r s' ⟨hr,hQ⟩=>?_) fun _ _ x=>x))
 subst hr
 wp_walk
 exact hQ
theorem Fw {Q:Value->Shared->Prop}(F:ExcBaseFacts B newId initId bB)(T:OwnTail h bB tl)(hC:h.get? C=some (excClassObj nm q C N bs tl hdct sn sub ab col dd k0 k1 k2 k3 k5 newId))(hn:h.Ns N mN)(hi:mN "__init__"=some (.ref fI))
  (hf:h.get? fI=some oI) (hfc:oI.cls=.type "function") (hv:vs.length<=sizeLine)
  (hq:wpAny (model P w) (A.under (.builtin "type.__call__" ⟨.ref C::vs,[]⟩)) (call (.ref fI) (.ref (h.objs.size+1)::vs)) (fun r s'=>r=.none/\Q (.ref (h.objs.size+1)) s') E ⟨excHeap h C vs,g,d,tk,os⟩) :
  wpAny (model P w) A (call (.ref C) vs) Q E ⟨h,g,d,tk,os⟩:=by
 have f1:=tc_lookup
 have f2:=tc_bind (.ref C)
 have hT:(⟨h,g,d,tk,os⟩:Shared).TypeIs (.ref C) "type":=⟨_,hC,rfl⟩
 refine wpAny_call (codeAny_of_tree ?_)
 show wpAny _ _ (callAny (.ref C) _) _ _ _
 repeat (any_goals (first | assumption | with_reducible refine wpAny_loadPart_at hC ?_ | wp_step))
 exact⟨rfl,codeAny_call_builtin_at (Code.quiet_builtin _ (by decide +kernel)) entry_typeCall (wpAny_check_type_call_sub hC (L5 F T hC hn hi hf hfc hv hq))⟩
end
theorem Cq {K:W.Frag}{h:Heap}{N:Addr}{m:Str->Option Value}{n:Str}{v:Value}(X:K.In h)(G:h.Ns N m)(e:W.nsIn K N n=some (some v)):m n=some v:=by
 obtain⟨o,es,ep,ho,hd,_,hf⟩:=G
 unfold W.nsIn at e
 split at e
 ·rename_i c d es' n' sl q
  have z:=X _ _ q
  rw[ho] at z
  cases z
  cases hd
  split at e
  ·rename_i en he
   cases e
   rw[← hf]
   unfold nsFind findBy
   rw[← Array.find?_toList,he]
   rfl
  ·split at e <;> cases e
 ·cases e
def excInI (K:W.Frag)(C fI:Addr):Bool:=match K.lookup C with
 | some ⟨.type "type",_,.cls cd,sl⟩=>(match cd.mro,sl.toList with
  | .ref C'::bm,[_,_,_,_,some (.builtin n),_]=>C' == C && (cd.hasDict && (n == "ValueError.__new__" && (!cd.hasDel && (W.tailIn K bmV bm && (W.nsOkIn K cd.ns && W.nsIn K cd.ns "__init__" == some (some (.ref fI)))))))
  | _,_=>false)
 | _=>false
structure ExcI (K:W.Frag)(mg:Str->Option Value)(x:Str)(C fI:Addr):Prop where
 ok:excInI K C fI=true
 fn:W.isFn K (.ref fI)=true
 bd:mg x=some (.ref C)
theorem ExcI.own {K:W.Frag}{mg:Str->Option Value}{x:Str}{C fI:Addr}{h:Heap}(O:ExcI K mg x C fI)(X:K.In h) :
  ∃ bm N nm q bs sn sub ab col dd k0 k1 k2 k3 k5 mN,h.get? C=some (excClassObj nm q C N bs bm true sn sub ab col dd k0 k1 k2 k3 k5 "ValueError.__new__")/\h.Ns N mN/\mN "__init__"=some (.ref fI)/\OwnTail h bmV bm:=by
 have q:=O.ok
 unfold excInI at q
 revert q
 split
 ·rename_i d0 c0 s0 hob
  split
  ·rename_i C1 rest y0 y1 y2 y3 nn y5 em es
   intro q
   rw[Bool.and_eq_true,Bool.and_eq_true,Bool.and_eq_true,Bool.and_eq_true,Bool.and_eq_true,Bool.and_eq_true] at q
   obtain⟨q1,q0,q2,q3,q4,q5,q6⟩:=q
   cases beq_iff_eq.mp q1
   cases beq_iff_eq.mp q2
   have q3':=Bool.not_eq_true' _ ▸ q3
   have q6':=beq_iff_eq.mp q6
   cases c0
   simp only at em q0 q3' q5 q6'
   subst em q0 q3'
   obtain⟨ll⟩:=s0
   have el:ll=[y0,y1,y2,y3,some (.builtin "ValueError.__new__"),y5]:=es
   subst el
   have G:h.Ns _ _:=.of_isNs (W.isNs_of_in X q5)
   exact⟨_,_,_,_,_,_,_,_,_,_,_,_,_,_,_,_,X _ _ hob,G,Cq X G q6',W.tail_of_in X q4⟩
  ·intro q;cases q
 ·intro q;cases q
def excN (e C:Addr)(dd:Option Addr):HO:=.ext fun h=>∃ t,h.get? e=some (newExcO C t dd)
theorem N9 {P:Program}{w:World}{H:Hp}{h:Heap}{e C t:Addr}{dd:Option Addr}(x:h.get? e=some (newExcO C t dd)):ObjOk P w H h e (excN e C dd) :=
 ⟨⟨t,x⟩,⟨_,x⟩,fun _ _ ⟨t',e1⟩ k=>⟨t',k _ e1⟩⟩
theorem Sr {P:Program}{w:World}{H:Hp}{h:Heap}{e C:Addr}{dd:Option Addr}(x:HOk P w H h)(y:H e=some (excN e C dd)):∃ t,h.get? e=some (newExcO C t dd):=(x e _ y).1
def unT (H:Hp)(e:Addr):Hp:=fun b=>if b=e then none else H b
theorem D4 {H:Hp}{e:Addr}:unT H e e=none:=if_pos rfl
theorem V6 {H:Hp}{e b:Addr}(n:b≠e):unT H e b=H b:=if_neg n
def CXD (P:Program)(w:World):CXT:=fun outer H s E e s'=>∃ (a:Addr) (cls:Value) (dd:Option Addr) (H':Hp) (B:Heap),e=.ref a/\s'.os=s.os/\AllBare s'.gens/\FlyD B outer a cls dd s'.heap ∧
 Un (frs outer) [] H H' s.heap s'.heap/\HOk P w H' B/\(∀ b o,s.heap.get? b=some o->b ∉ frs outer->(∃ o',B.get? b=some o')/\(H b=none->B.get? b=some o))/\E cls dd H'
section
variable {M:Model}{A:Around}{E:Value->Shared->Prop}{env:Env}
variable {nm q:Str}{C N:Addr}{bs tl:List Value}{hdct:Bool}{sn:List Str}{sub:List Value}{ab:Bool}{col:Option Bool}{dd:Option Addr}{k0 k1 k2 k3 k5:Option Value}{newId:String}
theorem Ga {s:Shared}{x:Sem Value}{Q:Flow->Shared->Prop}(hb:tl.contains (.type "BaseException")=true)(hh:A.handled=none)
  (h:wpAny M A x (fun v s1=>∃ (e t:Addr) (dx:Option Addr),v=.ref e/\s1.heap.get? C=some (excClassObj nm q C N bs tl hdct sn sub ab col dd k0 k1 k2 k3 k5 newId)/\s1.heap.get? e=some (newExcO C t dx)/\E (.ref e) s1) E s) :
  wpAny M A (raiseStmt env (some x) none) Q E s:=by
 have cB:(Value.ref C::tl).contains (.type "BaseException")=true:=by rw[List.contains_cons,hb,Bool.or_true]
 unfold raiseStmt
 refine wpAny_bind (wpAny_mono h (fun v s1 h1=>?_) fun _ _ x=>x)
 obtain⟨e,t,dx,rfl,hC,he,hE⟩:=h1
 obtain⟨hp,g,d,tk,os⟩:=s1
 repeat (first | with_reducible refine wpAny_loadPart_at he ?_ | with_reducible refine wpAny_loadPart_at hC ?_ | (with_reducible refine wpAny_isSubtype_exc hC ?_;rw[cB]) | wp_step)
 exact wpAny_raiseNew_none hh hE
end
section
variable {P:Program}{w:World}{K:W.Frag}{mg:Str->Option Value}{base:Heap}{N:List Str}{qual:Str}{scope:Scope}{f:Addr}{cd:Value}{A:Around}{outer:List Env}{s:Shared}{H:Hp}{E:XK}
theorem Wt {b:Addr}{o:Obj}(e:s.heap.get? b=some o)(hb:b ∉ frs outer):b ∉ frs (envOfC qual scope s.heap.objs.size f cd::outer):=fun z=>by
 rcases List.mem_cons.mp (show b∈s.heap.objs.size::frs outer from z) with z | z
 ·rw[z] at e
  exact absurd (Heap.lt_size e) (Nat.lt_irrefl _)
 ·exact hb z
theorem Qc {pins:List (Addr × Obj)}{σ:L2.St}{H2:Hp}{s2:Shared}{e C:Addr}{dd:Option Addr}(I:Inv (cxOf (CXD P w) P w K mg base N qual scope f cd A outer s H E) pins σ H2 s2)(he:H2 e=some (excN e C dd))(ne:∀ o,s.heap.get? e=some o->False)
  (q:E (.ref C) dd (unT H2 e)):(cxOf (CXD P w) P w K mg base N qual scope f cd A outer s H E).xe (.ref e) s2:=by
 obtain⟨t,ht⟩:=Sr I.hok he
 have nT:∀ b o,H2 b=some o->(∀ φ,o≠HO.ext φ)->b≠e:=fun b o z d y=>by
  rw[y,he] at z
  cases z
  exact d _ rfl
 have hB:∀ b o,s.heap.get? b=some o->b ∉ frs outer->(∃ o',(W.hideAll s2.heap (e::frs (envOfC qual scope s.heap.objs.size f cd::outer))).get? b=some o')/\(H b=none->(W.hideAll s2.heap (e::frs (envOfC qual scope s.heap.objs.size f cd::outer))).get? b=some o):=fun b o z hb=>by
  have nb:b ∉ e::frs (envOfC qual scope s.heap.objs.size f cd::outer):=fun y=>by
   rcases List.mem_cons.mp y with y | y
   ·exact ne o (by rw[← y];exact z)
   ·exact Wt z hb y
  refine⟨?_,fun n=>?_⟩
  ·obtain⟨o',z'⟩:=I.base.there b o z (by intro z;cases z)
   exact⟨o',W.hideAll_get _ z' nb⟩
  ·exact W.hideAll_get _ (I.base.keep b o z n hb (by intro z;cases z)) nb
 have un:Un (frs outer) [] H (unT H2 e) s.heap s2.heap:=by
  have u:Un (frs outer) [] H H2 s.heap s2.heap:=I.base
  refine⟨u.keep,u.slot,fun b o z n hx=>?_,u.there,fun b xs z=>?_,fun b o v z=>?_,fun b ps z=>?_⟩
  ·unfold unT
   split
   ·rfl
   ·exact u.free b o z n hx
  ·have y:=u.tups b xs z
   rw[V6 (nT b _ y fun φ d=>nomatch d)]
   exact y
  ·have y:=u.frzs b o v z
   rw[V6 (nT b _ y fun φ d=>nomatch d)]
   exact y
  ·obtain⟨m,y⟩:=u.tbls b ps z
   exact⟨m,by rw[V6 (nT b _ y fun φ d=>nomatch d)];exact y⟩
 have hok:HOk P w (unT H2 e) (W.hideAll s2.heap (e::frs (envOfC qual scope s.heap.objs.size f cd::outer))):=fun a o z=>by
  have na:a≠e:=fun y=>by rw[y,D4] at z;cases z
  rw[V6 na] at z
  have nf:∀ b u,H2 b=some u->b≠e->b ∉ e::frs (envOfC qual scope s.heap.objs.size f cd::outer):=fun b u y nb y'=>by
   rcases List.mem_cons.mp y' with y' | y'
   ·exact nb y'
   ·rw[I.stkFree b y'] at y;cases y
  refine (I.hok a o z).stay (fun b u hb y=>W.hideAll_get _ y ?_) (fun b y=>by rw[V6 (nT b _ y fun φ d=>nomatch d)];exact y) fun b xs y=>by rw[V6 (nT b _ y fun φ d=>nomatch d)];exact y
  rcases hb with rfl | hb
  ·exact nf _ _ z na
  ·exact nf _ _ hb (nT b _ hb fun φ d=>nomatch d)
 refine Mg (B:=W.hideAll s2.heap (e::frs (envOfC qual scope s.heap.objs.size f cd::outer))) I.ok.frames (W.funFrames_hide I.stack fun env z b hb=>List.mem_cons_of_mem _ (List.mem_filterMap.mpr ⟨env,z,hb⟩)) (L:=s.heap.objs.size) rfl ht (fun b o z=>W.of_hideAll _ z)
  (W.hideAll_none _ List.mem_cons_self) rfl rfl rfl fun h2 fl up=>?_
 refine⟨e,.ref C,dd,unT H2 e,_,rfl,I.os,I.bare,fl,?_,hok,hB,q⟩
 refine Mz (P:=P) (w:=w) un hB fl.1 up fun b hb=>?_
 obtain⟨_,o,z,d⟩:=I.funs.mem hb
 exact⟨o,z,d⟩
def tRaiseD (E:XK)(C:Addr)(sp:Sp)(t:TA):TS:=fun _ σ H=>t σ H fun vs H1=>vs.length<=sizeLine/\∀ e,H1 e=none->sp (.ref e::vs) (upd H1 e (excN e C none)) (fun v H2=>v=.non/\∃ dd,H2 e=some (excN e C dd)/\E (.ref C) dd (unT H2 e)) E0
theorem Gd {x:Str}{C fI:Addr}{fd:FuncData}{ps:List Str}{sp:Sp}{k:Nat}{e₀:Expr}{rest:List Expr}{t:TA}{np cpos pos:Pos}(O:ExcI K mg x C fI)(F:FnOk P w K mg base CX0 k fI fd ps sp)(hb:Binds K fd ps [])
  (hr:Room (k+1) (A.deeper (envOfC qual scope s.heap.objs.size f cd)) true) (hg:Gl (cxOf (CXD P w) P w K mg base N qual scope f cd A outer s H E) x) (ha:PA (cxOf (CXD P w) P w K mg base N qual scope f cd A outer s H E) (e₀::rest) t)
  (he:starEach (e₀::rest) (envOfC qual scope s.heap.objs.size f cd)=(false,eval e₀ (envOfC qual scope s.heap.objs.size f cd))::starEach rest (envOfC qual scope s.heap.objs.size f cd):=by rfl)
  (hplain:(backTo cpos (starEach rest (envOfC qual scope s.heap.objs.size f cd))).any (·.1)=false:=by rfl) (hd:(x == ("__debug__":Str))=false:=by decide) :
  PS (cxOf (CXD P w) P w K mg base N qual scope f cd A outer s H E) (.Raise (some (.Call (.Name x np) (e₀::rest) [] cpos)) none pos) (tRaiseD E C sp t):=by
 intro pins s1 σ H1 D I h
 obtain⟨tl,NN,nm,q,bs,sn,sub,ab,col,dd,k0,k1,k2,k3,k5,mN,hC,hN,hni,T⟩:=O.own I.ok.mod.kin
 rw[arm_exec_Raise]
 refine wpAny_bind (wpAny_standAt (Ga (C:=C) (nm:=nm) (q:=q) (N:=NN) (bs:=bs) (tl:=tl) (hdct:=true) (sn:=sn) (sub:=sub) (ab:=ab) (col:=col) (dd:=dd) (k0:=k0) (k1:=k1) (k2:=k2) (k3:=k3) (k5:=k5) (newId:="ValueError.__new__")
  (T.hasType PySem.F.excBase_ValueError.hasBase) (hr.hd rfl) (wpAny_bind (wpAny_mono (wpAny_Call_ofName (Wp I hg O.bd ?_ hd)) (fun v s3 h3=>wpAny_bind (wpAny_standAt (wpAny_pure h3))) fun _ _ x=>x))))
 have h2:=ha cpos pins s1 σ H1 _ I h
 replace h2:wpAny (model P w) (A.deeper (envOfC qual scope s.heap.objs.size f cd)) (spliced (backTo cpos (starEach (e₀::rest) (envOfC qual scope s.heap.objs.size f cd)))) _ _ s1:=h2
 rw[he] at h2
 show wpAny _ _ (callWith cpos (.ref C) [] (backTo cpos (starEach (e₀::rest) (envOfC qual scope s.heap.objs.size f cd))) (backToKw cpos (keywordEach [] (envOfC qual scope s.heap.objs.size f cd)))) _ _ _
 unfold callWith
 refine wpAny_bind (wpAny_holding (wpAny_mono (?_:wpAny _ _ (evalArgs (.ref C) true (backTo cpos (starEach (e₀::rest) (envOfC qual scope s.heap.objs.size f cd))) []) (fun a s2=>a.kw=[]/\∃ vs H2,Inv (cxOf (CXD P w) P w K mg base N qual scope f cd A outer s H E) pins σ H2 s2/\Vals vs a.pos/\vs.length<=sizeLine/\∀ e,H2 e=none->sp (.ref e::vs) (upd H2 e (excN e C none)) (fun v H2=>v=.non/\∃ dd,H2 e=some (excN e C dd)/\E (.ref C) dd (unT H2 e)) E0) _ s1) (fun a s2 h3=>wpAny_bind (wpAny_standAt ?_)) fun _ _ x=>x))
 ·rw[he]
  refine Calls.evalArgs_plain (wpAny_mono h2 (fun us s2 h3=>?_) fun _ _ y=>y)
  obtain⟨vs,H2,I2,r,hl,q⟩:=h3
  exact⟨rfl,vs,H2,I2,r,hl,q⟩
 obtain⟨us,akw⟩:=a
 obtain⟨hkw,vs,H2,I2,r,hl,sq⟩:=h3
 obtain rfl:akw=[]:=hkw
 obtain⟨hp,g,d,tk,os⟩:=s2
 have hpl:(backTo cpos (starEach (e₀::rest) (envOfC qual scope s.heap.objs.size f cd))).any (·.1)=false:=by
  rw[he]
  show (false || (backTo cpos (starEach rest (envOfC qual scope s.heap.objs.size f cd))).any (·.1))=false
  rw[hplain]
  rfl
 simp only [hpl]
 have hC2:=I2.bk _ _ hC
 refine wpAny_bind (wpAny_keeperOf_exc hC2 ?_)
 have fnI:(∃ oI,hp.get? fI=some oI/\oI.cls=.type "function"):=by
  have z:=beq_iff_eq.mp O.fn
  obtain⟨o,ho,hc⟩:=Option.map_eq_some_iff.mp z
  exact⟨o,I2.kIn _ _ ho,hc⟩
 obtain⟨oI,hfI,hfc⟩:=fnI
 have hl':us.length<=sizeLine:=by rw[← r.length];exact hl
 have sz:s.heap.objs.size<=hp.objs.size:=I2.sz
 have hq0:=sq (hp.objs.size+1) (I2.hok.fresh (Nat.le_succ _))
 have I3:Inv (cxOf (CXD P w) P w K mg base N qual scope f cd A outer s H E) pins σ (upd H2 (hp.objs.size+1) (excN (hp.objs.size+1) C none)) ⟨excHeap hp C us,g,d,tk,os⟩ :=
  I2.laid (t':=tk) (fun b u e=>X7 e) (Nat.le_succ _) (N9 Q4)
 have r2:Vals (V.ref (hp.objs.size+1)::vs) (Value.ref (hp.objs.size+1)::us):=.cons rfl r
 have hlen:(Value.ref (hp.objs.size+1)::us++[]).length=ps.length:=by
  rw[List.append_nil,← r2.length]
  exact F.len _ _ _ _ hq0
 refine wpAny_bind (Fw PySem.F.excBase_ValueError (T.keeps I2.bk) hC2 (hN.keeps I2.bk) hni hfI hfc hl' (wpAny_call ?_))
 refine codeAny_mono (F.run _ _ _ _ ⟨Value.ref (hp.objs.size+1)::us,[]⟩ (Value.ref (hp.objs.size+1)::us) _ _ E0 (hr.make C us []).loose ((I3.env0 rfl).make C us []) (by have z:=hb ⟨excHeap hp C us,g,d,tk,os⟩ (Value.ref (hp.objs.size+1)::us) I3.kIn hlen;rw[List.append_nil] at z;exact z) r2 hq0) fun r' s' hq'=>?_
 cases r' with
 | error e=>exact False.elim hq'
 | ok fl =>
  cases fl with
  | ret u =>
   obtain⟨v,H',I4,rv,ev,dx,q3,q4⟩:=I3.after hq'
   subst ev
   obtain⟨t',ht'⟩:=Sr I4.hok q3
   refine⟨rv,wpAny_bind (wpAny_holding (wpAny_point (wpAny_pure ⟨_,t',dx,rfl,I4.bk _ _ hC,ht',Qc I4 q3 (fun o z=>?_) q4⟩)))⟩
   exact absurd (Nat.lt_of_lt_of_le (Heap.lt_size z) sz) (Nat.not_lt.mpr (Nat.le_succ _))
  | next=>exact False.elim hq'
  | brk=>exact False.elim hq'
  | cont=>exact False.elim hq'
end
def HasD (P:Program)(w:World)(K:W.Frag)(mg:Str->Option Value)(base:Heap)(k:Nat)(x:Str)(ps:List Str)(sp:Sp):Prop :=
 ∃ (f:Addr) (fd:FuncData),FnOk P w K mg base (CXD P w) k f fd ps sp true/\mg x=some (.ref f)/\W.keepIn K (.ref f)=true/\Binds K fd ps []
theorem Def.hasD {P:Program}{w:World}{K:W.Frag}{mg:Str->Option Value}{base:Heap}{k:Nat}{x:Str}{st:Stmt}{ps N:List Str}{sp:Sp}(D:Def K mg x st ps)(S:FnScope N ps (defScope st))(len:∀ vs H Q E,sp vs H Q E->vs.length=ps.length)
  (hbody:∀ (f:Addr) (cdv:Value) (A:Around) (outer:List Env) (s:Shared) (H:Hp) (vs:List V) (Q:VK) (E:XK),Room k (A.deeper (envOfC x (defScope st) s.heap.objs.size f cdv)) true->sp vs H Q E →
   ∃ t,PSs (cxOf (CXD P w) P w K mg base N x (defScope st) f cdv A outer s H E) (defBody st) t/\t { nx:=fun _ H'=>Q .non H',rt:=Q } (start N vs) H):HasD P w K mg base (k+1) x ps sp:=by
 obtain⟨f,fd,F,hm,b⟩:=D
 refine⟨f,fd,?_,hm,F.kp,b⟩
 obtain⟨oc,od,kV,doc,pm,an,cdv,ct,osl,rfl,lk,hcd⟩:=F.ex
 exact Z25 lk hcd S len fun A outer s H vs Q E hr hsp=>hbody f cdv A outer s H vs Q E hr hsp
def LandsD (X:Cx)(EX:L2.St->XK):Prop:=∀ (pins:List (Addr × Obj)) (σ:L2.St) (H:Hp) (s:Shared) (e:Value) (s':Shared),Inv X pins σ H s->CXD X.prog X.w X.stack H s (EX σ) e s'->X.xe e s'
section
variable {X:Cx}{k:Nat}{x:Str}{ps:List Str}{sp:Sp}{e:Expr}{es:List Expr}{t:TA}{p pos:Pos}{EX:L2.St->XK}
theorem Sn (h:HasD X.prog X.w X.K X.mg X.base k x ps sp)(hr:Room k X.A true)(hg:Gl X x)(hx:LandsD X EX)(ha:PA X (e::es) t)(hdb:(x == ("__debug__":Str))=false:=by decide)
  (he:starEach (e::es) X.env=(false,eval e X.env)::starEach es X.env:=by rfl) (hpl:(backTo pos (starEach es X.env)).any (·.1)=false:=by rfl) (hc:X.calm=true:=by rfl):PE X (.Call (.Name x p) (e::es) [] pos) (tUseX sp EX t):=by
 obtain⟨f,fd,F,hm,hk,hb⟩:=h
 intro pins s σ H Q I h
 refine wpAny_Call_Name_kw (Wp I hg hm ?_ hdb)
 refine W.callWith_K (h₀:=X.base) I.ok.mod.kin hk (thn (ha pos pins s σ H _ I h) fun us s1 ⟨vs,H1,I1,r,q⟩=>⟨I1.kIn,?_⟩) he hpl
 have hl:us.length=ps.length:=by rw[← r.length];exact F.len _ _ _ _ q
 have bd:=hb s1 us I1.kIn (by rw[List.append_nil];exact hl)
 rw[List.append_nil] at bd
 refine wpAny_call (codeAny_mono (F.run X.A X.stack s1 H1 ⟨us,[]⟩ us vs Q (EX σ) hr (I1.env0 hc) bd r q) fun r' s' hq=>?_)
 cases r' with
 | error e=>exact hx pins σ H1 s1 e s' I1 hq
 | ok fl =>
  cases fl with
  | ret u=>exact I1.after hq
  | next=>exact False.elim hq
  | brk=>exact False.elim hq
  | cont=>exact False.elim hq
end
section
variable {P:Program}{w:World}{K:W.Frag}{mg:Str->Option Value}{base:Heap}{N:List Str}{qual:Str}{scope:Scope}{f:Addr}{cd:Value}{A:Around}{outer:List Env}{s:Shared}{H:Hp}{E:XK}
theorem Rv:LandsD (cxOf (CXD P w) P w K mg base N qual scope f cd A outer s H E) (fun _=>E):=by
 intro pins σ H1 s1 e s' I hx
 obtain⟨a,cls,dd,H',B,rfl,os,bare,fl,un,hok,hB,q⟩:=hx
 replace fl:FlyD B (envOfC qual scope s.heap.objs.size f cd::outer) a cls dd s'.heap:=fl
 have u:Un (frs outer) [] H H1 s.heap s1.heap:=I.base
 have hB2:∀ b o,s.heap.get? b=some o->b ∉ frs outer->(∃ o',B.get? b=some o')/\(H b=none->B.get? b=some o):=fun b o z hb=>by
  have nb:=Wt (qual:=qual) (scope:=scope) (f:=f) (cd:=cd) z hb
  obtain⟨o1,z1⟩:=u.there b o z (by intro z;cases z)
  refine⟨(hB b o1 z1 nb).1,fun n=>?_⟩
  exact (hB b o (u.keep b o z n hb (by intro z;cases z)) nb).2 (u.free b o z n (by intro z;cases z))
 refine K0 I.ok.frames (L:=s.heap.objs.size) rfl fl fun h2 fl2 up=>?_
 refine⟨a,cls,dd,H',B,rfl,os.trans I.os,bare,fl2,?_,hok,hB2,q⟩
 have nf:∀ b∈frs outer,∃ o,s'.heap.get? b=some o/\∀ vs,o.data≠.fields vs:=fun b hb=>by
  obtain⟨_,o,z,d⟩:=fl.2.2.1.mem (b:=b) (List.mem_cons_of_mem _ hb)
  exact⟨o,z,d⟩
 refine Mz (P:=P) (w:=w) ⟨fun b o z n hb hx=>?_,fun b o z n hb hx=>?_,fun b o z n hx=>?_,fun b o z hx=>?_,fun b xs z=>un.tups b xs (u.tups b xs z),fun b o v z=>un.frzs b o v (u.frzs b o v z),fun b ps z=>?_⟩ hB2 fl2.1 up nf
 ·exact un.keep b o (u.keep b o z n hb hx) (u.free b o z n hx) (Wt z hb) hx
 ·obtain⟨sl,z1⟩:=u.slot b o z n hb hx
  obtain⟨sl2,z2⟩:=un.slot b _ z1 (u.free b o z n hx) (List.mem_cons_of_mem _ hb) hx
  exact⟨sl2,z2⟩
 ·obtain⟨o1,z1⟩:=u.there b o z hx
  exact un.free b o1 z1 (u.free b o z n hx) hx
 ·obtain⟨o1,z1⟩:=u.there b o z hx
  exact un.there b o1 z1 hx
 ·obtain⟨m1,z1⟩:=u.tbls b ps z
  obtain⟨m2,z2⟩:=un.tbls b _ z1
  exact⟨m1++m2,by rw[z2,Array.append_assoc]⟩
end
section
variable {X:Cx}{pins:List (Addr × Obj)}{σ:L2.St}{H:Hp}{s:Shared}{a:Addr}
theorem Mj {B:Heap}{H':Hp}{s':Shared}{h2:Heap}{t':Nat}{cls:Value}{dd:Option Addr}(I:Inv X pins σ H s)(os:s'.os=s.os)(bare:AllBare s'.gens)(fl:FlyD B X.stack a cls dd h2)(up:s'.heap.UpToSlots h2)(fl0:FlyD B X.stack a cls dd s'.heap)
  (un:Un (frs X.stack) [] H H' s.heap s'.heap) (hok:HOk X.prog X.w H' B) (hB:∀ b o,s.heap.get? b=some o->b ∉ frs X.stack->(∃ o',B.get? b=some o')/\(H b=none->B.get? b=some o)) :
  Inv X pins σ H' { s' with heap:=h2,toks:=t' }:=by
 refine Inv.call' (s':={ s' with heap:=h2,toks:=t' }) (ch:=[]) I os ?_ (hok.kept fl.1) bare (fun b z=>nomatch z)
 exact Mz (P:=X.prog) (w:=X.w) un hB fl.1 up fun b hb=>by
  obtain⟨_,o,e,d⟩:=fl0.2.2.1.mem hb
  exact⟨o,e,d⟩
end
section
variable {X:Cx}{x n:Str}{i:Nat}{C D:Addr}{body:List Stmt}{b₀:Stmt}{suite:List Stmt}{np hp pos:Pos}{tb:(L2.St->XK)->TS}{ts:TS}
def tTryD (C:Addr)(tb:(L2.St->XK)->TS)(ts:TS):TS:=fun Ds σ H=>tb (fun σ' cls _ H'=>cls=.ref C/\ts Ds σ' H') Ds σ H
theorem Z09 (hst:X.stack=X.env::X.outer)(hfr:X.env.frame=some X.env.locals)(c:CatchBy X.K C D)(hm:X.mg x=some (.ref D))(hg:Gl X x)
  (hb:∀ (pn:List (Addr × Obj)) (E:Value->Shared->Prop) (EX:L2.St->XK),LandsD (tryCx X pn E) EX->PSs (tryCx X pn E) body (tb EX)) (hs:∀ (a:Addr) (pn:List (Addr × Obj)) (E:Value->Shared->Prop),PSs (sutCx X a pn E) (b₀::suite) ts)
  (hd:(x == ("__debug__":Str))=false:=by decide):PS X (.Try body [.ExceptHandler (some (.Name x np)) none (b₀::suite) hp] [] [] pos) (tTryD C tb ts):=by
 intro pins s0 σ0 H0 Ds I0 h
 refine wpAny_Try_except ?_
 refine thn (hb (X.pn++pins) (fun e s₁=>wpAny (model X.prog X.w) X.A (noteFrame e X.env) (fun _ s₂=>wpAny (model X.prog X.w) X.A (setFlight e none) (fun _ s₃=>wpAny (model X.prog X.w) X.A (handleBy e X.env [.ExceptHandler (some (.Name x np)) none (b₀::suite) hp]) (SP X pins Ds) X.xe s₃) X.xe s₂) X.xe s₁)
  (fun σ' cls _ H'=>cls=.ref C/\ts Ds σ' H') ?_ [] s0 σ0 H0 Ds (Jf I0) h) fun fl s1 q=>?_
 ·intro pins' σ H s e s' I hx
  obtain⟨a,cls,dd,H',B,rfl,os,bare,fl,un,hok,hB,rfl,hts⟩:=hx
  have IX:Inv X pins σ H s:=W9 I0.ok I
  replace fl:FlyD B X.stack a (.ref C) dd s'.heap:=fl
  have st2:∀ h2 t',FlyD B X.stack a (.ref C) dd h2->s'.heap.UpToSlots h2->Inv X pins σ H' { s' with heap:=h2,toks:=t' }:=fun h2 t' f2 u2=>Mj IX os bare f2 u2 fl un hok hB
  have frm:X.A.frames=some (X.env::X.outer):=by rw[← hst];exact I0.ok.frames
  have fl':FlyD B (X.env::X.outer) a (.ref C) dd s'.heap:=by rw[← hst];exact fl
  refine Tk frm hfr fl' fun h4 held u4=>Qw held.1 held.2.1 held.2.2.1 held.2.2.2 fun h5 fl5 u5=>?_
  have u45:=u4.trans u5
  rw[← hst] at fl5
  have I5:=st2 h5 s'.toks fl5 u45
  obtain⟨ob,_,hob,hoc,_⟩:=fl5.2.2.2.obj
  refine wpAny_handleBy_cons (codeAny_handlers_test (Wp (X:=sutCx X a (X.pn++pins) X.xe) (N4 I5) hg hm ?_ hd)) (by intro z;cases z)
  obtain⟨hh,g1,d1,t1,o1⟩:=s'
  refine Se I5.kIn c hob hoc (codeAny_handlers_suite ?_)
  refine Qw fl5.1 fl5.2.1 fl5.2.2.1 fl5.2.2.2 fun h6 fl6 u6=>?_
  have I6:=st2 h6 t1 fl6 (u45.trans u6)
  refine thn (hs a (X.pn++pins) _ [] _ σ H' Ds (N4 I6) hts) fun f2 s2 q2=>?_
  exact D7 I0.ok q2
 ·have q':=Nl I0.ok q
  cases fl with
  | next=>exact wpAny_execs_nil q'
  | brk=>exact q'
  | cont=>exact q'
  | ret u=>exact q'
end
theorem _root_.L2.Room.mark {k:Nat}{A:Around}{sr:Bool}{h:Option Value}(r:Room k A sr):Room k (A.mark h):=⟨(fun z=>nomatch z),r.dp,r.un⟩
abbrev sutQ (X:Cx)(a:Addr)(pn:List (Addr × Obj))(E:Value->Shared->Prop):Cx:={ X with A:=X.A.mark (some (.ref a)),pn:=pn,xe:=E }
structure Exc (pn:List (Addr × Obj))(a C:Addr)(dd:Option Addr):Prop where
 ex:∃ o,(a,o)∈pn/\o.cls=.ref C/\o.dict=dd/\NoCtx o
section
variable {X:Cx}{pins pins' pn:List (Addr × Obj)}{σ:L2.St}{H:Hp}{s:Shared}{E:Value->Shared->Prop}{a C:Addr}{dd:Option Addr}
theorem NoCtx.data {o:Obj}(n:NoCtx o):(∀ v,o.data≠.cell v)/\∀ c,o.data≠.cls c:=by
 obtain⟨vs,e,_⟩:=n
 exact⟨(fun v z=>by rw[e] at z;cases z),(fun v z=>by rw[e] at z;cases z)⟩
theorem Z0k (ok:X.Ok)(x:Exc pn a C dd):(sutQ X a pn E).Ok :=
 ⟨ok.mod,ok.kind,ok.glob,ok.blt,ok.above,ok.inj,ok.has,ok.cab,(fun _=>let ⟨o,m,_,_,n⟩:=x.ex;.inr ⟨(a,o),m,rfl,n⟩),ok.frames,ok.stk,ok.exf,ok.bs,ok.bsz,ok.noex,ok.exfs,ok.funs,ok.frf⟩
theorem Bg {o:Obj}(I:Inv X pins σ H s)(ho:s.heap.get? a=some o)(hc:o.cls=.ref C)(hd:o.dict=dd)(n:NoCtx o)(hH:H a=none)(hL:a≠X.env.locals)(hf:a ∉ X.fs):Inv (sutQ X a ((a,o)::(X.pn++pins)) E) [] σ H s :=
 ⟨Z0k I.ok (C:=C) (dd:=dd) ⟨o,List.mem_cons_self,hc,hd,n⟩,I.os,I.bare,I.base,I.loc,I.cell,I.free,I.freeC,fun p hp=>by
  rcases List.mem_cons.mp (show p∈(a,o)::(X.pn++pins) by simpa using hp) with rfl | hp
  ·exact⟨ho,hH,hL,hf,n.data.1⟩
  ·exact I.pin p hp,I.hok,I.len⟩
theorem Vd {o:Obj}(ok:X.Ok)(I:Inv (sutQ X a ((a,o)::(X.pn++pins)) E) pins' σ H s):Inv X pins σ H s :=
 ⟨ok,I.os,I.bare,I.base,I.loc,I.cell,I.free,I.freeC,fun p hp=>I.pin p (List.mem_append_left _ (List.mem_cons_of_mem _ hp)),I.hok,I.len⟩
end
theorem _root_.L2.Inv.pin1 {X:Cx}{pins:List (Addr × Obj)}{σ:L2.St}{H:Hp}{s:Shared}{a:Addr}{o:Obj}(I:Inv X pins σ H s)(ho:s.heap.get? a=some o)(hH:H a=none)(hL:a≠X.env.locals)(hf:a ∉ X.fs)(hc:∀ v,o.data≠.cell v):Inv X ((a,o)::pins) σ H s :=
 ⟨I.ok,I.os,I.bare,I.base,I.loc,I.cell,I.free,I.freeC,fun p hp=>by
  rcases List.mem_append.mp hp with hp | hp
  ·exact I.pin p (List.mem_append_left _ hp)
  ·rcases List.mem_cons.mp hp with rfl | hp
   ·exact⟨ho,hH,hL,hf,hc⟩
   ·exact I.pin p (List.mem_append_right _ hp),I.hok,I.len⟩
theorem _root_.L2.Inv.unpin1 {X:Cx}{pins:List (Addr × Obj)}{σ:L2.St}{H:Hp}{s:Shared}{p:Addr × Obj}(I:Inv X (p::pins) σ H s):Inv X pins σ H s :=
 ⟨I.ok,I.os,I.bare,I.base,I.loc,I.cell,I.free,I.freeC,fun q hq=>I.pin q ((List.mem_append.mp hq).elim (List.mem_append_left _) fun z=>List.mem_append_right _ (List.mem_cons_of_mem _ z)),I.hok,I.len⟩
section
variable {X:Cx}{x n:Str}{i:Nat}{C D:Addr}{body:List Stmt}{b₀:Stmt}{suite:List Stmt}{np hp pos:Pos}{tb:(L2.St->XK)->TS}{ts:Addr->Option Addr->TS}
def tTryQAs (C:Addr)(i:Nat)(tb:(L2.St->XK)->TS)(ts:Addr->Option Addr->TS):TS:=fun Ds σ H=>tb (fun σ' cls dd H'=>cls=.ref C/\∀ a,H' a=none->ts a dd (unN i Ds) (σ'.set i (some (.ref a))) H') Ds σ H
theorem Gc (hN:X.N.Nodup)(hi:X.N[i]?=some n)(hk:X.env.scope.names.lookup n=some .local)(hst:X.stack=X.env::X.outer)(hfr:X.env.frame=some X.env.locals)(c:CatchBy X.K C D)(hm:X.mg x=some (.ref D))(hg:Gl X x)
  (hb:∀ (pn:List (Addr × Obj)) (E:Value->Shared->Prop) (EX:L2.St->XK),LandsD (tryCx X pn E) EX->PSs (tryCx X pn E) body (tb EX)) (hs:∀ (a:Addr) (dd:Option Addr) (pn:List (Addr × Obj)) (E:Value->Shared->Prop),Exc pn a C dd->PSs (sutQ X a pn E) (b₀::suite) (ts a dd))
  (hd:(x == ("__debug__":Str))=false:=by decide):PS X (.Try body [.ExceptHandler (some (.Name x np)) (some n) (b₀::suite) hp] [] [] pos) (tTryQAs C i tb ts):=by
 intro pins s0 σ0 H0 Ds I0 h
 refine wpAny_Try_except ?_
 refine thn (hb (X.pn++pins) (fun e s₁=>wpAny (model X.prog X.w) X.A (noteFrame e X.env) (fun _ s₂=>wpAny (model X.prog X.w) X.A (setFlight e none) (fun _ s₃=>wpAny (model X.prog X.w) X.A (handleBy e X.env [.ExceptHandler (some (.Name x np)) (some n) (b₀::suite) hp]) (SP X pins Ds) X.xe s₃) X.xe s₂) X.xe s₁)
  (fun σ' cls dd H'=>cls=.ref C/\∀ a,H' a=none->ts a dd (unN i Ds) (σ'.set i (some (.ref a))) H') ?_ [] s0 σ0 H0 Ds (Jf I0) h) fun fl s1 q=>?_
 ·intro pins' σ H s e s' I hx
  obtain⟨a,cls,dd,H',B,rfl,os,bare,fl,un,hok,hB,rfl,hts⟩:=hx
  have IX:Inv X pins σ H s:=W9 I0.ok I
  replace fl:FlyD B X.stack a (.ref C) dd s'.heap:=fl
  have st2:∀ h2 t',FlyD B X.stack a (.ref C) dd h2->s'.heap.UpToSlots h2->Inv X pins σ H' { s' with heap:=h2,toks:=t' }:=fun h2 t' f2 u2=>Mj IX os bare f2 u2 fl un hok hB
  have frm:X.A.frames=some (X.env::X.outer):=by rw[← hst];exact I0.ok.frames
  have fl':FlyD B (X.env::X.outer) a (.ref C) dd s'.heap:=by rw[← hst];exact fl
  have nfr:a ∉ frs X.stack:=fun z=>by
   obtain⟨_,o,e1,d1⟩:=fl.2.2.1.mem z
   obtain⟨oe,vs,e2,_,_,d2⟩:=fl.2.2.2.obj
   rw[e1] at e2
   cases e2
   exact d1 vs d2
  have nos:∀ o,s.heap.get? a=some o->False:=fun o e=>by
   obtain⟨o',e'⟩:=(hB a o e nfr).1
   rw[fl.2.1] at e'
   cases e'
  have nH:H' a=none:=by
   cases q:H' a with
   | none=>rfl
   | some u =>
    obtain⟨ob,e'⟩:=M9 (hok a u q)
    rw[fl.2.1] at e'
    cases e'
  have nL:a≠X.env.locals:=fun z=>nfr (by
   rw[hst,z]
   exact List.mem_filterMap.mpr ⟨X.env,List.mem_cons_self,hfr⟩)
  have nF:a ∉ X.fs:=fun z=>nfr (by
   rw[hst]
   obtain⟨v,h1,h2⟩:=List.mem_filterMap.mp z
   exact List.mem_filterMap.mpr ⟨v,List.mem_cons_of_mem _ h1,h2⟩)
  refine Tk frm hfr fl' fun h4 held u4=>Qw held.1 held.2.1 held.2.2.1 held.2.2.2 fun h5 fl5 u5=>?_
  have u45:=u4.trans u5
  rw[← hst] at fl5
  have I5:=st2 h5 s'.toks fl5 u45
  obtain⟨ob,_,hob,hoc,_⟩:=fl5.2.2.2.obj
  refine wpAny_handleBy_cons (codeAny_handlers_test (Wp (X:=sutCx X a (X.pn++pins) X.xe) (N4 I5) hg hm ?_ hd)) (by intro z;cases z)
  obtain⟨hh,g1,d1,t1,o1⟩:=s'
  refine Se I5.kIn c hob hoc (codeAny_handlers_suite_as ?_)
  refine Qw fl5.1 fl5.2.1 fl5.2.2.1 fl5.2.2.2 fun h6 fl6 u6=>?_
  have I6:=st2 h6 t1 fl6 (u45.trans u6)
  obtain⟨ob6,hob6,hoc6,hod6,nc6⟩:=fl6.2.2.2.ctx
  have I7:=I6.pin1 hob6 nH nL nF nc6.data.1
  refine Sz (X:=X) I7 hN hi (.inl hk) (show RelV (.ref a) (.ref a) from rfl) (fun s8 I8=>?_) (.inr hk)
  obtain⟨hob8,nH8,_⟩:=I8.pin (a,ob6) (List.mem_append_right _ List.mem_cons_self)
  have I9:Inv X pins _ H' s8:=I8.unpin1
  refine thn (hs a dd ((a,ob6)::(X.pn++pins)) _ ⟨ob6,List.mem_cons_self,hoc6,hod6,nc6⟩ [] _ _ _ _ (Bg I9 hob8 hoc6 hod6 nc6 nH nL nF) (hts a nH)) fun f2 s2 q2=>?_
  have gone:∀ {σ':L2.St} {H'':Hp},Inv X pins σ' H'' s2->∀ {Qf:Shared->Prop},(∀ s3,Inv X pins (σ'.set i none) H'' s3->Qf s3)->wpAny (model X.prog X.w) X.A (do bindName X.env n .none;unbindBehindTheSuite X.env n hp) (fun _ s₃=>Qf s₃) X.xe s2:=fun {σ' H''} J' {Qf} kk=>by
   obtain⟨m,hn,hl⟩:=J'.loc
   refine wpAny_nameGoes_keeps hk hn (by rw[J'.ok.kind];rfl) fun h' v hn' sb=>kk _ (Bh J' hi hN hk hl hn' sb _)
  cases f2 with
  | next=>obtain⟨σ',H'',J,q⟩:=q2;exact gone (Vd I0.ok J) fun s3 J3=>⟨_,_,J3,q⟩
  | brk=>obtain⟨σ',H'',J,q⟩:=q2;exact gone (Vd I0.ok J) fun s3 J3=>⟨_,_,J3,q⟩
  | cont=>obtain⟨σ',H'',J,q⟩:=q2;exact gone (Vd I0.ok J) fun s3 J3=>⟨_,_,J3,q⟩
  | ret u=>obtain⟨v,σ',H'',J,r,q⟩:=q2;exact gone (Vd I0.ok J) fun s3 J3=>⟨v,_,_,J3,r,q⟩
 ·have q':=Nl I0.ok q
  cases fl with
  | next=>exact wpAny_execs_nil q'
  | brk=>exact q'
  | cont=>exact q'
  | ret u=>exact q'
end
open PySem.W (Looks findIn specialIn takesIn mroIn clsIn)
open Builtin Builtin.ObjectAttr
section
variable {P:Program}{w:World}{A:Around}{E:Value->Shared->Prop}
theorem Fy {s:Shared}{e t:Addr}{C:Addr}{dd:Option Addr}{vs:List Value}{Q:Fin->Shared->Prop}(he:s.heap.get? e=some (newExcO C t dd))(hv:vs.length<=sizeLine)
  (h:Q (.done (.ret .none)) { s with heap:=(s.heap.push (newTupO vs)).update e (Obj.mapFields (·.setIfInBounds 0 (.ref s.heap.objs.size))) }):wpAny (model P w) A (Builtin.«BaseException.__init__» ⟨.ref e::vs,[]⟩) Q E s:=by
 unfold Builtin.«BaseException.__init__»
 dsimp only
 rw[if_neg (by simp)]
 unfold newTuple Builtin.BaseException.bexcPut
 have h1:=Heap.get?_push_of_some (h:=s.heap) (newTupO vs) he
 refine wpAny_bind (wpAny_newObj_type (wpAny_bind (wpAny_bind (wpAny_field h1 rfl rfl (wpAny_bind (wpAny_setField h1 rfl (by show 0<6;decide) ?_))))) (by size_fits))
 exact wpAny_letGo (wpAny_pure h)
end
structure BaseI (K:W.Frag)(mg:Str->Option Value)(x:Str)(D:Addr):Prop where
 bd:mg x=some (.ref D)
 rd:W.readsIn K D (.type "type")=true
 ty:W.typeIn K (.ref D)=some (.type "type")
 fc:W.findCls K (.ref D) (.type "type") "__init__"=some (.val (.builtin "ValueError.__init__"))
def tBaseI (K:W.Frag)(mg:Str->Option Value)(t:TA):TE:=fun σ H Q=>t σ H fun vs H1=>∃ (e C fI:Addr) (dd:Option Addr) (xn:Str) (ws:List V),vs=.ref e::ws/\ws.length<=sizeLine/\H1 e=some (excN e C dd)/\ExcI K mg xn C fI/\Q .non H1
theorem D3 {H:Hp}{a:Addr}{o:HO}(h:H a=some o):upd H a o=H:=by
 funext b
 unfold upd
 split
 ·rename_i z;rw[z,h]
 ·rfl
section
variable {X:Cx}{x:Str}{D:Addr}{e:Expr}{es:List Expr}{t:TA}{np apos pos:Pos}
theorem C2 {pl:Sem Bool}(B:BaseI X.K X.mg x D)(hg:Gl X x)(ha:PA X (e::es) t)(hd:(x == ("__debug__":Str))=false:=by decide)
  (hst:starEach (e::es) X.env=(false,eval e X.env)::starEach es X.env:=by rfl) (hpl:(backTo pos (starEach es X.env)).any (·.1)=false:=by rfl)
  (ht:eval (.Call (.Attribute (.Name x np) "__init__" apos) (e::es) [] pos) X.env=(do
   let ov ← eval (.Name x np) X.env
   standAt apos.atName
   let (f,first) ← holding [ov] (getMethod ov "__init__" pl)
   callWith pos f first (backTo pos (starEach (e::es) X.env)) (backToKw pos (keywordEach [] X.env))):=by rfl) :
  PE X (.Call (.Attribute (.Name x np) "__init__" apos) (e::es) [] pos) (tBaseI X.K X.mg t):=by
 intro pins s σ H Q I h
 refine W.methodCall_KW (pl:=pl) (Wp I hg B.bd ?_ hd) ht
 have L0:=W.looks_typeIn (M:=model X.prog X.w) I.kIn B.ty
 have hga:findIn X.K (.type "type") "__getattribute__"=some (some (.builtin "type.__getattribute__")):=W.type_tga
 unfold getMethod specialOf
 refine wpAny_bind (wpAny_bind (L0.at ((W.looks_findIn I.kIn hga).at ?_)))
 dsimp only
 rw[if_pos W.canon_tga]
 refine wpAny_bind (wpAny_mono (Q:=fun v s'=>v=.builtin "ValueError.__init__"/\s'={ s with toks:=s.toks+1 }) (E:=X.xe) (W.cls_value I.kIn B.rd B.fc rfl ⟨rfl,rfl⟩) (fun v s' ⟨z1,z2⟩=>wpAny_pure ?_) fun _ _ z=>z)
 subst z1 z2
 refine PyProof.Rows.callWith_builtin1 (thn (ha pos pins _ σ H _ (I.tok _) h) fun us s1 ⟨vs,H1,I1,r,q⟩=>?_) hst hpl
 obtain⟨ea,C,fI,dd,xn,ws,rfl,hl,he,O,q⟩:=q
 cases r with
 | @cons _ u _ us' r1 r2 =>
  cases (show u=Value.ref ea from r1)
  obtain⟨t0,ht0⟩:=Sr I1.hok he
  obtain⟨tl,NN,nm,qn,bs,sn,sub,ab,col,dd',k0,k1,k2,k3,k5,mN,hC,hN,hni,T⟩:=O.own I1.kIn
  have hl':us'.length<=sizeLine:=by rw[← r2.length];exact hl
  have I1':=I1
  obtain⟨hp,g,d,tk,os⟩:=s1
  refine wpAny_call (codeAny_call_builtin PySem.F.excBase_ValueError.init.plain PySem.F.excBase_ValueError.initEntry (wpAny_check_init_subT PySem.F.excBase_ValueError T hC ht0 rfl (Fy ht0 hl' ?_)))
  have e1:((hp.push (newTupO us')).update ea (Obj.mapFields (·.setIfInBounds 0 (.ref hp.objs.size)))).get? ea=some (newExcO C hp.objs.size dd):=by
   rw[Heap.get?_update_self _ (Heap.get?_push_of_some _ ht0) rfl]
   rfl
  have I2:=I1'.write (o:=excN ea C dd) (h':=(hp.push (newTupO us')).update ea (Obj.mapFields (·.setIfInBounds 0 (.ref hp.objs.size)))) (t':=tk) (x:=ea) (e:=ea) (by rw[he];trivial) (.inl rfl) (fun b u hb hu=>by
   rw[Heap.get?_update_other _ _ (Ne.symm hb)]
   exact Heap.get?_push_of_some _ hu) ⟨_,e1⟩ (N9 e1)
  rw[D3 he] at I2
  exact⟨.non,H1,I2,rfl,q⟩
end
structure StoI (K:W.Frag)(C:Addr)(f:Str):Prop where
 sa:findIn K (.ref C) "__setattr__"=some (some (.builtin "object.__setattr__"))
 na:findIn K (.ref C) f=some none
theorem M5 {h:Heap}{tl:List Value}{v:Value}(T:OwnTail h bmV tl):refuseLoop v "__setattr__" tl=pure ():=by
 induction T with
 | base=>exact PySem.F.store_ValueError.passes v
 | own _ _ _ _ ih=>rw[refuseLoop_ref];exact ih
section
variable {P:Program}{w:World}{A:Around}{E:Value->Shared->Prop}{h:Heap}{g:Array GenState}{d:Drawn}{t:Nat}{os:OsState}{K:W.Frag}{mg:Str->Option Value}{xn f:Str}{C fI x t0:Addr}{v:Value}
theorem G8 {tk:Tok}{Q:Fin->Shared->Prop}(X:K.In h)(O:ExcI K mg xn C fI)(S:StoI K C f)(hx:h.get? x=some (newExcO C t0 none))
  (hq:∀ h' tk',h'.get? x=some (newExcO C t0 (some h.objs.size))->h'.Ns1 h.objs.size (fun y=>if y=f then some v else none)->(∀ b o,b≠x->h.get? b=some o->h'.get? b=some o)->Q (.done (.ret .none)) ⟨h',g,d,tk',os⟩) :
  wpAny (model P w) A (Builtin.«object.__setattr__» ⟨[.ref x,.str f tk,v],[]⟩) Q E ⟨h,g,d,t,os⟩:=by
 obtain⟨tl,NN,nm,qn,bs,sn,sub,ab,col,dd',k0,k1,k2,k3,k5,mN,hC,hN,hni,T⟩:=O.own X
 have hpass:=M5 (v:=.ref x) T
 have L1:=W.looks_findIn (M:=model P w) X S.na
 have hx0:=hx
 generalize ho:newExcO C t0 none=o at hx
 have hc:o.cls=.ref C:=by rw[← ho]
 have hdn:o.dict=none:=by rw[← ho]
 have hnc:∀ c,o.data≠.cls c:=fun c z=>by rw[← ho] at z;cases z
 unfold Builtin.«object.__setattr__»
 repeat (first | rw[refuse_eq] | (rw[refuseLoop_ref,hpass]) | (with_reducible refine wpAny_loadPart_at hx ?_;rw[hc]) | with_reducible refine wpAny_mroOf_exc hC ?_ | (refine wpAny_bind (L1.at ?_)) | wp_step)
 rw[hdn,if_neg (by simp[typeHasDict])]
 split
 ·rename_i z
  cases z
 split
 ·rename_i c z
  exact absurd z (hnc c)
 subst ho
 have hx1:(h.push { cls:=.type "dict",data:=.dict #[] }).get? x=some (newExcO C t0 none):=Heap.get?_push_of_some _ hx
 have hxs:x≠h.objs.size:=Nat.ne_of_lt (Heap.lt_size hx)
 refine wpAny_bind (wpAny_alloc' (wpAny_bind (wpAny_update' hx1 (wpAny_pure ?_))))
 have gd:((h.push { cls:=.type "dict",data:=.dict #[] }).update x fun o=>{ cls:=o.cls,dict:=some h.objs.size,data:=o.data,slots:=o.slots }).get? h.objs.size=some { cls:=.type "dict",data:=.dict #[] }:=(Heap.get?_update_ne _ _ _ _ hxs.symm).trans (Heap.get?_push_at rfl rfl)
 have nd:((h.push { cls:=.type "dict",data:=.dict #[] }).update x fun o=>{ cls:=o.cls,dict:=some h.objs.size,data:=o.data,slots:=o.slots }).Ns h.objs.size (fun _=>none):=⟨_,#[],_,gd,rfl,fun e he=>absurd he (by simp),fun _=>rfl⟩
 show wpAny _ _ (storeInDict h.objs.size (.str f tk) f v) _ _ _
 unfold storeInDict newKeyGuard
 refine wpAny_bind (wpAny_pure (wpAny_bind (wpAny_nsSet1 (Heap.Ns1.of_empty nd) fun h' hn' hs=>?_)))
 obtain⟨oD,esD,epD,hoD,hdD,hcD⟩:=hn'.count (Within.cons f v Within.nil)
 refine wpAny_bind (wpAny_lookBehind hoD (by rw[hdD];exact pastItsLine_dict (Nat.le_trans hcD (by rw[List.length_cons,List.length_nil,sizeLine_eq];omega))) ?_)
 wp_walk
 refine hq h' _ ?_ hn' fun b ob hbx hb=>?_
 ·refine (hs.2 x hxs).trans ((Heap.get?_update_self _ hx1 rfl).trans ?_)
  rfl
 ·exact (hs.2 b (Nat.ne_of_lt (Heap.lt_size hb))).trans ((Heap.get?_update_ne _ _ _ _ hbx).trans (Heap.get?_push_of_some _ hb))
theorem Fs {M:Model}{nv:Value}{Q:Unit->Shared->Prop}(X:K.In h)(O:ExcI K mg xn C fI)(hx:h.get? x=some (newExcO C t0 none))(hq:Q () ⟨h,g,d,t,os⟩) :
  wpAny M A (checkBuiltinCall "object.__setattr__" ⟨[.ref x,nv,v],[]⟩) Q E ⟨h,g,d,t,os⟩:=by
 obtain⟨tl,NN,nm,qn,bs,sn,sub,ab,col,dd',k0,k1,k2,k3,k5,mN,hC,hN,hni,T⟩:=O.own X
 have cO:(Value.ref C::tl).contains (.type "object")=true:=by rw[List.contains_cons,T.hasType (b:=true) (by decide +kernel),Bool.or_true]
 have ha:=PySem.F.store_ValueError.args (.ref x) nv v
 simp only [checkBuiltinCall,PySem.F.store_ValueError.kind,PySem.F.store_ValueError.split]
 refine wpAny_bind ?_
 unfold isInstance
 repeat (first | (with_reducible refine wpAny_loadPart_at hx ?_) | (with_reducible refine wpAny_isSubtype_exc hC ?_;rw[cO]) | wp_step)
 exact hq
theorem D6 {Q:Unit->Shared->Prop}(X:K.In h)(O:ExcI K mg xn C fI)(S:StoI K C f)(hx:h.get? x=some (newExcO C t0 none))
  (hq:∀ h' tk',h'.get? x=some (newExcO C t0 (some h.objs.size))->h'.Ns1 h.objs.size (fun y=>if y=f then some v else none)->(∀ b o,b≠x->h.get? b=some o->h'.get? b=some o)->Q () ⟨h',g,d,tk',os⟩) :
  wpAny (model P w) A (setAttr (.ref x) f v) Q E ⟨h,g,d,t,os⟩:=by
 have L1:=W.looks_findIn (M:=model P w) X S.sa
 have f3:=PySem.F.store_ValueError.slot.bind (.ref x)
 unfold setAttr callSpecial? specialOf
 refine wpAny_bind (wpAny_mkText ?_)
 refine wpAny_bind (wpAny_bind (wpAny_bind ?_))
 repeat (any_goals (first | assumption | (with_reducible refine wpAny_loadPart_at hx ?_) | (refine wpAny_bind (L1.at ?_)) | (refine L1.at ?_) | wp_step))
 refine codeAny_call_builtin PySem.F.store_ValueError.slot.plain PySem.F.store_ValueError.entry (Fs X O hx (G8 X O S hx fun h' tk' a b c=>?_))
 repeat (any_goals (first | assumption | wp_step))
 exact hq h' tk' a b c
end
section
variable {X:Cx}{o value:Expr}{f:Str}{pos pos':Pos}{ta tv:TE}
def sFldX (K:W.Frag)(mg:Str->Option Value)(ta tv:TE)(f:Str):TS:=fun D σ H=>tv σ H fun y H1=>ta σ H1 fun x H2=>∃ (e C fI:Addr) (xn:Str),x=.ref e/\H2 e=some (excN e C none)/\ExcI K mg xn C fI/\StoI K C f ∧
 ∀ d,H2 d=none->d≠e->D.nx σ (upd (upd H2 e (excN e C (some d))) d (.xd [(f,y)]))
theorem Z0a (ha:PE X o ta)(hv:PE X value tv)(hs:swapsWith value (some (.Attribute o f pos')) pos.line X.env=pure false):PS X (.Assign [.Attribute o f pos'] value pos) (sFldX X.K X.mg ta tv f):=by
 intro pins s σ H D I h
 refine plainObj_wpAny_Assign_Attribute (thn (hv pins s σ H _ I h) fun u s1 ⟨y,H1,I1,ry,q⟩=>thn (ha pins s1 σ H1 _ I1 q) fun ov s2 ⟨x,H2,I2,rx,e,C,fI,xn,ex,ea,O,S,q2⟩=>?_) hs
 subst ex
 obtain rfl:ov=Value.ref e:=rx
 obtain⟨t0,ht0⟩:=Sr I2.hok ea
 obtain⟨hp,g,d,tk,os⟩:=s2
 refine D6 I2.kIn O S ht0 fun h' tk' a b c=>?_
 have hne:hp.objs.size≠e:=Nat.ne_of_gt (Heap.lt_size ht0)
 have I3:=I2.write (o:=excN e C (some hp.objs.size)) (h':=h') (t':=tk') (x:=e) (e:=e) (by rw[ea];trivial) (.inl rfl) (fun b' u hb hu=>c b' u hb hu) ⟨_,a⟩ (N9 a)
 have fr:H2 hp.objs.size=none:=I2.hok.fresh (Nat.le_refl _)
 have fr':upd H2 e (excN e C (some hp.objs.size)) hp.objs.size=none:=by rw[Zb hne];exact fr
 have nw:ObjOk X.prog X.w (upd (upd H2 e (excN e C (some hp.objs.size))) hp.objs.size (.xd [(f,y)])) h' hp.objs.size (.xd [(f,y)]):=by
  refine⟨_,b,fun z=>?_⟩
  by_cases hz:z=f
  ·subst hz
   rw[if_pos rfl]
   show RelO (List.lookup z [(z,y)]) (some u)
   rw[show List.lookup z [(z,y)]=some y from by simp[List.lookup]]
   exact ry
  ·rw[if_neg hz]
   show RelO (List.lookup z [(f,y)]) none
   rw[show List.lookup z [(f,y)]=none from by simp[List.lookup,beq_eq_false_iff_ne.mpr hz]]
   trivial
 have I4:Inv X pins σ (upd (upd H2 e (excN e C (some hp.objs.size))) hp.objs.size (.xd [(f,y)])) ⟨h',g,d,tk',os⟩:=by
  refine Fg I3 fr' nw (fun ob z=>?_) (fun z=>?_) (fun y' cc z z'=>?_) (fun p hp' z=>?_)
  ·exact absurd (Nat.lt_of_lt_of_le (Heap.lt_size z) I2.sz) (Nat.lt_irrefl _)
  ·obtain⟨m,⟨o',_,_,ho',_⟩,_⟩:=I2.loc
   rw[← z] at ho'
   exact absurd (Heap.lt_size ho') (Nat.lt_irrefl _)
  ·obtain⟨v',o',ho',_⟩:=I2.cell y' cc z
   rw[z'] at ho'
   exact absurd (Heap.lt_size ho') (Nat.lt_irrefl _)
  ·have e':=(I2.pin p hp').1
   rw[z] at e'
   exact absurd (Heap.lt_size e') (Nat.lt_irrefl _)
 exact⟨σ,_,I4,q2 _ fr hne⟩
end
end Sb
namespace Sb
open PySem PySem.Spec PyProof.Rows L2
open PySem.W (Looks findIn specialIn takesIn mroIn clsIn)
open Builtin Builtin.ObjectAttr
section
variable {K:W.Frag}{C x dx:Addr}{P:Program}{w:World}{A:Around}{E:Value->Shared->Prop}{h:Heap}{g:Array GenState}{d:Drawn}{t:Nat}{os:OsState}{f:Str}{v:Value}{mA:Str->Option Value}{ox:Obj}
theorem Gi {Q:Option Addr->Shared->Prop}{mg:Str->Option Value}{xn:Str}{fI:Addr}(X:K.In h)(O:ExcI K mg xn C fI)(ho:h.get? x=some ox)(hc:ox.cls=.ref C)(hx:ox.dict=some dx)(hnc:∀ c,ox.data≠.cls c)(q:Q (some dx) ⟨h,g,d,t,os⟩) :
  wpAny (model P w) A (ownDict x) Q E ⟨h,g,d,t,os⟩:=by
 obtain⟨tl,NN,nm,qn,bs,sn,sub,ab,col,dd',k0,k1,k2,k3,k5,mN,hC,hN,hni,T⟩:=O.own X
 unfold ownDict loadHead
 refine wpAny_bind (wpAny_loadPart_at ho ?_)
 split
 ·rename_i c z
  exact absurd z (hnc c)
 ·unfold instanceDict
  refine wpAny_bind (wpAny_loadPart_at ho ?_)
  rw[hc]
  dsimp only
  unfold classData
  refine wpAny_bind (wpAny_bind (wpAny_load hC (wpAny_pure ?_)))
  rw[hx]
  exact wpAny_pure q
theorem Bn {Q:Found->Shared->Prop}{mg:Str->Option Value}{xn:Str}{fI:Addr}(X:K.In h)(O:ExcI K mg xn C fI)(na:findIn K (.ref C) f=some none)(ho:h.get? x=some ox)(hc:ox.cls=.ref C)(hx:ox.dict=some dx)(hnc:∀ c,ox.data≠.cls c)(hn:h.Ns dx mA)(hv:mA f=some v)(q:Q (.value v) ⟨h,g,d,t,os⟩) :
  wpAny (model P w) A (find (.ref x) (.ref C) f) Q E ⟨h,g,d,t,os⟩:=by
 have L1:=W.looks_findIn (M:=model P w) X na
 unfold find
 refine wpAny_bind (L1.at ?_)
 refine wpAny_bind (wpAny_pure ?_)
 refine wpAny_bind (wpAny_pure ?_)
 show wpAny _ _ (ownThenClass (.ref x) f none none) _ _ _
 unfold ownThenClass inOwnDict
 refine wpAny_bind (wpAny_bind (Gi X O ho hc hx hnc ?_))
 show wpAny _ _ (nsGet dx f) _ _ _
 refine wpAny_nsGet hn ?_
 rw[hv]
 exact wpAny_bind (Looks.at (r:=()) (Looks.tag .now) (wpAny_pure q))
theorem Z1i {expr:Bool}{Q:Value->Shared->Prop}{mg:Str->Option Value}{xn:Str}{fI:Addr}(X:K.In h)(R:ExcRead K C)(O:ExcI K mg xn C fI)(na:findIn K (.ref C) f=some none)(ho:h.get? x=some ox)(hc:ox.cls=.ref C)(hx:ox.dict=some dx)(hnc:∀ c,ox.data≠.cls c)(hn:h.Ns dx mA)(hv:mA f=some v)(hh:W.handedIn v=true)(q:Q v ⟨h,g,d,t+1,os⟩) :
  wpAny (model P w) A (getAttr (.ref x) f expr) Q E ⟨h,g,d,t,os⟩:=by
 have Ia:ExAt h x C:=⟨ox,ho,hc⟩
 have L0:=Ia.type (M:=model P w)
 have L1:=W.looks_findIn (M:=model P w) X R.ga
 have L2:=W.looks_findIn (M:=model P w) X R.gh
 have f3:=PySem.F.attr_ValueError.ga.bind (.ref x)
 have e2:(onTheHeap (Value.ref C) && Value.builtin "BaseException.__getattribute__" == Value.builtin "object.__getattribute__")=false:=by
  show (true && (Value.builtin "BaseException.__getattribute__" == Value.builtin "object.__getattribute__"))=false
  decide +kernel
 unfold getAttr getAttrBy
 refine wpAny_bind (wpAny_mkText (wpAny_holding (wpAny_bind (L0.at (wpAny_bind (L1.at ?_))))))
 show wpAny _ _ (if (onTheHeap (Value.ref C) && Value.builtin "BaseException.__getattribute__" == Value.builtin "object.__getattribute__")=true then _ else _) _ _ _
 rw[e2,if_neg Bool.false_ne_true]
 unfold getAttrByItsOwn
 refine wpAny_bind ((show Looks (model P w) h (hookBefore (.ref C)) none from L2).at ?_)
 refine wpAny_bind (wpAny_attempt (wpAny_holding ?_))
 unfold callGetattribute
 rw[show (expr && onTheHeap (Value.builtin "BaseException.__getattribute__"))=false from Bool.and_false _,if_neg (by decide)]
 unfold boundAndCalled
 rw[f3]
 refine wpAny_bind (wpAny_pure ?_)
 refine wpAny_call (codeAny_call_builtin PySem.F.attr_ValueError.ga.plain F.entry_bexc_ga (P8 R X Ia ?_))
 have L0':=Ia.type (M:=model P w)
 unfold Builtin.«object.__getattribute__»
 refine wpAny_bind (wpAny_pure (wpAny_bind (wpAny_pure (wpAny_bind (L0'.at (wpAny_bind (Bn X O na ho hc hx hnc hn hv ?_)))))))
 refine wpAny_pure ?_
 show wpAny _ _ (handedOut v) _ _ _
 rw[W.handedOut_of hh]
 exact wpAny_pure q
end
section
variable {X:Cx}{e:Expr}{f:Str}{pos:Pos}{ta:TE}
end
end Sb
namespace Sb
open PySem PySem.Spec PyProof.Rows L2
def ErrHere (K:W.Frag)(mg:Str->Option Value)(x q:Str)(st:Stmt):Prop:=∃ (C f:Addr) (fd:FuncData),ExcI K mg x C f/\Fun K "__init__" q st f fd/\Binds K fd ["self","multiples"] []/\StoI K C "multiples"/\ExcRead K C
theorem Z33 {K:W.Frag}{h:Heap}{mg:Str->Option Value}{x q:Str}{st:Stmt}{C f:Addr}{oc:Value}{od an:Option Addr}{sl:Array (Option Value)}{kV dc pm cd ct:Value}(X:K.In h)(G:h.Ns mainGlobals mg)(aC:W.nsIn K mainGlobals x=some (some (.ref C)))
  (a1:W.findIn K (.ref C) "__init__"=some (some (.ref f))) (i1:W.isFn K (.ref f)=true) (l1:K.lookup f=some ⟨oc,od,.func (W.fnOf "__init__" q (defArgs st) (defBody st) (defScope st) .none kV dc pm an cd ct),sl⟩) (c1:W.codeIn K cd q=true) (k1:W.keepIn K (.ref f)=true)
  (sa:W.findIn K (.ref C) "__setattr__"=some (some (.builtin "object.__setattr__"))) (na:W.findIn K (.ref C) "multiples"=some none)
  (ga:W.findIn K (.ref C) "__getattribute__"=some (some (.builtin "BaseException.__getattribute__"))) (gh:W.findIn K (.ref C) "__getattr__"=some none) (cl:W.findIn K (.ref C) "__class__"=some (some (.builtin "object.__class__"))) (gt:W.specialIn K (.builtin "object.__class__") "__get__"=some (some (.builtin "getset_descriptor.__get__")))
  (tk:W.takesIn K (.builtin "object.__class__")=some true) (mo:W.mroIn K C (.type "object")=some true) (be:W.subIn K (.ref C) (.type "BaseException")=some true)
  (ok:excInI K C f=true) (bd:∀ (us:List Value),us.length=2->bindArgs (W.fnOf "__init__" q (defArgs st) (defBody st) (defScope st) .none kV dc pm an cd ct) ⟨us,[]⟩=pure ((["self","multiples"]:List Str).zip us)):ErrHere K mg x q st :=
 ⟨C,f,_,⟨ok,i1,W.mg_of X G aC⟩,Ts l1 c1 k1,Binds.all bd,⟨sa,na⟩,⟨ga,gh,cl,gt,tk,mo,be⟩⟩
def BaseHere (K:W.Frag)(mg:Str->Option Value)(x:Str):Prop:=∃ D,BaseI K mg x D
theorem Z1s {K:W.Frag}{h:Heap}{mg:Str->Option Value}{x:Str}{D:Addr}(X:K.In h)(G:h.Ns mainGlobals mg)(a:W.nsIn K mainGlobals x=some (some (.ref D)))(r:W.readsIn K D (.type "type")=true)(t:W.typeIn K (.ref D)=some (.type "type"))
  (f:W.findCls K (.ref D) (.type "type") "__init__"=some (.val (.builtin "ValueError.__init__"))):BaseHere K mg x:=⟨D,W.mg_of X G a,r,t,f⟩
theorem N2 {mg:Str->Option Value}{x:Str}{a b:Addr}(h1:mg x=some (.ref a))(h2:mg x=some (.ref b)):a=b:=by
 rw[h1] at h2
 injection h2 with h
 injection h
def CatchHere (K:W.Frag)(mg:Str->Option Value)(x y:Str):Prop:=∃ (C D:Addr),CatchBy K C D/\mg x=some (.ref C)/\mg y=some (.ref D)
theorem Mw {K:W.Frag}{h:Heap}{mg:Str->Option Value}{x y:Str}{C D:Addr}(X:K.In h)(G:h.Ns mainGlobals mg)(a:W.nsIn K mainGlobals x=some (some (.ref C)))(b:W.nsIn K mainGlobals y=some (some (.ref D)))
  (n:W.instIn K (.ref D) (.type "tuple")=some false) (be:W.subIn K (.ref D) (.type "BaseException")=some true) (i:W.kitOne K (.type "int") (.ref D)=some false) (k:W.subIn K (.ref C) (.ref D)=some true):CatchHere K mg x y :=
 ⟨C,D,⟨n,be,i,k⟩,W.mg_of X G a,W.mg_of X G b⟩
def fH (K:W.Frag)(C:Addr):Sp:=fun vs H Q _=>∃ (e l:Addr) (xs:List V),vs=[.ref e,.ref l]/\H e=some (excN e C none)/\SqL K H l xs ∧
 ∀ (d l':Addr) (H':Hp),H l'=none->H d=none->H' e=some (excN e C (some d))->H' d=some (.xd [("multiples",.ref l')])->H' l'=some (.lst xs)->(∀ b o,H b=some o->b≠e->H' b=some o)->Q .non H'
theorem Bt {H:Hp}{e l' d C:Addr}{xs:List V}{Q:VK}(he:H e=some (excN e C none))(hl':H l'=none)(hd:upd H l' (.lst xs) d=none)(hde:d≠e)
  (k:∀ (d l':Addr) (H':Hp),H l'=none->H d=none->H' e=some (excN e C (some d))->H' d=some (.xd [("multiples",.ref l')])->H' l'=some (.lst xs)->(∀ b o,H b=some o->b≠e->H' b=some o)->Q .non H') :
  Q .non (upd (upd (upd H l' (.lst xs)) e (excN e C (some d))) d (.xd [("multiples",.ref l')])):=by
 have ne:l'≠e:=fun z=>by rw[z,he] at hl';cases hl'
 have nd:d≠l':=fun z=>by rw[z,Z7] at hd;cases hd
 rw[Zb nd] at hd
 refine k d l' _ hl' hd ?_ Z7 ?_ fun b o hb hne=>?_
 ·rw[Zb (Ne.symm hde),Z7]
 ·rw[Zb (Ne.symm nd),Zb ne,Z7]
 ·rw[Zb (fun z=>by rw[z,hd] at hb;cases hb),Zb hne,Zb (fun z=>by rw[z,hl'] at hb;cases hb)]
  exact hb
section
variable {X:Cx}{K:W.Frag}
end
theorem U7 {X:Cx}{K:W.Frag}(hK:X.K=K:=by rfl):CallR X (.type "list") (fun xs H Q=>∃ p ys,xs=[.ref p]/\(SqL K H p ys \/ SqT K H p ys)/\∀ l,H l=none->Q (.ref l) (upd H l (.lst ys))):=hK ▸ Xi
open PySem.W (Looks findIn specialIn takesIn mroIn clsIn)
section
variable {X:Cx}{e:Expr}{f:Str}{pos:Pos}{ta:TE}
def tFldQ (K:W.Frag)(mg:Str->Option Value)(a C0:Addr)(dd:Option Addr)(ta:TE)(f:Str):TE:=fun σ H Q=>ta σ H fun x H1=>∃ (C fI dx:Addr) (xn:Str) (fs:List (Str × V)) (v:V),x=.ref a/\(C0=C/\dd=some dx)/\H1 dx=some (.xd fs)/\fs.lookup f=some v/\ExcRead K C/\ExcI K mg xn C fI/\findIn K (.ref C) f=some none/\Q v H1
theorem Z0d {K:W.Frag}{mg:Str->Option Value}{a C0:Addr}{dd:Option Addr}(xx:Exc X.pn a C0 dd)(he:PE X e ta)(hb:attributeBase e f X.env (eval e X.env)=eval e X.env)(hK:X.K=K:=by rfl)(hM:X.mg=mg:=by rfl):PE X (.Attribute e f pos) (tFldQ K mg a C0 dd ta f):=by
 subst hK hM
 intro pins s σ H Q I h
 refine Jp hb (thn (he pins s σ H _ I h) fun u s1 ⟨x,H1,I1,rx,C,fI,dx,xn,fs,v,ex,ec,ed,l,R,O,na,q⟩=>?_)
 subst ex
 obtain⟨rfl,rfl⟩:=ec
 obtain rfl:u=Value.ref a:=rx
 obtain⟨ox,hm,hc,hx,n⟩:=xx.ex
 have ho:=(I1.pin (a,ox) (List.mem_append_left _ hm)).1
 have hnc:=n.data.2
 obtain⟨mA,hn,r⟩:=(show ObjOk X.prog X.w H1 s1.heap dx (.xd fs) from I1.hok dx _ ed)
 obtain⟨u,hu,ru⟩:=RelO.some_of (v:=v) (o:=mA f) (by rw[← l];exact r f)
 obtain⟨hp,g,d,tk,os⟩:=s1
 exact Z1i I1.kIn R O na ho hc hx hnc hn.ns hu (Qz ru) ⟨v,H1,I1.tok _,ru,q⟩
end
section
variable {X:Cx}{K:W.Frag}
theorem Vg {a C:Addr}{dd:Option Addr}(xx:Exc X.pn a C dd)(hK:X.K=K:=by rfl):CallR X (.builtin "isinstance") (fun xs H Q=>∃ (c:V) (b:Bool),xs=[.ref a,c]/\ExcRead K C ∧
  ((∃ cv,(∀ u,RelV c u->u=cv)/\W.kitOne K (.ref C) cv=some b) \/ (∃ (t:Addr) (cs:List Addr),c=.ref t/\SqT K H t (cs.map V.ref)/\W.kitAny K (.ref C) (cs.map Value.ref)=some b))/\Q (.bl b) H):=by
 subst hK
 intro pins s σ H xs us Q I r h
 obtain⟨c,b,rfl,R,hc,q⟩:=h
 obtain⟨u,w',rfl,rx,ry⟩:=Nk r
 cases (show u=Value.ref a from rx)
 obtain⟨o,hm,hoc,_,_⟩:=xx.ex
 have e:=(I.pin (a,o) (List.mem_append_left _ hm)).1
 rcases hc with ⟨cv,hcv,k⟩ | ⟨t,cs,rfl,st,k⟩
 ·cases hcv w' ry
  exact W.kia_one (Mh R) I.kIn ⟨o,e,hoc⟩ k (fun z=>nomatch z) fun tk=>⟨.bl b,H,I.tok tk,rfl,q⟩
 ·cases (show w'=Value.ref t from ry)
  obtain⟨its,rv,p,_⟩:=I.tuple st
  have ei:its=cs.map Value.ref:=by
   clear p k st ry e
   revert rv
   generalize cs=l
   intro rv
   induction l generalizing its with
   | nil=>cases rv;rfl
   | cons x l ih =>
    cases rv with
    | cons h1 h2 =>
     cases h1
     rw[ih _ h2]
     rfl
  subst ei
  obtain⟨ot,ht,hct,nt,hdt⟩:=(show s.heap.IsTuple t (cs.map Value.ref).toArray from p)
  obtain⟨oc,od,odt,osl⟩:=ot
  cases hct
  cases hdt
  exact W.kia_tup (Mh R) I.kIn ⟨o,e,hoc⟩ ht k (fun z=>nomatch z) fun tk=>⟨.bl b,H,I.tok tk,rfl,q⟩
end
end Sb
namespace Sb
open PySem L2
def top (i:Nat):Stmt:=PySem.Challenge.pw_surebook_k31_no_chance.main.body.getD i (.Pass ⟨0,0,0,0⟩)
abbrev kR:Stmt:=top 11
abbrev j1:Stmt:=top 12
abbrev k4:Stmt:=top 13
abbrev kY:Stmt:=top 14
abbrev lM:Stmt:=top 15
abbrev lF:Stmt:=top 16
abbrev j5:Stmt:=top 17
abbrev kJ:Stmt:=top 18
abbrev j6:Stmt:=top 20
abbrev kW:Stmt:=top 21
abbrev l8:Stmt:=top 22
abbrev mH:Stmt:=top 23
abbrev kO:Stmt:=top 24
abbrev l9:Stmt:=top 30
abbrev kI:Stmt:=top 31
abbrev lJ:Stmt:=top 32
abbrev lQ:Stmt:=top 33
abbrev j7:Stmt:=top 36
abbrev k6:Stmt:=top 37
abbrev lV:Stmt:=top 38
abbrev kF:Stmt:=top 39
abbrev kT:Stmt:=top 40
abbrev kA:Stmt:=top 41
abbrev kG:Stmt:=top 42
abbrev kD:Stmt:=top 43
abbrev lS:Stmt:=top 44
abbrev kB:Stmt:=top 45
abbrev lB:Stmt:=top 46
abbrev j8:Stmt:=top 48
abbrev lG:Stmt:=top 49
abbrev j0:Stmt:=top 50
abbrev lH:Stmt:=top 51
abbrev lA:Stmt:=top 54
abbrev j2:Stmt:=top 55
abbrev lD:Stmt:=top 57
abbrev lN:Stmt:=top 58
abbrev kX:Stmt:=top 60
abbrev j4:Stmt:=top 61
abbrev kP:Stmt:=top 62
abbrev kC:Stmt:=top 63
abbrev mC:Stmt:=top 65
abbrev lC:Stmt:=top 66
abbrev mI:Stmt:=top 67
abbrev lX:Stmt:=top 68
abbrev mF:Stmt:=top 69
abbrev lO:Stmt:=top 70
abbrev k8:Stmt:=top 71
abbrev k7:Stmt:=top 72
abbrev kS:Stmt:=top 73
abbrev lE:Stmt:=top 75
abbrev kZ:Stmt:=top 76
abbrev lP:Stmt:=top 77
abbrev lY:Stmt:=top 78
abbrev k9:Stmt:=top 79
abbrev mB:Stmt:=top 80
abbrev j9:Stmt:=top 81
abbrev lI:Stmt:=top 83
abbrev mD:Stmt:=top 84
abbrev kK:Stmt:=top 85
abbrev lT:Stmt:=top 86
abbrev mE:Stmt:=top 87
abbrev lK:Stmt:=top 88
abbrev kH:Stmt:=top 89
abbrev kU:Stmt:=top 90
abbrev kL:Stmt:=top 91
abbrev mG:Stmt:=top 92
abbrev j3:Stmt:=inClass (top 4) 0
abbrev jZ:Stmt:=inClass (top 35) 0
structure Blt (mg:Str->Option Value):Prop where
 len:mg "len"=none
 abs:mg "abs"=none
 isinstance:mg "isinstance"=none
 int:mg "int"=none
 bool:mg "bool"=none
 tuple:mg "tuple"=none
 range:mg "range"=none
 zip:mg "zip"=none
 enumerate:mg "enumerate"=none
 any:mg "any"=none
 sum:mg "sum"=none
 list:mg "list"=none
 min:mg "min"=none
theorem Jq {ns:List Int}{k:Int}(h0:0<=k)(h1:k<((ns.map V.int).length:Int)):∃ z,atI (ns.map V.int) k=some (.int z):=by
 obtain⟨j,rfl⟩:=Int.eq_ofNat_of_zero_le h0
 rw[List.length_map] at h1
 have hj:j<ns.length:=by omega
 exact⟨ns[j],Zd (by simp[hj])⟩
theorem Bc {n:Nat}{k:Int}(h0:0<=k)(h1:k<(n:Int)):ixN n k=some k.toNat:=by
 unfold ixN
 rw[if_pos h0,if_pos h1]
theorem Uw {j:Int}(h:(0:Int)<j):(0:Int)<j:=h
theorem Z1q {j:Int}(h0:0<=j)(h1:j<=1000):CPow 10 j:=⟨h0,by omega,by decide⟩
theorem Vx (t:Int):-(2 ^ 64)<t % 65537/\t % 65537<2 ^ 64:=by omega
section
variable {P:Program}{w:World}{K:W.Frag}{mg:Str->Option Value}{base:Heap}
def hV (K:W.Frag):Sp:=fun vs H Q _=>∃ (a:Addr) (k:Int) (ns:List Int),vs=[.ref a,.int k]/\SqL K H a (ns.map V.int)/\0<=k/\k<=100000/\∀ z:Int,Q (.int z) H
theorem Dm:FnScope ["_law_script","_law_k","_law_seed","_law_some"] ["_law_script","_law_k"] (defScope mC):=fsc
theorem Z2r (D:Def K mg "_law_cell" mC ["_law_script","_law_k"])(T:Blt mg):Has P w K mg base 1 "_law_cell" ["_law_script","_law_k"] (hV K):=by
 refine D.has fun f fd F=>F.ok Dm (fun vs H Q E h=>?_) (fun cdv A outer s H vs Q E hr h=>?_)
 ·obtain⟨a,k,ns,rfl,_⟩:=h
  rfl
 ·obtain⟨a,k,ns,rfl,hS,hk,hk2,q⟩:=h
  have sc:=Dm
  refine⟨_,(Z6 (Yd (Zi Ut (pv 1) (Zu Y1 rfl T.len boot_len (Z0 (pv 0) Z4)) (Zp _))
    (Z9 (Zf (Ze Zy (pv 0) (pv 1) (fun _ _=>rfl))))
    Zt)
   (Z6 (Zg (i:=2) sc.nd rfl (Or.inl rfl) (Zh Zv (pv 1) Z5))
   (Z6 (Yd (Zi J9 (Zu Y1 rfl T.len boot_len (Z0 (pv 0) Z4)) Z5 (Zp _))
    (Z9 (Zg (i:=2) sc.nd rfl (Or.inl rfl) (Zh Yu (pv 2) (Zh Wh (Ze Zy (pv 0) (Zh Wh (pv 1) (Zu Y1 rfl T.len boot_len (Z0 (pv 0) Z4))) (fun _ _=>rfl)) Z5))))
    Zt)
   (Z6 (Zg (i:=3) sc.nd rfl (Or.inl rfl) (Zh Wh (Zh Zv (pv 2) Z5) Z5))
   (Z9 (Zf (Zh Wh (Zh W4 (Zh Zv (pv 3) (Zh Yu (Zh Yu (pv 3) (Zh Zv Z5 (pv 1))) Z5)) Z5) Z5))))))),?_⟩
  refine⟨_,rfl,_,rfl,a,_,rfl,.inl hS,_,_,rfl,rfl,_,rfl,?_⟩
  refine Xc (fun h=>?_) (fun h=>?_)
  ·have h':=of_decide_eq_true h
   obtain⟨z,hz⟩:=Jq hk h'
   exact⟨_,rfl,_,rfl,a,_,_,_,rfl,rfl,hS,hz,q z⟩
  ·refine⟨_,rfl,_,_,rfl,rfl,Gz (by decide) (by decide),?_⟩
   refine⟨_,rfl,a,_,rfl,.inl hS,_,_,rfl,rfl,_,rfl,?_⟩
   refine Xc (fun h2=>?_) (fun h2=>?_)
   ·have h3:=of_decide_eq_true h2
    obtain⟨z,hz⟩:=Jq (ns:=ns) (k:=k % ((ns.map V.int).length:Int)) (Int.emod_nonneg _ (by omega)) (Int.emod_lt_of_pos _ h3)
    refine⟨_,rfl,_,rfl,_,rfl,_,rfl,a,_,rfl,.inl hS,_,_,rfl,rfl,h3,a,_,_,_,rfl,rfl,hS,hz,_,_,rfl,rfl,Uw (by decide),_,_,rfl,rfl,?_⟩
    refine⟨_,rfl,_,_,rfl,rfl,Gz (by decide) (by decide),_,_,rfl,rfl,Uw (by decide),?_⟩
    exact⟨_,rfl,_,rfl,_,rfl,_,_,rfl,rfl,F4 (by decide) (by decide),_,_,rfl,rfl,_,_,rfl,rfl,_,_,rfl,rfl,F4 (Vx _).1 (Vx _).2,_,_,rfl,rfl,⟨by decide,by decide +kernel⟩,_,_,rfl,rfl,Uw (by decide),q _⟩
   ·refine⟨_,rfl,_,_,rfl,rfl,Gz (by decide) (by decide),_,_,rfl,rfl,Uw (by decide),?_⟩
    exact⟨_,rfl,_,rfl,_,rfl,_,_,rfl,rfl,F4 (by decide) (by decide),_,_,rfl,rfl,_,_,rfl,rfl,_,_,rfl,rfl,F4 (Vx _).1 (Vx _).2,_,_,rfl,rfl,⟨by decide,by decide +kernel⟩,_,_,rfl,rfl,Uw (by decide),q _⟩
def jU:Sp:=fun vs H Q _=>∃ (p q:Int),vs=[.int p,.int q]/\0<q/\q.natAbs.log2<9000/\∀ a H',H a=none->Same H H'->H' a=some (.tup [.int (nT p q),.int (nB p q)])->Q (.ref a) H'
theorem Pj {p q:Int}(h:q≠0)(k:q.natAbs.log2<9000):(sg p q).natAbs.log2<9000:=by
 have h1:=Z3c (p:=p) h
 have h0:=Qi (p:=p) h
 have h2:(sg p q).natAbs≠0:=by omega
 have h3:q.natAbs≠0:=by omega
 exact (Nat.log2_lt h2).mpr (Nat.lt_of_le_of_lt h1 ((Nat.log2_lt h3).mp k))
def muLow (σ:St)(_:Hp):Nat:=match σ with
 | [_,_,_,some (.int y),_]=>y.toNat
 | _=>0
theorem Z1w:FnScope ["_law_top","_law_bottom","_law_one","_law_other","_law_rest"] ["_law_top","_law_bottom"] (defScope mF):=fsc
abbrev Z1 (P:Program)(w:World)(K:W.Frag)(mg:Str->Option Value)(base:Heap):Prop:=Has P w K mg base 2 "_law_low" ["_law_top","_law_bottom"] jU
theorem Z3h (D:Def K mg "_law_low" mF ["_law_top","_law_bottom"])(T:Blt mg):Z1 P w K mg base:=by
 refine D.has fun f fd F=>F.ok Z1w (fun vs H Q E h=>?_) (fun cdv A outer s H vs Q E hr h=>?_)
 ·obtain⟨a,b,rfl,_⟩:=h
  rfl
 ·obtain⟨p,q,rfl,hq,hlog,k⟩:=h
  have sc:=Z1w
  refine⟨_,(Z6 (Zg (i:=2) sc.nd rfl (Or.inl rfl) (Zu Mx rfl T.abs PyProof.Rows.boot_abs (Z0 (pv 0) Z4)))
   (Z6 (Zg (i:=3) sc.nd rfl (Or.inl rfl) (pv 1))
   (Z6 (Rh PassesOwn.never (Zi J9 (pv 3) Z5 (Zp _))
    (Z6 (Zg (i:=4) sc.nd rfl (Or.inl rfl) (Zh Wh (pv 2) (pv 3)))
    (Z6 (Zg (i:=2) sc.nd rfl (Or.inl rfl) (pv 3))
    (Z9 (Zg (i:=3) sc.nd rfl (Or.inl rfl) (pv 4))))))
   (Z9 (Zf (Y8 (Z0 (Zh W4 (pv 0) (pv 2)) (Z0 (Zh W4 (pv 1) (pv 2)) Z4)))))))),?_⟩
  refine⟨_,rfl,_,rfl,_,rfl,?_⟩
  have hq':q≠0:=by omega
  have eg:Int.gcd (if p<0 then -p else p) q=Int.gcd p q:=by split <;> simp
  refine Nj (fun σ H'=>H'=H/\∃ (x y:Int) (r:Option V),σ=[some (.int p),some (.int q),some (.int x),some (.int y),r]/\0<=x/\0<=y/\Int.gcd x y=Int.gcd p q) muLow ⟨rfl,_,q,none,rfl,(by split <;> omega),by omega,eg⟩ ?_
   (fun σ H Q Q' f ⟨v,e,i,j,e1,e2,k,e3,z⟩=>⟨v,e,i,j,e1,e2,k,e3,f _ _ z⟩)
  rintro σ H' ⟨rfl,x,y,r,rfl,hx,hy,hg⟩
  refine⟨_,rfl,_,_,rfl,rfl,_,rfl,?_⟩
  refine Xc (fun h=>?_) (fun h=>?_)
  ·have h':0<y:=of_decide_eq_true h
   refine⟨_,rfl,_,rfl,_,_,rfl,rfl,h',?_⟩
   refine⟨_,rfl,_,rfl,⟨rfl,y,x % y,_,rfl,hy,Int.emod_nonneg _ (by omega),gcd_step.trans hg⟩,?_⟩
   show (x % y).toNat<y.toNat
   have:=Int.emod_lt_of_pos x h'
   have:=Int.emod_nonneg x (show y≠0 by omega)
   omega
  ·have h':¬ 0<y:=fun z=>h (decide_eq_true z)
   have e:=Z32 x y hx (by omega)
   rw[hg] at e
   have es:x=sg p q:=by
    unfold sg gI
    rw[if_neg (by omega),← e]
   subst es
   refine⟨_,rfl,_,rfl,_,_,rfl,rfl,⟨Qi hq',Pj hq' hlog⟩,_,rfl,_,rfl,_,_,rfl,rfl,⟨Qi hq',Pj hq' hlog⟩,sz2,fun a ha=>?_⟩
   exact k a _ ha (Same.new ha) Z7
def gJ (K:W.Frag):Sp:=fun vs H Q _=>∃ (a:Addr) (at_:Nat) (ns:List Int),vs=[.ref a,.int (at_:Int)]/\SqL K H a (ns.map V.int)/\at_<=100/\∀ b H',H b=none->Same H H'->BagAt H' b 101->Q (.ref b) H'
theorem Dn:FnScope ["_law_script","_law_at","_law_cell_here"] ["_law_script","_law_at"] (defScope mI):=fsc
theorem Z2s (D:Def K mg "_law_bag" mI ["_law_script","_law_at"])(fU:Has P w K mg base 1 "_law_cell" ["_law_script","_law_k"] (hV K)):Has P w K mg base 2 "_law_bag" ["_law_script","_law_at"] (gJ K):=by
 refine D.has fun f fd F=>F.ok Dn (fun vs H Q E h=>?_) (fun cdv A outer s H vs Q E hr h=>?_)
 ·obtain⟨a,at_,ns,rfl,_⟩:=h
  rfl
 ·obtain⟨a,at_,ns,rfl,hS,hat,k⟩:=h
  have sc:=Dn
  refine⟨_,(Z6 (Zg (i:=2) sc.nd rfl (Or.inl rfl) (Zc fU hr (Z0 (pv 0) (Z0 (pv 1) Z4))))
   (Z6 (Yd (PW.pt (Vi (Zi Z3e (pv 2) (Zh Pt Z5 Z5) (Zp _)) (Wd (Zi Z22 (pv 2) (Vj Xz (Zh Pt Z5 Z5)) (Zp _)))))
    (Z9 (Zf (Xb (Z0 (pv 2) (Z0 Z5 Z4)))))
    Zt)
   (Z9 (Zf (Xb (Z0 (Zh Wh (pv 2) Z5) (Z0 (Zh Yu (pv 1) Z5) Z4))))))),?_⟩
  refine⟨_,rfl,_,rfl,a,_,ns,rfl,hS,by omega,by omega,fun z=>?_⟩
  have fin:∀ (x y:Int),0<=y->y<=101->∀ d,H d=none->Q (.ref d) (upd H d (.lst [.int x,.int y])):=fun x y y0 y1 d hd=>k d _ hd (Same.new hd) ⟨x,y,Z7,y0,by omega⟩
  refine⟨_,rfl,_,_,rfl,rfl,Z1q (by decide) (by decide),_,_,rfl,rfl,_,rfl,?_⟩
  refine Xc (fun h1=>?_) (fun h1=>?_)
  ·exact⟨_,rfl,sz2,fun d hd=>fin _ _ (by decide) (by decide) d hd⟩
  refine⟨_,rfl,_,_,rfl,rfl,Z1q (by decide) (by decide),_,rfl,_,_,rfl,rfl,_,rfl,?_⟩
  refine Xc (fun h2=>?_) (fun h2=>?_)
  ·exact⟨_,rfl,sz2,fun d hd=>fin _ _ (by decide) (by decide) d hd⟩
  ·exact⟨_,rfl,_,_,rfl,rfl,Uw (by decide),_,rfl,_,_,rfl,rfl,sz2,fun d hd=>fin _ _ (by omega) (by omega) d hd⟩
def jM:Sp:=fun vs H Q _=>∃ (b:Addr) (m:Int) (n:Nat),vs=[.ref b,.int m]/\BagAt H b n/\n<=1000000000/\0<m/\m.natAbs.log2<9000 ∧
 ∀ (r:Int) (H':Hp),0<=r->r<m->BagAt H' b (n+1)->SameX b H H'->Q (.int r) H'
theorem Db:FnScope ["_law_bag_here","_law_many","_law_some"] ["_law_bag_here","_law_many"] (defScope lX):=fsc
abbrev Z2 (P:Program)(w:World)(K:W.Frag)(mg:Str->Option Value)(base:Heap):Prop:=Has P w K mg base 1 "_law_take" ["_law_bag_here","_law_many"] jM
theorem Z2i (D:Def K mg "_law_take" lX ["_law_bag_here","_law_many"]):Z2 P w K mg base:=by
 refine D.has fun f fd F=>F.ok Db (fun vs H Q E h=>?_) (fun cdv A outer s H vs Q E hr h=>?_)
 ·obtain⟨b,m,n,rfl,_⟩:=h
  rfl
 ·obtain⟨b,m,n,rfl,⟨x,y,e,hy,hyn⟩,hn,hm,hlog,q⟩:=h
  have sc:=Db
  have hL:SqL K H b [.int x,.int y]:=SqL.of e
  refine⟨_,(Z6 (Yd (Zi Xu (Ze Jb (pv 0) Z5 (fun _ _=>rfl)) Z5 (Zp _))
    (Z6 (Zg (i:=2) sc.nd rfl (Or.inl rfl) (Zh Wh (Ze Jc (pv 0) Z5 (fun _ _=>rfl)) (pv 1)))
    (Z6 (Ub (Zh W4 (Ze Jc (pv 0) Z5 (fun _ _=>rfl)) (pv 1)) (Rk (pv 0) Z5 Vk))
    (Z9 (Zf (pv 2)))))
    Zt)
   (Z6 (Ub (Zh Wh (Zh Yu (Zh Yu (Zh Zv (Ze Jc (pv 0) Z5 (fun _ _=>rfl)) Z5) (Zh Zv (Zh Zv Z5 (Ze Jb (pv 0) Z5 (fun _ _=>rfl))) (Ze Jb (pv 0) Z5 (fun _ _=>rfl)))) Z5) Z5) (Rk (pv 0) Z5 Vk))
   (Z6 (Ub (Zh Yu (Ze Jb (pv 0) Z5 (fun _ _=>rfl)) Z5) (Rk (pv 0) Z5 Vk))
   (Z9 (Zf (Zh Wh (Zh Wh (Zh Zv (Ze Jc (pv 0) Z5 (fun _ _=>rfl)) Z5) Z5) (pv 1))))))),?_⟩
  refine⟨_,rfl,b,_,_,rfl,rfl,hL,rfl,_,rfl,?_⟩
  refine Xc (fun h=>?_) (fun h=>?_)
  ·refine⟨_,rfl,b,_,_,rfl,rfl,hL,_,rfl,_,_,rfl,rfl,hm,?_⟩
   refine⟨_,rfl,b,_,_,rfl,rfl,hL,_,rfl,_,_,rfl,rfl,⟨by omega,hlog⟩,_,rfl,b,_,_,0,rfl,rfl,e,rfl,?_⟩
   refine⟨_,rfl,?_⟩
   exact q _ _ (Int.emod_nonneg _ (by omega)) (Int.emod_lt_of_pos _ hm) ⟨_,y,Z7,hy,by omega⟩ (SameX.upd b H _)
  ·refine⟨_,rfl,b,_,_,rfl,rfl,hL,_,_,rfl,rfl,Gz (by decide) (by decide),_,rfl,b,_,_,rfl,rfl,hL,_,_,rfl,rfl,F4 (by decide) (by decide),_,rfl,b,_,_,rfl,rfl,hL,_,_,rfl,rfl,Gz (by omega) (by omega),_,_,rfl,rfl,_,_,rfl,rfl,_,_,rfl,rfl,Uw (by decide),_,rfl,b,_,_,0,rfl,rfl,e,rfl,?_⟩
   refine⟨_,rfl,b,_,_,rfl,rfl,SqL.of Z7,_,_,rfl,rfl,_,rfl,b,_,_,1,rfl,rfl,Z7,rfl,?_⟩
   refine⟨_,rfl,b,_,_,rfl,rfl,SqL.of Z7,_,_,rfl,rfl,Gz (by decide) (by decide),_,_,rfl,rfl,Uw (by decide),_,rfl,_,_,rfl,rfl,hm,?_⟩
   exact q _ _ (Int.emod_nonneg _ (by omega)) (Int.emod_lt_of_pos _ hm) ⟨_,y+1,Z7,by omega,by omega⟩ ((SameX.upd b H _).trans (SameX.upd b _ _))
def i8:Sp:=fun vs H Q _=>∃ (a b:Int),vs=[.int a,.int b]/\Q (.int (Int.gcd a b:Nat)) H
theorem Z1y:FnScope ["one","other","rest"] ["one","other"] (defScope j1):=fsc
def muGcd (σ:St)(_:Hp):Nat:=match σ with
 | [_,some (.int y),_]=>y.natAbs
 | _=>0
theorem Z18 {y:Int}(h:(!decide (V.int y=V.int 0))=true):y≠0:=by
 intro z
 subst z
 simp at h
theorem Z1n {y:Int}(h:¬ (!decide (V.int y=V.int 0))=true):y=0:=by
 apply Classical.byContradiction
 intro z
 apply h
 have:¬ V.int y=V.int 0:=fun q=>z (V.int.inj q)
 simp[this]
theorem Z3j (D:Def K mg "common_divisor" j1 ["one","other"])(T:Blt mg):Has P w K mg base 1 "common_divisor" ["one","other"] i8:=by
 refine D.has fun f fd F=>F.ok Z1y (fun vs H Q E h=>?_) (fun cdv A outer s H vs Q E hr h=>?_)
 ·obtain⟨a,b,rfl,_⟩:=h
  rfl
 ·obtain⟨a,b,rfl,q⟩:=h
  have sc:=Z1y
  refine⟨_,(Z6 (Rh PassesOwn.never (Zi J8 (pv 1) Z5 (Zp _))
    (Z6 (Zg (i:=2) sc.nd rfl (Or.inl rfl) (Zh Z0i (pv 0) (pv 1)))
    (Z6 (Zg (i:=0) sc.nd rfl (Or.inl rfl) (pv 1))
    (Z9 (Zg (i:=1) sc.nd rfl (Or.inl rfl) (pv 2))))))
   (Z9 (Zf (Zu Mx rfl T.abs PyProof.Rows.boot_abs (Z0 (pv 0) Z4))))),?_⟩
  refine Nj (fun σ H'=>H'=H/\∃ (x y:Int) (r:Option V),σ=[some (.int x),some (.int y),r]/\Int.gcd x y=Int.gcd a b) muGcd ⟨rfl,a,b,none,rfl,rfl⟩ ?_
   (fun σ H Q Q' f ⟨v,e,e1,k,e3,z⟩=>⟨v,e,e1,k,e3,f _ _ z⟩)
  rintro σ H' ⟨rfl,x,y,r,rfl,hg⟩
  refine⟨_,rfl,rfl,_,rfl,?_⟩
  refine Xc (fun h=>?_) (fun h=>?_)
  ·have h':y≠0:=Z18 h
   refine⟨_,rfl,_,rfl,_,_,rfl,rfl,h',?_⟩
   refine⟨_,rfl,_,rfl,⟨rfl,y,x.fmod y,_,rfl,(Fj x y).trans hg⟩,?_⟩
   exact Bm x h'
  ·have h':y=0:=Z1n h
   subst h'
   refine⟨_,rfl,_,rfl,?_⟩
   have e:(if x<0 then -x else x)=((Int.gcd a b:Nat):Int):=by
    rw[← hg]
    simp
    split <;> omega
   rw[e]
   exact q
def eI:Sp:=fun vs H Q _=>∃ (p q:Int),vs=[.int p,.int q]/\q≠0/\q.natAbs.log2<9000/\∀ a H',H a=none->Same H H'->H' a=some (.tup [.int (nT p q),.int (nB p q)])->Q (.ref a) H'
theorem Nt:FnScope ["top","bottom","divisor"] ["top","bottom"] (defScope k4):=fsc
theorem Ch (D:Def K mg "lowest" k4 ["top","bottom"])(eJ:Has P w K mg base 1 "common_divisor" ["one","other"] i8):Has P w K mg base 2 "lowest" ["top","bottom"] eI:=by
 refine D.has fun f fd F=>F.ok Nt (fun vs H Q E h=>?_) (fun cdv A outer s H vs Q E hr h=>?_)
 ·obtain⟨a,b,rfl,_⟩:=h
  rfl
 ·obtain⟨p,q,rfl,hq,hlog,k⟩:=h
  have sc:=Nt
  refine⟨_,(Z6 (Zg (i:=2) sc.nd rfl (Or.inl rfl) (Zc eJ hr (Z0 (pv 0) (Z0 (pv 1) Z4))))
   (Z6 (Wo (Yd (Zi Ut (pv 1) Z5 (Zp _))
    (Z9 (Zg (i:=2) sc.nd rfl (Or.inl rfl) (Vj Xz (pv 2))))
    Zt))
   (Z9 (Zf (Y8 (Z0 (Zh W4 (pv 0) (pv 2)) (Z0 (Zh W4 (pv 1) (pv 2)) Z4))))))),?_⟩
  refine⟨_,rfl,_,rfl,_,_,rfl,?_⟩
  refine⟨fun σ H'=>H'=H/\σ=[some (.int p),some (.int q),some (.int (sg p q))],?_,?_⟩
  ·refine⟨_,rfl,_,_,rfl,rfl,_,rfl,?_⟩
   refine Xc (fun h=>?_) (fun h=>?_)
   ·have h':q<0:=of_decide_eq_true h
    refine⟨_,rfl,_,rfl,rfl,?_⟩
    have e:sg p q=-((Int.gcd p q:Nat):Int):=by unfold sg gI;rw[if_pos h']
    rw[e]
    rfl
   ·have h':¬ q<0:=fun z=>h (decide_eq_true z)
    refine⟨rfl,?_⟩
    have e:sg p q=((Int.gcd p q:Nat):Int):=by unfold sg gI;rw[if_neg h']
    rw[e]
    rfl
  ·rintro σ H' ⟨rfl,rfl⟩
   refine⟨_,rfl,_,rfl,_,_,rfl,rfl,⟨Qi hq,Pj hq hlog⟩,_,rfl,_,rfl,_,_,rfl,rfl,⟨Qi hq,Pj hq hlog⟩,sz2,fun a ha=>?_⟩
   exact k a _ ha (Same.new ha) Z7
def eK (K:W.Frag)(op:Rat->Rat->Rat):Sp:=fun vs H Q _=>∃ (a b:Addr) (r s:Rat) (n:Nat),vs=[.ref a,.ref b]/\SqT K H a [.int r.1,.int r.2]/\SqT K H b [.int s.1,.int s.2]/\Good n r/\Good n s/\n<=4000 ∧
 ∀ c H',H c=none->Same H H'->H' c=some (.tup [.int (op r s).1,.int (op r s).2])->Q (.ref c) H'
theorem U2 {n:Nat}{x y:Int}(h:Bd n x)(k:Bd n y)(hn:n<=4000):(x*y).natAbs.log2<9000:=Bd.log (h.mul k) (by omega)
theorem Ks:FnScope ["_law_one","_law_other"] ["_law_one","_law_other"] (defScope lO):=fsc
abbrev Z3 (P:Program)(w:World)(K:W.Frag)(mg:Str->Option Value)(base:Heap):Prop:=Has P w K mg base 3 "_law_plus" ["_law_one","_law_other"] (eK K addR)
theorem Z0z (D:Def K mg "_law_plus" lO ["_law_one","_law_other"])(eE:Z1 P w K mg base):Z3 P w K mg base:=by
 refine D.has fun f fd F=>F.ok Ks (fun vs H Q E h=>?_) (fun cdv A outer s H vs Q E hr h=>?_)
 ·obtain⟨a,b,r,s,n,rfl,_⟩:=h
  rfl
 ·obtain⟨a,b,r,s,n,rfl,hA,hB,gr,gs,hn,k⟩:=h
  have sc:=Ks
  refine⟨_,(Z9 (Zf (Zc eE hr (Z0 (Zh Yu (Zh Zv (Ze Xg (pv 0) Z5 (fun _ _=>rfl)) (Ze Yq (pv 1) Z5 (fun _ _=>rfl))) (Zh Zv (Ze Xg (pv 1) Z5 (fun _ _=>rfl)) (Ze Yq (pv 0) Z5 (fun _ _=>rfl)))) (Z0 (Zh Zv (Ze Yq (pv 0) Z5 (fun _ _=>rfl)) (Ze Yq (pv 1) Z5 (fun _ _=>rfl))) Z4))))),?_⟩
  exact⟨_,rfl,_,_,_,rfl,rfl,hA,_,rfl,_,_,_,rfl,rfl,hB,_,_,rfl,rfl,gr.b1.mulOk gs.b2 (by omega) (by omega),_,rfl,_,_,_,rfl,rfl,hB,_,rfl,_,_,_,rfl,rfl,hA,_,_,rfl,rfl,gs.b1.mulOk gr.b2 (by omega) (by omega),_,_,rfl,rfl,_,rfl,_,_,_,rfl,rfl,hA,_,rfl,_,_,_,rfl,rfl,hB,_,_,rfl,rfl,gr.b2.mulOk gs.b2 (by omega) (by omega),_,_,rfl,Int.mul_pos gr.pos gs.pos,U2 gr.b2 gs.b2 hn,k⟩
theorem Nw:FnScope ["_law_one","_law_other"] ["_law_one","_law_other"] (defScope k8):=fsc
theorem Cl (D:Def K mg "_law_minus" k8 ["_law_one","_law_other"])(eE:Z1 P w K mg base):Has P w K mg base 3 "_law_minus" ["_law_one","_law_other"] (eK K subR):=by
 refine D.has fun f fd F=>F.ok Nw (fun vs H Q E h=>?_) (fun cdv A outer s H vs Q E hr h=>?_)
 ·obtain⟨a,b,r,s,n,rfl,_⟩:=h
  rfl
 ·obtain⟨a,b,r,s,n,rfl,hA,hB,gr,gs,hn,k⟩:=h
  have sc:=Nw
  refine⟨_,(Z9 (Zf (Zc eE hr (Z0 (Zh Vn (Zh Zv (Ze Xg (pv 0) Z5 (fun _ _=>rfl)) (Ze Yq (pv 1) Z5 (fun _ _=>rfl))) (Zh Zv (Ze Xg (pv 1) Z5 (fun _ _=>rfl)) (Ze Yq (pv 0) Z5 (fun _ _=>rfl)))) (Z0 (Zh Zv (Ze Yq (pv 0) Z5 (fun _ _=>rfl)) (Ze Yq (pv 1) Z5 (fun _ _=>rfl))) Z4))))),?_⟩
  exact⟨_,rfl,_,_,_,rfl,rfl,hA,_,rfl,_,_,_,rfl,rfl,hB,_,_,rfl,rfl,gr.b1.mulOk gs.b2 (by omega) (by omega),_,rfl,_,_,_,rfl,rfl,hB,_,rfl,_,_,_,rfl,rfl,hA,_,_,rfl,rfl,gs.b1.mulOk gr.b2 (by omega) (by omega),_,_,rfl,rfl,_,rfl,_,_,_,rfl,rfl,hA,_,rfl,_,_,_,rfl,rfl,hB,_,_,rfl,rfl,gr.b2.mulOk gs.b2 (by omega) (by omega),_,_,rfl,Int.mul_pos gr.pos gs.pos,U2 gr.b2 gs.b2 hn,k⟩
theorem Nv:FnScope ["_law_one","_law_other"] ["_law_one","_law_other"] (defScope k7):=fsc
theorem Cj (D:Def K mg "_law_times" k7 ["_law_one","_law_other"])(eE:Z1 P w K mg base):Has P w K mg base 3 "_law_times" ["_law_one","_law_other"] (eK K mulR'):=by
 refine D.has fun f fd F=>F.ok Nv (fun vs H Q E h=>?_) (fun cdv A outer s H vs Q E hr h=>?_)
 ·obtain⟨a,b,r,s,n,rfl,_⟩:=h
  rfl
 ·obtain⟨a,b,r,s,n,rfl,hA,hB,gr,gs,hn,k⟩:=h
  have sc:=Nv
  refine⟨_,(Z9 (Zf (Zc eE hr (Z0 (Zh Zv (Ze Xg (pv 0) Z5 (fun _ _=>rfl)) (Ze Xg (pv 1) Z5 (fun _ _=>rfl))) (Z0 (Zh Zv (Ze Yq (pv 0) Z5 (fun _ _=>rfl)) (Ze Yq (pv 1) Z5 (fun _ _=>rfl))) Z4))))),?_⟩
  exact⟨_,rfl,_,_,_,rfl,rfl,hA,_,rfl,_,_,_,rfl,rfl,hB,_,_,rfl,rfl,gr.b1.mulOk gs.b1 (by omega) (by omega),_,rfl,_,_,_,rfl,rfl,hA,_,rfl,_,_,_,rfl,rfl,hB,_,_,rfl,rfl,gr.b2.mulOk gs.b2 (by omega) (by omega),_,_,rfl,Int.mul_pos gr.pos gs.pos,U2 gr.b2 gs.b2 hn,k⟩
end
theorem p6:(10:Int) ^ (6:Int).toNat=1000000:=by decide +kernel
theorem lg6:(2*(10:Int) ^ (6:Int).toNat+1).natAbs.log2<9000:=by decide +kernel
theorem Fx {x:Int}(h1:-2000000<x)(h2:x<2000000):Bd 21 x:=by
 unfold Bd
 have e:(2:Nat) ^ 21=2097152:=by decide
 rw[e]
 omega
theorem Zq {n:Nat}(h:n<=1000):n<=sizeLine:=Nat.le_trans h (by decide)
theorem Vo {r:Rat}(hp:0<r.2)(hc:Int.gcd r.1 r.2=1):nrm r.1 r.2=r:=by
 have e:=Ys r.1 r.2
 have hq:r.2≠0:=by omega
 refine X9 (N0 hq) hp (Cu hq) hc ?_
 exact e
section
variable {P:Program}{w:World}{K:W.Frag}{mg:Str->Option Value}{base:Heap}
def fM:Sp:=fun vs H Q _=>∃ (i:Int),vs=[.int i]/\Q (.bl true) H
theorem Kg:FnScope ["_law_found"] ["_law_found"] (defScope lC):=fsc
theorem Z0m (D:Def K mg "_law_whole" lC ["_law_found"])(T:Blt mg):Has P w K mg base 1 "_law_whole" ["_law_found"] fM:=by
 refine D.has fun f fd F=>F.ok Kg (fun vs H Q E h=>?_) (fun cdv A outer s H vs Q E hr h=>?_)
 ·obtain⟨i,rfl,_⟩:=h
  rfl
 ·obtain⟨i,rfl,q⟩:=h
  have sc:=Kg
  refine⟨_,(Z9 (Zf (Lj (Zu Xy rfl T.isinstance PyProof.Rows.boot_isinstance (Z0 (pv 0) (Z0 (Rm T.int PyProof.Rows.boot_int) Z4))) (Pn (Po (Zu Xy rfl T.isinstance PyProof.Rows.boot_isinstance (Z0 (pv 0) (Z0 (Rm T.bool PyProof.Rows.boot_bool) Z4)))))))),?_⟩
  refine⟨_,rfl,_,_,_,_,rfl,TyOf.int i,T4,_,rfl,Rx ?_⟩
  exact⟨_,rfl,_,_,_,_,rfl,TyOf.int i,T7,_,rfl,q⟩
def i5 (K:W.Frag):Sp:=fun vs H Q _=>∃ (a:Addr) (r:Rat) (n:Nat),vs=[.ref a]/\SqT K H a [.int r.1,.int r.2]/\Good n r/\n<=8000/\∀ H',Same H H'->Q (.bl true) H'
theorem Dh:FnScope ["_law_found"] ["_law_found"] (defScope kS):=fsc
theorem Z2m (D:Def K mg "_law_is_ratio" kS ["_law_found"])(T:Blt mg)(gE:Has P w K mg base 1 "_law_whole" ["_law_found"] fM)(eE:Z1 P w K mg base):Has P w K mg base 3 "_law_is_ratio" ["_law_found"] (i5 K):=by
 refine D.has fun f fd F=>F.ok Dh (fun vs H Q E h=>?_) (fun cdv A outer s H vs Q E hr h=>?_)
 ·obtain⟨a,r,n,rfl,_⟩:=h
  rfl
 ·obtain⟨a,r,n,rfl,hA,g,hn,k⟩:=h
  have hU:=Nat.lt_of_succ_lt (Bi hr)
  have sc:=Dh
  refine⟨_,(Z6 (Yd (PW.pt (Vi (We (Xa (Zu Nh rfl T.isinstance PyProof.Rows.boot_isinstance (Z0 (pv 0) (Z0 (Rm T.tuple PyProof.Rows.boot_tuple) Z4))))) (Wd (Zi J8 (Zu Y1 rfl T.len boot_len (Z0 (pv 0) Z4)) Z5 (Zp _)))))
    (Z9 (Zf Wy))
    Zt)
   (Z6 (Yd (PW.pt (Vi (We (Xa (Zc gE hr (Z0 (Ze Xg (pv 0) Z5 (fun _ _=>rfl)) Z4)))) (Vi (We (Xa (Zc gE hr (Z0 (Ze Yq (pv 0) Z5 (fun _ _=>rfl)) Z4)))) (Wd (Zi Ut (Ze Yq (pv 0) Z5 (fun _ _=>rfl)) Z5 (Zp _))))))
    (Z9 (Zf Wy))
    Zt)
   (Z9 (Zf (U1 (C8 (K:=K) hU) (Zc eE hr (Z0 (Ze Xg (pv 0) Z5 (fun _ _=>rfl)) (Z0 (Ze Yq (pv 0) Z5 (fun _ _=>rfl)) Z4))) (pv 0) (Zp _)))))),?_⟩
  refine⟨_,rfl,_,_,_,_,rfl,hA,T4,_,rfl,Xf ?_⟩
  refine⟨_,rfl,a,_,rfl,.inr hA,rfl,_,rfl,Bf rfl ?_⟩
  refine⟨_,rfl,_,_,_,rfl,rfl,hA,_,rfl,_,rfl,Xf ?_⟩
  refine⟨_,rfl,_,_,_,rfl,rfl,hA,_,rfl,_,rfl,Xf ?_⟩
  refine⟨_,rfl,_,_,_,rfl,rfl,hA,_,_,rfl,rfl,_,rfl,?_⟩
  have pos:=g.pos
  have e0:decide (r.2<1)=false:=decide_eq_false (by omega)
  rw[e0]
  refine Xf ?_
  refine⟨_,rfl,_,_,_,rfl,rfl,hA,_,rfl,_,_,_,rfl,rfl,hA,_,_,rfl,pos,g.b2.log (by omega),fun c H2 fc S2 e2=>?_⟩
  have en:=Vo pos g.cop
  have e2':H2 c=some (.tup ([r.1,r.2].map V.int)):=by
   rw[e2]
   show some (HO.tup [.int (nrm r.1 r.2).1,.int (nrm r.1 r.2).2])=_
   rw[en]
   rfl
  have hA2:SqT K H2 a ([r.1,r.2].map V.int):=Zo S2 hA
  refine⟨_,rfl,c,a,[r.1,r.2],[r.1,r.2],rfl,rfl,SqT.of e2',hA2,?_⟩
  rw[decide_eq_true rfl]
  exact k _ S2
def fQ (K:W.Frag):Sp:=fun vs H Q _=>∃ (a b:Addr) (r s:Rat) (n:Nat),vs=[.ref a,.ref b]/\SqT K H a [.int r.1,.int r.2]/\SqT K H b [.int s.1,.int s.2]/\Good n r/\Good n s/\n<=4000/\Q (.bl (decide (r.1*s.2<s.1*r.2))) H
theorem Nm:FnScope ["_law_one","_law_other"] ["_law_one","_law_other"] (defScope lE):=fsc
theorem C9 (D:Def K mg "_law_under" lE ["_law_one","_law_other"]):Has P w K mg base 1 "_law_under" ["_law_one","_law_other"] (fQ K):=by
 refine D.has fun f fd F=>F.ok Nm (fun vs H Q E h=>?_) (fun cdv A outer s H vs Q E hr h=>?_)
 ·obtain⟨a,b,r,s,n,rfl,_⟩:=h
  rfl
 ·obtain⟨a,b,r,s,n,rfl,hA,hB,gr,gs,hn,k⟩:=h
  have sc:=Nm
  refine⟨_,(Z9 (Zf (U1 Ut (Zh Zv (Ze Xg (pv 0) Z5 (fun _ _=>rfl)) (Ze Yq (pv 1) Z5 (fun _ _=>rfl))) (Zh Zv (Ze Xg (pv 1) Z5 (fun _ _=>rfl)) (Ze Yq (pv 0) Z5 (fun _ _=>rfl))) (Zp _)))),?_⟩
  exact⟨_,rfl,_,_,_,rfl,rfl,hA,_,rfl,_,_,_,rfl,rfl,hB,_,_,rfl,rfl,gr.b1.mulOk gs.b2 (by omega) (by omega),_,rfl,_,_,_,rfl,rfl,hB,_,rfl,_,_,_,rfl,rfl,hA,_,_,rfl,rfl,gs.b1.mulOk gr.b2 (by omega) (by omega),_,_,rfl,rfl,k⟩
def gR (K:W.Frag):Sp:=fun vs H Q _=>∃ (a b:Addr) (r s:Rat) (n:Nat),vs=[.ref a,.ref b]/\SqT K H a [.int r.1,.int r.2]/\SqT K H b [.int s.1,.int s.2]/\Good n r/\Good n s/\0<s.1/\n<=4000/\∀ c H',H c=none->Same H H'->H' c=some (.tup [.int (nrm (r.1*s.2) (r.2*s.1)).1,.int (nrm (r.1*s.2) (r.2*s.1)).2])->Q (.ref c) H'
theorem Nq:FnScope ["_law_one","_law_other","_law_top","_law_bottom"] ["_law_one","_law_other"] (defScope kZ):=fsc
theorem Cf (D:Def K mg "_law_parted" kZ ["_law_one","_law_other"])(eE:Z1 P w K mg base):Has P w K mg base 3 "_law_parted" ["_law_one","_law_other"] (gR K):=by
 refine D.has fun f fd F=>F.ok Nq (fun vs H Q E h=>?_) (fun cdv A outer s H vs Q E hr h=>?_)
 ·obtain⟨a,b,r,s,n,rfl,_⟩:=h
  rfl
 ·obtain⟨a,b,r,s,n,rfl,hA,hB,gr,gs,hs,hn,k⟩:=h
  have sc:=Nq
  refine⟨_,(Z6 (Zg (i:=2) sc.nd rfl (Or.inl rfl) (Zh Zv (Ze Xg (pv 0) Z5 (fun _ _=>rfl)) (Ze Yq (pv 1) Z5 (fun _ _=>rfl))))
   (Z6 (Zg (i:=3) sc.nd rfl (Or.inl rfl) (Zh Zv (Ze Yq (pv 0) Z5 (fun _ _=>rfl)) (Ze Xg (pv 1) Z5 (fun _ _=>rfl))))
   (Z6 (Yd (Zi Ut (pv 3) Z5 (Zp _))
    (Z9 (Zf (Zc eE hr (Z0 (Vj Xz (pv 2)) (Z0 (Vj Xz (pv 3)) Z4)))))
    Zt)
   (Z9 (Zf (Zc eE hr (Z0 (pv 2) (Z0 (pv 3) Z4)))))))),?_⟩
  have hp:=Int.mul_pos gr.pos hs
  refine⟨_,rfl,_,_,_,rfl,rfl,hA,_,rfl,_,_,_,rfl,rfl,hB,_,_,rfl,rfl,gr.b1.mulOk gs.b2 (by omega) (by omega),?_⟩
  refine⟨_,rfl,_,_,_,rfl,rfl,hA,_,rfl,_,_,_,rfl,rfl,hB,_,_,rfl,rfl,gr.b2.mulOk gs.b1 (by omega) (by omega),?_⟩
  refine⟨_,rfl,_,_,rfl,rfl,_,rfl,?_⟩
  refine Xc (fun h=>?_) (fun h=>?_)
  ·have:=of_decide_eq_true h
   omega
  ·exact⟨_,rfl,_,rfl,_,_,rfl,hp,U2 gr.b2 gs.b1 hn,k⟩
end
section
variable {K:W.Frag}{H:Hp}{Q:VK}{a b:Addr}{rs ss:List Rat}
theorem RowAt.same {H':Hp}(h:RowAt K H a rs)(S:Same H H'):RowAt K H' a rs:=h.ext (Ext.same S)
end
theorem Z3m {z m:Int}(h0:0<=z)(h1:z<m):∃ i:Nat,z=(i:Int)/\(i:Int)<m:=⟨z.toNat,by omega,by omega⟩
theorem Z1a {c:Nat}(h:c<=1000):(c:Int).natAbs.log2<9000:=by
 have e:(c:Int).natAbs=c:=by omega
 rw[e]
 rcases Nat.eq_zero_or_pos c with z | z
 ·subst z;decide
 ·exact Nat.lt_of_le_of_lt (Nat.log2_le_self c) (by omega)
theorem bdS {n:Nat}{x:Int}(h:x.natAbs<2 ^ n):Bd n x:=h
theorem Cs {σ:L2.St}{H:Hp}{Q:Option Int->Hp->Prop}(h:Q none H):tNoPart σ H Q:=h
section
variable {P:Program}{w:World}{K:W.Frag}{mg:Str->Option Value}{base:Heap}
theorem Qm:FnScope ["value"] ["value"] (defScope kR):=fsc
theorem Gp (D:Def K mg "is_whole" kR ["value"])(T:Blt mg):Has P w K mg base 1 "is_whole" ["value"] fM:=by
 refine D.has fun f fd F=>F.ok Qm (fun vs H Q E h=>?_) (fun cdv A outer s H vs Q E hr h=>?_)
 ·obtain⟨i,rfl,_⟩:=h
  rfl
 ·obtain⟨i,rfl,q⟩:=h
  have sc:=Qm
  refine⟨_,(Z9 (Zf (Lj (Zu Xy rfl T.isinstance PyProof.Rows.boot_isinstance (Z0 (pv 0) (Z0 (Rm T.int PyProof.Rows.boot_int) Z4))) (Pn (Po (Zu Xy rfl T.isinstance PyProof.Rows.boot_isinstance (Z0 (pv 0) (Z0 (Rm T.bool PyProof.Rows.boot_bool) Z4)))))))),?_⟩
  refine⟨_,rfl,_,_,_,_,rfl,TyOf.int i,T4,_,rfl,Rx ?_⟩
  exact⟨_,rfl,_,_,_,_,rfl,TyOf.int i,T7,_,rfl,q⟩
theorem Np:FnScope ["top","bottom"] ["top","bottom"] (defScope kY):=fsc
theorem Ce (D:Def K mg "ratio" kY ["top","bottom"])(g6:Has P w K mg base 1 "is_whole" ["value"] fM)(fD:Has P w K mg base 2 "lowest" ["top","bottom"] eI):Has P w K mg base 3 "ratio" ["top","bottom"] eI:=by
 refine D.has fun f fd F=>F.ok Np (fun vs H Q E h=>?_) (fun cdv A outer s H vs Q E hr h=>?_)
 ·obtain⟨p,q,rfl,_⟩:=h
  rfl
 ·obtain⟨p,q,rfl,hq,hlog,k⟩:=h
  have sc:=Np
  refine⟨_,(Z6 (Yd (PW.pt (Vi (We (Xa (Zc g6 hr (Z0 (pv 0) Z4)))) (Wd (We (Xa (Zc g6 hr (Z0 (pv 1) Z4)))))))
    (Z9 Xt)
    Zt)
   (Z6 (Yd (Zi Xu (pv 1) Z5 (Zp _))
    (Z9 Xt)
    Zt)
   (Z9 (Zf (Zc fD hr (Z0 (pv 0) (Z0 (pv 1) Z4))))))),?_⟩
  refine⟨_,rfl,p,rfl,_,rfl,Xf ⟨_,rfl,q,rfl,_,rfl,Xf ?_⟩⟩
  refine⟨_,rfl,rfl,_,rfl,Qy (fun z=>hq (V.int.inj z)) ?_⟩
  exact⟨_,rfl,_,rfl,p,q,rfl,hq,hlog,k⟩
end
def fldsT (a b c d e:V):List (Str × V):=putF "lack" e (putF "bottom" d (putF "heads" c (putF "owners" b (putF "lines" a []))))
section
variable {a b c d e:V}
theorem Xx:(fldsT a b c d e).lookup ("lines":Str)=some a:=by
 unfold fldsT
 rw[Y0,if_neg (by decide +kernel),Y0,if_neg (by decide +kernel),Y0,if_neg (by decide +kernel),Y0,if_neg (by decide +kernel),Y0,if_pos rfl]
theorem Yy:(fldsT a b c d e).lookup ("owners":Str)=some b:=by
 unfold fldsT
 rw[Y0,if_neg (by decide +kernel),Y0,if_neg (by decide +kernel),Y0,if_neg (by decide +kernel),Y0,if_pos rfl]
theorem V2:(fldsT a b c d e).lookup ("heads":Str)=some c:=by
 unfold fldsT
 rw[Y0,if_neg (by decide +kernel),Y0,if_neg (by decide +kernel),Y0,if_pos rfl]
theorem V3:(fldsT a b c d e).lookup ("bottom":Str)=some d:=by
 unfold fldsT
 rw[Y0,if_neg (by decide +kernel),Y0,if_pos rfl]
theorem N8:(fldsT a b c d e).lookup ("lack":Str)=some e:=by
 unfold fldsT
 rw[Y0,if_pos rfl]
end
def ownI (m:Nat)(T:Sv.Tab):List Int:=(List.range m).map fun i=>(T.own i:Int)
def hdI (n:Nat)(T:Sv.Tab):List Int:=(List.range n).map fun j=>(T.hd j:Int)
def lineI (n:Nat)(T:Sv.Tab)(i:Nat):List Int:=(List.range (n+1)).map fun j=>T.L i j
theorem V9 {m:Nat}{T:Sv.Tab}{i:Nat}(h:i<m):(ownI m T)[i]?=some (T.own i:Int):=by unfold ownI;simp[h]
theorem Ue {n:Nat}{T:Sv.Tab}{j:Nat}(h:j<n):(hdI n T)[j]?=some (T.hd j:Int):=by unfold hdI;simp[h]
theorem Xv {n:Nat}{T:Sv.Tab}{i j:Nat}(h:j<=n):(lineI n T i)[j]?=some (T.L i j):=by unfold lineI;simp[show j<n+1 by omega]
theorem Vm (m:Nat)(T:Sv.Tab):(ownI m T).length=m:=by unfold ownI;simp
theorem Vf (n:Nat)(T:Sv.Tab):(hdI n T).length=n:=by unfold hdI;simp
theorem Ym (n:Nat)(T:Sv.Tab)(i:Nat):(lineI n T i).length=n+1:=by unfold lineI;simp
theorem X2 {xs:List Int}{i:Nat}{z:Int}(h:xs[i]?=some z):(xs.map V.int)[i]?=some (V.int z):=by rw[List.getElem?_map,h];rfl
def TabAt (C:Addr)(H:Hp)(p:Addr)(m n lk:Nat)(T:Sv.Tab):Prop:=∃ (dx la oa ha:Addr) (las:List Addr),H p=some (.ins C dx (fldsT (.ref la) (.ref oa) (.ref ha) (.int T.b) (.int (lk:Int))))/\H la=some (.lst (las.map V.ref))/\las.length=m ∧
 (∀ (i:Nat) (a:Addr),las[i]?=some a->H a=some (.lst ((lineI n T i).map V.int)))/\H oa=some (.lst ((ownI m T).map V.int))/\H ha=some (.lst ((hdI n T).map V.int))
theorem TabAt.same {C:Addr}{H H':Hp}{p:Addr}{m n lk:Nat}{T:Sv.Tab}(h:TabAt C H p m n lk T)(S:Same H H'):TabAt C H' p m n lk T:=by
 obtain⟨dx,la,oa,ha,las,h1,h2,h3,h4,h5,h6⟩:=h
 exact⟨dx,la,oa,ha,las,S _ _ h1,S _ _ h2,h3,fun i a e=>S _ _ (h4 i a e),S _ _ h5,S _ _ h6⟩
structure TabOk (m n:Nat)(T:Sv.Tab):Prop where
 oi:∀ i k,i<m->k<m->T.own i=T.own k->i=k
 hi:∀ i k,i<n->k<n->T.hd i=T.hd k->i=k
 ne:∀ i j,i<m->j<n->T.own i≠T.hd j
theorem TabOk.of {m n:Nat}{col:Nat->Sv.Vec}{rhs:Sv.Vec}{T:Sv.Tab}(I:Sv.Inv m n col rhs T):TabOk m n T:=⟨fun _ _ h1 h2 e=>I.ownInj h1 h2 e,fun _ _ h1 h2 e=>I.hdInj h1 h2 e,fun _ _ h1 h2=>I.ne h1 h2⟩
structure TabC (K:W.Frag)(mg:Str->Option Value)(C:Addr):Prop where
 cl:Cls K C
 nL:NoAttr K C "lines"
 nO:NoAttr K C "owners"
 nH:NoAttr K C "heads"
 nB:NoAttr K C "bottom"
 nK:NoAttr K C "lack"
 mgC:mg "Table"=some (.ref C)
theorem N6 {K:W.Frag}{H:Hp}{a:Addr}{ns:List Int}{z:Int}{Q:VK}(h:H a=some (.lst (ns.map V.int)))(q:Q (.bl (decide (z∈ns))) H):rIn K false (.int z) (.ref a) H Q:=by
 refine⟨a,_,rfl,.inl (SqL.of h),rfl,Wb _,?_⟩
 show Q (.bl (inV (.int z) (ns.map V.int))) H
 rw[V0]
 exact q
theorem mem_ownI {m v:Nat}{T:Sv.Tab}:((v:Int)∈ownI m T) ↔ ∃ i,i<m/\T.own i=v:=by
 unfold ownI
 simp only [List.mem_map,List.mem_range]
 constructor
 ·rintro ⟨i,hi,e⟩
  exact⟨i,hi,by omega⟩
 ·rintro ⟨i,hi,e⟩
  exact⟨i,hi,by omega⟩
theorem mem_hdI {n v:Nat}{T:Sv.Tab}:((v:Int)∈hdI n T) ↔ ∃ i,i<n/\T.hd i=v:=by
 unfold hdI
 simp only [List.mem_map,List.mem_range]
 constructor
 ·rintro ⟨i,hi,e⟩
  exact⟨i,hi,by omega⟩
 ·rintro ⟨i,hi,e⟩
  exact⟨i,hi,by omega⟩
section
variable {P:Program}{w:World}{K:W.Frag}{mg:Str->Option Value}{base:Heap}{C:Addr}
def fB (C:Addr):Sp:=fun vs H Q _=>∃ (p:Addr) (m n lk i:Nat) (T:Sv.Tab),vs=[.ref p,.int (T.own i:Int)]/\TabAt C H p m n lk T/\TabOk m n T/\i<m/\m<=1000/\∀ a,H a=some (.lst ((lineI n T i).map V.int))->Q (.ref a) H
theorem Nu:FnScope ["table","owner"] ["table","owner"] (defScope k6):=fsc
theorem Ci (D:Def K mg "line_of" k6 ["table","owner"])(tc:TabC K mg C):Has P w K mg base 1 "line_of" ["table","owner"] (fB C):=by
 refine D.has fun f fd F=>F.ok Nu (fun vs H Q E h=>?_) (fun cdv A outer s H vs Q E hr h=>?_)
 ·obtain⟨p,m,n,lk,i,T,rfl,_⟩:=h
  rfl
 ·obtain⟨p,m,n,lk,i,T,rfl,⟨dx,la,oa,ha,las,h1,h2,h3,h4,h5,h6⟩,ok,hi,hm,k⟩:=h
  have sc:=Nu
  refine⟨_,(Z9 (Zf (Ze Zy (Ye (pv 0) rfl) (Wf PySem.F.plainAttrs_list PySem.F.slot_list_index PySem.F.type_list_index (Rr (K:=K)) (Ye (pv 0) rfl) (Z0 (pv 1) Z4)) (fun _ _=>rfl)))),?_⟩
  have ea:las[i]?=some (las[i]'(by omega)):=by simp
  refine⟨_,rfl,p,C,dx,_,_,rfl,h1,tc.cl,tc.nL,Xx,_,rfl,p,C,dx,_,_,rfl,h1,tc.cl,tc.nO,Yy,.inl ⟨rfl,_,SqL.of h5⟩,_,rfl,?_⟩
  refine⟨oa,ownI m T,_,i,rfl,rfl,SqL.of h5,V9 hi,fun k hk e=>?_,by rw[Vm];exact hm,?_⟩
  ·rw[V9 (by omega)] at e
   have:=ok.oi k i (by omega) hi (by have:=Option.some.inj e;omega)
   omega
  ·exact⟨la,_,_,_,rfl,rfl,SqL.of h2,Zd (by rw[List.getElem?_map,ea];rfl),k _ (h4 i _ ea)⟩
def iR (C:Addr):Sp:=fun vs H Q _=>∃ (p:Addr) (m n lk v:Nat) (T:Sv.Tab),vs=[.ref p,.int (v:Int)]/\TabAt C H p m n lk T/\TabOk m n T/\m<=1000/\n<=1000/\Q (.int (Sv.endOf m n T v)) H
theorem TabOk.endO {m n:Nat}{T:Sv.Tab}(h:TabOk m n T){i:Nat}(hi:i<m):Sv.endOf m n T (T.own i)=T.L i n:=by
 unfold Sv.endOf
 rw[Sv.sm_one (k:=i) hi fun k hk hne=>if_neg fun z=>hne (h.oi k i hk hi z),if_pos rfl]
theorem TabOk.numH {m n:Nat}{T:Sv.Tab}(h:TabOk m n T){i j:Nat}(hj:j<n):Sv.numAt n T i (T.hd j)=T.L i j:=by
 unfold Sv.numAt
 rw[Sv.sm_one (k:=j) hj fun k hk hne=>if_neg fun z=>hne (h.hi k j hk hj z),if_pos rfl]
theorem Ni {n:Nat}{T:Sv.Tab}{i:Nat}:atI ((lineI n T i).map V.int) (-1)=some (V.int (T.L i n)):=by
 unfold atI ixN
 rw[List.length_map,Ym,if_neg (by decide),if_pos (by omega)]
 show ((lineI n T i).map V.int)[(-1+((n+1:Nat):Int)).toNat]?=_
 have:(-1+((n+1:Nat):Int)).toNat=n:=by omega
 rw[this]
 exact X2 (Xv (Nat.le_refl n))
theorem Ky:FnScope ["table","thing"] ["table","thing"] (defScope lV):=fsc
theorem Z15 (D:Def K mg "end_of" lV ["table","thing"])(tc:TabC K mg C)(fE:Has P w K mg base 1 "line_of" ["table","owner"] (fB C)):Has P w K mg base 2 "end_of" ["table","thing"] (iR C):=by
 refine D.has fun f fd F=>F.ok Ky (fun vs H Q E h=>?_) (fun cdv A outer s H vs Q E hr h=>?_)
 ·obtain⟨p,m,n,lk,v,T,rfl,_⟩:=h
  rfl
 ·obtain⟨p,m,n,lk,v,T,rfl,tab,ok,hm,hn,q⟩:=h
  obtain⟨dx,la,oa,ha,las,h1,h2,h3,h4,h5,h6⟩:=id tab
  have sc:=Ky
  refine⟨_,(Z9 (Zf (Wx (Zi Xm (pv 1) (Ye (pv 0) rfl) rfl) (Ze Zy (Zc fE hr (Z0 (pv 0) (Z0 (pv 1) Z4))) (Vj Xz Z5) (fun _ _=>rfl)) Z5))),?_⟩
  refine⟨_,rfl,_,rfl,p,C,dx,_,_,rfl,h1,tc.cl,tc.nO,Yy,N6 h5 ⟨_,rfl,?_⟩⟩
  refine Xc (fun h=>?_) (fun h=>?_)
  ·obtain⟨i,hi,e⟩:=mem_ownI.mp (of_decide_eq_true h)
   subst e
   refine⟨_,rfl,_,rfl,p,m,n,lk,i,T,rfl,tab,ok,hi,hm,fun a ea=>⟨_,rfl,?_⟩⟩
   refine⟨a,_,_,_,rfl,rfl,SqL.of ea,Ni,?_⟩
   rw[ok.endO hi] at q
   exact q
  ·have:Sv.endOf m n T v=0:=Sv.sm_zero fun i hi=>if_neg fun z=>h (decide_eq_true (mem_ownI.mpr ⟨i,hi,z⟩))
   rw[this] at q
   exact q
def iJ (C:Addr):Sp:=fun vs H Q _=>∃ (p:Addr) (m n lk i v:Nat) (T:Sv.Tab),vs=[.ref p,.int (T.own i:Int),.int (v:Int)]/\TabAt C H p m n lk T/\TabOk m n T/\i<m/\m<=1000/\n<=1000/\Q (.int (Sv.numAt n T i v)) H
theorem Ko:FnScope ["table","owner","thing"] ["table","owner","thing"] (defScope kF):=fsc
theorem Z0v (D:Def K mg "number_at" kF ["table","owner","thing"])(tc:TabC K mg C)(fE:Has P w K mg base 1 "line_of" ["table","owner"] (fB C)):Has P w K mg base 2 "number_at" ["table","owner","thing"] (iJ C):=by
 refine D.has fun f fd F=>F.ok Ko (fun vs H Q E h=>?_) (fun cdv A outer s H vs Q E hr h=>?_)
 ·obtain⟨p,m,n,lk,i,v,T,rfl,_⟩:=h
  rfl
 ·obtain⟨p,m,n,lk,i,v,T,rfl,tab,ok,hi,hm,hn,q⟩:=h
  obtain⟨dx,la,oa,ha,las,h1,h2,h3,h4,h5,h6⟩:=id tab
  have sc:=Ko
  refine⟨_,(Z9 (Zf (Wx (Zi Xm (pv 2) (Ye (pv 0) rfl) rfl) (Ze Zy (Zc fE hr (Z0 (pv 0) (Z0 (pv 1) Z4))) (Wf PySem.F.plainAttrs_list PySem.F.slot_list_index PySem.F.type_list_index (Rr (K:=K)) (Ye (pv 0) rfl) (Z0 (pv 2) Z4)) (fun _ _=>rfl)) Z5))),?_⟩
  refine⟨_,rfl,_,rfl,p,C,dx,_,_,rfl,h1,tc.cl,tc.nH,V2,N6 h6 ⟨_,rfl,?_⟩⟩
  refine Xc (fun h=>?_) (fun h=>?_)
  ·obtain⟨j,hj,e⟩:=mem_hdI.mp (of_decide_eq_true h)
   subst e
   refine⟨_,rfl,_,rfl,p,m,n,lk,i,T,rfl,tab,ok,hi,hm,fun a ea=>?_⟩
   refine⟨_,rfl,p,C,dx,_,_,rfl,h1,tc.cl,tc.nH,V2,.inl ⟨rfl,_,SqL.of h6⟩,_,rfl,ha,hdI n T,_,j,rfl,rfl,SqL.of h6,Ue hj,fun k hk e=>?_,by rw[Vf];exact hn,?_⟩
   ·rw[Ue (by omega)] at e
    have:=ok.hi k j (by omega) hj (by have:=Option.some.inj e;omega)
    omega
   ·refine⟨a,_,_,_,rfl,rfl,SqL.of ea,Zd (X2 (Xv (Nat.le_of_lt hj))),?_⟩
    rw[ok.numH hj] at q
    exact q
  ·have:Sv.numAt n T i v=0:=Sv.sm_zero fun j hj=>if_neg fun z=>h (decide_eq_true (mem_hdI.mpr ⟨j,hj,z⟩))
   rw[this] at q
   exact q
def helps (lk:Nat)(T:Sv.Tab)(i j:Nat):Bool:=decide (0<T.L i j) && !decide (T.hd j=lk)
def foundI (n lk:Nat)(T:Sv.Tab)(i:Nat):List Int:=((List.range n).filter fun j=>helps lk T i j).map fun j=>(T.hd j:Int)
theorem Sd (n lk:Nat)(T:Sv.Tab)(i:Nat):foundI (n+1) lk T i=foundI n lk T i++if helps lk T i n then [(T.hd n:Int)] else []:=by
 unfold foundI
 rw[List.range_succ,List.filter_append,List.map_append]
 congr 1
 cases h:helps lk T i n <;> simp[h]
def gB (C:Addr):Sp:=fun vs H Q _=>∃ (p:Addr) (m n lk i:Nat) (T:Sv.Tab),vs=[.ref p,.int (T.own i:Int)]/\TabAt C H p m n lk T/\TabOk m n T/\i<m/\m<=1000/\n<=1000 ∧
 ∀ H',Same H H'->(∀ c,c<n->helps lk T i c=true->(∀ j,j<n->helps lk T i j=true->T.hd c<=T.hd j)->Q (.int (c:Int)) H')/\((∀ j,j<n->helps lk T i j=false)->Q .non H')
theorem Qn:FnScope ["table","owner","found"] ["table","owner"] (defScope kT):=fsc
theorem Gq (D:Def K mg "helping" kT ["table","owner"])(T0:Blt mg)(tc:TabC K mg C)(fE:Has P w K mg base 1 "line_of" ["table","owner"] (fB C)):Has P w K mg base 2 "helping" ["table","owner"] (gB C):=by
 refine D.has fun f fd F=>F.ok Qn (fun vs H Q E h=>?_) (fun cdv A outer s H vs Q E hr h=>?_)
 ·obtain⟨p,m,n,lk,i,T,rfl,_⟩:=h
  rfl
 ·obtain⟨p,m,n,lk,i,Tb,rfl,tab,ok,hi,hm,hn,k⟩:=h
  obtain⟨dx,la,oa,ha,las,h1,h2,h3,h4,h5,h6⟩:=id tab
  have sc:=Qn
  have T:=T0
  have nd1:(["head","number","table"]:List Str).Nodup:=by decide +kernel
  refine⟨_,(Z6 (Wn (i:=2) (N:=["head","number","table"]) (k:=2) (fv:=[0]) sc.nd rfl (Or.inl rfl) rfl (J2 rfl T.zip (Z0 (Ye (pv 0) rfl) (Z0 (Zc fE hr (Z0 (pv 0) (Z0 (pv 1) Z4))) Z4)))
   (fun _ _ _ _ _=>Wq (n:=2) rfl (Y6 (Zl (i:=0) nd1 rfl (Or.inl rfl)) (Y6 (Zl (i:=1) nd1 rfl (Or.inl rfl)) Xp))) (fun _ _ _ _ _=>Up (PW.pt (Lh (Zi J9 (pv 1) Z5 (Zp _)) (Pm (Zi J8 (pv 0) (Pq (K:=K) (pv 2) rfl) (Zp _)))))) (fun _ _ _ _ _=>(pv 0)) Vw)
   (Z9 (Zf (Wx (Dx (pv 2) (fun _=>rfl)) (Wf PySem.F.plainAttrs_list PySem.F.slot_list_index PySem.F.type_list_index (Rr (K:=K)) (Ye (pv 0) rfl) (Z0 (Zu (Fu (K:=K) rfl) rfl T.min PyProof.Rows.boot_min (Z0 (pv 2) Z4)) Z4)) Yw)))),?_⟩
  refine⟨_,rfl,p,C,dx,_,_,rfl,h1,tc.cl,tc.nH,V2,_,rfl,_,rfl,p,m,n,lk,i,Tb,rfl,tab,ok,hi,hm,fun a ea=>?_⟩
  refine⟨ha,a,rfl,⟨_,SqL.of h6⟩,⟨_,SqL.of ea⟩,fun d hd=>?_⟩
  refine⟨n,fun j ys H2=>Same H H2/\ys=(foundI j lk Tb i).map V.int,Zq hn,⟨Same.new hd,rfl⟩,?_,?_⟩
  ·rintro j ys H2 hj ⟨S2,rfl⟩ hd2
   refine⟨⟨_,_,SqL.of (S2 _ _ h6),SqL.of (S2 _ _ ea),by rw[List.length_map,Vf];exact hj,by rw[List.length_map,Ym];omega⟩,?_⟩
   rintro x H3 ⟨pp,x0,y0,rfl,hp,rfl,fx,fy⟩
   have ex:x0=V.int (Tb.hd j:Int):=by
    have:=fx _ (SqL.of (S2 _ _ h6))
    rw[X2 (Ue hj)] at this
    exact (Option.some.inj this).symm
   have ey:y0=V.int (Tb.L i j):=by
    have:=fy _ (SqL.of (S2 _ _ ea))
    rw[X2 (Xv (Nat.le_of_lt hj))] at this
    exact (Option.some.inj this).symm
   subst ex ey
   have S3:Same H2 (upd H2 pp (.tup [.int (Tb.hd j:Int),.int (Tb.L i j)])):=Same.new hp
   have hd3:=S3 _ _ hd2
   have up:∀ zs,Same H (upd (upd H2 pp (.tup [.int (Tb.hd j:Int),.int (Tb.L i j)])) d (.lst zs)):=fun zs q o e=>by
    rw[Zb (Z8 e hd)]
    exact S3 _ _ (S2 _ _ e)
   refine C4 (SqT.of Z7) ?_
   have no:helps lk Tb i j=false->upd H2 pp (.tup [.int (Tb.hd j:Int),.int (Tb.L i j)]) d=some (.lst ((foundI j lk Tb i).map V.int))/\Same H (upd H2 pp (.tup [.int (Tb.hd j:Int),.int (Tb.L i j)]))/\(foundI j lk Tb i).map V.int=(foundI (j+1) lk Tb i).map V.int:=fun e=>by
    refine⟨hd3,S2.trans S3,?_⟩
    rw[Sd,e]
    simp
   refine⟨_,rfl,_,_,rfl,rfl,_,rfl,?_⟩
   refine Xc (fun h=>?_) (fun h=>?_)
   ·have hp1:0<Tb.L i j:=of_decide_eq_true h
    refine⟨_,rfl,_,rfl,p,C,dx,_,_,rfl,S3 _ _ (S2 _ _ h1),tc.cl,tc.nK,N8,rfl,_,rfl,?_⟩
    by_cases hl:Tb.hd j=lk
    ·refine Bf (by rw[hl]) ?_
     exact no (by unfold helps;simp[hl])
    ·refine Mi (fun z=>hl (by have:=V.int.inj z;omega)) ?_
     have e:helps lk Tb i j=true:=by unfold helps;simp[hl,hp1]
     refine⟨_,rfl,hd3,up _,?_⟩
     rw[Sd,e,List.map_append]
     rfl
   ·have hp1:¬ 0<Tb.L i j:=fun z=>h (decide_eq_true z)
    exact no (by unfold helps;simp[hp1])
  ·rintro ys H2 ⟨S2,rfl⟩ hd2
   refine⟨⟨_,_,SqL.of (S2 _ _ h6),SqL.of (S2 _ _ ea),by rw[List.length_map,Vf]⟩,?_⟩
   obtain⟨k1,k0⟩:=k H2 S2
   have memf:∀ z,z∈foundI n lk Tb i ↔ ∃ j,j<n/\helps lk Tb i j=true/\(Tb.hd j:Int)=z:=fun z=>by
    unfold foundI
    simp only [List.mem_map,List.mem_filter,List.mem_range]
    constructor
    ·rintro ⟨j,⟨hj,hh⟩,e⟩
     exact⟨j,hj,hh,e⟩
    ·rintro ⟨j,hj,hh,e⟩
     exact⟨j,⟨hj,hh⟩,e⟩
   refine⟨_,rfl,!((foundI n lk Tb i).map V.int).isEmpty,?_,?_⟩
   ·exact .inl ⟨_,SqL.of hd2,rfl⟩
   ·refine Xc (fun h=>?_) (fun h=>?_)
    ·have hne:foundI n lk Tb i≠[]:=fun z=>by rw[z] at h;simp at h
     refine⟨_,rfl,p,C,dx,_,_,rfl,S2 _ _ h1,tc.cl,tc.nH,V2,.inl ⟨rfl,_,SqL.of (S2 _ _ h6)⟩,_,rfl,d,_,rfl,SqL.of hd2,hne,fun M hM hle=>?_⟩
     obtain⟨c,hc,hh,rfl⟩:=(memf M).mp hM
     refine⟨ha,hdI n Tb,_,c,rfl,rfl,SqL.of (S2 _ _ h6),Ue hc,fun k hk e=>?_,by rw[Vf];exact hn,?_⟩
     ·rw[Ue (by omega)] at e
      have:=ok.hi k c (by omega) hc (by have:=Option.some.inj e;omega)
      omega
     ·exact k1 c hc hh fun j hj hj2=>by
       have:=hle _ ((memf _).mpr ⟨j,hj,hj2,rfl⟩)
       omega
    ·refine k0 fun j hj=>?_
     cases e:helps lk Tb i j with
     | false=>rfl
     | true =>
      exfalso
      have:=(memf _).mpr ⟨j,hj,e,rfl⟩
      apply h
      cases q:foundI n lk Tb i with
      | nil=>rw[q] at this;cases this
      | cons=>rfl
end
structure Six (r:Rat):Prop where
 g:Good 21 r
 d:r.2 ∣ 6
theorem Z2t (p q:Int):nB p q ∣ q:=⟨sg p q,(Tm p q).symm⟩
theorem Ui {p q:Int}(h1:-2000000<p)(h2:p<2000000)(hq:q=1 \/ q=2 \/ q=3):Six (nrm p q):=by
 refine⟨Rp (Fx h1 h2) (Fx (by omega) (by omega)) (by omega),Int.dvd_trans (Z2t p q) ?_⟩
 rcases hq with rfl | rfl | rfl
 ·exact⟨6,rfl⟩
 ·exact⟨3,rfl⟩
 ·exact⟨2,rfl⟩
theorem Z06 {p:Int}(h1:-2000000<p)(h2:p<2000000):Six (p,1):=⟨⟨Fx h1 h2,Fx (by show -2000000<(1:Int);decide) (by show (1:Int)<2000000;decide),(by show (0:Int)<1;decide),by simp⟩,⟨6,rfl⟩⟩
theorem Six.rep {r:Rat}(h:Six r):r.1*6=(r.1*(6:Int).fdiv r.2)*r.2/\Bd 24 (r.1*(6:Int).fdiv r.2):=by
 refine⟨U9 h.d,?_⟩
 have:Bd 3 ((6:Int).fdiv r.2):=by
  refine Bd.of_le (Ji (by decide) h.g.pos) ?_
  show (6:Int).natAbs<2 ^ 3
  decide
 exact h.g.b1.mul this
theorem W3 {n:Nat}{x:Int}(m:Nat)(h:x.natAbs<2 ^ m)(k:m<=n):Bd n x:=Bd.mono (m:=m) h k
theorem RepL.six {rs:List Rat}(h:∀ r∈rs,Six r):RepL 24 6 (wholeB rs 6) rs:=by
 refine⟨by decide,W3 3 (by decide) (by decide),by unfold wholeB;rw[List.length_map],fun i W r hW hr=>?_⟩
 unfold wholeB at hW
 rw[List.getElem?_map,hr] at hW
 cases hW
 have:=h r (List.mem_of_getElem? hr)
 exact⟨this.rep.1,this.rep.2,this.g.low⟩
section
variable {P:Program}{w:World}{K:W.Frag}{mg:Str->Option Value}{base:Heap}
def gQ (K:W.Frag):Sp:=fun vs H Q _=>∃ (b:Addr) (n:Nat),vs=[.ref b]/\BagAt H b n/\n<=1000000 ∧
 ∀ (a:Addr) (H':Hp) (r:Rat),BagAt H' b (n+3)->SameX b H H'->H' a=some (.tup [.int r.1,.int r.2])->Six r->Q (.ref a) H'
theorem No:FnScope ["_law_bag_here","_law_bottom"] ["_law_bag_here"] (defScope lI):=fsc
theorem Cd (D:Def K mg "_law_small" lI ["_law_bag_here"])(eD:Z2 P w K mg base)(eE:Z1 P w K mg base) :
  Has P w K mg base 3 "_law_small" ["_law_bag_here"] (gQ K):=by
 refine D.has fun f fd F=>F.ok No (fun vs H Q E h=>?_) (fun cdv A outer s H vs Q E hr h=>?_)
 ·obtain⟨b,n,rfl,_⟩:=h
  rfl
 ·obtain⟨b,n,rfl,hB,hn,k⟩:=h
  have sc:=No
  refine⟨_,(Z6 (Zg (i:=1) sc.nd rfl (Or.inl rfl) (Ze Zy (Xb (Z0 Z5 (Z0 Z5 (Z0 Z5 (Z0 Z5 Z4))))) (Zc eD hr (Z0 (pv 0) (Z0 Z5 Z4))) (fun _ _=>rfl)))
   (Z6 (Yd (Zi Xu (Zc eD hr (Z0 (pv 0) (Z0 Z5 Z4))) Z5 (Zp _))
    (Z9 (Zf (Zc eE hr (Z0 (Zh Vn (Zc eD hr (Z0 (pv 0) (Z0 (Zh Yu (Zh Zv Z5 (Zh Pt Z5 Z5)) Z5) Z4))) (Zh Pt Z5 Z5)) (Z0 (pv 1) Z4)))))
    Zt)
   (Z9 (Zf (Zc eE hr (Z0 (Zh Vn (Zc eD hr (Z0 (pv 0) (Z0 Z5 Z4))) Z5) (Z0 (pv 1) Z4))))))),?_⟩
  refine⟨sz4,fun l hl=>?_⟩
  have S0:Same H (upd H l (.lst [.int 1,.int 1,.int 2,.int 3])):=Same.new hl
  have e0:upd H l (.lst [.int 1,.int 1,.int 2,.int 3]) l=some (.lst [.int 1,.int 1,.int 2,.int 3]):=Z7
  generalize upd H l (.lst [.int 1,.int 1,.int 2,.int 3])=H0 at *
  have hbl:l≠b:=by
   obtain⟨ys,e⟩:=hB.lst
   exact (Z8 e hl).symm
  refine⟨_,rfl,b,_,n,rfl,hB.same S0,by omega,by decide,by decide +kernel,fun r1 H1 r10 r11 B1 S1=>?_⟩
  obtain⟨q,eq,hq⟩:∃ q:Int,atI [V.int 1,.int 1,.int 2,.int 3] r1=some (.int q)/\(q=1 \/ q=2 \/ q=3):=by
   have h:r1=0 \/ r1=1 \/ r1=2 \/ r1=3:=by omega
   rcases h with rfl | rfl | rfl | rfl
   ·exact⟨1,Zd (j:=0) rfl,.inl rfl⟩
   ·exact⟨1,Zd (j:=1) rfl,.inl rfl⟩
   ·exact⟨2,Zd (j:=2) rfl,.inr (.inl rfl)⟩
   ·exact⟨3,Zd (j:=3) rfl,.inr (.inr rfl)⟩
  refine⟨l,_,_,_,rfl,rfl,SqL.of (S1 _ _ e0 hbl),eq,?_⟩
  have bq:Bd 21 q:=Fx (by omega) (by omega)
  refine⟨_,rfl,b,_,n+1,rfl,B1,by omega,by decide,by decide +kernel,fun r2 H2 r20 r21 B2 S2=>⟨rfl,_,rfl,?_⟩⟩
  refine Xc (fun h=>?_) (fun h=>?_)
  ·refine⟨_,rfl,_,_,rfl,rfl,Z1q (by decide) (by decide),_,_,rfl,rfl,F4 (by decide) (by decide),_,_,rfl,rfl,b,_,n+1+1,rfl,B2,by omega,by rw[p6];decide,lg6,fun r3 H3 r30 r31 B3 S3=>?_⟩
   rw[p6] at r31
   refine⟨_,_,rfl,rfl,Z1q (by decide) (by decide),_,_,rfl,rfl,_,rfl,_,_,rfl,by omega,bq.log (by decide),fun a H4 fa S4 e=>?_⟩
   rw[p6] at e
   exact k a H4 (nrm (r3 - 1000000) q) (B3.same S4) (((((SameX.of S0).trans S1).trans S2).trans S3).trans (SameX.of S4)) e (Ui (by omega) (by omega) hq)
  ·refine⟨_,rfl,b,_,n+1+1,rfl,B2,by omega,by decide,by decide +kernel,fun r3 H3 r30 r31 B3 S3=>⟨_,_,rfl,rfl,_,rfl,?_⟩⟩
   refine⟨_,_,rfl,by omega,bq.log (by decide),fun a H4 fa S4 e=>?_⟩
   exact k a H4 (nrm (r3 - 8) q) (B3.same S4) (((((SameX.of S0).trans S1).trans S2).trans S3).trans (SameX.of S4)) e (Ui (by omega) (by omega) hq)
def hG (K:W.Frag):Sp:=fun vs H Q _=>∃ (b:Addr) (c n:Nat),vs=[.ref b,.int c]/\BagAt H b n/\n<=100000/\c<=1000 ∧
 ∀ (a:Addr) (H':Hp) (rs:List Rat),BagAt H' b (n+3*c)->SameX b H H'->RowAt K H' a rs->rs.length=c->(∀ r∈rs,Six r)->Q (.ref a) H'
theorem Dc:FnScope ["_law_bag_here","_law_count"] ["_law_bag_here","_law_count"] (defScope mD):=fsc
theorem Z2j (D:Def K mg "_law_row" mD ["_law_bag_here","_law_count"])(T:Blt mg)(iW:Has P w K mg base 3 "_law_small" ["_law_bag_here"] (gQ K)):Has P w K mg base 4 "_law_row" ["_law_bag_here","_law_count"] (hG K):=by
 refine D.has fun f fd F=>F.ok Dc (fun vs H Q E h=>?_) (fun cdv A outer s H vs Q E hr h=>?_)
 ·obtain⟨b,c,n,rfl,_⟩:=h
  rfl
 ·obtain⟨b,c,n,rfl,hB,hn,hc,k⟩:=h
  have sc:=Dc
  have nd1:(["_law_k","_law_bag_here"]:List Str).Nodup:=by decide +kernel
  refine⟨_,(Z9 (Zf (Y4 Zz rfl T.tuple PyProof.Rows.boot_tuple (Z0 (Yn (N:=["_law_k","_law_bag_here"]) (k:=1) (fv:=[0]) rfl (Yi rfl T.range (Z0 (pv 1) Z4))
   (fun _ _ _ _ _=>Zl (i:=0) nd1 rfl (Or.inl rfl)) (fun _ _ _ _ _=>Yh) (fun _ _ _ _ _=>(Zc iW hr (Z0 (pv 1) Z4))) Y2) Z4)))),?_⟩
  have hBl:=hB.lst
  refine⟨_,rfl,(c:Int),rfl,(by omega),(by omega),fun d hd=>?_⟩
  have hdb:d≠b:=by
   obtain⟨ys,e⟩:=hBl
   exact (Z8 e hd).symm
  have et:(c:Int).toNat=c:=by omega
  rw[et]
  refine⟨c,fun i ys H2=>∃ rs,Rs K H2 rs ys/\rs.length=i/\(∀ r∈rs,Six r)/\BagAt H2 b (n+3*i)/\SameX b H H2,Zq hc,?_,?_,?_⟩
  ·exact⟨[],.nil,rfl,(fun _ h=>nomatch h),hB.upd (Ne.symm hdb),SameX.of (Same.new hd)⟩
  ·rintro i ys H2 hi ⟨rs,h1,h2,h3,h4,h5⟩ hd2
   refine⟨hi,?_⟩
   rintro x H3 ⟨rfl,rfl⟩
   refine Yo ?_
   refine⟨_,rfl,b,n+3*i,rfl,h4,by omega,fun a H4 r B4 S4 e4 g4=>?_⟩
   have E4:=Ext.bag S4 h4
   have hd4:H4 d=some (.lst ys):=S4 _ _ hd2 hdb
   have E5:Ext H4 (upd H4 d (.lst (ys++[.ref a]))):=Ext.upd hd4
   refine⟨hd4,rs++[r],(h1.ext (E4.trans E5)).snoc ⟨a,rfl,E5.sq (SqT.of e4)⟩,by rw[List.length_append,h2];rfl,fun r' hr'=>?_,(B4.upd (Ne.symm hdb)).mono (by omega),?_⟩
   ·rcases List.mem_append.mp hr' with z | z
    ·exact h3 r' z
    ·rw[List.mem_singleton.mp z];exact g4
   ·exact fun q o e ne=>by
     have e2:=S4 q o (h5 q o e ne) ne
     rw[Zb (Z8 e hd)]
     exact e2
  ·rintro ys H2 ⟨rs,h1,h2,h3,h4,h5⟩ hd2
   refine⟨Nat.le_refl _,d,ys,rfl,.inl ⟨SqL.of hd2,fun l hl=>?_⟩⟩
   have E:=Ext.new (o:=.tup ys) hl
   exact k l _ rs (h4.same (Same.new hl)) (h5.trans (SameX.of (Same.new hl))) ⟨ys,SqT.of Z7,h1.ext E⟩ h2 h3
structure WtsR (c:Nat)(Ws:List Int)(rs:List Rat):Prop where
 len:rs.length=c
 nn:∀ W∈Ws,0<=W
 pos:0<Ws.sum
 rep:RepL 10 Ws.sum Ws rs
def fP (K:W.Frag):Sp:=fun vs H Q _=>∃ (b:Addr) (c n:Nat),vs=[.ref b,.int c]/\BagAt H b n/\n<=100000/\1<=c/\c<=100 ∧
 ∀ (a:Addr) (H':Hp) (Ws:List Int) (rs:List Rat),BagAt H' b (n+c+1)->SameX b H H'->RowAt K H' a rs->WtsR c Ws rs->Q (.ref a) H'
theorem Ra:FnScope ["_law_bag_here","_law_count","_law_parts"] ["_law_bag_here","_law_count"] (defScope kK):=fsc
theorem Lm (D:Def K mg "_law_weights" kK ["_law_bag_here","_law_count"])(T:Blt mg)(eD:Z2 P w K mg base)(eE:Z1 P w K mg base) :
  Has P w K mg base 3 "_law_weights" ["_law_bag_here","_law_count"] (fP K):=by
 refine D.has fun f fd F=>F.ok Ra (fun vs H Q E h=>?_) (fun cdv A outer s H vs Q E hr h=>?_)
 ·obtain⟨b,c,n,rfl,_⟩:=h
  rfl
 ·obtain⟨b,c,n,rfl,hB,hn,hc1,hc,k⟩:=h
  have sc:=Ra
  have nd1:(["_law_k","_law_bag_here"]:List Str).Nodup:=by decide +kernel
  have nd2:(["_law_part","_law_parts"]:List Str).Nodup:=by decide +kernel
  refine⟨_,(Z6 (Zg (i:=2) sc.nd rfl (Or.inr rfl) (Yn (N:=["_law_k","_law_bag_here"]) (k:=1) (fv:=[0]) rfl (Yi rfl T.range (Z0 (pv 1) Z4))
   (fun _ _ _ _ _=>Zl (i:=0) nd1 rfl (Or.inl rfl)) (fun _ _ _ _ _=>Yh) (fun _ _ _ _ _=>(Zc eD hr (Z0 (pv 1) (Z0 Z5 Z4)))) Y2))
   (Z6 (Wo (Yd (Zi Xu (Zu (Pc (K:=K) rfl) rfl T.sum PyProof.Rows.boot_sum (Z0 (pv 2) Z4)) Z5 (Zp _))
    (Z9 (Ub Z5 (Rk (pv 2) (Zc eD hr (Z0 (pv 0) (Z0 (pv 1) Z4))) Vk)))
    Zt))
   (Z9 (Zf (Y4 Zz rfl T.tuple PyProof.Rows.boot_tuple (Z0 (Yn (N:=["_law_part","_law_parts"]) (k:=1) (fv:=[2]) rfl (Xo (pv 2))
   (fun _ _ _ _ _=>Zl (i:=0) nd2 rfl (Or.inl rfl)) (fun _ _ _ _ _=>Yh) (fun _ _ _ _ _=>(Zc eE hr (Z0 (pv 0) (Z0 (Zu (Pc (K:=K) rfl) rfl T.sum PyProof.Rows.boot_sum (Z0 (pv 1) Z4)) Z4)))) Y2) Z4)))))),?_⟩
  have hBl:=hB.lst
  refine⟨_,rfl,(c:Int),rfl,(by omega),(by omega),fun d hd=>?_⟩
  have hdb:d≠b:=by
   obtain⟨ys,e⟩:=hBl
   exact (Z8 e hd).symm
  have et:(c:Int).toNat=c:=by omega
  rw[et]
  refine⟨c,fun i ys H2=>∃ ns:List Int,ys=ns.map V.int/\ns.length=i/\(∀ z∈ns,0<=z/\z<=4)/\BagAt H2 b (n+i)/\SameX b H H2,Zq (by omega),?_,?_,?_⟩
  ·exact⟨[],rfl,rfl,(fun _ h=>nomatch h),hB.upd (Ne.symm hdb),SameX.of (Same.new hd)⟩
  ·rintro i ys H2 hi ⟨ns,rfl,h2,h3,B2,S2⟩ hd2
   refine⟨hi,?_⟩
   rintro x H3 ⟨rfl,rfl⟩
   refine Yo ?_
   refine⟨_,rfl,b,_,_,rfl,B2,by omega,by decide,by decide +kernel,fun r H4 r0 r1 B4 S4=>?_⟩
   have hd4:H4 d=some (.lst (ns.map V.int)):=S4 _ _ hd2 hdb
   refine⟨hd4,ns++[r],by rw[List.map_append];rfl,by rw[List.length_append,h2];rfl,fun z hz=>?_,(B4.upd (Ne.symm hdb)).mono (by omega),?_⟩
   ·rcases List.mem_append.mp hz with z' | z'
    ·exact h3 z z'
    ·rw[List.mem_singleton.mp z'];omega
   ·exact fun q o e ne=>by
     have e2:=S4 q o (S2 q o e ne) ne
     rw[Zb (Z8 e hd)]
     exact e2
  ·rintro ys H2 ⟨ns,rfl,h2,h3,B2,S2⟩ hd2
   refine⟨Nat.le_refl _,?_⟩
   refine⟨fun σ H'=>σ=[some (.ref b),some (.int c),some (.ref d)]/\∃ ms:List Int,ms.length=c/\(∀ z∈ms,0<=z/\z<=4)/\1<=ms.sum/\H' d=some (.lst (ms.map V.int))/\BagAt H' b (n+c+1)/\SameX b H H',?_,?_⟩
   ·refine⟨_,rfl,d,ns,rfl,SqL.of hd2,rfl,_,rfl,?_⟩
    refine Xc (fun h=>?_) (fun h=>?_)
    ·refine⟨_,rfl,_,rfl,_,rfl,b,_,_,rfl,B2,by omega,by omega,Z1a (by omega),fun r H4 r0 r1 B4 S4=>?_⟩
     obtain⟨j,rfl,hj⟩:=Z3m r0 r1
     have hd4:H4 d=some (.lst (ns.map V.int)):=S4 _ _ hd2 hdb
     have hjn:j<ns.length:=by omega
     refine⟨d,_,_,j,rfl,rfl,hd4,?_,?_⟩
     ·rw[List.length_map]
      exact Bc (by omega) (by omega)
     have em:(ns.map V.int).set j (V.int 1)=(ns.set j 1).map V.int:=by rw[List.map_set]
     rw[em]
     have h4:∀ z∈ns.set j 1,0<=z/\z<=4:=fun z hz=>by
      rcases List.mem_or_eq_of_mem_set hz with e | e
      ·exact h3 z e
      ·omega
     refine⟨rfl,ns.set j 1,by rw[List.length_set];exact h2,h4,?_,Z7,(B4.upd (Ne.symm hdb)).mono (by omega),fun q o e ne=>?_⟩
     ·exact Kd _ (fun z hz=>(h4 z hz).1) ⟨1,by
       refine List.mem_iff_getElem?.mpr ⟨j,?_⟩
       rw[List.getElem?_set_self (by simpa using hjn)],by omega⟩
     ·rw[Zb (Z8 e hd)]
      exact S4 q o (S2 q o e ne) ne
    ·have h0:ns.sum≠0:=fun z=>h (decide_eq_true (by rw[z]))
     have:=(L7 ns 4 h3).1
     exact⟨rfl,ns,h2,h3,by omega,hd2,B2.mono (by omega),S2⟩
   ·rintro σ H5 ⟨rfl,ms,l4,h4,s1,hd5,B5,S5⟩
    have s2:ms.sum<=4*(c:Int):=by
     have:=(L7 _ 4 h4).2
     rw[l4] at this
     exact this
    refine⟨_,rfl,d,rfl,⟨_,SqL.of hd5⟩,fun e he=>?_⟩
    have hed:d≠e:=Z8 hd5 he
    refine⟨c,fun i ys H2=>Same H5 H2/\Rs K H2 ((ms.map fun m=>nrm m ms.sum).take i) ys,Zq (by omega),⟨Same.new he,.nil⟩,?_,?_⟩
    ·rintro i ys H6 hi ⟨S6,R6⟩ he6
     have him:i<ms.length:=by omega
     refine⟨⟨_,V.int ms[i],SqL.of (S6 _ _ hd5),by simp[him]⟩,?_⟩
     rintro x H7 ⟨rfl,fx⟩
     have ex:x=V.int ms[i]:=by
      have:=fx _ (SqL.of (S6 _ _ hd5))
      rw[List.getElem?_map,show ms[i]?=some ms[i] by simp[him]] at this
      exact (Option.some.inj this).symm
     subst ex
     refine Yo ?_
     have b2:Bd 10 ms.sum:=bdS (by omega)
     refine⟨_,rfl,_,rfl,d,ms,rfl,SqL.of (S6 _ _ hd5),ms[i],ms.sum,rfl,by omega,b2.log (by decide),fun a8 H8 f8 S8 e8=>?_⟩
     have he8:=S8 _ _ he6
     refine⟨he8,fun q o' e'=>?_,?_⟩
     ·rw[Zb (Z8 e' he)]
      exact S8 _ _ (S6 _ _ e')
     ·rw[Yf (show (ms.map fun m=>nrm m ms.sum)[i]?=some (nrm ms[i] ms.sum) by rw[List.getElem?_map,show ms[i]?=some ms[i] by simp[him]];rfl)]
      exact (R6.ext ((Ext.same S8).trans (Ext.upd he8))).snoc ⟨a8,rfl,(Ext.upd he8).sq (SqT.of e8)⟩
    ·rintro ys H6 ⟨S6,R6⟩ he6
     refine⟨⟨_,SqL.of (S6 _ _ hd5),by rw[List.length_map];omega⟩,e,ys,rfl,.inl ⟨SqL.of he6,fun l hl'=>?_⟩⟩
     rw[List.take_of_length_le (by rw[List.length_map];omega)] at R6
     refine k l _ ms _ (((B5.same S6).same (Same.new hl')).mono (by omega)) ((S5.trans (SameX.of S6)).trans (SameX.of (Same.new hl'))) ⟨ys,SqT.of Z7,R6.ext (Ext.new hl')⟩ ⟨by rw[List.length_map];exact l4,fun W hW=>(h4 W hW).1,by omega,⟨by omega,bdS (by omega),by rw[List.length_map],fun i W r hW hr=>?_⟩⟩
     rw[List.getElem?_map,hW] at hr
     cases hr
     have:=h4 W (List.mem_of_getElem? hW)
     exact⟨J1 (by omega),bdS (by omega),X8 (by omega)⟩
end
end Sb
namespace Sb
open Sv (sm Zn X1 Y5 sm_zero Zw Zx Wc)
theorem Tj {c i:Nat}(h:i<c):(List.replicate c (1:Int)).getD i 0=1:=by simp[List.getD,h]
theorem Uj {c:Nat}{Ws:List Int}{o:Option (Nat->Bool)}(lW:Ws.length=c)(nn:∀ W∈Ws,0<=W):0<=(List.zipWith (·*·) Ws (cutZ o (List.replicate c 1))).sum ∧
  ∀ i,i<c->0<=Ws.getD i 0*(cutZ o (List.replicate c 1)).getD i 0:=by
 have h:∀ i,i<c->0<=Ws.getD i 0*(cutZ o (List.replicate c 1)).getD i 0:=fun i hi=>by
  rw[Xn,Tj hi]
  have:0<=Ws.getD i 0:=by
   have e:Ws.getD i 0=Ws[i]'(by omega):=by simp[List.getD,show i<Ws.length by omega]
   rw[e]
   exact nn _ (List.getElem_mem _)
  split
  ·omega
  ·simp
 refine⟨?_,h⟩
 rw[Yv c _ _ lW (by rw[Xh];simp)]
 exact Zw h
theorem Lb {c:Nat}{Ws Ro:List Int}{o:Option (Nat->Bool)}(lW:Ws.length=c)(lR:Ro.length=c)(nn:∀ W∈Ws,0<=W)(h0:(List.zipWith (·*·) Ws (cutZ o (List.replicate c 1))).sum=0):(List.zipWith (·*·) Ws (cutZ o Ro)).sum=0:=by
 have h:=(Uj (o:=o) lW nn).2
 rw[Yv c _ _ lW (by rw[Xh];simp)] at h0
 rw[Yv c _ _ lW (by rw[Xh];exact lR)]
 refine sm_zero fun i hi=>?_
 have hz:Ws.getD i 0*(cutZ o (List.replicate c 1)).getD i 0=0:=by
  rw[Zx (k:=i) hi] at h0
  have h1:0<=sm c (fun j=>if j=i then 0 else Ws.getD j 0*(cutZ o (List.replicate c 1)).getD j 0):=Zw fun j hj=>by
   split
   ·omega
   ·exact h j hj
  have:=h i hi
  omega
 rw[Xn,Tj hi] at hz
 rw[Xn]
 split
 ·rename_i q
  rw[if_pos q] at hz
  have:Ws.getD i 0=0:=by omega
  rw[this]
  simp
 ·simp
end Sb
namespace Sb
open PySem L2
theorem N7 {n:Nat}{Zs:List Int}(h:∀ z∈Zs,Bd n z)(k:Nat):Bd n (Zs.getD k 0):=by
 simp only [List.getD]
 cases e:Zs[k]? with
 | none=>exact bd0 n
 | some z=>exact h z (List.mem_of_getElem? e)
theorem RepL.scale {n:Nat}{D:Int}{Zs:List Int}{rs:List Rat}(h:RepL n D Zs rs){k:Int}{m:Nat}(hk:0<k)(bk:Bd m k):RepL (n+m) (D*k) (Zs.map fun z=>z*k) rs:=by
 refine⟨Int.mul_pos h.pos hk,h.bD.mul bk,by rw[List.length_map,h.len],fun i W r hW hr=>?_⟩
 rw[List.getElem?_map] at hW
 cases e:Zs[i]? with
 | none=>rw[e] at hW;cases hW
 | some z =>
  rw[e] at hW
  cases hW
  obtain⟨a1,a2,a3⟩:=h.at_ i z r e hr
  exact⟨Xj k a1,a2.mul bk,a3⟩
structure TabBd (N m n:Nat)(T:Sv.Tab):Prop where
 l:∀ i j,i<m->j<=n->Bd N (T.L i j)
 b:Bd N T.b
theorem Jh {a b c x y z:Int}(hy:0<y)(hx:0<x)(hz:0<z)(h1:a*y<=b*x)(h2:b*z<=c*y):a*z<=c*x:=by
 have e1:a*y*z<=b*x*z:=Int.mul_le_mul_of_nonneg_right h1 (by omega)
 have e2:b*z*x<=c*y*x:=Int.mul_le_mul_of_nonneg_right h2 (by omega)
 have:y*(a*z)<=y*(c*x):=by
  have f1:y*(a*z)=a*y*z:=by grind
  have f2:y*(c*x)=c*y*x:=by grind
  have f3:b*x*z=b*z*x:=by grind
  omega
 exact Int.le_of_mul_le_mul_left this hy
theorem Mn {a b c x y z:Int}(hy:0<y)(hx:0<x)(hz:0<z)(h1:a*y<b*x)(h2:b*z<=c*y):a*z<c*x:=by
 have e1:a*y*z<b*x*z:=Int.mul_lt_mul_of_pos_right h1 hz
 have e2:b*z*x<=c*y*x:=Int.mul_le_mul_of_nonneg_right h2 (by omega)
 have:y*(a*z)<y*(c*x):=by
  have f1:y*(a*z)=a*y*z:=by grind
  have f2:y*(c*x)=c*y*x:=by grind
  have f3:b*x*z=b*z*x:=by grind
  omega
 exact Int.lt_of_mul_lt_mul_left this (by omega)
theorem Bl {a b c x y z:Int}(hy:0<y)(hx:0<x)(hz:0<z)(h1:a*y<=b*x)(h2:b*z<c*y):a*z<c*x:=by
 have e1:a*y*z<=b*x*z:=Int.mul_le_mul_of_nonneg_right h1 (by omega)
 have e2:b*z*x<c*y*x:=Int.mul_lt_mul_of_pos_right h2 hx
 have:y*(a*z)<y*(c*x):=by
  have f1:y*(a*z)=a*y*z:=by grind
  have f2:y*(c*x)=c*y*x:=by grind
  have f3:b*x*z=b*z*x:=by grind
  omega
 exact Int.lt_of_mul_lt_mul_left this (by omega)
def Ahead (n c:Nat)(T:Sv.Tab)(a b:Nat):Prop:=T.L a n*T.L b c<T.L b n*T.L a c \/ (T.L a n*T.L b c=T.L b n*T.L a c/\T.own a<=T.own b)
theorem Ahead.trans {n c:Nat}{T:Sv.Tab}{a b k:Nat}(ha:0<T.L a c)(hb:0<T.L b c)(hk:0<T.L k c)(h1:Ahead n c T a b)(h2:Ahead n c T b k):Ahead n c T a k:=by
 rcases h1 with h1 | ⟨h1,o1⟩
 ·rcases h2 with h2 | ⟨h2,_⟩
  ·exact .inl (Mn hb ha hk h1 (by omega))
  ·exact .inl (Mn hb ha hk h1 (by omega))
 ·rcases h2 with h2 | ⟨h2,o2⟩
  ·exact .inl (Bl hb ha hk (by omega) h2)
  ·refine .inr ⟨?_,by omega⟩
   have e1:=Jh hb ha hk (show T.L a n*T.L b c<=T.L b n*T.L a c by omega) (show T.L b n*T.L k c<=T.L k n*T.L b c by omega)
   have e2:=Jh hb hk ha (show T.L k n*T.L b c<=T.L b n*T.L k c by omega) (show T.L b n*T.L a c<=T.L a n*T.L b c by omega)
   omega
def elig (lk c:Nat)(T:Sv.Tab)(k:Nat):Prop:=T.own k<=lk/\0<T.L k c
section
variable {P:Program}{w:World}{K:W.Frag}{mg:Str->Option Value}{base:Heap}{C:Addr}
def goB (n c:Nat)(T:Sv.Tab)(a b:Nat):Bool:=if T.L a n*T.L b c=T.L b n*T.L a c then decide (T.own a<T.own b) else decide (T.L a n*T.L b c<T.L b n*T.L a c)
def i7 (C:Addr):Sp:=fun vs H Q _=>∃ (p:Addr) (m n lk c a b N:Nat) (T:Sv.Tab),vs=[.ref p,.int (c:Int),.int (a:Int),.int (b:Int)]/\TabAt C H p m n lk T/\a<m/\b<m/\c<n/\TabBd N m n T/\N<=8000/\Q (.bl (goB n c T a b)) H
theorem Dj:FnScope ["table","column","one","other","mine","theirs"] ["table","column","one","other"] (defScope kA):=fsc
theorem Z2o (D:Def K mg "goes_ahead" kA ["table","column","one","other"])(tc:TabC K mg C):Has P w K mg base 1 "goes_ahead" ["table","column","one","other"] (i7 C):=by
 refine D.has fun f fd F=>F.ok Dj (fun vs H Q E h=>?_) (fun cdv A outer s H vs Q E hr h=>?_)
 ·obtain⟨p,m,n,lk,c,a,b,N,T,rfl,_⟩:=h
  rfl
 ·obtain⟨p,m,n,lk,c,a,b,N,T,rfl,⟨dx,la,oa,ha,las,h1,h2,h3,h4,h5,h6⟩,hA,hB,hc,bd,hN,q⟩:=h
  have sc:=Dj
  refine⟨_,(Z6 (Zg (i:=4) sc.nd rfl (Or.inl rfl) (Zh Zv (Ze Zy (Ze Zy (Ye (pv 0) rfl) (pv 2) (fun _ _=>rfl)) (Vj Xz Z5) (fun _ _=>rfl)) (Ze Zy (Ze Zy (Ye (pv 0) rfl) (pv 3) (fun _ _=>rfl)) (pv 1) (fun _ _=>rfl))))
   (Z6 (Zg (i:=5) sc.nd rfl (Or.inl rfl) (Zh Zv (Ze Zy (Ze Zy (Ye (pv 0) rfl) (pv 3) (fun _ _=>rfl)) (Vj Xz Z5) (fun _ _=>rfl)) (Ze Zy (Ze Zy (Ye (pv 0) rfl) (pv 2) (fun _ _=>rfl)) (pv 1) (fun _ _=>rfl))))
   (Z6 (Yd (Zi Xu (pv 4) (pv 5) (Zp _))
    (Z9 (Zf (U1 Ut (Ze Zy (Ye (pv 0) rfl) (pv 2) (fun _ _=>rfl)) (Ze Zy (Ye (pv 0) rfl) (pv 3) (fun _ _=>rfl)) (Zp _))))
    Zt)
   (Z9 (Zf (U1 Ut (pv 4) (pv 5) (Zp _))))))),?_⟩
  have ea:las[a]?=some (las[a]'(by omega)):=by simp
  have eb:las[b]?=some (las[b]'(by omega)):=by simp
  have la':=h4 a _ ea
  have lb':=h4 b _ eb
  have va:(las.map V.ref)[a]?=some (V.ref (las[a]'(by omega))):=by rw[List.getElem?_map,ea];rfl
  have vb:(las.map V.ref)[b]?=some (V.ref (las[b]'(by omega))):=by rw[List.getElem?_map,eb];rfl
  have atc:∀ i,atI ((lineI n T i).map V.int) (c:Int)=some (V.int (T.L i c)):=fun i=>Zd (X2 (Xv (Nat.le_of_lt hc)))
  refine⟨_,rfl,p,C,dx,_,_,rfl,h1,tc.cl,tc.nL,Xx,_,rfl,la,_,_,_,rfl,rfl,SqL.of h2,Zd va,_,rfl,_,_,_,_,rfl,rfl,SqL.of la',Ni,?_⟩
  refine⟨_,rfl,p,C,dx,_,_,rfl,h1,tc.cl,tc.nL,Xx,_,rfl,la,_,_,_,rfl,rfl,SqL.of h2,Zd vb,_,rfl,_,_,_,_,rfl,rfl,SqL.of lb',atc b,_,_,rfl,rfl,(bd.l a n hA (Nat.le_refl n)).mulOk (bd.l b c hB (Nat.le_of_lt hc)) (by omega) (by omega),?_⟩
  refine⟨_,rfl,p,C,dx,_,_,rfl,h1,tc.cl,tc.nL,Xx,_,rfl,la,_,_,_,rfl,rfl,SqL.of h2,Zd vb,_,rfl,_,_,_,_,rfl,rfl,SqL.of lb',Ni,?_⟩
  refine⟨_,rfl,p,C,dx,_,_,rfl,h1,tc.cl,tc.nL,Xx,_,rfl,la,_,_,_,rfl,rfl,SqL.of h2,Zd va,_,rfl,_,_,_,_,rfl,rfl,SqL.of la',atc a,_,_,rfl,rfl,(bd.l b n hB (Nat.le_refl n)).mulOk (bd.l a c hA (Nat.le_of_lt hc)) (by omega) (by omega),?_⟩
  refine⟨_,rfl,_,rfl,rfl,_,rfl,?_⟩
  unfold goB at q
  refine Xc (fun h=>?_) (fun h=>?_)
  ·have e:T.L a n*T.L b c=T.L b n*T.L a c:=V.int.inj (of_decide_eq_true h)
   rw[if_pos e] at q
   refine⟨_,rfl,p,C,dx,_,_,rfl,h1,tc.cl,tc.nO,Yy,_,rfl,oa,_,_,_,rfl,rfl,SqL.of h5,Zd (X2 (V9 hA)),_,rfl,p,C,dx,_,_,rfl,h1,tc.cl,tc.nO,Yy,_,rfl,oa,_,_,_,rfl,rfl,SqL.of h5,Zd (X2 (V9 hB)),_,_,rfl,rfl,?_⟩
   have e2:decide ((T.own a:Int)<(T.own b:Int))=decide (T.own a<T.own b):=by simp
   show Q (.bl (decide ((T.own a:Int)<(T.own b:Int)))) H
   rw[e2]
   exact q
  ·have e:¬ T.L a n*T.L b c=T.L b n*T.L a c:=fun z=>h (decide_eq_true (by show V.int _=V.int _;rw[z]))
   rw[if_neg e] at q
   exact⟨_,rfl,_,rfl,_,_,rfl,rfl,q⟩
def iM (C:Addr):Sp:=fun vs H Q _=>∃ (p:Addr) (m n lk c N:Nat) (T:Sv.Tab),vs=[.ref p,.int (c:Int)]/\TabAt C H p m n lk T/\c<n/\m<=1000/\TabBd N m n T/\N<=8000/\(∃ k,k<m/\elig lk c T k) ∧
 ∀ (H':Hp) (b:Nat),Same H H'->b<m->elig lk c T b->(∀ k,k<m->elig lk c T k->Ahead n c T b k)->Q (.int (b:Int)) H'
theorem Kt:FnScope ["table","column","first","place","owner"] ["table","column"] (defScope kG):=fsc
theorem Z10 (D:Def K mg "going_out" kG ["table","column"])(T0:Blt mg)(tc:TabC K mg C)(iC:Has P w K mg base 1 "goes_ahead" ["table","column","one","other"] (i7 C)):Has P w K mg base 2 "going_out" ["table","column"] (iM C):=by
 refine D.has fun f fd F=>F.ok Kt (fun vs H Q E h=>?_) (fun cdv A outer s H vs Q E hr h=>?_)
 ·obtain⟨p,m,n,lk,c,N,T,rfl,_⟩:=h
  rfl
 ·obtain⟨p,m,n,lk,c,N,Tb,rfl,tab,hc,hm,bd,hN,hex,k⟩:=h
  obtain⟨dx,la,oa,ha,las,h1,h2,h3,h4,h5,h6⟩:=id tab
  have sc:=Kt
  have T:=T0
  refine⟨_,(Z6 (Zg (i:=2) sc.nd rfl (Or.inl rfl) Yw)
   (Z6 (Xk PassesOwn.never rfl (Rj rfl T.enumerate (Z0 (Ye (pv 0) rfl) Z4)) (Wq (n:=2) rfl (Y6 (Zl (i:=3) sc.nd rfl (Or.inl rfl)) (Y6 (Zl (i:=4) sc.nd rfl (Or.inl rfl)) Xp)))
    (Z9 (Yd (PW.pt (Lh (Zi Z22 (pv 4) (Ye (pv 0) rfl) (Zp _)) (Pm (Zi J9 (Ze Zy (Ze Zy (Ye (pv 0) rfl) (pv 3) (fun _ _=>rfl)) (pv 1) (fun _ _=>rfl)) Z5 (Zp _)))))
     (Z9 (Yd (PW.pt (Vi (Zi Pw (pv 2) Yw (Zp _)) (Wd (Xa (Zc iC hr (Z0 (pv 0) (Z0 (pv 1) (Z0 (pv 3) (Z0 (pv 2) Z4)))))))))
      (Z9 (Zg (i:=2) sc.nd rfl (Or.inl rfl) (pv 3)))
      Zt))
     Zt)))
   (Z9 (Zf (pv 2))))),?_⟩
  have ol:=Vm m Tb
  refine⟨_,rfl,p,C,dx,_,_,rfl,h1,tc.cl,tc.nO,Yy,oa,rfl,⟨_,SqL.of h5⟩,Tt (K:=K) (a:=oa) (xs:=(ownI m Tb).map V.int) (fun i σ H'=>Same H H'/\∃ x y:Option V,((∀ k,k<i->¬ elig lk c Tb k)/\σ=[some (.ref p),some (.int (c:Int)),some .non,x,y]) \/ ∃ b,b<i/\b<m/\elig lk c Tb b/\(∀ k,k<i->elig lk c Tb k->Ahead n c Tb b k)/\σ=[some (.ref p),some (.int (c:Int)),some (.int (b:Int)),x,y]) ⟨Same.refl _,none,none,.inl ⟨fun k hk=>by omega,rfl⟩⟩ (fun i σ H' _ h=>SqL.of (h.1 _ _ h5)) ?_ ?_⟩
  ·rintro i v σ H1 pp hi ⟨S1,x,y,inv⟩ hp
   have him:i<m:=by
    have:=(List.getElem?_eq_some_iff.mp hi).1
    rw[List.length_map,ol] at this
    exact this
   rw[X2 (V9 him)] at hi
   cases hi
   have S2:Same H1 (upd H1 pp (.tup [.int (i:Int),.int (Tb.own i:Int)])):=Same.new hp
   have S02:=S1.trans S2
   have hst:∃ fv:V,σ=[some (.ref p),some (.int (c:Int)),some fv,x,y]:=by
    rcases inv with ⟨_,e⟩ | ⟨b,_,_,_,_,e⟩
    ·exact⟨_,e⟩
    ·exact⟨_,e⟩
   obtain⟨fv,hst⟩:=hst
   subst hst
   refine⟨pp,_,rfl,SqT.of Z7,rfl,_,_,rfl,_,_,rfl,rfl,?_⟩
   generalize upd H1 pp (.tup [.int (i:Int),.int (Tb.own i:Int)])=H2 at *
   have inv':((∀ k,k<i->¬ elig lk c Tb k)/\fv=.non) \/ ∃ b,b<i/\b<m/\elig lk c Tb b/\(∀ k,k<i->elig lk c Tb k->Ahead n c Tb b k)/\fv=.int (b:Int):=by
    rcases inv with ⟨h,e⟩ | ⟨b,g1,g2,g3,g4,e⟩
    ·injection e with _ e
     injection e with _ e
     injection e with e _
     injection e with e
     exact .inl ⟨h,e⟩
    ·injection e with _ e
     injection e with _ e
     injection e with e _
     injection e with e
     exact .inr ⟨b,g1,g2,g3,g4,e⟩
   have skip:¬ elig lk c Tb i->Same H H2/\∃ x y:Option V,((∀ k,k<i+1->¬ elig lk c Tb k)/\[some (V.ref p),some (V.int (c:Int)),some fv,some (V.int (i:Int)),some (V.int (Tb.own i:Int))]=[some (.ref p),some (.int (c:Int)),some .non,x,y]) \/ ∃ b,b<i+1/\b<m/\elig lk c Tb b/\(∀ k,k<i+1->elig lk c Tb k->Ahead n c Tb b k)/\[some (V.ref p),some (V.int (c:Int)),some fv,some (V.int (i:Int)),some (V.int (Tb.own i:Int))]=[some (.ref p),some (.int (c:Int)),some (.int (b:Int)),x,y]:=fun hne=>by
    refine⟨S02,some (.int (i:Int)),some (.int (Tb.own i:Int)),?_⟩
    rcases inv' with ⟨h,rfl⟩ | ⟨b,g1,g2,g3,g4,rfl⟩
    ·refine .inl ⟨fun k hk=>?_,rfl⟩
     by_cases q:k=i
     ·subst q;exact hne
     ·exact h k (by omega)
    ·refine .inr ⟨b,by omega,g2,g3,fun k hk hk2=>?_,rfl⟩
     by_cases q:k=i
     ·subst q;exact absurd hk2 hne
     ·exact g4 k (by omega) hk2
   refine⟨_,rfl,_,rfl,p,C,dx,_,_,rfl,S02 _ _ h1,tc.cl,tc.nK,N8,_,_,rfl,rfl,_,rfl,?_⟩
   refine Xc (fun h=>?_) (fun h=>?_)
   ·have hle:Tb.own i<=lk:=by have:=of_decide_eq_true h;omega
    have ei:las[i]?=some (las[i]'(by omega)):=by simp
    refine⟨_,rfl,p,C,dx,_,_,rfl,S02 _ _ h1,tc.cl,tc.nL,Xx,_,rfl,la,_,_,_,rfl,rfl,SqL.of (S02 _ _ h2),Zd (show (las.map V.ref)[i]?=_ by rw[List.getElem?_map,ei];rfl),_,rfl,_,_,_,_,rfl,rfl,SqL.of (S02 _ _ (h4 i _ ei)),Zd (X2 (Xv (Nat.le_of_lt hc))),_,_,rfl,rfl,_,rfl,?_⟩
    refine Xc (fun h'=>?_) (fun h'=>?_)
    ·have hpos:0<Tb.L i c:=of_decide_eq_true h'
     have hel:elig lk c Tb i:=⟨hle,hpos⟩
     rcases inv' with ⟨hno,rfl⟩ | ⟨b,g1,g2,g3,g4,rfl⟩
     ·refine⟨_,rfl,rfl,_,rfl,Qx rfl ⟨_,rfl,S02,_,_,.inr ⟨i,by omega,him,hel,fun k hk hk2=>?_,rfl⟩⟩⟩
      by_cases q:k=i
      ·subst q;exact .inr ⟨rfl,Nat.le_refl _⟩
      ·exact absurd hk2 (hno k (by omega))
     ·refine⟨_,rfl,rfl,_,rfl,Qy (fun z=>nomatch z) ?_⟩
      refine⟨_,rfl,_,rfl,_,rfl,_,rfl,p,m,n,lk,c,i,b,N,Tb,rfl,tab.same S02,him,g2,hc,bd,hN,_,rfl,?_⟩
      refine Z1d (fun hg=>?_) (fun hg=>?_)
      ·have hib:Ahead n c Tb i b:=by
        unfold goB at hg
        split at hg
        ·rename_i e
         have:=of_decide_eq_true hg
         exact .inr ⟨e,by omega⟩
        ·exact .inl (of_decide_eq_true hg)
       refine⟨_,rfl,S02,_,_,.inr ⟨i,by omega,him,hel,fun k hk hk2=>?_,rfl⟩⟩
       by_cases q:k=i
       ·subst q;exact .inr ⟨rfl,Nat.le_refl _⟩
       ·exact Ahead.trans hpos g3.2 hk2.2 hib (g4 k (by omega) hk2)
      ·have hbi:Ahead n c Tb b i:=by
        unfold goB at hg
        split at hg
        ·rename_i e
         have:=of_decide_eq_false hg
         exact .inr ⟨e.symm,by omega⟩
        ·rename_i e
         have:=of_decide_eq_false hg
         exact .inl (by omega)
       refine⟨S02,_,_,.inr ⟨b,by omega,g2,g3,fun k hk hk2=>?_,rfl⟩⟩
       by_cases q:k=i
       ·subst q;exact hbi
       ·exact g4 k (by omega) hk2
    ·exact skip fun z=>h' (decide_eq_true z.2)
   ·exact skip fun z=>h (decide_eq_true (by have:=z.1;omega))
  ·rintro σ H1 ⟨S1,x,y,inv⟩
   rw[List.length_map,ol] at inv
   rcases inv with ⟨hno,rfl⟩ | ⟨b,g1,g2,g3,g4,rfl⟩
   ·obtain⟨k',hk',he⟩:=hex
    exact absurd he (hno k' hk')
   ·exact⟨_,rfl,k H1 b S1 g2 g3 g4⟩
def eW:Sp:=fun vs H Q _=>∃ (a:Addr) (i:Nat) (v:V) (xs:List V),vs=[.ref a,.int (i:Int),v]/\H a=some (.lst xs)/\i<xs.length/\∀ (d:Addr) (H':Hp),H d=none->Same H H'->H' d=some (.lst (xs.set i v))->Q (.ref d) H'
theorem Rb:FnScope ["numbers","place","number","told"] ["numbers","place","number"] (defScope kD):=fsc
theorem Ln (D:Def K mg "replaced" kD ["numbers","place","number"])(T:Blt mg):Has P w K mg base 1 "replaced" ["numbers","place","number"] eW:=by
 refine D.has fun f fd F=>F.ok Rb (fun vs H Q E h=>?_) (fun cdv A outer s H vs Q E hr h=>?_)
 ·obtain⟨a,i,v,xs,rfl,_⟩:=h
  rfl
 ·obtain⟨a,i,v,xs,rfl,ha,hi,k⟩:=h
  have sc:=Rb
  refine⟨_,(Z6 (Zg (i:=3) sc.nd rfl (Or.inl rfl) (Y4 Xi rfl T.list PyProof.Rows.boot_list (Z0 (pv 0) Z4)))
   (Z6 (Ub (pv 2) (Rk (pv 3) (pv 1) Vk))
   (Z9 (Zf (pv 3))))),?_⟩
  refine⟨_,rfl,a,_,rfl,.inl (SqL.of ha),fun d hd=>?_⟩
  refine⟨_,rfl,_,rfl,_,rfl,d,_,_,i,rfl,rfl,Z7,Bc (by omega) (by omega),?_⟩
  refine⟨_,rfl,k d _ hd (fun q o e=>?_) Z7⟩
  rw[Zb (Z8 e hd),Zb (Z8 e hd)]
  exact e
def freedI (xs zs:List Int)(c:Nat)(b:Int):List Int:=((List.range xs.length).map fun j=>(xs.getD j 0*zs.getD c 0 - xs.getD c 0*zs.getD j 0).fdiv b).set c (-xs.getD c 0)
def iN:Sp:=fun vs H Q _=>∃ (a k:Addr) (c N:Nat) (b:Int) (xs zs:List Int),vs=[.ref a,.ref k,.int (c:Int),.int b]/\H a=some (.lst (xs.map V.int))/\H k=some (.lst (zs.map V.int))/\xs.length=zs.length/\c<xs.length/\xs.length<=1000/\(∀ z∈xs,Bd N z)/\(∀ z∈zs,Bd N z)/\Bd N b/\0<b/\N<=8000 ∧
 ∀ (d:Addr) (H':Hp),H d=none->Same H H'->H' d=some (.lst ((freedI xs zs c b).map V.int))->Q (.ref d) H'
theorem Ku:FnScope ["line","key_line","column","bottom","key","by","told"] ["line","key_line","column","bottom"] (defScope lS):=fsc
theorem Z11 (D:Def K mg "freed" lS ["line","key_line","column","bottom"])(T:Blt mg)(eH:Has P w K mg base 1 "replaced" ["numbers","place","number"] eW):Has P w K mg base 2 "freed" ["line","key_line","column","bottom"] iN:=by
 refine D.has fun f fd F=>F.ok Ku (fun vs H Q E h=>?_) (fun cdv A outer s H vs Q E hr h=>?_)
 ·obtain⟨a,k,c,N,b,xs,zs,rfl,_⟩:=h
  rfl
 ·obtain⟨a,k,c,N,b,xs,zs,rfl,ha,hk,hl,hc,h1000,bx,bz,bb,hb,hN,kk⟩:=h
  have sc:=Ku
  have nd1:(["number","other","bottom","key","by"]:List Str).Nodup:=by decide +kernel
  refine⟨_,(Z6 (Zg (i:=4) sc.nd rfl (Or.inr rfl) (Ze Zy (pv 1) (pv 2) (fun _ _=>rfl)))
   (Z6 (Zg (i:=5) sc.nd rfl (Or.inr rfl) (Ze Zy (pv 0) (pv 2) (fun _ _=>rfl)))
   (Z6 (Wn (i:=6) (N:=["number","other","bottom","key","by"]) (k:=2) (fv:=[3,4,5]) sc.nd rfl (Or.inl rfl) rfl (J2 rfl T.zip (Z0 (pv 0) (Z0 (pv 1) Z4)))
   (fun _ _ _ _ _=>Wq (n:=2) rfl (Y6 (Zl (i:=0) nd1 rfl (Or.inl rfl)) (Y6 (Zl (i:=1) nd1 rfl (Or.inl rfl)) Xp))) (fun _ _ _ _ _=>Yh) (fun _ _ _ _ _=>(Zh W4 (Zh Vn (Zh Zv (pv 0) (pv 3)) (Zh Zv (pv 4) (pv 1))) (pv 2))) Vw)
   (Z9 (Zf (Zc eH hr (Z0 (pv 6) (Z0 (pv 2) (Z0 (Vj Xz (pv 5)) Z4))))))))),?_⟩
  have ex:∀ j,j<xs.length->xs[j]?=some (xs.getD j 0):=fun j hj=>by simp[List.getD,hj]
  have ez:∀ j,j<xs.length->zs[j]?=some (zs.getD j 0):=fun j hj=>by simp[List.getD,show j<zs.length by omega]
  have bxj:∀ j,Bd N (xs.getD j 0):=N7 bx
  have bzj:∀ j,Bd N (zs.getD j 0):=N7 bz
  refine⟨_,rfl,_,rfl,k,_,_,_,rfl,rfl,SqL.of hk,Zd (X2 (ez c hc)),?_⟩
  refine⟨_,rfl,_,rfl,a,_,_,_,rfl,rfl,SqL.of ha,Zd (X2 (ex c hc)),?_⟩
  refine⟨_,rfl,_,rfl,a,k,rfl,⟨_,SqL.of ha⟩,⟨_,SqL.of hk⟩,fun d hd=>?_⟩
  refine⟨xs.length,fun j ys H2=>Same H H2/\ys=(((List.range xs.length).map fun j=>(xs.getD j 0*zs.getD c 0 - xs.getD c 0*zs.getD j 0).fdiv b).take j).map V.int,Zq h1000,⟨Same.new hd,rfl⟩,?_,?_⟩
  ·rintro j ys H2 hj ⟨S2,rfl⟩ hd2
   refine⟨⟨_,_,SqL.of (S2 _ _ ha),SqL.of (S2 _ _ hk),by rw[List.length_map];exact hj,by rw[List.length_map];omega⟩,?_⟩
   rintro x H3 ⟨pp,x0,y0,rfl,hp,rfl,fx,fy⟩
   have e1:x0=V.int (xs.getD j 0):=by
    have:=fx _ (SqL.of (S2 _ _ ha))
    rw[X2 (ex j hj)] at this
    exact (Option.some.inj this).symm
   have e2:y0=V.int (zs.getD j 0):=by
    have:=fy _ (SqL.of (S2 _ _ hk))
    rw[X2 (ez j hj)] at this
    exact (Option.some.inj this).symm
   subst e1 e2
   have hpd:d≠pp:=Z8 hd2 hp
   refine Pr (SqT.of Z7) ?_
   refine⟨_,rfl,_,rfl,_,_,rfl,rfl,(bxj j).mulOk (bzj c) (by omega) (by omega),_,rfl,_,rfl,_,_,rfl,rfl,(bxj c).mulOk (bzj j) (by omega) (by omega),_,_,rfl,rfl,_,rfl,_,_,rfl,rfl,⟨by omega,bb.log (by omega)⟩,by rw[Zb hpd];exact hd2,fun q o e=>?_,?_⟩
   ·have:=S2 _ _ e
    rw[Zb (Z8 e hd),Zb (Z8 this hp)]
    exact this
   ·rw[Wv _ (show (List.range xs.length)[j]?=some j by simp[hj]),List.map_append]
    rfl
  ·rintro ys H2 ⟨S2,rfl⟩ hd2
   rw[List.take_of_length_le (by simp)] at hd2
   refine⟨⟨_,_,SqL.of (S2 _ _ ha),SqL.of (S2 _ _ hk),by rw[List.length_map]⟩,?_⟩
   refine⟨_,rfl,_,rfl,_,rfl,_,rfl,d,c,_,_,rfl,hd2,by simp;exact hc,fun d2 H3 f3 S3 e3=>?_⟩
   refine kk d2 H3 ?_ (S2.trans S3) ?_
   ·cases q:H d2 with
    | none=>rfl
    | some o=>rw[S2 _ _ q] at f3;cases f3
   ·rw[e3]
    unfold freedI
    rw[List.map_set]
end
end Sb
namespace Sv
section
variable {m n lk i0:Nat}{col:Nat->Vec}{rhs:Vec}{K:Nat}{S:Nat->Tab}{P C:Nat->Nat}
theorem Run.more (R:Run m n lk i0 col rhs K S P C){p c:Nat}(s:Step m n lk i0 (S K) p c)(h:p≠i0) :
  ∃ S' P' C',Run m n lk i0 col rhs (K+1) S' P' C'/\S' (K+1)=piv (S K) p c:=by
 refine⟨fun t=>if t<=K then S t else piv (S K) p c,fun t=>if t<K then P t else p,fun t=>if t<K then C t else c,⟨R.h0,?_,?_,fun k hk=>?_,fun k hk=>?_,fun k hk=>?_⟩,?_⟩
 ·show Inv m n col rhs (if 0<=K then S 0 else _)
  rw[if_pos (by omega)]
  exact R.I0
 ·show Feas m n lk (if 0<=K then S 0 else _)
  rw[if_pos (by omega)]
  exact R.F0
 ·show Step m n lk i0 (if k<=K then S k else _) (if k<K then P k else p) (if k<K then C k else c)
  rw[if_pos (by omega)]
  by_cases q:k<K
  ·rw[if_pos q,if_pos q]
   exact R.st k q
  ·have:k=K:=by omega
   subst this
   rw[if_neg q,if_neg q]
   exact s
 ·show (if k<K then P k else p)≠i0
  by_cases q:k<K
  ·rw[if_pos q]
   exact R.stay k q
  ·rw[if_neg q]
   exact h
 ·show (if k+1<=K then S (k+1) else piv (S K) p c)=piv (if k<=K then S k else _) (if k<K then P k else p) (if k<K then C k else c)
  by_cases q:k<K
  ·rw[if_pos (by omega),if_pos (by omega),if_pos q,if_pos q]
   exact R.nx k q
  ·have:k=K:=by omega
   subst this
   rw[if_neg (by omega),if_pos (by omega),if_neg q,if_neg q]
 ·show (if K+1<=K then _ else _)=_
  rw[if_neg (by omega)]
theorem Run.start (h0:i0<m){T:Tab}(I:Inv m n col rhs T)(F:Feas m n lk T):Run m n lk i0 col rhs 0 (fun _=>T) (fun _=>0) (fun _=>0) :=
 ⟨h0,I,F,fun k hk=>by omega,fun k hk=>by omega,fun k hk=>by omega⟩
end
end Sv
namespace Sb
open PySem L2
section
variable {P:Program}{w:World}{K:W.Frag}{mg:Str->Option Value}{base:Heap}{C:Addr}
theorem X4 (f:Str)(v:V):∀ fs:List (Str × V),(putF f v fs).length<=fs.length+1
 | []=>Nat.le_refl _
 | (g,x)::r=>by
  have:=X4 f v r
  unfold putF
  split
  ·simp
  ·simp only [List.length_cons]
   omega
def iL (C:Addr):Sp:=fun vs H Q _=>∃ (p dx:Addr) (a b c d e:V),vs=[.ref p,a,b,c,d,e]/\H p=some (.ins C dx [])/\∀ H',H' p=some (.ins C dx (fldsT a b c d e))->(∀ q o,H q=some o->q≠p->H' q=some o)->Q .non H'
theorem Z08:FnScope ["self","lines","owners","heads","bottom","lack"] ["self","lines","owners","heads","bottom","lack"] (defScope jZ):=fsc
theorem Z0p {f:Addr}{fd:FuncData}(F:Fun K "__init__" "Table.__init__" jZ f fd)(tc:TabC K mg C):FnOk P w K mg base CX0 1 f fd ["self","lines","owners","heads","bottom","lack"] (iL C):=by
 refine F.ok Z08 (fun vs H Q E h=>?_) (fun cdv A outer s H vs Q E hr h=>?_)
 ·obtain⟨p,dx,a,b,c,d,e,rfl,_⟩:=h
  rfl
 ·obtain⟨p,dx,a,b,c,d,e,rfl,hp,k⟩:=h
  refine⟨_,Z6 (Ri (pv 0) (pv 1) rfl) (Z6 (Ri (pv 0) (pv 2) rfl) (Z6 (Ri (pv 0) (pv 3) rfl) (Z6 (Ri (pv 0) (pv 4) rfl) (Z9 (Ri (pv 0) (pv 5) rfl))))),?_⟩
  refine⟨_,rfl,_,rfl,p,C,dx,_,rfl,hp,tc.cl,tc.nL,(by show 0<1000;decide),?_⟩
  refine⟨_,rfl,_,rfl,p,C,dx,_,rfl,Z7,tc.cl,tc.nO,(by show 1<1000;decide),?_⟩
  refine⟨_,rfl,_,rfl,p,C,dx,_,rfl,Z7,tc.cl,tc.nH,?_,?_⟩
  ·have z1:=X4 "owners" b (putF "lines" a [])
   have z2:=X4 "lines" a []
   simp only [List.length_nil] at z2
   omega
  refine⟨_,rfl,_,rfl,p,C,dx,_,rfl,Z7,tc.cl,tc.nB,?_,?_⟩
  ·have z1:=X4 "owners" b (putF "lines" a [])
   have z2:=X4 "lines" a []
   have z3:=X4 "heads" c (putF "owners" b (putF "lines" a []))
   simp only [List.length_nil] at z2
   omega
  refine⟨_,rfl,_,rfl,p,C,dx,_,rfl,Z7,tc.cl,tc.nK,?_,?_⟩
  ·have z1:=X4 "owners" b (putF "lines" a [])
   have z2:=X4 "lines" a []
   have z3:=X4 "heads" c (putF "owners" b (putF "lines" a []))
   have z4:=X4 "bottom" d (putF "heads" c (putF "owners" b (putF "lines" a [])))
   simp only [List.length_nil] at z2
   omega
  refine k _ Z7 fun q o e hq=>?_
  rw[Zb hq,Zb hq,Zb hq,Zb hq,Zb hq]
  exact e
def HasT (P:Program)(w:World)(K:W.Frag)(mg:Str->Option Value)(base:Heap)(C:Addr):Prop:=∃ (f:Addr) (fd:FuncData),Mk K C f/\FnOk P w K mg base CX0 1 f fd ["self","lines","owners","heads","bottom","lack"] (iL C)/\Binds K fd ["self","lines","owners","heads","bottom","lack"] []
theorem V4 {n:Nat}{xs:List Int}{f:Nat->Int}(hl:xs.length=n)(h:∀ i,i<n->xs[i]?=some (f i)):xs=(List.range n).map f:=by
 apply List.ext_getElem?
 intro i
 by_cases q:i<n
 ·rw[h i q]
  simp[q]
 ·rw[List.getElem?_eq_none (by omega),List.getElem?_eq_none (by simp;omega)]
theorem Z0h {m p c:Nat}{T:Sv.Tab}(hp:p<m):(ownI m T).set p (T.hd c:Int)=ownI m (Sv.piv T p c):=by
 refine V4 (by rw[List.length_set,Vm]) fun i hi=>?_
 show _=some ((Sv.up T.own p (T.hd c) i:Nat):Int)
 unfold Sv.up
 by_cases e:i=p
 ·subst e
  rw[List.getElem?_set_self (by rw[Vm];exact hi),if_pos rfl]
 ·rw[List.getElem?_set_ne (Ne.symm e),V9 hi,if_neg e]
theorem Z31 {n p c:Nat}{T:Sv.Tab}(hc:c<n):(hdI n T).set c (T.own p:Int)=hdI n (Sv.piv T p c):=by
 refine V4 (by rw[List.length_set,Vf]) fun i hi=>?_
 show _=some ((Sv.up T.hd c (T.own p) i:Nat):Int)
 unfold Sv.up
 by_cases e:i=c
 ·subst e
  rw[List.getElem?_set_self (by rw[Vf];exact hi),if_pos rfl]
 ·rw[List.getElem?_set_ne (Ne.symm e),Ue hi,if_neg e]
theorem Z1c {n p c:Nat}{T:Sv.Tab}(hc:c<n):(lineI n T p).set c T.b=lineI n (Sv.piv T p c) p:=by
 refine V4 (by rw[List.length_set,Ym]) fun j hj=>?_
 show _=some (Sv.newL T p c p j)
 unfold Sv.newL
 rw[if_pos rfl]
 by_cases e:j=c
 ·subst e
  rw[List.getElem?_set_self (by rw[Ym];exact hj),if_pos rfl]
 ·rw[List.getElem?_set_ne (Ne.symm e),Xv (by omega),if_neg e]
theorem Wj {n i j:Nat}{T:Sv.Tab}(h:j<=n):(lineI n T i).getD j 0=T.L i j:=by
 simp only [List.getD,Xv h]
 rfl
theorem Cz {n p c i:Nat}{T:Sv.Tab}(hc:c<n)(h:i≠p):freedI (lineI n T i) (lineI n T p) c T.b=lineI n (Sv.piv T p c) i:=by
 unfold freedI
 refine V4 (by rw[List.length_set];simp[Ym]) fun j hj=>?_
 show _=some (Sv.newL T p c i j)
 unfold Sv.newL
 rw[if_neg h,Ym]
 by_cases e:j=c
 ·subst e
  rw[List.getElem?_set_self (by simpa using hj),if_pos rfl,Wj (by omega)]
 ·rw[List.getElem?_set_ne (Ne.symm e),if_neg e]
  simp only [List.getElem?_map,show (List.range (n+1))[j]?=some j by simp[hj],Option.map_some]
  rw[Wj (by omega),Wj (by omega),Wj (by omega),Wj (by omega)]
theorem Mf {N m n i:Nat}{T:Sv.Tab}(h:TabBd N m n T)(hi:i<m):∀ z∈lineI n T i,Bd N z:=fun z hz=>by
 unfold lineI at hz
 obtain⟨j,hj,rfl⟩:=List.mem_map.mp hz
 exact h.l i j hi (by have:=List.mem_range.mp hj;omega)
def jA (C:Addr):Sp:=fun vs H Q _=>∃ (p:Addr) (m n lk pl c N:Nat) (T:Sv.Tab),vs=[.ref p,.int (pl:Int),.int (c:Int)]/\TabAt C H p m n lk T/\pl<m/\c<n/\m<=900/\n<=900/\TabBd N m n T/\N<=8000/\0<T.b ∧
 ∀ (q:Addr) (H':Hp),Same H H'->TabAt C H' q m n lk (Sv.piv T pl c)->Q (.ref q) H'
theorem Dl:FnScope ["table","place","column","key_line","lines"] ["table","place","column"] (defScope kB):=fsc
set_option maxHeartbeats 800000 in
theorem Z2q (D:Def K mg "exchanged" kB ["table","place","column"])(tc:TabC K mg C)(hT:HasT P w K mg base C)(jQ:Has P w K mg base 2 "freed" ["line","key_line","column","bottom"] iN)(eH:Has P w K mg base 1 "replaced" ["numbers","place","number"] eW):Has P w K mg base 3 "exchanged" ["table","place","column"] (jA C):=by
 refine D.has fun f fd F=>F.ok Dl (fun vs H Q E h=>?_) (fun cdv A outer s H vs Q E hr h=>?_)
 ·obtain⟨p,m,n,lk,pl,c,N,T,rfl,_⟩:=h
  rfl
 ·obtain⟨p,m,n,lk,pl,c,N,T,rfl,tab,hp,hc,hm,hn,bd,hN,hb,k⟩:=h
  obtain⟨dx,la,oa,ha,las,h1,h2,h3,h4,h5,h6⟩:=id tab
  obtain⟨fI,fdI,tTableM,tTableG,tTableB⟩:=hT
  have tTableC:=tc.mgC
  have sc:=Dl
  have nd1:(["line","table","column","key_line"]:List Str).Nodup:=by decide +kernel
  refine⟨_,(Z6 (Zg (i:=3) sc.nd rfl (Or.inr rfl) (Ze Zy (Ye (pv 0) rfl) (pv 1) (fun _ _=>rfl)))
   (Z6 (Wn (i:=4) (N:=["line","table","column","key_line"]) (k:=1) (fv:=[0,2,3]) sc.nd rfl (Or.inl rfl) rfl (Xo (Ye (pv 0) rfl))
   (fun _ _ _ _ _=>Zl (i:=0) nd1 rfl (Or.inl rfl)) (fun _ _ _ _ _=>Yh) (fun _ _ _ _ _=>(Zc jQ hr (Z0 (pv 0) (Z0 (pv 3) (Z0 (pv 2) (Z0 (Pq (K:=K) (pv 1) rfl) Z4)))))) Y2)
   (Z9 (Zf (J4 tTableM tTableG (hr.mono (by decide)) rfl tTableC tTableB .nil J6 (Z0 (Zc eH hr (Z0 (pv 4) (Z0 (pv 1) (Z0 (Zc eH hr (Z0 (pv 3) (Z0 (pv 2) (Z0 (Ye (pv 0) rfl) Z4)))) Z4)))) (Z0 (Zc eH hr (Z0 (Ye (pv 0) rfl) (Z0 (pv 1) (Z0 (Ze Zy (Ye (pv 0) rfl) (pv 2) (fun _ _=>rfl)) Z4)))) (Z0 (Zc eH hr (Z0 (Ye (pv 0) rfl) (Z0 (pv 2) (Z0 (Ze Zy (Ye (pv 0) rfl) (pv 1) (fun _ _=>rfl)) Z4)))) (Z0 (Ze Zy (pv 3) (pv 2) (fun _ _=>rfl)) (Z0 (Ye (pv 0) rfl) Z4)))))))))),?_⟩
  have ep:las[pl]?=some (las[pl]'(by omega)):=by simp
  have hkl:=h4 pl _ ep
  generalize las[pl]'(by omega)=kl at *
  refine⟨_,rfl,p,C,dx,_,_,rfl,h1,tc.cl,tc.nL,Xx,_,rfl,la,_,_,_,rfl,rfl,SqL.of h2,Zd (show (las.map V.ref)[pl]?=some (V.ref kl) by rw[List.getElem?_map,ep];rfl),?_⟩
  refine⟨_,rfl,p,C,dx,_,_,rfl,h1,tc.cl,tc.nL,Xx,la,rfl,⟨_,SqL.of h2⟩,fun d hd=>?_⟩
  refine⟨m,fun i ys H2=>Same H H2/\∃ ns:List Addr,ys=ns.map V.ref/\ns.length=i/\∀ (t:Nat) (a:Addr),ns[t]?=some a->a≠d/\H2 a=some (.lst ((freedI (lineI n T t) (lineI n T pl) c T.b).map V.int)),Zq (by omega),⟨Same.new hd,[],rfl,rfl,fun t a e=>by simp at e⟩,?_,?_⟩
  ·rintro i ys H2 hi ⟨S2,ns,rfl,l2,q2⟩ hd2
   have ei:las[i]?=some (las[i]'(by omega)):=by simp
   refine⟨⟨_,V.ref (las[i]'(by omega)),SqL.of (S2 _ _ h2),by simp⟩,?_⟩
   rintro x H3 ⟨rfl,fx⟩
   have ex:x=V.ref (las[i]'(by omega)):=by
    have:=fx _ (SqL.of (S2 _ _ h2))
    rw[List.getElem?_map,ei] at this
    exact (Option.some.inj this).symm
   subst ex
   refine Yo ?_
   refine⟨_,rfl,_,rfl,_,rfl,_,rfl,p,C,dx,_,_,rfl,S2 _ _ h1,tc.cl,tc.nB,V3,?_⟩
   refine⟨_,kl,c,N,T.b,lineI n T i,lineI n T pl,rfl,S2 _ _ (h4 i _ ei),S2 _ _ hkl,by rw[Ym,Ym],by rw[Ym];omega,by rw[Ym];omega,Mf bd hi,Mf bd hp,bd.b,hb,hN,fun a4 H4 f4 S4 e4=>?_⟩
   have hd4:=S4 _ _ hd2
   refine⟨hd4,fun q o e=>?_,ns++[a4],by rw[List.map_append];rfl,by rw[List.length_append,l2];rfl,fun t a e=>?_⟩
   ·rw[Zb (Z8 e hd)]
    exact S4 _ _ (S2 _ _ e)
   ·by_cases q:t<ns.length
    ·rw[List.getElem?_append_left q] at e
     have:=q2 t a e
     refine⟨this.1,?_⟩
     rw[Zb this.1]
     exact S4 _ _ this.2
    ·rw[List.getElem?_append_right (by omega)] at e
     have hk0:t - ns.length=0:=by
      have:=(List.getElem?_eq_some_iff.mp e).1
      simp at this
      omega
     rw[hk0] at e
     cases e
     have hti:t=i:=by omega
     subst hti
     have hne:a4≠d:=fun z=>by rw[z] at f4;rw[f4] at hd2;cases hd2
     refine⟨hne,?_⟩
     rw[Zb hne]
     exact e4
  ·rintro ys H2 ⟨S2,ns,rfl,l2,q2⟩ hd2
   refine⟨⟨_,SqL.of (S2 _ _ h2),by simp[h3]⟩,?_⟩
   refine⟨_,rfl,_,rfl,_,rfl,_,rfl,_,rfl,p,C,dx,_,_,rfl,S2 _ _ h1,tc.cl,tc.nB,V3,kl,c,_,_,rfl,S2 _ _ hkl,by rw[List.length_map,Ym];omega,fun d1 H3 f3 S3 e3=>?_⟩
   refine⟨d,pl,_,_,rfl,S3 _ _ hd2,by rw[List.length_map];omega,fun d2 H4 f4 S4 e4=>?_⟩
   have S04:=(S2.trans S3).trans S4
   refine⟨_,rfl,p,C,dx,_,_,rfl,S04 _ _ h1,tc.cl,tc.nO,Yy,_,rfl,_,rfl,p,C,dx,_,_,rfl,S04 _ _ h1,tc.cl,tc.nH,V2,_,rfl,ha,_,_,_,rfl,rfl,SqL.of (S04 _ _ h6),Zd (X2 (Ue hc)),oa,pl,_,_,rfl,S04 _ _ h5,by rw[List.length_map,Vm];omega,fun d3 H5 f5 S5 e5=>?_⟩
   have S05:=S04.trans S5
   refine⟨_,rfl,p,C,dx,_,_,rfl,S05 _ _ h1,tc.cl,tc.nH,V2,_,rfl,_,rfl,p,C,dx,_,_,rfl,S05 _ _ h1,tc.cl,tc.nO,Yy,_,rfl,oa,_,_,_,rfl,rfl,SqL.of (S05 _ _ h5),Zd (X2 (V9 hp)),ha,c,_,_,rfl,S05 _ _ h6,by rw[List.length_map,Vf];omega,fun d6 H6 f6 S6 e6=>?_⟩
   have S06:=S05.trans S6
   refine⟨_,rfl,_,rfl,kl,_,_,_,rfl,rfl,SqL.of (S06 _ _ hkl),Zd (X2 (Xv (Nat.le_of_lt hc))),_,rfl,p,C,dx,_,_,rfl,S06 _ _ h1,tc.cl,tc.nK,N8,fun x dx2 hx hdx hne=>?_⟩
   have SU:Same H6 (upd (upd H6 dx2 (.own x)) x (.ins C dx2 [])):=fun q o e=>by
    rw[Zb (Z8 e hx),Zb (Z8 e hdx)]
    exact e
   refine⟨x,dx2,_,_,_,_,_,rfl,Z7,fun H7 e7 S7=>⟨rfl,?_⟩⟩
   have SV:Same H6 H7:=fun q o e=>S7 q o (SU q o e) (Z8 e hx)
   refine k x H7 (S06.trans SV) ⟨dx2,d2,d3,d6,ns.set pl d1,e7,SV _ _ (S6 _ _ (S5 _ _ (by rw[e4,List.map_set]))),by rw[List.length_set];exact l2,fun i a e=>?_,SV _ _ (S6 _ _ (by rw[e5,← Z0h hp,List.map_set])),SV _ _ (by rw[e6,← Z31 hc,List.map_set])⟩
   by_cases q:i=pl
   ·subst q
    rw[List.getElem?_set_self (by omega)] at e
    cases e
    refine SV _ _ (S6 _ _ (S5 _ _ (S4 _ _ ?_)))
    rw[e3,← Z1c hc,List.map_set]
   ·rw[List.getElem?_set_ne (Ne.symm q)] at e
    refine SV _ _ (S6 _ _ (S5 _ _ (S4 _ _ (S3 _ _ ?_))))
    rw[(q2 i a e).2,Cz hc q]
end
section
variable {P:Program}{w:World}{K:W.Frag}{mg:Str->Option Value}{base:Heap}{C:Addr}
def iO (C:Addr):Sp:=fun vs H Q _=>∃ (la:Addr) (m n:Nat) (las:List Addr) (T:Sv.Tab),vs=[.ref la]/\H la=some (.lst (las.map V.ref))/\las.length=m+2/\(∀ (i:Nat) (a:Addr),las[i]?=some a->H a=some (.lst ((lineI n T i).map V.int)))/\m<=900/\n<=900/\T.b=1/\(∀ i,T.own i=n+i)/\(∀ j,T.hd j=j) ∧
 ∀ (q:Addr) (H':Hp),Same H H'->TabAt C H' q (m+2) n (n+m) T->Q (.ref q) H'
theorem Kv:FnScope ["lines","width","owners"] ["lines"] (defScope j7):=fsc
theorem Z12 (D:Def K mg "first_table" j7 ["lines"])(T0:Blt mg)(tc:TabC K mg C)(hT:HasT P w K mg base C):Has P w K mg base 3 "first_table" ["lines"] (iO C):=by
 refine D.has fun f fd F=>F.ok Kv (fun vs H Q E h=>?_) (fun cdv A outer s H vs Q E hr h=>?_)
 ·obtain⟨la,m,n,las,T,rfl,_⟩:=h
  rfl
 ·obtain⟨la,m,n,las,Tb,rfl,h2,h3,h4,hm,hn,hb,ho,hh,k⟩:=h
  obtain⟨fI,fdI,tTableM,tTableG,tTableB⟩:=hT
  have tTableC:=tc.mgC
  have sc:=Kv
  have T:=T0
  refine⟨_,(Z6 (Zg (i:=1) sc.nd rfl (Or.inl rfl) (Zh Vn (Zu Y1 rfl T.len boot_len (Z0 (Ze Zy (pv 0) Z5 (fun _ _=>rfl)) Z4)) Z5))
   (Z6 (Zg (i:=2) sc.nd rfl (Or.inl rfl) (Gf rfl rfl T.list rfl T.range (Z0 (pv 1) (Z0 (Zh Yu (pv 1) (Zu Y1 rfl T.len boot_len (Z0 (pv 0) Z4))) Z4))))
   (Z9 (Zf (J4 tTableM tTableG (hr.mono (by decide)) rfl tTableC tTableB .nil J6 (Z0 (pv 0) (Z0 (pv 2) (Z0 (Gg rfl rfl T.list rfl T.range (Z0 (pv 1) Z4)) (Z0 Z5 (Z0 (Ze Zy (pv 2) (Vj Xz Z5) (fun _ _=>rfl)) Z4)))))))))),?_⟩
  have e0:las[0]?=some (las[0]'(by omega)):=by simp
  have hl0:=h4 0 _ e0
  generalize las[0]'(by omega)=l0 at *
  have ew:((((lineI n Tb 0).map V.int).length:Nat):Int) - 1=(n:Int):=by rw[List.length_map,Ym];omega
  refine⟨_,rfl,la,_,_,_,rfl,rfl,SqL.of h2,Zd (show (las.map V.ref)[0]?=some (V.ref l0) by rw[List.getElem?_map,e0];rfl),l0,_,rfl,.inl (SqL.of hl0),?_⟩
  refine⟨_,_,rfl,rfl,_,rfl,_,rfl,_,rfl,la,_,rfl,.inl (SqL.of h2),_,_,rfl,rfl,n,m+2,?_,by omega,by omega,fun o ho2=>?_⟩
  ·show [V.int _,V.int (_+_)]=_
   rw[ew,List.length_map,h3]
   rfl
  refine⟨_,rfl,_,rfl,_,rfl,n,(by show [V.int _]=_;rw[ew]),by omega,fun e he=>?_⟩
  have hoe:o≠e:=fun z=>by rw[← z,Z7] at he;cases he
  have xl:(List.map (fun k=>V.int ((n+k:Nat):Int)) (List.range (m+2))).length=m+2:=by simp
  refine⟨_,rfl,_,rfl,o,_,_,_,rfl,rfl,SqL.of ((Zb hoe).trans Z7),(show atI _ (-2)=some (V.int ((n+m:Nat):Int)) from ?_),fun x dx2 hx hdx hne=>?_⟩
  ·unfold atI ixN
   rw[xl,if_neg (by decide),if_pos (by omega)]
   show (List.map (fun k=>V.int ((n+k:Nat):Int)) (List.range (m+2)))[(-2+((m+2:Nat):Int)).toNat]?=_
   have:(-2+((m+2:Nat):Int)).toNat=m:=by omega
   rw[this]
   simp
  ·have S2:Same H (upd (upd H o (.lst ((List.range (m+2)).map fun k=>V.int ((n+k:Nat):Int)))) e (.lst ((List.range n).map fun (k:Nat)=>V.int (k:Int)))):=fun q z y=>by
    rw[Zb (Z8 (show upd H o _ q=some z by rw[Zb (Z8 y ho2)];exact y) he),Zb (Z8 y ho2)]
    exact y
   have ho3:upd (upd H o (.lst ((List.range (m+2)).map fun k=>V.int ((n+k:Nat):Int)))) e (.lst ((List.range n).map fun (k:Nat)=>V.int (k:Int))) o=some (.lst ((ownI (m+2) Tb).map V.int)):=by
    rw[Zb hoe,Z7]
    unfold ownI
    simp[ho,Function.comp_def]
   have he3:upd (upd H o (.lst ((List.range (m+2)).map fun k=>V.int ((n+k:Nat):Int)))) e (.lst ((List.range n).map fun (k:Nat)=>V.int (k:Int))) e=some (.lst ((hdI n Tb).map V.int)):=by
    rw[Z7]
    unfold hdI
    simp[hh,Function.comp_def]
   generalize upd (upd H o (.lst ((List.range (m+2)).map fun k=>V.int ((n+k:Nat):Int)))) e (.lst ((List.range n).map fun (k:Nat)=>V.int (k:Int)))=H6 at *
   have SU:Same H6 (upd (upd H6 dx2 (.own x)) x (.ins C dx2 [])):=fun q o e=>by
    rw[Zb (Z8 e hx),Zb (Z8 e hdx)]
    exact e
   refine⟨x,dx2,_,_,_,_,_,rfl,Z7,fun H7 e7 S7=>⟨rfl,?_⟩⟩
   have SV:Same H6 H7:=fun q o e=>S7 q o (SU q o e) (Z8 e hx)
   have S7':=S2.trans SV
   exact k x H7 S7' ⟨dx2,la,o,e,las,by rw[hb];exact e7,S7' _ _ h2,h3,fun i a y=>S7' _ _ (h4 i a y),SV _ _ ho3,SV _ _ he3⟩
end
section
variable {P:Program}{w:World}{K:W.Frag}{mg:Str->Option Value}{base:Heap}{C:Addr}
def DrEnd (m n lk i0 v:Nat)(col:Nat->Sv.Vec)(rhs:Sv.Vec)(Ex:Sv.Tab->Prop)(T:Sv.Tab):Prop :=
 Sv.Inv m n col rhs T/\Sv.Feas m n lk T/\Ex T/\((T.own i0=v/\∀ j,j<n->T.hd j≠lk->T.L i0 j<=0) \/ ∃ T1 c,T1.own i0=v/\Sv.Inv m n col rhs T1/\Sv.Step m n lk i0 T1 i0 c/\T=Sv.piv T1 i0 c)
def gT (C:Addr):Sp:=fun vs H Q _=>∃ (p:Addr) (m n lk i0 N v:Nat) (col:Nat->Sv.Vec) (rhs:Sv.Vec) (Ex:Sv.Tab->Prop) (T:Sv.Tab),vs=[.ref p,.int (v:Int)]/\TabAt C H p m n lk T/\i0<m/\m<=900/\n<=900/\N<=8000/\Sv.Inv m n col rhs T/\Sv.Feas m n lk T/\Ex T/\T.own i0=v ∧
 (∀ T',Sv.Inv m n col rhs T'->TabBd N m n T') ∧
 (∀ T' c,Sv.Inv m n col rhs T'->Sv.Feas m n lk T'->Ex T'->T'.own i0=v->c<n->T'.hd c≠lk->0<T'.L i0 c->∃ k,k<m/\elig lk c T' k) ∧
 (∀ T' pl c,Sv.Inv m n col rhs T'->Ex T'->Sv.Step m n lk i0 T' pl c->Ex (Sv.piv T' pl c)) ∧
 ∀ (q:Addr) (H':Hp) (T':Sv.Tab),Same H H'->TabAt C H' q m n lk T'->DrEnd m n lk i0 v col rhs Ex T'->Q (.ref q) H'
theorem M0:FnScope ["table","owner","column"] ["table","owner"] (defScope lB):=fsc
set_option maxHeartbeats 800000 in
theorem Co (D:Def K mg "driven" lB ["table","owner"])(tc:TabC K mg C)(jE:Has P w K mg base 2 "helping" ["table","owner"] (gB C))(iD:Has P w K mg base 3 "exchanged" ["table","place","column"] (jA C))(i3:Has P w K mg base 2 "going_out" ["table","column"] (iM C)):Has P w K mg base 4 "driven" ["table","owner"] (gT C):=by
 refine D.has fun f fd F=>F.ok M0 (fun vs H Q E h=>?_) (fun cdv A outer s H vs Q E hr h=>?_)
 ·obtain⟨p,m,n,lk,i0,N,v,col,rhs,Ex,T,rfl,_⟩:=h
  rfl
 ·obtain⟨p,m,n,lk,i0,N,v,col,rhs,Ex,T,rfl,tab,hi0,hm,hn,hN,I0,F0,X0,hv,hbd,hle,hkp,kk⟩:=h
  have sc:=M0
  refine⟨_,(Z6 (Rh PassesOwn.never (Zi Xm (pv 1) (Ye (pv 0) rfl) rfl)
    (Z6 (Zg (i:=2) sc.nd rfl (Or.inl rfl) (Zc jE hr (Z0 (pv 0) (Z0 (pv 1) Z4))))
    (Z6 (Yd (Zi Pw (pv 2) Yw (Zp _))
     (Z9 (Zf (pv 0)))
     Zt)
    (Z9 (Zg (i:=0) sc.nd rfl (Or.inl rfl) (Zc iD hr (Z0 (pv 0) (Z0 (Zc i3 hr (Z0 (pv 0) (Z0 (pv 2) Z4))) (Z0 (pv 2) Z4)))))))))
   (Z9 (Zf (pv 0)))),?_⟩
  refine⟨fun mm σ H'=>Same H H'/\∃ (q:Addr) (T':Sv.Tab) (x:Option V),σ=[some (.ref q),some (.int (v:Int)),x]/\TabAt C H' q m n lk T'/\((∃ k S P Cc,Sv.Run m n lk i0 col rhs k S P Cc/\T'=S k/\T'.own i0=v/\Ex T'/\mm=(n+m) ^ m - k) \/ (mm=0/\T'.own i0≠v/\(∃ c,c<n/\T'.hd c=v)/\DrEnd m n lk i0 v col rhs Ex T')),⟨_,Same.refl _,p,T,none,rfl,tab,.inl ⟨0,_,_,_,Sv.Run.start hi0 I0 F0,rfl,hv,X0,rfl⟩⟩,?_⟩
  rintro mm σ H1 ⟨S1,q,T',x,rfl,tab1,inv⟩
  obtain⟨dx,la,oa,ha,las,h1,h2,h3,h4,h5,h6⟩:=id tab1
  refine⟨_,rfl,_,rfl,q,C,dx,_,_,rfl,h1,tc.cl,tc.nO,Yy,N6 h5 ?_⟩
  refine⟨_,rfl,?_⟩
  rcases inv with ⟨k,S,PP,Cc,R,rfl,hv',X',hmm⟩ | ⟨hmm,hv',⟨c,hc,hcv⟩,hend⟩
  ·have hsh:=R.short
   obtain⟨I',F'⟩:=R.inv k (Nat.le_refl k)
   refine Xc (fun _=>?_) (fun h=>absurd (decide_eq_true (mem_ownI.mpr ⟨i0,hi0,hv'⟩)) h)
   refine⟨fun σ' H'=>_,fun σ' H' h=>h,?_⟩
   refine⟨_,rfl,_,rfl,q,m,n,lk,i0,S k,by rw[hv'];rfl,tab1,TabOk.of I',hi0,by omega,by omega,fun H2 S2=>⟨fun c hc hh hf=>?_,fun hno=>?_⟩⟩
   ·have tab2:=tab1.same S2
    have hd:∀ j,helps lk (S k) i0 j=true ↔ 0<(S k).L i0 j/\(S k).hd j≠lk:=fun j=>by unfold helps;simp
    obtain⟨hpos,hnl⟩:=(hd c).mp hh
    refine⟨_,rfl,rfl,_,rfl,Qy (by intro z;cases z) ?_⟩
    refine⟨_,rfl,_,rfl,_,rfl,q,m,n,lk,c,N,S k,rfl,tab2,hc,by omega,hbd _ I',hN,hle _ c I' F' X' hv' hc hnl hpos,fun H3 b S3 hb hel hah=>?_⟩
    refine⟨_,rfl,q,m,n,lk,b,c,N,S k,rfl,tab2.same S3,hb,hc,hm,hn,hbd _ I',hN,I'.pos,fun q2 H4 S4 tab4=>?_⟩
    have st:Sv.Step m n lk i0 (S k) b c:=⟨hb,hc,hnl,hpos,fun j hj hjl hjp=>hf j hj ((hd j).mpr ⟨hjp,hjl⟩),hel.1,hel.2,fun i hi h1 h2=>hah i hi ⟨h1,h2⟩⟩
    have SS:=((S1.trans S2).trans S3).trans S4
    by_cases e:b=i0
    ·subst e
     refine⟨0,by omega,SS,q2,_,_,rfl,tab4,.inr ⟨rfl,fun z=>?_,⟨c,hc,?_⟩,I'.piv hb hc hel.2,st.feas I' F',hkp _ _ _ I' X' st,.inr ⟨S k,c,hv',I',st,rfl⟩⟩⟩
     ·rw[Sv.own_p] at z
      exact I'.ne hb hc (hv'.trans z.symm)
     ·show Sv.up (S k).hd c ((S k).own b) c=v
      unfold Sv.up
      rw[if_pos rfl]
      exact hv'
    ·obtain⟨S',P',C',R',e'⟩:=R.more st e
     have hsh':=R'.short
     refine⟨(n+m) ^ m - (k+1),by omega,SS,q2,_,_,rfl,tab4,.inl ⟨k+1,S',P',C',R',e'.symm,?_,hkp _ _ _ I' X' st,rfl⟩⟩
     rw[Sv.own_ne (Ne.symm e)]
     exact hv'
   ·refine⟨_,rfl,rfl,_,rfl,Qx rfl ⟨_,rfl,kk q H2 (S k) (S1.trans S2) (tab1.same S2) ⟨I',F',X',.inl ⟨hv',fun j hj hl=>?_⟩⟩⟩⟩
    have:=hno j hj
    unfold helps at this
    simp[hl] at this
    exact this
  ·refine Xc (fun h=>?_) (fun h=>?_)
   ·obtain⟨i,hi,e⟩:=mem_ownI.mp (of_decide_eq_true h)
    exact absurd (e.trans hcv.symm) (hend.1.ne hi hc)
   ·exact⟨_,rfl,kk q H1 T' S1 tab1 hend⟩
end
section
variable {P:Program}{w:World}{K:W.Frag}{mg:Str->Option Value}{base:Heap}
def i6 (K:W.Frag):Sp:=fun vs H Q _=>∃ (i c:Nat) (o:Option (Nat->Bool)) (v:V),vs=[.int i,v]/\EvAt K H c o v/\i<c/\Q (.bl (inE o i)) H
theorem Z3r {H:Hp}{c i:Nat}{o:Option (Nat->Bool)}{v:V}{Q:VK}(h:EvAt K H c o v)(hi:i<c)(q:Q (.bl (inE o i)) H) :
  if decide (v=V.non)=true then Q (.bl true) H else rIn K false (.int i) v H Q:=by
 cases o with
 | none =>
  have e:v=.non:=h
  exact Qx e q
 | some p =>
  obtain⟨a,rfl,h⟩:=h
  refine Qy (by intro z;cases z) ⟨a,_,rfl,.inr h,rfl,Wb _,?_⟩
  show Q (.bl (inV (.int (i:Int)) ((evI c p).map V.int))) H
  rw[V0]
  have e:decide ((i:Int)∈evI c p)=p i:=by
   rw[Bool.eq_iff_iff,decide_eq_true_eq,mem_evI]
   simp[hi]
  rw[e]
  exact q
theorem Di:FnScope ["world","event"] ["world","event"] (defScope l8):=fsc
theorem Z2n (D:Def K mg "is_in" l8 ["world","event"]):Has P w K mg base 1 "is_in" ["world","event"] (i6 K):=by
 refine D.has fun f fd F=>F.ok Di (fun vs H Q E h=>?_) (fun cdv A outer s H vs Q E hr h=>?_)
 ·obtain⟨i,c,o,v,rfl,_⟩:=h
  rfl
 ·obtain⟨i,c,o,v,rfl,hv,hi,q⟩:=h
  have sc:=Di
  refine⟨_,(Z9 (Zf (Z3d (U1 Pw (pv 1) Yw (Zp _)) (Pn (U1 Xm (pv 0) (pv 1) rfl))))),?_⟩
  refine⟨_,rfl,rfl,_,rfl,?_⟩
  have:=Z3r (Q:=Q) hv hi q
  refine Z1d (fun e=>?_) (fun e=>?_)
  ·rw[e] at this
   rw[if_pos rfl] at this
   exact this
  ·rw[e] at this
   rw[if_neg Bool.false_ne_true] at this
   exact⟨_,rfl,_,rfl,this⟩
def iS (K:W.Frag):Sp:=fun vs H Q _=>∃ (a:Addr) (v:V) (rs:List Rat) (o:Option (Nat->Bool)),vs=[.ref a,v]/\RowAt K H a rs/\EvAt K H rs.length o v/\rs.length<=1000 ∧
 ∀ p H',Same H H'->RowAt K H' p (cutR o rs)->Q (.ref p) H'
theorem Z20:FnScope ["row","event"] ["row","event"] (defScope mH):=fsc
theorem Z3l (D:Def K mg "cut" mH ["row","event"])(T:Blt mg)(jV:Has P w K mg base 1 "is_in" ["world","event"] (i6 K))(eG:Con K mg "NOUGHT" (0,1)):Has P w K mg base 2 "cut" ["row","event"] (iS K):=by
 refine D.has fun f fd F=>F.ok Z20 (fun vs H Q E h=>?_) (fun cdv A outer s H vs Q E hr h=>?_)
 ·obtain⟨a,v,rs,o,rfl,_⟩:=h
  rfl
 ·obtain⟨a,v,rs,o,rfl,⟨xs,hA,hRs⟩,hv,hl,k⟩:=h
  obtain⟨c_NOUGHT,m_NOUGHT,s_NOUGHT⟩:=eG
  have sc:=Z20
  have nd1:(["world","worth","event"]:List Str).Nodup:=by decide +kernel
  refine⟨_,(Z9 (Zf (Y4 Zz rfl T.tuple PyProof.Rows.boot_tuple (Z0 (Yn (N:=["world","worth","event"]) (k:=2) (fv:=[1]) rfl (Z0b rfl T.enumerate (Z0 (pv 0) Z4))
   (fun _ _ _ _ _=>Wq (n:=2) rfl (Y6 (Zl (i:=0) nd1 rfl (Or.inl rfl)) (Y6 (Zl (i:=1) nd1 rfl (Or.inl rfl)) Xp))) (fun _ _ _ _ _=>Yh) (fun _ _ _ _ _=>(Wx (Xa (Zc jV hr (Z0 (pv 0) (Z0 (pv 2) Z4)))) (pv 1) (Yj (v:=.ref c_NOUGHT) rfl m_NOUGHT rfl))) Vw) Z4)))),?_⟩
  refine⟨_,rfl,a,rfl,⟨_,hA⟩,fun d hd=>?_⟩
  have lx:=hRs.len
  refine⟨rs.length,fun i ys H2=>Same H H2/\Rs K H2 ((cutR o rs).take i) ys,Zq hl,⟨Same.new hd,.nil⟩,?_,?_⟩
  ·rintro i ys H2 hi ⟨S2,R2⟩ hd2
   refine⟨⟨xs,Zo S2 hA,by omega⟩,?_⟩
   rintro x H3 ⟨p,x0,rfl,hp,rfl,fx⟩
   obtain⟨r,er,ix⟩:=hRs.back (fx xs (Zo S2 hA))
   have S3:Same H2 (upd H2 p (.tup [.int (i:Int),x0])):=Same.new hp
   have ix3:=ix.ext ((Ext.same S2).trans (Ext.same S3))
   refine Pr (SqT.of Z7) ?_
   refine⟨_,rfl,_,rfl,i,rs.length,o,v,rfl,(hv.same S2).same S3,hi,_,rfl,?_⟩
   have hpd:d≠p:=Z8 hd2 hp
   have hd3:upd H2 p (.tup [.int (i:Int),x0]) d=some (.lst ys):=S3 _ _ hd2
   have fin:∀ y,IsR K (upd H2 p (.tup [.int (i:Int),x0])) (if inE o i then r else (0,1)) y →
     upd H2 p (.tup [.int (i:Int),x0]) d=some (.lst ys)/\Same H (upd (upd H2 p (.tup [.int (i:Int),x0])) d (.lst (ys++[y])))/\Rs K (upd (upd H2 p (.tup [.int (i:Int),x0])) d (.lst (ys++[y]))) ((cutR o rs).take (i+1)) (ys++[y]):=fun y hy=>by
    refine⟨hd3,fun q o' e=>?_,?_⟩
    ·rw[Zb (Z8 e hd)]
     exact S3 _ _ (S2 _ _ e)
    ·rw[Yf (Yz er)]
     have E5:Ext (upd H2 p (.tup [.int (i:Int),x0])) (upd (upd H2 p (.tup [.int (i:Int),x0])) d (.lst (ys++[y]))):=Ext.upd hd3
     exact (R2.ext ((Ext.same S3).trans E5)).snoc (hy.ext E5)
   refine Z1d (fun e=>?_) (fun e=>?_)
   ·exact⟨_,rfl,fin _ (by rw[e,if_pos rfl];exact ix3)⟩
   ·exact fin _ (by rw[e,if_neg Bool.false_ne_true];exact⟨_,rfl,s_NOUGHT _⟩)
  ·rintro ys H2 ⟨S2,R2⟩ hd2
   refine⟨⟨xs,Zo S2 hA,by omega⟩,d,ys,rfl,.inl ⟨SqL.of hd2,fun l hl'=>?_⟩⟩
   rw[List.take_of_length_le (by rw[Yb];omega)] at R2
   exact k l _ (S2.trans (Same.new hl')) ⟨ys,SqT.of Z7,R2.ext (Ext.new hl')⟩
def hI (K:W.Frag):Sp:=fun vs H Q _=>∃ (a:Addr) (v:V) (xs:List V) (rs:List Rat) (o:Option (Nat->Bool)),vs=[.ref a,v]/\(SqL K H a xs \/ SqT K H a xs)/\Rs K H rs xs/\EvAt K H rs.length o v/\rs.length<=1000 ∧
 ∀ p H',Same H H'->RowAt K H' p (cutR o rs)->Q (.ref p) H'
theorem Df:FnScope ["_law_row_here","_law_event_here"] ["_law_row_here","_law_event_here"] (defScope lY):=fsc
theorem Yx (rs:List Rat):cutR none rs=rs:=by
 apply List.ext_getElem?
 intro i
 cases e:rs[i]? with
 | none=>rw[List.getElem?_eq_none (by rw[Yb];exact (List.getElem?_eq_none_iff.mp e))]
 | some r=>rw[Yz e];rfl
theorem Z2l (D:Def K mg "_law_cut" lY ["_law_row_here","_law_event_here"])(T:Blt mg):Has P w K mg base 2 "_law_cut" ["_law_row_here","_law_event_here"] (hI K):=by
 refine D.has fun f fd F=>F.ok Df (fun vs H Q E h=>?_) (fun cdv A outer s H vs Q E hr h=>?_)
 ·obtain⟨a,v,xs,rs,o,rfl,_⟩:=h
  rfl
 ·obtain⟨a,v,xs,rs,o,rfl,hA,hRs,hv,hl,k⟩:=h
  have sc:=Df
  have nd1:(["_law_k","_law_row_here","_law_event_here"]:List Str).Nodup:=by decide +kernel
  refine⟨_,(Z6 (Yd (Zi Pw (pv 1) Yw (Zp _))
    (Z9 (Zf (Y4 Zz rfl T.tuple PyProof.Rows.boot_tuple (Z0 (pv 0) Z4))))
    Zt)
   (Z9 (Zf (Y4 Zz rfl T.tuple PyProof.Rows.boot_tuple (Z0 (Yn (N:=["_law_k","_law_row_here","_law_event_here"]) (k:=1) (fv:=[0,1]) rfl (Yi rfl T.range (Z0 (Zu Y1 rfl T.len boot_len (Z0 (pv 0) Z4)) Z4))
   (fun _ _ _ _ _=>Zl (i:=0) nd1 rfl (Or.inl rfl)) (fun _ _ _ _ _=>Yh) (fun _ _ _ _ _=>(Wx (Zi (C7 (K:=K)) (pv 0) (pv 2) rfl) (Ze (Z3q (K:=K)) (pv 1) (pv 0) (fun _ _=>rfl)) (Y8 (Z0 Z5 (Z0 Z5 Z4))))) Y2) Z4))))),?_⟩
  have lx:=hRs.len
  refine⟨_,rfl,rfl,_,rfl,?_⟩
  cases o with
  | none =>
   have e:v=.non:=hv
   refine Qx e ?_
   refine⟨_,rfl,a,xs,rfl,?_⟩
   rcases hA with hA | hA
   ·exact .inl ⟨hA,fun l hl'=>k l _ (Same.new hl') ⟨xs,SqT.of Z7,by rw[Yx];exact hRs.ext (Ext.new hl')⟩⟩
   ·exact .inr ⟨hA,k a H (Same.refl _) ⟨xs,hA,by rw[Yx];exact hRs⟩⟩
  | some p =>
   obtain⟨e9,rfl,he9⟩:=hv
   refine Qy (by intro z;cases z) ?_
   refine⟨_,rfl,a,xs,rfl,hA,(xs.length:Int),rfl,(by omega),(by omega),fun d hd=>?_⟩
   have et:(xs.length:Int).toNat=xs.length:=by omega
   rw[et]
   refine⟨xs.length,fun i ys H2=>Same H H2/\Rs K H2 ((cutR (some p) rs).take i) ys,Zq (by omega),⟨Same.new hd,.nil⟩,?_,?_⟩
   ·rintro i ys H2 hi ⟨S2,R2⟩ hd2
    refine⟨hi,?_⟩
    rintro x H3 ⟨rfl,rfl⟩
    have e0:(0+(i:Int))=((i:Nat):Int):=by omega
    rw[e0]
    refine Yo ?_
    have hir:i<rs.length:=by omega
    have er:rs[i]?=some rs[i]:=by simp[hir]
    obtain⟨x0,ex,ix⟩:=hRs.at er
    have hA2:SqL K H3 a xs \/ SqT K H3 a xs:=hA.elim (fun z=>.inl (Vh S2 z)) fun z=>.inr (Zo S2 z)
    refine⟨_,rfl,_,rfl,e9,_,rfl,.inr (Zo S2 he9),rfl,Wb _,_,rfl,?_⟩
    have ev:inV (.int (i:Int)) ((evI rs.length p).map V.int)=inE (some p) i:=by
     rw[V0,Bool.eq_iff_iff,decide_eq_true_eq,mem_evI]
     show _ ↔ p i=true
     simp[hir]
    show if inV (.int (i:Int)) ((evI rs.length p).map V.int)=true then _ else _
    rw[ev]
    refine Z1d (fun e=>?_) (fun e=>?_)
    ·refine⟨_,rfl,_,rfl,a,xs,_,_,rfl,rfl,hA2,Zd ex,hd2,fun q o' e=>?_,?_⟩
     ·rw[Zb (Z8 e hd)]
      exact S2 _ _ e
     ·rw[Yf (Yz er),e,if_pos rfl]
      exact (R2.ext (Ext.upd hd2)).snoc ((ix.ext (Ext.same S2)).ext (Ext.upd hd2))
    ·refine⟨sz2,fun p hp=>?_⟩
     have S3:Same H3 (upd H3 p (.tup [.int 0,.int 1])):=Same.new hp
     have hd3:=S3 _ _ hd2
     refine⟨hd3,fun q o' e=>?_,?_⟩
     ·rw[Zb (Z8 e hd)]
      exact S3 _ _ (S2 _ _ e)
     ·rw[Yf (Yz er),e,if_neg Bool.false_ne_true]
      exact (R2.ext ((Ext.same S3).trans (Ext.upd hd3))).snoc ⟨p,rfl,(Ext.upd hd3).sq (SqT.of Z7)⟩
   ·rintro ys H2 ⟨S2,R2⟩ hd2
    refine⟨Nat.le_refl _,d,ys,rfl,.inl ⟨SqL.of hd2,fun l hl'=>?_⟩⟩
    rw[List.take_of_length_le (by rw[Yb];omega)] at R2
    exact k l _ (S2.trans (Same.new hl')) ⟨ys,SqT.of Z7,R2.ext (Ext.new hl')⟩
def fO (K:W.Frag):Sp:=fun vs H Q _=>∃ (c:Nat) (v:V) (o:Option (Nat->Bool)),vs=[.int c,v]/\EvAt K H c o v/\2<=c/\c<=1000/\∀ p H',Same H H'->RowAt K H' p (cutR o (List.replicate c (1,1)))->Q (.ref p) H'
theorem Kn:FnScope ["count","event"] ["count","event"] (defScope kO):=fsc
theorem Rs.rep {H:Hp}{r:Rat}{v:V}(h:IsR K H r v):∀ n:Nat,Rs K H (List.replicate n r) (List.replicate n v)
 | 0=>.nil
 | n+1=>.cons h (Rs.rep h n)
theorem Z0u (D:Def K mg "paper_of" kO ["count","event"])(jG:Has P w K mg base 2 "cut" ["row","event"] (iS K))(jY:Con K mg "ONE" (1,1)):Has P w K mg base 3 "paper_of" ["count","event"] (fO K):=by
 refine D.has fun f fd F=>F.ok Kn (fun vs H Q E h=>?_) (fun cdv A outer s H vs Q E hr h=>?_)
 ·obtain⟨c,v,o,rfl,_⟩:=h
  rfl
 ·obtain⟨c,v,o,rfl,hv,h2,hl,k⟩:=h
  obtain⟨c_ONE,m_ONE,s_ONE⟩:=jY
  have sc:=Kn
  refine⟨_,(Z9 (Zf (Zc jG hr (Z0 (Zh J7 (Y8 (Z0 (Yj (v:=.ref c_ONE) rfl m_ONE rfl) Z4)) (pv 0)) (Z0 (pv 1) Z4))))),?_⟩
  refine⟨sz1,fun t ht=>⟨_,rfl,t,c,[.ref c_ONE],rfl,rfl,SqT.of Z7,by omega,by simp,by simpa using hl,fun p hp=>?_⟩⟩
  have S1:Same H (upd H t (.tup [.ref c_ONE])):=Same.new ht
  have et:(c:Int).toNat=c:=by omega
  have ef:(List.replicate (c:Int).toNat [V.ref c_ONE]).flatten=List.replicate c (V.ref c_ONE):=by rw[et];simp
  rw[ef]
  have S2:=S1.trans (Same.new (o:=.tup (List.replicate c (V.ref c_ONE))) hp)
  refine⟨_,rfl,p,v,List.replicate c (1,1),o,rfl,⟨_,SqT.of Z7,Rs.rep ⟨c_ONE,rfl,s_ONE _⟩ c⟩,?_,by simpa using hl,fun p' H' S' R'=>k p' H' (S2.trans S') R'⟩
  rw[List.length_replicate]
  exact hv.same S2
def fC (K:W.Frag):Sp:=fun vs H Q _=>∃ (a:Addr) (xs:List V) (rs:List Rat) (n:Nat) (D:Int) (Ws:List Int),vs=[.ref a]/\(SqL K H a xs \/ SqT K H a xs)/\Rs K H rs xs/\RepL n D Ws rs/\n<=4000/\Q (.int (lcmB rs)) H
theorem M1:FnScope ["several","least","one"] ["several"] (defScope j5):=fsc
theorem Cp (D:Def K mg "common_bottom" j5 ["several"])(eJ:Has P w K mg base 1 "common_divisor" ["one","other"] i8):Has P w K mg base 2 "common_bottom" ["several"] (fC K):=by
 refine D.has fun f fd F=>F.ok M1 (fun vs H Q E h=>?_) (fun cdv A outer s H vs Q E hr h=>?_)
 ·obtain⟨a,xs,rs,n,D,Ws,rfl,_⟩:=h
  rfl
 ·obtain⟨a,xs,rs,n,D,Ws,rfl,hA,hRs,rep,hn,q⟩:=h
  have sc:=M1
  refine⟨_,(Z6 (Zg (i:=1) sc.nd rfl (Or.inl rfl) Z5)
   (Z6 (Xk PassesOwn.never rfl (Z2c (pv 0)) (Zl (i:=2) sc.nd rfl (Or.inl rfl))
    (Z9 (Zg (i:=1) sc.nd rfl (Or.inl rfl) (Zh W4 (Zh Zv (pv 1) (Ze Yq (pv 2) Z5 (fun _ _=>rfl))) (Zc eJ hr (Z0 (pv 1) (Z0 (Ze Yq (pv 2) Z5 (fun _ _=>rfl)) Z4)))))))
   (Z9 (Zf (pv 1))))),?_⟩
  have lx:=hRs.len
  refine⟨_,rfl,Z1h (K:=K) (a:=a) (xs:=xs) (fun i σ H'=>H'=H/\∃ x:Option V,σ=[some (.ref a),some (.int (lcmB (rs.take i))),x]) hA ⟨rfl,none,rfl⟩ (fun i σ H' _ h=>by rw[h.1];exact Same.refl _) ?_ ?_⟩
  ·rintro i x σ H1 hi ⟨rfl,x0,rfl⟩
   obtain⟨r,er,b,rfl,hb⟩:=hRs.back hi
   have g:=rep.good r (List.mem_of_getElem? er)
   have lo:=(rep.take i).least
   have hg:((Int.gcd (lcmB (rs.take i)) r.2:Nat):Int)≠0:=by
    have:=Int.gcd_pos_of_ne_zero_left r.2 (show lcmB (rs.take i)≠0 by have:=lo.pos;omega)
    omega
   have hgb:Bd n ((Int.gcd (lcmB (rs.take i)) r.2:Nat):Int):=g.b2.of_le' (Xq g.pos (Int.gcd_dvd_right _ _))
   refine⟨_,rfl,_,rfl,b,_,_,rfl,rfl,hb,_,_,rfl,rfl,lo.bD.mulOk g.b2 (by omega) (by omega),_,rfl,_,rfl,b,_,_,rfl,rfl,hb,_,_,rfl,_,_,rfl,rfl,⟨hg,hgb.log (by omega)⟩,?_⟩
   refine⟨rfl,some (.ref b),?_⟩
   rw[F9 er]
   rfl
  ·rintro σ H1 ⟨rfl,x0,rfl⟩
   rw[← lx,List.take_of_length_le (Nat.le_refl _)]
   exact⟨_,rfl,q⟩
def fY (K:W.Frag):Sp:=fun vs H Q _=>∃ (a:Addr) (D:Int) (xs:List V) (rs:List Rat) (n:Nat),vs=[.ref a,.int D]/\(SqL K H a xs \/ SqT K H a xs)/\Rs K H rs xs/\(∀ r∈rs,Good n r)/\Bd n D/\0<D/\n<=4000/\rs.length<=1000 ∧
 ∀ (d:Addr) (H':Hp),H d=none->Same H H'->H' d=some (.lst ((wholeB rs D).map V.int))->Q (.ref d) H'
theorem Qj:FnScope ["several","bottom"] ["several","bottom"] (defScope kJ):=fsc
theorem Gk (D:Def K mg "whole_by" kJ ["several","bottom"]):Has P w K mg base 1 "whole_by" ["several","bottom"] (fY K):=by
 refine D.has fun f fd F=>F.ok Qj (fun vs H Q E h=>?_) (fun cdv A outer s H vs Q E hr h=>?_)
 ·obtain⟨a,D,xs,rs,n,rfl,_⟩:=h
  rfl
 ·obtain⟨a,D,xs,rs,n,rfl,hA,hRs,g,bD,hD,hn,hl,k⟩:=h
  have sc:=Qj
  have nd1:(["one","bottom"]:List Str).Nodup:=by decide +kernel
  refine⟨_,(Z9 (Zf (Yn (N:=["one","bottom"]) (k:=1) (fv:=[1]) rfl (Z2d (pv 0))
   (fun _ _ _ _ _=>Zl (i:=0) nd1 rfl (Or.inl rfl)) (fun _ _ _ _ _=>Yh) (fun _ _ _ _ _=>(Zh Zv (Ze (K1 (K:=K)) (pv 0) Z5 (fun _ _=>rfl)) (Zh W4 (pv 1) (Ze (Z30 (K:=K)) (pv 0) Z5 (fun _ _=>rfl))))) Y2))),?_⟩
  have lx:=hRs.len
  refine⟨_,rfl,a,xs,rfl,hA,fun J G d hd=>?_⟩
  refine⟨xs.length,fun i ys H2=>Same H H2/\ys=((wholeB rs D).take i).map V.int,Zq (by omega),⟨Same.new hd,rfl⟩,?_,?_⟩
  ·rintro i ys H2 hi ⟨S2,rfl⟩ hd2
   refine⟨G.go i H2 S2 hi,?_⟩
   intro x H3 hy
   obtain⟨rfl,ex⟩:=G.yld i H2 x H3 S2 hy
   obtain⟨r,er,ix⟩:=hRs.back ex
   obtain⟨b,rfl,hb⟩:=ix.ext (Ext.same S2)
   have gr:=g r (List.mem_of_getElem? er)
   refine Yo ?_
   refine⟨_,rfl,b,_,_,rfl,rfl,hb,_,rfl,_,rfl,b,_,_,rfl,rfl,hb,_,_,rfl,rfl,⟨by have:=gr.pos;omega,gr.b2.log (by omega)⟩,_,_,rfl,rfl,gr.b1.mulOk (bD.of_le' (Ji hD gr.pos)) (by omega) (by omega),hd2,fun q o' e=>?_,?_⟩
   ·rw[Zb (Z8 e hd)]
    exact S2 _ _ e
   ·have:(wholeB rs D)[i]?=some (r.1*D.fdiv r.2):=by unfold wholeB;rw[List.getElem?_map,er];rfl
    rw[Yf this,List.map_append]
    rfl
  ·rintro ys H2 ⟨S2,rfl⟩ hd2
   refine⟨G.stop H2 S2,?_⟩
   rw[List.take_of_length_le (by unfold wholeB;rw[List.length_map];omega)] at hd2
   exact k d H2 hd S2 hd2
end
section
variable {P:Program}{w:World}{K:W.Frag}{mg:Str->Option Value}{base:Heap}{C:Addr}
def rowZ (rs:List Rat):List Int:=wholeB rs (lcmB rs)
theorem Ww (rs:List Rat):(rowZ rs).length=rs.length:=by unfold rowZ wholeB;rw[List.length_map]
def fL (K:W.Frag):Sp:=fun vs H Q _=>∃ (a:Addr) (e:Int) (xs:List V) (rs:List Rat) (n:Nat) (D:Int) (Ws:List Int),vs=[.ref a,.int e]/\(SqL K H a xs \/ SqT K H a xs)/\Rs K H rs xs/\RepL n D Ws rs/\n<=4000/\rs.length<=900 ∧
 ∀ (d:Addr) (H':Hp),H d=none->Same H H'->H' d=some (.lst ((rowZ rs++[e]).map V.int))->Q (.ref d) H'
theorem Tx:FnScope ["row","end"] ["row","end"] (defScope j8):=fsc
theorem M8 (D:Def K mg "whole_line" j8 ["row","end"])(eF:Has P w K mg base 2 "common_bottom" ["several"] (fC K))(jC:Has P w K mg base 1 "whole_by" ["several","bottom"] (fY K)):Has P w K mg base 3 "whole_line" ["row","end"] (fL K):=by
 refine D.has fun f fd F=>F.ok Tx (fun vs H Q E h=>?_) (fun cdv A outer s H vs Q E hr h=>?_)
 ·obtain⟨a,e,xs,rs,n,D,Ws,rfl,_⟩:=h
  rfl
 ·obtain⟨a,e,xs,rs,n,D,Ws,rfl,hA,hRs,rep,hn,hl,k⟩:=h
  have sc:=Tx
  refine⟨_,(Z9 (Zf (Zh Ll (Zc jC hr (Z0 (pv 0) (Z0 (Zc eF hr (Z0 (pv 0) Z4)) Z4))) (Xb (Z0 (pv 1) Z4))))),?_⟩
  have le:=rep.least
  refine⟨_,rfl,_,rfl,a,xs,rs,n,D,Ws,rfl,hA,hRs,rep,hn,a,lcmB rs,xs,rs,n,rfl,hA,hRs,rep.good,le.bD,le.pos,hn,by omega,fun d H1 fd1 S1 e1=>?_⟩
  refine⟨_,rfl,sz1,fun p hp=>?_⟩
  have e1':upd H1 p (.lst [.int e]) d=some (.lst ((rowZ rs).map V.int)):=by rw[Zb (Z8 e1 hp)];exact e1
  refine⟨d,p,_,_,rfl,rfl,e1',Z7,?_,fun q hq=>?_⟩
  ·rw[List.length_map,Ww]
   exact Zq (show rs.length+1<=1000 by omega)
  have hqH:H q=none:=by
   cases z:H q with
   | none=>rfl
   | some o =>
    have z2:=S1 _ _ z
    rw[Zb (Z8 z2 hp)] at hq
    rw[z2] at hq
    cases hq
  refine k q _ hqH (fun x o z=>?_) ?_
  ·have z2:=S1 _ _ z
   rw[Zb (Z8 (show upd H1 p (.lst [.int e]) x=some o by rw[Zb (Z8 z2 hp)];exact z2) hq),Zb (Z8 z2 hp)]
   exact z2
  ·rw[Z7,List.map_append]
   rfl
end
section
variable {P:Program}{w:World}{K:W.Frag}{mg:Str->Option Value}{base:Heap}{C:Addr}
def AOf (rss:List (List Rat))(k v:Nat):Int:=(rowZ (rss.getD k [])).getD v 0
def rowF (rs:List Rat)(v:Nat):Int:=(rowZ rs).getD v 0
def papR (c:Nat)(o:Option (Nat->Bool)):List Rat:=cutR o (List.replicate c (1,1))
def T0S (c:Nat)(rss:List (List Rat))(o:Option (Nat->Bool))(gs:List Rat):Sv.Tab:=Sv.T0 c rss.length (AOf rss) (rowF (papR c o)) (rowF gs)
def iG (K:W.Frag)(C:Addr):Sp:=fun vs H Q _=>∃ (l g:Addr) (ve:V) (c n:Nat) (rss:List (List Rat)) (o:Option (Nat->Bool)) (gs:List Rat),vs=[.int (c:Int),.ref l,ve,.ref g]/\RowsAt K H l rss/\EvAt K H c o ve/\RowAt K H g gs/\gs.length=c/\(∀ rs∈rss,rs.length=c/\∃ D Ws,RepL n D Ws rs)/\(∃ D Ws,RepL n D Ws gs)/\1<=n/\n<=4000/\2<=c/\c<=800/\rss.length<=800 ∧
 ∀ (q:Addr) (H':Hp),Same H H'->TabAt C H' q (rss.length+2) c (c+rss.length) (T0S c rss o gs)->Q (.ref q) H'
theorem Vs {c:Nat}{rs:List Rat}{e:Int}{F:Nat->Int}(hl:rs.length=c)(h:∀ j,j<c->F j=(rowZ rs).getD j 0)(he:F c=e):rowZ rs++[e]=(List.range (c+1)).map F:=by
 refine V4 (by simp[Ww,hl]) fun i hi=>?_
 by_cases q:i<c
 ·rw[List.getElem?_append_left (by rw[Ww];omega),h i q]
  simp[List.getD,show i<(rowZ rs).length by rw[Ww];omega]
 ·have:i=c:=by omega
  subst this
  rw[List.getElem?_append_right (by rw[Ww];omega),he]
  simp[Ww,hl]
theorem Kj:FnScope ["count","rows","event","goal","lines"] ["count","rows","event","goal"] (defScope lG):=fsc
theorem Z0q (D:Def K mg "start" lG ["count","rows","event","goal"])(eY:Has P w K mg base 3 "whole_line" ["row","end"] (fL K))(eR:Has P w K mg base 3 "paper_of" ["count","event"] (fO K))(g9:Has P w K mg base 3 "first_table" ["lines"] (iO C)):Has P w K mg base 4 "start" ["count","rows","event","goal"] (iG K C):=by
 refine D.has fun f fd F=>F.ok Kj (fun vs H Q E h=>?_) (fun cdv A outer s H vs Q E hr h=>?_)
 ·obtain⟨l,g,ve,c,n,rss,o,gs,rfl,_⟩:=h
  rfl
 ·obtain⟨l,g,ve,c,n,rss,o,gs,rfl,⟨as,hl,hp⟩,hv,hg,gl,hrs,⟨Dg,Wg,rg⟩,hn1,hn,hc2,hc,hm,k⟩:=h
  have sc:=Kj
  have nd1:(["row"]:List Str).Nodup:=by decide +kernel
  refine⟨_,(Z6 (Wn (i:=4) (N:=["row"]) (k:=1) (fv:=[]) sc.nd rfl (Or.inl rfl) rfl (Xo (pv 1))
   (fun _ _ _ _ _=>Zl (i:=0) nd1 rfl (Or.inl rfl)) (fun _ _ _ _ _=>Yh) (fun _ _ _ _ _=>(Zc eY hr (Z0 (pv 0) (Z0 Z5 Z4)))) Y2)
   (Z6 (Yr (Wf PySem.F.plainAttrs_list PySem.F.slot_list_append PySem.F.type_list_append Yl (pv 4) (Z0 (Zc eY hr (Z0 (Zc eR hr (Z0 (pv 0) (Z0 (pv 2) Z4))) (Z0 Z5 Z4))) Z4)))
   (Z6 (Yr (Wf PySem.F.plainAttrs_list PySem.F.slot_list_append PySem.F.type_list_append Yl (pv 4) (Z0 (Zc eY hr (Z0 (pv 3) (Z0 Z5 Z4))) Z4)))
   (Z9 (Zf (Zc g9 hr (Z0 (pv 4) Z4))))))),?_⟩
  have lx:=Paired.length hp
  refine⟨_,rfl,l,rfl,⟨_,SqL.of hl⟩,fun d hd=>?_⟩
  refine⟨as.length,fun i ys H2=>Same H H2/\∃ ns:List Addr,ys=ns.map V.ref/\ns.length=i/\∀ (t:Nat) (a:Addr),ns[t]?=some a->a≠d/\H2 a=some (.lst ((rowZ (rss.getD t [])++[0]).map V.int)),Zq (by omega),⟨Same.new hd,[],rfl,rfl,fun t a e=>by simp at e⟩,?_,?_⟩
  ·rintro i ys H2 hi ⟨S2,ns,rfl,l2,q2⟩ hd2
   have ei:as[i]?=some (as[i]'hi):=by simp
   have er:rss[i]?=some (rss[i]'(by omega)):=by simp
   refine⟨⟨_,V.ref (as[i]'hi),SqL.of (S2 _ _ hl),by simp⟩,?_⟩
   rintro x H3 ⟨rfl,fx⟩
   have ex:x=V.ref (as[i]'hi):=by
    have:=fx _ (SqL.of (S2 _ _ hl))
    rw[List.getElem?_map,ei] at this
    exact (Option.some.inj this).symm
   subst ex
   refine Yo ?_
   obtain⟨xs,h1,h2⟩:=(Paired.getB hp ei er).same S2
   obtain⟨hrl,Dr,Wr,rr⟩:=hrs _ (List.mem_of_getElem? er)
   refine⟨_,rfl,_,_,xs,_,n,Dr,Wr,rfl,.inr h1,h2,rr,hn,by omega,fun a4 H4 f4 S4 e4=>?_⟩
   have hd4:=S4 _ _ hd2
   have hne:a4≠d:=fun z=>by rw[z] at f4;rw[f4] at hd2;cases hd2
   refine⟨hd4,fun q o e=>?_,ns++[a4],by rw[List.map_append];rfl,by rw[List.length_append,l2];rfl,fun t a e=>?_⟩
   ·rw[Zb (Z8 e hd)]
    exact S4 _ _ (S2 _ _ e)
   ·by_cases q:t<ns.length
    ·rw[List.getElem?_append_left q] at e
     have:=q2 t a e
     refine⟨this.1,?_⟩
     rw[Zb this.1]
     exact S4 _ _ this.2
    ·rw[List.getElem?_append_right (by omega)] at e
     have hk0:t - ns.length=0:=by
      have:=(List.getElem?_eq_some_iff.mp e).1
      simp at this
      omega
     rw[hk0] at e
     cases e
     have hti:t=i:=by omega
     subst hti
     refine⟨hne,?_⟩
     rw[Zb hne]
     have eg:rss.getD t []=rss[t]'(by omega):=by simp[List.getD,show t<rss.length by omega]
     rw[eg]
     exact e4
  ·rintro ys H2 ⟨S2,ns,rfl,l2,q2⟩ hd2
   refine⟨⟨_,SqL.of (S2 _ _ hl),by simp⟩,?_⟩
   have rpap:RepL n 1 (cutZ o (List.replicate c 1)) (papR c o):=((RepL.ones c).cut o).mono hn1
   have lpap:(papR c o).length=c:=by
    have:=rpap.len
    rw[Xh] at this
    simpa using this.symm
   refine⟨_,rfl,.inl ⟨rfl,_,SqL.of hd2⟩,_,rfl,_,rfl,c,ve,o,rfl,hv.same S2,hc2,by omega,fun p H3 S3 rp=>?_⟩
   obtain⟨xp,rp1,rp2⟩:=rp
   refine⟨p,1,xp,papR c o,n,_,_,rfl,.inr rp1,rp2,rpap,hn,by omega,fun a4 H4 f4 S4 e4=>?_⟩
   have hd4:=S4 _ _ (S3 _ _ hd2)
   have hne4:a4≠d:=fun z=>by rw[z] at f4;rw[S3 _ _ hd2] at f4;cases f4
   refine⟨d,_,_,rfl,rfl,hd4,?_,?_⟩
   ·rw[List.length_map]
    exact Zq (show ns.length+1<=1000 by omega)
   have S14:Same H (upd H4 d (.lst (ns.map V.ref++[.ref a4]))):=fun q z y=>by
    rw[Zb (Z8 y hd)]
    exact S4 _ _ (S3 _ _ (S2 _ _ y))
   have q4:∀ (t:Nat) (a:Addr),(ns++[a4])[t]?=some a->a≠d/\upd H4 d (.lst (ns.map V.ref++[.ref a4])) a=some (.lst ((if t<as.length then rowZ (rss.getD t [])++[0] else rowZ (papR c o)++[1]).map V.int)):=fun t a e=>by
    by_cases q:t<ns.length
    ·rw[List.getElem?_append_left q] at e
     have:=q2 t a e
     refine⟨this.1,?_⟩
     rw[Zb this.1,if_pos (by omega)]
     exact S4 _ _ (S3 _ _ this.2)
    ·rw[List.getElem?_append_right (by omega)] at e
     have hk0:t - ns.length=0:=by
      have:=(List.getElem?_eq_some_iff.mp e).1
      simp at this
      omega
     rw[hk0] at e
     cases e
     refine⟨hne4,?_⟩
     rw[Zb hne4,if_neg (by omega)]
     exact e4
   have hd5:upd H4 d (.lst (ns.map V.ref++[.ref a4])) d=some (.lst ((ns++[a4]).map V.ref)):=by rw[Z7,List.map_append];rfl
   generalize upd H4 d (.lst (ns.map V.ref++[.ref a4]))=H5 at *
   obtain⟨xg,hg1,hg2⟩:=hg.same S14
   refine⟨_,rfl,.inl ⟨rfl,_,SqL.of hd5⟩,_,rfl,g,0,xg,gs,n,_,_,rfl,.inr hg1,hg2,rg,hn,by omega,fun a6 H6 f6 S6 e6=>?_⟩
   have hd6:=S6 _ _ hd5
   have hne6:a6≠d:=fun z=>by rw[z] at f6;rw[hd5] at f6;cases f6
   refine⟨d,_,_,rfl,rfl,hd6,?_,?_⟩
   ·rw[List.length_map,List.length_append]
    exact Zq (show ns.length+1+1<=1000 by omega)
   have S17:Same H (upd H6 d (.lst ((ns++[a4]).map V.ref++[.ref a6]))):=fun q z y=>by
    rw[Zb (Z8 y hd)]
    exact S6 _ _ (S14 _ _ y)
   have hd7:upd H6 d (.lst ((ns++[a4]).map V.ref++[.ref a6])) d=some (.lst ((ns++[a4]++[a6]).map V.ref)):=by rw[Z7,List.map_append (l₁:=ns++[a4])];rfl
   refine⟨_,rfl,d,rss.length,c,ns++[a4]++[a6],T0S c rss o gs,rfl,hd7,by simp;omega,fun t a e=>?_,by omega,by omega,rfl,fun _=>rfl,fun _=>rfl,fun q H8 S8 tab=>k q H8 (S17.trans S8) tab⟩
   have key:∀ (t:Nat) (a:Addr),(ns++[a4]++[a6])[t]?=some a->a≠d/\upd H6 d (.lst ((ns++[a4]).map V.ref++[.ref a6])) a=some (.lst ((if t<rss.length then rowZ (rss.getD t [])++[0] else if t=rss.length then rowZ (papR c o)++[1] else rowZ gs++[0]).map V.int))/\t<rss.length+2:=fun t a e=>by
    by_cases q:t<(ns++[a4]).length
    ·rw[List.getElem?_append_left q] at e
     have:=q4 t a e
     rw[List.length_append] at q
     simp at q
     refine⟨this.1,?_,by omega⟩
     rw[Zb this.1,S6 _ _ this.2]
     by_cases q':t<rss.length
     ·rw[if_pos q',if_pos (by omega)]
     ·rw[if_neg q',if_neg (by omega),if_pos (by omega)]
    ·rw[List.getElem?_append_right (by omega)] at e
     have hk0:t - (ns++[a4]).length=0:=by
      have:=(List.getElem?_eq_some_iff.mp e).1
      simp at this
      simp
      omega
     rw[hk0] at e
     cases e
     simp at q hk0
     refine⟨hne6,?_,by omega⟩
     rw[Zb hne6,if_neg (by omega),if_neg (by omega)]
     exact e6
   obtain⟨_,e7,ht⟩:=key t a e
   rw[e7]
   congr 2
   unfold lineI
   by_cases q:t<rss.length
   ·rw[if_pos q]
    have er:rss[t]?=some (rss[t]'q):=by simp
    have eg:rss.getD t []=rss[t]'q:=by simp[List.getD,q]
    refine congrArg _ (Vs ?_ (fun j hj=>?_) ?_)
    ·rw[eg]
     exact (hrs _ (List.mem_of_getElem? er)).1
    ·show (if j<c then Sv.colS c rss.length (AOf rss) (rowF (papR c o)) (rowF gs) j t else _)=_
     rw[if_pos hj]
     unfold Sv.colS
     rw[if_pos hj,if_pos q]
     rfl
    ·show (if c<c then _ else Sv.rhsS rss.length t)=_
     rw[if_neg (by omega)]
     unfold Sv.rhsS
     rw[if_neg (by omega)]
   ·rw[if_neg q]
    by_cases q':t=rss.length
    ·rw[if_pos q']
     refine congrArg _ (Vs lpap (fun j hj=>?_) ?_)
     ·show (if j<c then Sv.colS c rss.length (AOf rss) (rowF (papR c o)) (rowF gs) j t else _)=_
      rw[if_pos hj]
      unfold Sv.colS
      rw[if_pos hj,if_neg q,if_pos q']
      rfl
     ·show (if c<c then _ else Sv.rhsS rss.length t)=_
      rw[if_neg (by omega)]
      unfold Sv.rhsS
      rw[if_pos q']
    ·rw[if_neg q']
     refine congrArg _ (Vs gl (fun j hj=>?_) ?_)
     ·show (if j<c then Sv.colS c rss.length (AOf rss) (rowF (papR c o)) (rowF gs) j t else _)=_
      rw[if_pos hj]
      unfold Sv.colS
      rw[if_pos hj,if_neg q,if_neg q']
      rfl
     ·show (if c<c then _ else Sv.rhsS rss.length t)=_
      rw[if_neg (by omega)]
      unfold Sv.rhsS
      rw[if_neg q']
end
section
variable {P:Program}{w:World}{K:W.Frag}{mg:Str->Option Value}{base:Heap}{C:Addr}
def multR (c:Nat)(rss:List (List Rat))(T:Sv.Tab)(i:Nat)(b:Int):List Rat:=(List.range rss.length).map fun k=>nrm (-(Sv.numAt c T i (c+k))*lcmB (rss.getD k [])) (b*T.b)
theorem Bd.zero (n:Nat):Bd n 0:=Nat.two_pow_pos n
theorem TabOk.numBd {m n N i:Nat}{T:Sv.Tab}(h:TabOk m n T)(bd:TabBd N m n T)(hi:i<m)(v:Nat):Bd N (Sv.numAt n T i v):=by
 by_cases q:∃ j,j<n/\T.hd j=v
 ·obtain⟨j,hj,rfl⟩:=q
  rw[h.numH hj]
  exact bd.l i j hi (by omega)
 ·have:Sv.numAt n T i v=0:=Sv.sm_zero fun j hj=>if_neg fun z=>q ⟨j,hj,z⟩
  rw[this]
  exact Bd.zero N
def iI (K:W.Frag)(C:Addr):Sp:=fun vs H Q _=>∃ (l p:Addr) (c m lk i n N:Nat) (b:Int) (rss:List (List Rat)) (T:Sv.Tab),vs=[.int (c:Int),.ref l,.ref p,.int (T.own i:Int),.int b]/\RowsAt K H l rss/\TabAt C H p m c lk T/\TabOk m c T/\TabBd N m c T/\0<T.b/\i<m/\m<=900/\c<=900/\rss.length<=900/\(∀ rs∈rss,∃ D Ws,RepL n D Ws rs)/\0<b/\Bd n b/\n<=4000/\n+N<=8800 ∧
 ∀ (q:Addr) (xs:List V) (H':Hp),H q=none->Same H H'->H' q=some (.lst xs)->Rs K H' (multR c rss T i b) xs->Q (.ref q) H'
theorem Km:FnScope ["count","rows","table","owner","bottom","told","number","row","top"] ["count","rows","table","owner","bottom"] (defScope j0):=fsc
theorem Z0t (D:Def K mg "shown_multiples" j0 ["count","rows","table","owner","bottom"])(T0:Blt mg)(tc:TabC K mg C)(iV:Has P w K mg base 2 "number_at" ["table","owner","thing"] (iJ C))(eF:Has P w K mg base 2 "common_bottom" ["several"] (fC K))(gM:Has P w K mg base 3 "ratio" ["top","bottom"] eI):Has P w K mg base 4 "shown_multiples" ["count","rows","table","owner","bottom"] (iI K C):=by
 refine D.has fun f fd F=>F.ok Km (fun vs H Q E h=>?_) (fun cdv A outer s H vs Q E hr h=>?_)
 ·obtain⟨l,p,c,m,lk,i,n,N,b,rss,T,rfl,_⟩:=h
  rfl
 ·obtain⟨l,p,c,m,lk,i0,n,N,b,rss,Tb,rfl,⟨as,hl,hp⟩,tab,ok,bd,hb,hi0,hm,hc,hrl,hrs,hb0,bb,hn,hN,kk⟩:=h
  obtain⟨dx,la,oa,ha,las,h1,h2,h3,h4,h5,h6⟩:=id tab
  have sc:=Km
  have T:=T0
  have lx:=Paired.length hp
  refine⟨_,(Z6 (Zg (i:=5) sc.nd rfl (Or.inl rfl) (Xb Z4))
   (Z6 (Xk PassesOwn.never rfl (Rj rfl T.enumerate (Z0 (pv 1) Z4)) (Wq (n:=2) rfl (Y6 (Zl (i:=6) sc.nd rfl (Or.inl rfl)) (Y6 (Zl (i:=7) sc.nd rfl (Or.inl rfl)) Xp)))
    (Z6 (Zg (i:=8) sc.nd rfl (Or.inl rfl) (Zh Zv (Vj Xz (Zc iV hr (Z0 (pv 2) (Z0 (pv 3) (Z0 (Zh Yu (pv 0) (pv 6)) Z4))))) (Zc eF hr (Z0 (pv 7) Z4))))
    (Z9 (Yr (Wf PySem.F.plainAttrs_list PySem.F.slot_list_append PySem.F.type_list_append Yl (pv 5) (Z0 (Zc gM hr (Z0 (pv 8) (Z0 (Zh Zv (pv 4) (Ye (pv 2) rfl)) Z4))) Z4))))))
   (Z9 (Zf (pv 5))))),?_⟩
  refine⟨sz0,fun d hd=>?_⟩
  refine⟨_,rfl,l,rfl,⟨_,SqL.of ((Same.new hd) _ _ hl)⟩,Tt (K:=K) (a:=l) (xs:=as.map V.ref) (fun i σ H'=>Same H H'/\∃ (xs:List V) (x y z:Option V),H' d=some (.lst xs)/\Rs K H' ((multR c rss Tb i0 b).take i) xs/\σ=[some (.int (c:Int)),some (.ref l),some (.ref p),some (.int (Tb.own i0:Int)),some (.int b),some (.ref d),x,y,z]) ⟨Same.new hd,[],none,none,none,Z7,.nil,rfl⟩ (fun i σ H' _ h=>SqL.of (h.1 _ _ hl)) ?_ ?_⟩
  ·rintro i v σ H1 pp hi ⟨S1,xs,x,y,z,hd1,rs1,rfl⟩ hpp
   have him:i<as.length:=by
    have:=(List.getElem?_eq_some_iff.mp hi).1
    rw[List.length_map] at this
    exact this
   have ei:as[i]?=some (as[i]'him):=by simp
   have er:rss[i]?=some (rss[i]'(by omega)):=by simp
   have eg:rss.getD i []=rss[i]'(by omega):=by simp[List.getD,show i<rss.length by omega]
   rw[List.getElem?_map,ei] at hi
   cases hi
   refine⟨pp,_,rfl,SqT.of Z7,rfl,_,_,rfl,_,_,rfl,rfl,?_⟩
   have S2:Same H1 (upd H1 pp (.tup [.int (i:Int),.ref (as[i]'him)])):=Same.new hpp
   generalize upd H1 pp (.tup [.int (i:Int),.ref (as[i]'him)])=H2 at *
   have S02:=S1.trans S2
   obtain⟨us,hu1,hu2⟩:=(Paired.getB hp ei er).same S02
   obtain⟨Dr,Wr,rr⟩:=hrs _ (List.mem_of_getElem? er)
   have lcb:=rr.least
   refine⟨_,rfl,_,rfl,_,rfl,_,rfl,_,_,rfl,rfl,p,m,c,lk,i0,c+i,Tb,rfl,tab.same S02,ok,hi0,by omega,by omega,_,rfl,_,rfl,_,us,_,n,Dr,Wr,rfl,.inr hu1,hu2,rr,by omega,_,_,rfl,rfl,((ok.numBd bd hi0 (c+i)).neg).mulOk lcb.bD (by omega) (by omega),?_⟩
   refine⟨_,rfl,.inl ⟨rfl,_,SqL.of (S2 _ _ hd1)⟩,_,rfl,_,rfl,_,rfl,p,C,dx,_,_,rfl,S02 _ _ h1,tc.cl,tc.nB,V3,_,_,rfl,rfl,bb.mulOk bd.b (by omega) (by omega),?_⟩
   have hq0:b*Tb.b≠0:=by
    have:=Int.mul_pos hb0 hb
    omega
   refine⟨_,_,rfl,hq0,(bb.mul bd.b).log (by omega),fun a H3 f3 S3 e3=>?_⟩
   have hd3:=S3 _ _ (S2 _ _ hd1)
   refine⟨d,xs,_,rfl,rfl,hd3,?_,?_⟩
   ·have:=rs1.len
    rw[List.length_take] at this
    exact Zq (show xs.length+1<=1000 by omega)
   refine⟨fun q o e=>?_,xs++[.ref a],_,_,_,Z7,?_,rfl⟩
   ·rw[Zb (Z8 e hd)]
    exact S3 _ _ (S02 _ _ e)
   ·have e4:(multR c rss Tb i0 b)[i]?=some (nrm (-(Sv.numAt c Tb i0 (c+i))*lcmB (rss.getD i [])) (b*Tb.b)):=by
     unfold multR
     rw[List.getElem?_map,List.getElem?_range (show i<rss.length by omega)]
     rfl
    rw[Yf e4]
    refine Paired.appP ((rs1.ext (Ext.same (S2.trans S3))).ext (Ext.upd hd3)) (.cons ⟨a,rfl,?_⟩ .nil)
    refine SqT.of ?_
    rw[Zb (fun z=>by rw[z] at e3;rw[e3] at hd3;cases hd3),eg]
    exact e3
  ·rintro σ H1 ⟨S1,xs,x,y,z,hd1,rs1,rfl⟩
   rw[List.take_of_length_le (by unfold multR;simp[lx])] at rs1
   exact⟨_,rfl,kk d xs H1 hd S1 hd1 rs1⟩
end
end Sb
namespace Sv
def sN:Nat->(Nat->Nat)->Nat
 | 0,_=>0
 | n+1,f=>sN n f+f n
def pN:Nat->(Nat->Nat)->Nat
 | 0,_=>1
 | n+1,f=>pN n f*f n
theorem M3 (f:Nat->Nat):∀ n,sN (n+1) f=f 0+sN n (fun r=>f (r+1))
 | 0=>by show 0+f 0=f 0+0;omega
 | n+1=>by
  show sN (n+1) f+f (n+1)=f 0+(sN n (fun r=>f (r+1))+f (n+1))
  rw[M3 f n]
  omega
theorem Z21 {f g:Nat->Nat}:∀ {n:Nat},(∀ k,k<n->f k<=g k)->sN n f<=sN n g
 | 0,_=>Nat.le_refl _
 | n+1,h=>Nat.add_le_add (Z21 fun k hk=>h k (by omega)) (h n (by omega))
theorem C5 {f g:Nat->Nat}:∀ {n:Nat},(∀ k,k<n->f k<=g k)->pN n f<=pN n g
 | 0,_=>Nat.le_refl _
 | n+1,h=>Nat.mul_le_mul (C5 fun k hk=>h k (by omega)) (h n (by omega))
theorem M7 {f g:Nat->Nat}:∀ {n:Nat},(∀ k,k<n->f k=g k)->pN n f=pN n g
 | 0,_=>rfl
 | n+1,h=>by
  show pN n f*f n=pN n g*g n
  rw[M7 (n:=n) fun k hk=>h k (by omega),h n (by omega)]
theorem sN_congr {f g:Nat->Nat}:∀ {n:Nat},(∀ k,k<n->f k=g k)->sN n f=sN n g
 | 0,_=>rfl
 | n+1,h=>by
  show sN n f+f n=sN n g+g n
  rw[sN_congr (n:=n) fun k hk=>h k (by omega),h n (by omega)]
theorem Dp (f:Nat->Nat)(b:Nat):∀ n,sN n (fun k=>f k*b)=sN n f*b
 | 0=>by show 0=0*b;rw[Nat.zero_mul]
 | n+1=>by
  show sN n (fun k=>f k*b)+f n*b=(sN n f+f n)*b
  rw[Dp f b n,Nat.add_mul]
theorem Ke {f:Nat->Int}:∀ {n:Nat},(sm n f).natAbs<=sN n (fun k=>(f k).natAbs)
 | 0=>by show (0:Int).natAbs<=0;decide
 | n+1=>by
  show (sm n f+f n).natAbs<=sN n (fun k=>(f k).natAbs)+(f n).natAbs
  have:=Ke (f:=f) (n:=n)
  have:=Int.natAbs_add_le (sm n f) (f n)
  omega
theorem Sj {x:Nat->Nat}:∀ {n:Nat},sm n (fun k=>((x k:Nat):Int))=((sN n x:Nat):Int)
 | 0=>rfl
 | n+1=>by
  show sm n (fun k=>((x k:Nat):Int))+(x n:Int)=((sN n x+x n:Nat):Int)
  rw[Sj (n:=n),Int.natCast_add]
theorem Bq (a b:Nat->Nat):∀ m,sN (m+1) (fun k=>a k*pN m (fun i=>b (skip k i)))<=pN (m+1) (fun k=>a k+b k)
 | 0=>by
  show 0+a 0*1<=1*(a 0+b 0)
  omega
 | m+1=>by
  have ih:=Bq a b m
  have e1:sN (m+1) (fun k=>a k*pN (m+1) (fun i=>b (skip k i)))=sN (m+1) (fun k=>a k*pN m (fun i=>b (skip k i)))*b (m+1):=by
   rw[← Dp]
   refine sN_congr fun k hk=>?_
   show a k*(pN m (fun i=>b (skip k i))*b (skip k m))=_
   have:skip k m=m+1:=by unfold skip;split <;> omega
   rw[this,Nat.mul_assoc]
  have e2:pN (m+1) (fun i=>b (skip (m+1) i))=pN (m+1) b:=M7 fun i hi=>by
   have:skip (m+1) i=i:=by unfold skip;split <;> omega
   rw[this]
  show sN (m+1) (fun k=>a k*pN (m+1) (fun i=>b (skip k i)))+a (m+1)*pN (m+1) (fun i=>b (skip (m+1) i))<=pN (m+1) (fun k=>a k+b k)*(a (m+1)+b (m+1))
  rw[e1,e2]
  have h1:=Nat.mul_le_mul_right (b (m+1)) ih
  have h2:pN (m+1) b<=pN (m+1) (fun k=>a k+b k):=C5 fun k _=>by omega
  have h3:=Nat.mul_le_mul_left (a (m+1)) h2
  rw[Nat.mul_add,Nat.mul_comm (pN (m+1) fun k=>a k+b k) (a (m+1))]
  omega
theorem Jk:∀ {m:Nat} {v:Mat} {w:Nat->Nat},(∀ k,k<m->sN m (fun r=>(v k r).natAbs)<=w k)->(det m v).natAbs<=pN m w
 | 0,_,_,_=>by show (1:Int).natAbs<=1;decide
 | m+1,v,w,h=>by
  have key:(sm (m+1) (fun k=>sgn k*v k 0*det m (minor v k))).natAbs<=sN (m+1) (fun k=>(v k 0).natAbs*pN m (fun i=>sN m (fun r=>(v (skip k i) (r+1)).natAbs))):=by
   refine Nat.le_trans Ke (Z21 fun k hk=>?_)
   show (sgn k*v k 0*det m (minor v k)).natAbs<=_
   rw[Int.natAbs_mul,Int.natAbs_mul,Pi,Nat.one_mul]
   exact Nat.mul_le_mul_left _ (Jk (m:=m) fun i hi=>Nat.le_refl _)
  refine Nat.le_trans key (Nat.le_trans (Bq (fun k=>(v k 0).natAbs) (fun k=>sN m (fun r=>(v k (r+1)).natAbs)) m) (C5 fun k hk=>?_))
  have:=h k hk
  rw[M3] at this
  exact this
theorem Ps (B:Nat)(x:Nat->Nat):∀ m,pN m (fun k=>B ^ x k)=B ^ sN m x
 | 0=>rfl
 | m+1=>by
  show pN m (fun k=>B ^ x k)*B ^ x m=B ^ (sN m x+x m)
  rw[Ps B x m,Nat.pow_add]
theorem sN_const {f:Nat->Nat}{M:Nat}:∀ {n:Nat},(∀ k,k<n->f k<=M)->sN n f<=n*M
 | 0,_=>Nat.zero_le _
 | n+1,h=>by
  have h1:=sN_const (n:=n) (f:=f) (M:=M) fun k hk=>h k (by omega)
  have h2:=h n (by omega)
  show sN n f+f n<=(n+1)*M
  rw[Nat.succ_mul]
  omega
theorem sN_unit {i:Nat}:∀ {m:Nat},sN m (fun r=>(if i=r then (1:Int) else 0).natAbs)<=1
 | 0=>Nat.zero_le _
 | m+1=>by
  show sN m (fun r=>(if i=r then (1:Int) else 0).natAbs)+(if i=m then (1:Int) else 0).natAbs<=1
  by_cases h:i=m
  ·subst h
   have:sN i (fun r=>(if i=r then (1:Int) else 0).natAbs)<=i*0:=sN_const fun k hk=>by rw[if_neg (by omega)];decide
   rw[if_pos rfl]
   show _+1<=1
   omega
  ·rw[if_neg h]
   exact sN_unit (m:=m)
theorem Dq {x:Nat->Nat}{j:Nat}:∀ {n:Nat},j<n->x j<=sN n x
 | 0,h=>by omega
 | n+1,h=>by
  show x j<=sN n x+x n
  by_cases e:j=n
  ·rw[e];omega
  ·have:=Dq (x:=x) (n:=n) (j:=j) (by omega)
   omega
theorem Lf {x:Nat->Nat}{i y:Nat}:∀ {m:Nat},sN m (fun k=>if k=i then y else x k)<=sN m x+y
 | 0=>Nat.zero_le _
 | m+1=>by
  show sN m (fun k=>if k=i then y else x k)+(if m=i then y else x m)<=sN m x+x m+y
  by_cases e:m=i
  ·rw[if_pos e]
   have:sN m (fun k=>if k=i then y else x k)=sN m x:=sN_congr fun k hk=>if_neg (by omega)
   omega
  ·rw[if_neg e]
   have:=Lf (x:=x) (i:=i) (y:=y) (m:=m)
   omega
section
variable {m n:Nat}{col:Nat->Vec}{rhs:Vec}{T:Tab}
def isW (n v:Nat):Nat:=if v<n then 1 else 0
theorem Je:∀ k,sN (n+k) (isW n)=n
 | 0=>by
  have:∀ j,j<=n->sN j (isW n)=j:=fun j=>by
   induction j with
   | zero=>intro _;rfl
   | succ j ih =>
    intro hj
    show sN j (isW n)+isW n j=j+1
    rw[ih (by omega)]
    unfold isW
    rw[if_pos (by omega)]
  exact this n (Nat.le_refl _)
 | k+1=>by
  show sN (n+k) (isW n)+isW n (n+k)=n
  rw[Je k]
  unfold isW
  rw[if_neg (by omega)]
  rfl
theorem Inv.worlds (I:Inv m n col rhs T):sN m (fun i=>isW n (T.own i))+sN n (fun j=>isW n (T.hd j))=n:=by
 have:=I.part (fun v=>((isW n v:Nat):Int))
 rw[Sj,Sj,Sj,Je] at this
 omega
theorem Inv.sizeW (I:Inv m n col rhs T){B:Nat}(hc:∀ v,v<n+m->sN m (fun r=>(col v r).natAbs)<=B ^ isW n v)(hr:sN m (fun r=>(rhs r).natAbs)<=1)(hB:1<=B){i j:Nat}(hi:i<m)(hj:j<=n):(T.L i j).natAbs<=B ^ n:=by
 have wd:=I.worlds
 rw[← I.phi hi hj]
 by_cases hjn:j<n
 ·have key:(det m (put (bas col T) i (colOf n col rhs T j))).natAbs<=pN m (fun k=>B ^ (if k=i then isW n (T.hd j) else isW n (T.own k))):=Jk fun k hk=>by
   by_cases e:k=i
   ·subst e
    rw[Y9,if_pos rfl,Wm hjn]
    exact hc _ (I.hdLt hjn)
   ·rw[Y3 e,if_neg e]
    exact hc _ (I.ownLt hk)
  refine Nat.le_trans key ?_
  rw[Ps]
  refine Nat.pow_le_pow_right hB ?_
  have h1:=Lf (x:=fun k=>isW n (T.own k)) (i:=i) (y:=isW n (T.hd j)) (m:=m)
  have h2:=Dq (x:=fun j=>isW n (T.hd j)) (n:=n) hjn
  omega
 ·have key:(det m (put (bas col T) i (colOf n col rhs T j))).natAbs<=pN m (fun k=>B ^ (if k=i then 0 else isW n (T.own k))):=Jk fun k hk=>by
   by_cases e:k=i
   ·subst e
    rw[Y9,if_pos rfl]
    unfold colOf
    rw[if_neg hjn]
    exact hr
   ·rw[Y3 e,if_neg e]
    exact hc _ (I.ownLt hk)
  refine Nat.le_trans key ?_
  rw[Ps]
  refine Nat.pow_le_pow_right hB ?_
  have h1:=Lf (x:=fun k=>isW n (T.own k)) (i:=i) (y:=0) (m:=m)
  omega
theorem Inv.sizeBW (I:Inv m n col rhs T){B:Nat}(hc:∀ v,v<n+m->sN m (fun r=>(col v r).natAbs)<=B ^ isW n v)(hB:1<=B):T.b.natAbs<=B ^ n:=by
 have wd:=I.worlds
 rw[← I.dt]
 have key:(det m (bas col T)).natAbs<=pN m (fun k=>B ^ isW n (T.own k)):=Jk fun k hk=>hc _ (I.ownLt hk)
 refine Nat.le_trans key ?_
 rw[Ps]
 exact Nat.pow_le_pow_right hB (by omega)
end
end Sv
namespace Sb
open PySem L2
theorem Vy {rs:List Rat}{v:Nat}{r:Rat}(h:rs[v]?=some r):rowF rs v=r.1*(lcmB rs).fdiv r.2:=by
 unfold rowF rowZ wholeB
 simp[List.getD,h]
theorem Pk {n:Nat}{D:Int}{Ws:List Int}{rs:List Rat}(h:RepL n D Ws rs)(v:Nat):Bd n (rowF rs v):=by
 unfold rowF
 exact N7 (fun z hz=>(h.least).bdW z hz) v
theorem X6 (c:Nat)(o:Option (Nat->Bool)):(papR c o).length=c:=by unfold papR;rw[Yb];simp
theorem Yt (c:Nat)(o:Option (Nat->Bool)):RepL 1 1 (cutZ o (List.replicate c 1)) (papR c o):=(RepL.ones c).cut o
theorem C3 {c v:Nat}{o:Option (Nat->Bool)}(hv:v<c):rowF (papR c o) v=if inE o v then lcmB (papR c o) else 0:=by
 rw[Vy (show (papR c o)[v]?=some (if inE o v then (1,1) else (0,1)) from Yz (by simp[hv]))]
 cases inE o v <;> simp
theorem Z0g {c v:Nat}{o:Option (Nat->Bool)}(hv:v<c):0<=rowF (papR c o) v:=by
 rw[C3 hv]
 have:=(Yt c o).least.pos
 split <;> omega
theorem Gh {c v:Nat}{o:Option (Nat->Bool)}{rs:List Rat}(hv:v<c)(hl:rs.length=c)(h:rowF (papR c o) v=0):rowF (cutR o rs) v=0:=by
 rw[C3 hv] at h
 have:=(Yt c o).least.pos
 have e:inE o v=false:=by
  cases q:inE o v with
  | false=>rfl
  | true=>rw[q,if_pos rfl] at h;omega
 rw[Vy (Yz (show rs[v]?=some (rs[v]'(by omega)) by simp)),e]
 simp
abbrev InvR (c:Nat)(rss:List (List Rat))(o:Option (Nat->Bool))(gs:List Rat)(T:Sv.Tab):Prop:=Sv.InvS c rss.length (AOf rss) (rowF (papR c o)) (rowF gs) T
def bitsOf (n c g:Nat):Nat:=(n+5)*min c (g+2)+1
theorem L6 {c n:Nat}{rss:List (List Rat)}{o:Option (Nat->Bool)}{gs:List Rat}{T:Sv.Tab}(hrs:∀ rs∈rss,rs.length=c/\∃ D Ws,RepL n D Ws rs)(hgs:∃ D Ws,RepL n D Ws gs)(hn:1<=n)(hm:rss.length+2<=32)(I:InvR c rss o gs T):TabBd (bitsOf n c rss.length) (rss.length+2) c T:=by
 have p1:1<=2 ^ n:=Nat.two_pow_pos n
 have hcol:∀ v r,v<c+(rss.length+2)->r<rss.length+2->(Sv.colS c rss.length (AOf rss) (rowF (papR c o)) (rowF gs) v r).natAbs<=2 ^ n:=fun v r _ _=>by
  unfold Sv.colS
  split
  ·split
   ·rename_i h
    have er:rss[r]?=some (rss[r]'h):=by simp
    have eg:rss.getD r []=rss[r]'h:=by simp[List.getD,h]
    obtain⟨_,D,Ws,rp⟩:=hrs _ (List.mem_of_getElem? er)
    have:=Pk rp v
    unfold AOf
    rw[eg]
    exact Nat.le_of_lt this
   ·split
    ·exact Nat.le_of_lt ((Pk (Yt c o) v).mono hn)
    ·obtain⟨D,Ws,rp⟩:=hgs
     exact Nat.le_of_lt (Pk rp v)
  ·split
   ·exact p1
   ·exact Nat.zero_le _
 have hrhs:∀ r,r<rss.length+2->(Sv.rhsS rss.length r).natAbs<=2 ^ n:=fun r _=>by
  unfold Sv.rhsS
  split
  ·exact p1
  ·exact Nat.zero_le _
 have h5:(rss.length+2)*2 ^ n<=2 ^ (n+5):=by
  rw[Nat.pow_add,Nat.mul_comm]
  exact Nat.mul_le_mul_left _ (show rss.length+2<=2 ^ 5 by omega)
 have fin:∀ (x k:Nat),x<=(2 ^ (n+5)) ^ k->k<=min c (rss.length+2)->x<2 ^ bitsOf n c rss.length:=fun x k h hk=>by
  rw[← Nat.pow_mul] at h
  refine Nat.lt_of_le_of_lt h (Nat.pow_lt_pow_right (by decide) ?_)
  unfold bitsOf
  have:=Nat.mul_le_mul_left (n+5) hk
  omega
 by_cases hcm:c<=rss.length+2
 ·have hcw:∀ v,v<c+(rss.length+2)->Sv.sN (rss.length+2) (fun r=>(Sv.colS c rss.length (AOf rss) (rowF (papR c o)) (rowF gs) v r).natAbs)<=(2 ^ (n+5)) ^ Sv.isW c v:=fun v hv=>by
   by_cases q:v<c
   ·have e:Sv.isW c v=1:=if_pos q
    rw[e,Nat.pow_one]
    exact Nat.le_trans (Sv.sN_const fun r hr=>hcol v r hv hr) h5
   ·have e:Sv.isW c v=0:=if_neg q
    rw[e,Nat.pow_zero]
    refine Nat.le_trans (Nat.le_of_eq (Sv.sN_congr fun r _=>?_)) (Sv.sN_unit (i:=v - c))
    unfold Sv.colS
    rw[if_neg q]
  have hrw:Sv.sN (rss.length+2) (fun r=>(Sv.rhsS rss.length r).natAbs)<=1:=by
   refine Nat.le_trans (Nat.le_of_eq (Sv.sN_congr fun r _=>?_)) (Sv.sN_unit (i:=rss.length))
   unfold Sv.rhsS
   by_cases q:r=rss.length
   ·rw[if_pos q,if_pos q.symm]
   ·rw[if_neg q,if_neg (Ne.symm q)]
  exact⟨fun i j hi hj=>fin _ c (I.sizeW hcw hrw (Nat.two_pow_pos _) hi hj) (by omega),fin _ c (I.sizeBW hcw (Nat.two_pow_pos _)) (by omega)⟩
 ·have low:∀ x,x<=((rss.length+2)*2 ^ n) ^ (rss.length+2)->x<2 ^ bitsOf n c rss.length:=fun x h=>fin x (rss.length+2) (Nat.le_trans h (Nat.pow_le_pow_left h5 _)) (by omega)
  exact⟨fun i j hi hj=>low _ (I.size hcol hrhs hi hj),low _ (I.sizeB hcol)⟩
end Sb
namespace Sv
section
variable {m n:Nat}{col:Nat->Vec}{rhs:Vec}{T:Tab}
end
end Sv
namespace Sb
open PySem L2
section
variable {P:Program}{w:World}{K:W.Frag}{mg:Str->Option Value}{base:Heap}{C:Addr}
structure NoneT (c:Nat)(rss:List (List Rat))(o:Option (Nat->Bool))(gs:List Rat)(T:Sv.Tab):Prop where
 inv:InvR c rss o gs T
 lk:T.own rss.length=c+rss.length
 aim:T.own (rss.length+1)=c+rss.length+1
 no:∀ j,j<c->T.hd j≠c+rss.length->T.L rss.length j<=0
structure MostT (c:Nat)(rss:List (List Rat))(o:Option (Nat->Bool))(gs:List Rat)(T:Sv.Tab):Prop where
 inv:InvR c rss o gs T
 feas:Sv.Feas (rss.length+2) c (c+rss.length) T
 aim:T.own (rss.length+1)=c+rss.length+1
 lk:∃ jl,jl<c/\T.hd jl=c+rss.length
 no:∀ j,j<c->T.hd j≠c+rss.length->T.L (rss.length+1) j<=0
def loadsR (c g:Nat)(T:Sv.Tab):List Rat:=(List.range c).map fun v=>nrm (Sv.endOf (g+2) c T v) T.b
def valueR (c g:Nat)(gs:List Rat)(T:Sv.Tab):Rat:=nrm (-Sv.endOf (g+2) c T (c+g+1)) (lcmB gs*T.b)
theorem Yk {H H':Hp}{q:Addr}(S:Same H H')(h:H' q=none):H q=none:=by
 cases z:H q with
 | none=>rfl
 | some o =>
  have:=S _ _ z
  rw[h] at this
  cases this
def gP (K:W.Frag):Sp:=fun vs H Q _=>∃ (l g:Addr) (ve:V) (c n N:Nat) (rss:List (List Rat)) (o:Option (Nat->Bool)) (as:List Rat),vs=[.int (c:Int),.ref l,ve,.ref g]/\RowsAt K H l rss/\EvAt K H c o ve/\RowAt K H g as/\as.length=c/\(∀ rs∈rss,rs.length=c/\∃ D Ws,RepL n D Ws rs)/\(∃ D Ws,RepL n D Ws as)/\1<=n/\n<=4000/\N<=8000/\n+N<=8800/\(∀ T':Sv.Tab,InvR c rss o (cutR o as) T'->TabBd N (rss.length+2) c T')/\2<=c/\c<=800/\rss.length+2<=32 ∧
 (∀ (T:Sv.Tab) (q t:Addr) (xs:List V) (H':Hp),H q=none->Same H H'->NoneT c rss o (cutR o as) T->H' q=some (.lst xs)->Rs K H' (multR c rss T rss.length 1) xs->SqT K H' t [.str "none",.ref q]->Q (.ref t) H') ∧
 (∀ (T:Sv.Tab) (q t va lo:Addr) (xs:List V) (H':Hp),H q=none->Same H H'->MostT c rss o (cutR o as) T->H' q=some (.lst xs)->Rs K H' (multR c rss T (rss.length+1) (lcmB (cutR o as))) xs->IsR K H' (valueR c rss.length (cutR o as) T) (.ref va)->RowAt K H' lo (loadsR c rss.length T)->SqT K H' t [.str "most",.ref va,.ref lo,.ref q]->Q (.ref t) H')
theorem Kk:FnScope ["count","rows","event","aim","goal","lack","table","bottom","value","loads"] ["count","rows","event","aim"] (defScope lH):=fsc
set_option maxHeartbeats 1600000 in
theorem Cb (D:Def K mg "solve" lH ["count","rows","event","aim"])(T0:Blt mg)(tc:TabC K mg C)(jG:Has P w K mg base 2 "cut" ["row","event"] (iS K))(jO:Has P w K mg base 4 "start" ["count","rows","event","goal"] (iG K C))(iU:Has P w K mg base 4 "driven" ["table","owner"] (gT C))(eQ:Has P w K mg base 4 "shown_multiples" ["count","rows","table","owner","bottom"] (iI K C))(eF:Has P w K mg base 2 "common_bottom" ["several"] (fC K))(gM:Has P w K mg base 3 "ratio" ["top","bottom"] eI)(jF:Has P w K mg base 2 "end_of" ["table","thing"] (iR C)):Has P w K mg base 5 "solve" ["count","rows","event","aim"] (gP K):=by
 refine D.has fun f fd F=>F.ok Kk (fun vs H Q E h=>?_) (fun cdv A outer s H vs Q E hr h=>?_)
 ·obtain⟨l,g,ve,c,n,N,rss,o,as,rfl,_⟩:=h
  rfl
 ·obtain⟨l,g,ve,c,n,N,rss,o,as,rfl,hR,hv,hg,gl,hrs,⟨Da,Wa,ra⟩,hn1,hn,hbits,hnN,hbd,hc2,hc,hm,kN,kM⟩:=h
  have sc:=Kk
  have T:=T0
  have nd1:(["world","table"]:List Str).Nodup:=by decide +kernel
  refine⟨_,(Z6 (Zg (i:=4) sc.nd rfl (Or.inl rfl) (Zc jG hr (Z0 (pv 3) (Z0 (pv 2) Z4))))
   (Z6 (Zg (i:=5) sc.nd rfl (Or.inl rfl) (Zh Yu (pv 0) (Zu Y1 rfl T.len boot_len (Z0 (pv 1) Z4))))
   (Z6 (Zg (i:=6) sc.nd rfl (Or.inr rfl) (Zc iU hr (Z0 (Zc jO hr (Z0 (pv 0) (Z0 (pv 1) (Z0 (pv 2) (Z0 (pv 4) Z4))))) (Z0 (pv 5) Z4))))
   (Z6 (Yd (Zi Xm (pv 5) (Ye (pv 6) rfl) rfl)
    (Z9 (Zf (Y8 (Z0 Xl (Z0 (Zc eQ hr (Z0 (pv 0) (Z0 (pv 1) (Z0 (pv 6) (Z0 (pv 5) (Z0 Z5 Z4)))))) Z4)))))
    Zt)
   (Z6 (Zg (i:=6) sc.nd rfl (Or.inr rfl) (Zc iU hr (Z0 (pv 6) (Z0 (Zh Yu (pv 5) Z5) Z4))))
   (Z6 (Zg (i:=7) sc.nd rfl (Or.inl rfl) (Zc eF hr (Z0 (pv 4) Z4)))
   (Z6 (Zg (i:=8) sc.nd rfl (Or.inl rfl) (Zc gM hr (Z0 (Vj Xz (Zc jF hr (Z0 (pv 6) (Z0 (Zh Yu (pv 5) Z5) Z4)))) (Z0 (Zh Zv (pv 7) (Ye (pv 6) rfl)) Z4))))
   (Z6 (Zg (i:=9) sc.nd rfl (Or.inl rfl) (Y4 Zz rfl T.tuple PyProof.Rows.boot_tuple (Z0 (Yn (N:=["world","table"]) (k:=1) (fv:=[6]) rfl (Yi rfl T.range (Z0 (pv 0) Z4))
   (fun _ _ _ _ _=>Zl (i:=0) nd1 rfl (Or.inl rfl)) (fun _ _ _ _ _=>Yh) (fun _ _ _ _ _=>(Zc gM hr (Z0 (Zc jF hr (Z0 (pv 1) (Z0 (pv 0) Z4))) (Z0 (Pq (K:=K) (pv 1) rfl) Z4)))) Y2) Z4)))
   (Z9 (Zf (Y8 (Z0 Xl (Z0 (pv 8) (Z0 (pv 9) (Z0 (Zc eQ hr (Z0 (pv 0) (Z0 (pv 1) (Z0 (pv 6) (Z0 (Zh Yu (pv 5) Z5) (Z0 (pv 7) Z4)))))) Z4))))))))))))))),?_⟩
  have ev':EvAt K H as.length o ve:=by rw[gl];exact hv
  refine⟨_,rfl,_,rfl,g,ve,as,o,rfl,hg,ev',by omega,fun pg H1 S1 rg=>?_⟩
  obtain⟨ads,hl,hp⟩:=id hR
  have elen:(ads.map V.ref).length=rss.length:=by rw[List.length_map];exact Paired.length hp
  have gl':(cutR o as).length=c:=by rw[Yb];exact gl
  refine⟨_,rfl,_,rfl,l,_,rfl,.inl (SqL.of (S1 _ _ hl)),?_⟩
  rw[elen]
  refine⟨_,_,rfl,rfl,?_⟩
  refine⟨_,rfl,_,rfl,_,rfl,_,rfl,l,pg,ve,c,n,rss,o,cutR o as,rfl,⟨ads,S1 _ _ hl,Xr hp (Ext.same S1)⟩,hv.same S1,rg,gl',hrs,⟨_,_,ra.cut o⟩,hn1,by omega,hc2,hc,by omega,fun q2 H2 S2 tab2=>?_⟩
  refine⟨_,rfl,q2,rss.length+2,c,c+rss.length,rss.length,N,c+rss.length,Sv.colS c rss.length (AOf rss) (rowF (papR c o)) (rowF (cutR o as)),Sv.rhsS rss.length,(fun T'=>T'.own (rss.length+1)=c+rss.length+1),_,rfl,tab2,by omega,by omega,by omega,hbits,Sv.inv0,Sv.feas0,rfl,rfl,hbd,fun T' c' I' F' X' ho hc' hnl hpos=>⟨rss.length,by omega,by rw[ho];exact Nat.le_refl _,hpos⟩,fun T' pl c' I' X' st=>?_,fun q3 H3 T3 S3 tab3 ⟨I3,F3,X3,alt⟩=>?_⟩
  ·have:pl≠rss.length+1:=fun z=>by
    have:=st.el
    rw[z,X'] at this
    omega
   show (Sv.piv T' pl c').own (rss.length+1)=_
   rw[Sv.own_ne (Ne.symm this)]
   exact X'
  have S03:=(S1.trans S2).trans S3
  obtain⟨dx,la,oa,ha,las,h1,h2,h3,h4,h5,h6⟩:=id tab3
  refine⟨_,rfl,_,rfl,q3,C,dx,_,_,rfl,h1,tc.cl,tc.nO,Yy,N6 h5 ⟨_,rfl,?_⟩⟩
  rcases alt with ⟨ho,hno⟩ | ⟨T1,c1,ho,I1,st,e3⟩
  ·refine Xc (fun _=>?_) (fun h=>absurd (decide_eq_true (mem_ownI.mpr ⟨rss.length,by omega,ho⟩)) h)
   refine⟨_,rfl,_,rfl,_,rfl,_,rfl,l,q3,c,rss.length+2,c+rss.length,rss.length,n,N,1,rss,T3,by rw[ho];rfl,⟨ads,S03 _ _ hl,Xr hp (Ext.same S03)⟩,tab3,TabOk.of I3,hbd _ I3,I3.pos,by omega,by omega,by omega,by omega,fun rs hr=>(hrs rs hr).2,by decide,(show Bd n 1 from Nat.lt_of_lt_of_le (show (1:Int).natAbs<2 ^ 1 by decide) (Nat.pow_le_pow_right (by decide) hn1)),hn,hnN,fun q4 xs H4 f4 S4 e4 r4=>?_⟩
   refine⟨sz2,fun t ht=>?_⟩
   have S5:=Same.new (o:=.tup [.str "none",.ref q4]) ht
   exact kN T3 q4 t xs _ (Yk S03 f4) ((S03.trans S4).trans S5) ⟨I3,ho,X3,hno⟩ (S5 _ _ e4) (r4.ext (Ext.same S5)) (SqT.of Z7)
  ·subst e3
   have hlk:∃ jl,jl<c/\(Sv.piv T1 rss.length c1).hd jl=c+rss.length:=⟨c1,st.hc,by
    show Sv.up T1.hd c1 (T1.own rss.length) c1=_
    unfold Sv.up
    rw[if_pos rfl]
    exact ho⟩
   generalize Sv.piv T1 rss.length c1=T3 at *
   refine Xc (fun h=>?_) (fun _=>?_)
   ·obtain⟨i,hi,e⟩:=mem_ownI.mp (of_decide_eq_true h)
    obtain⟨jl,hjl,ej⟩:=hlk
    exact absurd (e.trans ej.symm) (I3.ne hi hjl)
   ·have ok3:=TabOk.of I3
    refine⟨_,rfl,_,rfl,_,_,rfl,rfl,q3,rss.length+2,c,c+rss.length,rss.length+1,N,c+rss.length+1,Sv.colS c rss.length (AOf rss) (rowF (papR c o)) (rowF (cutR o as)),Sv.rhsS rss.length,(fun T'=>∃ jl,jl<c/\T'.hd jl=c+rss.length),T3,rfl,tab3,by omega,by omega,by omega,hbits,I3,F3,hlk,X3,hbd,fun T' c' I' F' X' ho' hc' hnl hpos=>?_,fun T' pl c' I' X' st'=>?_,fun q5 H5 T5 S5 tab5 ⟨I5,F5,X5,alt⟩=>?_⟩
    ·obtain⟨jl,hjl,ej⟩:=X'
     obtain⟨k,hk,h7,h8⟩:=Sv.InvS.bounded I' (fun v hv=>Z0g hv) (fun v hv z=>Gh hv gl z) (i:=rss.length+1) (by omega) ho' hjl ej hc' hnl hpos
     exact⟨k,hk,h7,h8⟩
    ·obtain⟨jl,hjl,ej⟩:=X'
     refine⟨jl,hjl,?_⟩
     show Sv.up T'.hd c' (T'.own pl) jl=_
     unfold Sv.up
     rw[if_neg (fun z=>st'.nl (by rw[← z];exact ej))]
     exact ej
    have ho5:T5.own (rss.length+1)=c+rss.length+1/\∀ j,j<c->T5.hd j≠c+rss.length->T5.L (rss.length+1) j<=0:=by
     rcases alt with h | ⟨T6,c6,h7,_,st6,_⟩
     ·exact h
     ·have:=st6.el
      omega
    have S05:=S03.trans S5
    have bd5:=hbd _ I5
    have ok5:=TabOk.of I5
    have gr:=(ra.cut o).least
    obtain⟨xg,hg1,hg2⟩:=rg.same ((S2.trans S3).trans S5)
    obtain⟨dx5,la5,oa5,ha5,las5,t1,t2,t3,t4,t5,t6⟩:=id tab5
    refine⟨_,rfl,pg,xg,cutR o as,n,_,_,rfl,.inr hg1,hg2,ra.cut o,by omega,?_⟩
    have hq0:lcmB (cutR o as)*T5.b≠0:=by
     have:=Int.mul_pos gr.pos I5.pos
     omega
    refine⟨_,rfl,_,rfl,_,_,rfl,rfl,q5,rss.length+2,c,c+rss.length,c+rss.length+1,T5,rfl,tab5,ok5,by omega,by omega,_,rfl,_,rfl,_,rfl,q5,C,dx5,_,_,rfl,t1,tc.cl,tc.nB,V3,_,_,rfl,rfl,gr.bD.mulOk bd5.b (by omega) (by omega),_,_,rfl,hq0,(gr.bD.mul bd5.b).log (by omega),fun va H6 f6 S6 e6=>?_⟩
    have S06:=S05.trans S6
    have t1':=S6 _ _ t1
    refine⟨_,rfl,(c:Int),rfl,(by omega),(by omega),fun d hd=>?_⟩
    have et:(c:Int).toNat=c:=by omega
    rw[et]
    refine⟨c,fun i ys H2=>Same H6 H2/\Rs K H2 ((loadsR c rss.length T5).take i) ys,Zq (by omega),⟨Same.new hd,.nil⟩,?_,?_⟩
    ·rintro i ys H7 hi ⟨S7,r7⟩ hd7
     refine⟨hi,?_⟩
     rintro x H8 ⟨rfl,rfl⟩
     refine Yo ?_
     have S57:=S6.trans S7
     refine⟨_,rfl,_,rfl,q5,rss.length+2,c,c+rss.length,i,T5,by rw[Int.zero_add];rfl,tab5.same S57,ok5,by omega,by omega,_,rfl,q5,C,dx5,_,_,rfl,S57 _ _ t1,tc.cl,tc.nB,V3,_,_,rfl,by have:=I5.pos;omega,bd5.b.log (by omega),fun a8 H8 f8 S8 e8=>?_⟩
     have hd8:=S8 _ _ hd7
     refine⟨hd8,fun q z e=>?_,?_⟩
     ·rw[Zb (Z8 e hd)]
      exact S8 _ _ (S7 _ _ e)
     ·have e4:(loadsR c rss.length T5)[i]?=some (nrm (Sv.endOf (rss.length+2) c T5 i) T5.b):=by
       unfold loadsR
       rw[List.getElem?_map,List.getElem?_range hi]
       rfl
      rw[Yf e4]
      refine ((r7.ext (Ext.same S8)).ext (Ext.upd hd8)).snoc ⟨a8,rfl,SqT.of ?_⟩
      rw[Zb (fun z=>by rw[z] at e8;rw[e8] at hd8;cases hd8)]
      exact e8
    ·rintro ys H7 ⟨S7,r7⟩ hd7
     rw[List.take_of_length_le (by unfold loadsR;simp)] at r7
     refine⟨Nat.le_refl _,d,ys,rfl,.inl ⟨SqL.of hd7,fun lo hlo=>?_⟩⟩
     have S8:=S7.trans (Same.new (o:=.tup ys) hlo)
     have row8:RowAt K (upd H7 lo (.tup ys)) lo (loadsR c rss.length T5):=⟨ys,SqT.of Z7,r7.ext (Ext.new hlo)⟩
     generalize upd H7 lo (.tup ys)=H8 at *
     have S08:=S06.trans S8
     have S58:=S6.trans S8
     refine⟨_,rfl,_,rfl,_,rfl,_,rfl,_,rfl,_,rfl,_,_,rfl,rfl,_,rfl,l,q5,c,rss.length+2,c+rss.length,rss.length+1,n,N,lcmB (cutR o as),rss,T5,by rw[ho5.1];rfl,⟨ads,S08 _ _ hl,Xr hp (Ext.same S08)⟩,tab5.same S58,ok5,bd5,I5.pos,by omega,by omega,by omega,by omega,fun rs hr=>(hrs rs hr).2,gr.pos,gr.bD,hn,hnN,fun q9 xs H9 f9 S9 e9 r9=>?_⟩
     refine⟨sz4,fun t ht=>?_⟩
     have SX:=Same.new (o:=.tup [.str "most",.ref va,.ref lo,.ref q9]) ht
     refine kM T5 q9 t va lo xs _ (Yk S08 f9) ((S08.trans S9).trans SX) ⟨I5,F5,ho5.1,X5,ho5.2⟩ (SX _ _ e9) (r9.ext (Ext.same SX)) ⟨va,rfl,SqT.of (SX _ _ (S9 _ _ (S8 _ _ e6)))⟩ ((row8.same S9).same SX) (SqT.of Z7)
def fN (K:W.Frag):Sp:=fun vs H Q _=>∃ (l g:Addr) (ve:V) (c n:Nat) (rss:List (List Rat)) (o:Option (Nat->Bool)) (as:List Rat),vs=[.int (c:Int),.ref l,ve,.ref g]/\RowsAt K H l rss/\EvAt K H c o ve/\RowAt K H g as/\as.length=c/\(∀ rs∈rss,rs.length=c/\∃ D Ws,RepL n D Ws rs)/\(∃ D Ws,RepL n D Ws as)/\1<=n/\n<=800/\bitsOf n c rss.length<=8000/\2<=c/\c<=800/\rss.length+2<=32 ∧
 (∀ (T:Sv.Tab) (q t:Addr) (xs:List V) (H':Hp),H q=none->Same H H'->NoneT c rss o (cutR o as) T->H' q=some (.lst xs)->Rs K H' (multR c rss T rss.length 1) xs->SqT K H' t [.str "none",.ref q]->Q (.ref t) H') ∧
 (∀ (T:Sv.Tab) (q t va lo:Addr) (xs:List V) (H':Hp),H q=none->Same H H'->MostT c rss o (cutR o as) T->H' q=some (.lst xs)->Rs K H' (multR c rss T (rss.length+1) (lcmB (cutR o as))) xs->IsR K H' (valueR c rss.length (cutR o as) T) (.ref va)->RowAt K H' lo (loadsR c rss.length T)->SqT K H' t [.str "most",.ref va,.ref lo,.ref q]->Q (.ref t) H')
theorem Has.imp {L:Nat}{x:Str}{ps:List Str}{sp sp':Sp}(h:Has P w K mg base L x ps sp)(f:∀ vs H Q E,sp' vs H Q E->sp vs H Q E):Has P w K mg base L x ps sp':=let ⟨a,fd,F,r⟩:=h;⟨a,fd,F.imp f,r⟩
theorem Z0r {L:Nat}(h:Has P w K mg base L "solve" ["count","rows","event","aim"] (gP K)):Has P w K mg base L "solve" ["count","rows","event","aim"] (fN K) :=
 h.imp fun vs H Q E z0=>by
  obtain⟨l,g,ve,c,n,rss,o,as,e,hR,hv,hg,gl,hrs,ra,hn1,hn,hbits,hc2,hc,hm,k⟩:=z0
  exact⟨l,g,ve,c,n,bitsOf n c rss.length,rss,o,as,e,hR,hv,hg,gl,hrs,ra,hn1,by omega,hbits,by omega,fun T' I=>L6 hrs (ra.elim fun D z=>z.elim fun W r=>⟨_,_,r.cut o⟩) hn1 hm I,hc2,hc,hm,k⟩
end
open Sv (sm Zn X1 Y5 sm_zero Zw Zx Wc)
theorem M4 {n:Nat}{D:Int}{Zs:List Int}{rs:List Rat}(h:RepL n D Zs rs){v:Nat}(hv:v<rs.length):rowF rs v*D=Zs.getD v 0*lcmB rs:=by
 have er:rs[v]?=some rs[v]:=by simp[hv]
 have hz:v<Zs.length:=by rw[h.len];exact hv
 have ez:Zs[v]?=some Zs[v]:=by simp[hz]
 have eg:Zs.getD v 0=Zs[v]:=by simp[List.getD,hz]
 obtain⟨e,_,lo⟩:=h.at_ v _ _ ez er
 have e2:=(h.least.at_ v (rs[v].1*(lcmB rs).fdiv rs[v].2) rs[v] (by unfold wholeB;simp[hv]) er).1
 rw[Vy er,eg]
 generalize rs[v].1*(lcmB rs).fdiv rs[v].2=A at *
 generalize Zs[v]=Z at *
 have p:=lo.pos
 generalize rs[v]=r at *
 have e3:A*D*r.2=Z*lcmB rs*r.2:=by
  have h1:A*D*r.2=(A*r.2)*D:=by grind
  have h2:Z*lcmB rs*r.2=(Z*r.2)*lcmB rs:=by grind
  rw[h1,h2,← e2,← e]
  grind
 exact Int.eq_of_mul_eq_mul_right (by omega) e3
theorem Wz {c:Nat}{o:Option (Nat->Bool)}:lcmB (papR c o)=1:=by
 have h:∀ r∈papR c o,0<r.2:=fun r hr=>((Yt c o).good r hr).pos
 obtain⟨h1,_,h3⟩:=Qv h
 have h4:=h3 1 fun r hr=>by
  obtain⟨i,hi⟩:=List.getElem?_of_mem hr
  have hc:i<c:=by
   have:=(List.getElem?_eq_some_iff.mp hi).1
   rw[X6] at this
   exact this
  have e:(papR c o)[i]?=some (if inE o i then (1,1) else (0,1)):=Yz (by simp[hc])
  rw[e] at hi
  cases hi
  cases inE o i <;> exact Int.one_dvd 1
 have:=Xq (by decide) h4
 omega
theorem TabOk.endBd {m n N:Nat}{T:Sv.Tab}(h:TabOk m n T)(bd:TabBd N m n T)(v:Nat):Bd N (Sv.endOf m n T v):=by
 by_cases q:∃ i,i<m/\T.own i=v
 ·obtain⟨i,hi,rfl⟩:=q
  rw[h.endO hi]
  exact bd.l i n hi (Nat.le_refl _)
 ·have:Sv.endOf m n T v=0:=Sv.sm_zero fun i hi=>if_neg fun z=>q ⟨i,hi,z⟩
  rw[this]
  exact Bd.zero N
def endZ (c g:Nat)(T:Sv.Tab):List Int:=(List.range c).map fun v=>Sv.endOf (g+2) c T v
theorem Fo {c g v:Nat}{T:Sv.Tab}(hv:v<c):(endZ c g T).getD v 0=Sv.endOf (g+2) c T v:=by
 unfold endZ
 simp[List.getD,hv]
theorem Qr {c g N:Nat}{T:Sv.Tab}(pos:0<T.b)(ok:TabOk (g+2) c T)(bd:TabBd N (g+2) c T):RepL N T.b (endZ c g T) (loadsR c g T) :=
 RepL.of_map pos bd.b (List.range c) _ _ fun v _=>⟨Ys _ _,ok.endBd bd v,X8 (by omega)⟩
theorem Yc {r:Rat}{D W:Int}(hD:0<D)(hr:0<r.2)(h:r.1*D=W*r.2):(0<=r.1 ↔ 0<=W)/\(r.1<=0 ↔ W<=0)/\(r.1=0 ↔ W=0):=by
 have a1:0<r.1->0<W:=fun z=>by
  have h1:=Int.mul_pos z hD
  rw[h] at h1
  apply Classical.byContradiction
  intro q
  have:=Int.mul_nonpos_of_nonpos_of_nonneg (show W<=0 by omega) (show 0<=r.2 by omega)
  omega
 have a2:r.1<0->W<0:=fun z=>by
  have h1:=Int.mul_pos (show 0 < -r.1 by omega) hD
  rw[Int.neg_mul,h] at h1
  apply Classical.byContradiction
  intro q
  have:=Int.mul_nonneg (show 0<=W by omega) (show 0<=r.2 by omega)
  omega
 have a3:r.1=0->W=0:=fun z=>by
  rw[z,Int.zero_mul] at h
  rcases Int.mul_eq_zero.mp h.symm with q | q <;> omega
 omega
structure LoadsOk (c:Nat)(rss:List (List Rat))(o:Option (Nat->Bool))(as:List Rat)(N:Nat)(ls:List Rat)(va:Rat):Prop where
 len:ls.length=c
 rep:∃ D Ls,RepL N D Ls ls
 nn:∀ r∈ls,0<=r.1
 fit:∀ rs∈rss,(sumR (List.zipWith mulR' ls rs)).1<=0
 lie:sumR (List.zipWith mulR' ls (papR c o))=(1,1)
 val:va=sumR (List.zipWith mulR' ls (cutR o as))
theorem MostT.sv {c:Nat}{rss:List (List Rat)}{o:Option (Nat->Bool)}{gs:List Rat}{T:Sv.Tab}(h:MostT c rss o gs T):Sv.Most c rss.length (AOf rss) (rowF (papR c o)) (rowF gs) T (rss.length+1):=by
 obtain⟨jl,hjl,ej⟩:=h.lk
 exact Sv.InvS.most h.inv h.feas (by omega) h.aim hjl ej h.no
theorem NoneT.sv {c:Nat}{rss:List (List Rat)}{o:Option (Nat->Bool)}{gs:List Rat}{T:Sv.Tab}(h:NoneT c rss o gs T):(∀ k,k<rss.length->Sv.numAt c T rss.length (c+k)<=0)/\∀ w,w<c->rowF (papR c o) w*T.b<=sm rss.length (fun k=>AOf rss k w * -Sv.numAt c T rss.length (c+k)) :=
 Sv.InvS.none h.inv (by omega) h.lk (ia:=rss.length+1) (by omega) h.aim h.no
theorem Qs {c g:Nat}{T:Sv.Tab}:(loadsR c g T).length=c:=by unfold loadsR;simp
theorem Bw {c g:Nat}{T:Sv.Tab}:(endZ c g T).length=c:=by unfold endZ;simp
theorem My {rs:List Rat}{v:Nat}:(wholeB rs (lcmB rs)).getD v 0=rowF rs v:=rfl
theorem Ud {c g N n:Nat}{D:Int}{Zs:List Int}{rs:List Rat}{T:Sv.Tab}(pos:0<T.b)(ok:TabOk (g+2) c T)(bd:TabBd N (g+2) c T)(h:RepL n D Zs rs)(hl:rs.length=c) :
  (sumR (List.zipWith mulR' (loadsR c g T) rs)).1*(T.b*lcmB rs)=sm c (fun w=>rowF rs w*Sv.endOf (g+2) c T w)*(sumR (List.zipWith mulR' (loadsR c g T) rs)).2/\Low (sumR (List.zipWith mulR' (loadsR c g T) rs)):=by
 have hw:=h.least
 obtain⟨e,lo⟩:=((Qr pos ok bd).mul hw (by rw[Qs];omega)).sum
 refine⟨?_,lo⟩
 have e2:(List.zipWith (·*·) (endZ c g T) (wholeB rs (lcmB rs))).sum=sm c (fun w=>rowF rs w*Sv.endOf (g+2) c T w):=by
  rw[Yv c _ _ Bw (by rw[hw.len];exact hl)]
  refine Zn fun i hi=>?_
  rw[Fo hi,My,Int.mul_comm]
 rw[← e2]
 exact e
theorem MostT.loads {c n:Nat}{rss:List (List Rat)}{o:Option (Nat->Bool)}{as:List Rat}{T:Sv.Tab}(h:MostT c rss o (cutR o as) T)(hrs:∀ rs∈rss,rs.length=c/\∃ D Ws,RepL n D Ws rs)(ha:∃ D Ws,RepL n D Ws as)(la:as.length=c)(hn:1<=n)(hm:rss.length+2<=32) :
  LoadsOk c rss o as (bitsOf n c rss.length) (loadsR c rss.length T) (valueR c rss.length (cutR o as) T):=by
 have I:=h.inv
 have pos:=I.pos
 have ok:=TabOk.of I
 obtain⟨Da,Wa,ra⟩:=ha
 have bd:=L6 hrs ⟨_,_,ra.cut o⟩ hn hm I
 have M:=h.sv
 have lr:=Qr pos ok bd
 refine⟨Qs,⟨_,_,lr⟩,fun r hr=>?_,fun rs hr=>?_,?_,?_⟩
 ·unfold loadsR at hr
  obtain⟨v,hv,rfl⟩:=List.mem_map.mp hr
  have hv':v<c:=by simpa using hv
  exact ((Yc (r:=nrm (Sv.endOf (rss.length+2) c T v) T.b) pos (X8 (by omega)).pos (Ys _ _)).1).mpr (M.x0 v hv')
 ·obtain⟨hl,D,Ws,rp⟩:=hrs rs hr
  obtain⟨e,lo⟩:=Ud pos ok bd rp hl
  obtain⟨k,hk,ek⟩:=List.getElem_of_mem hr
  have ea:AOf rss k=rowF rs:=by
   funext v
   unfold AOf rowF
   simp[List.getD,hk,ek]
  have:=M.fit k hk
  rw[ea] at this
  have p2:=Int.mul_pos pos rp.least.pos
  exact ((Yc p2 lo.pos e).2.1).mpr this
 ·obtain⟨e,lo⟩:=Ud pos ok bd (Yt c o) (X6 c o)
  rw[M.lie,Wz,Int.mul_one,Int.mul_comm] at e
  have e1:=Int.eq_of_mul_eq_mul_left (show T.b≠0 by omega) e
  refine X9 lo.pos low11.pos lo.cop low11.cop ?_
  show _*1=1*_
  rw[e1]
  omega
 ·have lc:(cutR o as).length=c:=by rw[Yb];exact la
  obtain⟨e,lo⟩:=Ud pos ok bd (ra.cut o) lc
  rw[M.val] at e
  have p2:=Int.mul_pos (ra.cut o).least.pos pos
  have lv:Low (valueR c rss.length (cutR o as) T):=X8 (by omega)
  have ev:(valueR c rss.length (cutR o as) T).1*(lcmB (cutR o as)*T.b)=-Sv.endOf (rss.length+2) c T (c+rss.length+1)*(valueR c rss.length (cutR o as) T).2:=Ys _ _
  rw[← h.aim,ok.endO (by omega)] at ev
  generalize valueR c rss.length (cutR o as) T=va at *
  generalize sumR (List.zipWith mulR' (loadsR c rss.length T) (cutR o as))=s at *
  refine X9 lv.pos lo.pos lv.cop lo.cop ?_
  have q0:lcmB (cutR o as)*T.b≠0:=by omega
  generalize hE:-T.L (rss.length+1) c=E at *
  generalize hL:lcmB (cutR o as)=L at *
  apply Int.eq_of_mul_eq_mul_right q0
  have h1:va.1*s.2*(L*T.b)=(va.1*(L*T.b))*s.2:=by grind
  have h2:s.1*va.2*(L*T.b)=(s.1*(T.b*L))*va.2:=by grind
  rw[h1,h2,ev,e]
  grind
theorem NoneT.share {c n:Nat}{rss:List (List Rat)}{o:Option (Nat->Bool)}{gs:List Rat}{T:Sv.Tab}{Ws:List Int}(h:NoneT c rss o gs T)(lW:Ws.length=c)(nn:∀ W∈Ws,0<=W)(len:∀ rs∈rss,rs.length=c)(fit:∀ rs∈rss,FitR n Ws rs):(List.zipWith (·*·) Ws (cutZ o (List.replicate c 1))).sum=0:=by
 obtain⟨h1,h2⟩:=h.sv
 have pos:=h.inv.pos
 have W0:∀ w,0<=Ws.getD w 0:=fun w=>by
  by_cases q:w<Ws.length
  ·have:Ws.getD w 0=Ws[w]:=by simp[List.getD,q]
   rw[this]
   exact nn _ (List.getElem_mem q)
  ·have:Ws.getD w 0=0:=by simp[List.getD,q]
   omega
 have f1:∀ k,k<rss.length->sm c (fun w=>Ws.getD w 0*AOf rss k w)<=0:=fun k hk=>by
  obtain⟨D,Zs,rp,hz⟩:=fit _ (List.getElem_mem hk)
  have hl:=len _ (List.getElem_mem hk)
  rw[Yv c _ _ lW (by rw[rp.len];exact hl)] at hz
  have ea:AOf rss k=rowF rss[k]:=by
   funext v
   unfold AOf rowF
   simp[List.getD,hk]
  rw[ea]
  have e:D*sm c (fun w=>Ws.getD w 0*rowF rss[k] w)=lcmB rss[k]*sm c (fun w=>Ws.getD w 0*Zs.getD w 0):=by
   rw[← Y5,← Y5]
   refine Zn fun w hw=>?_
   have:=M4 rp (v:=w) (by omega)
   grind
  have lp:=rp.least.pos
  apply Classical.byContradiction
  intro z
  have p1:=Int.mul_pos rp.pos (show 0<sm c (fun w=>Ws.getD w 0*rowF rss[k] w) by omega)
  rw[e] at p1
  have:=Int.mul_nonpos_of_nonneg_of_nonpos (show 0<=lcmB rss[k] by omega) hz
  omega
 have s1:sm c (fun w=>Ws.getD w 0*(rowF (papR c o) w*T.b))<=0:=by
  have a1:sm c (fun w=>Ws.getD w 0*(rowF (papR c o) w*T.b))<=sm c (fun w=>Ws.getD w 0*sm rss.length (fun k=>AOf rss k w * -Sv.numAt c T rss.length (c+k))):=Wc fun w hw=>Int.mul_le_mul_of_nonneg_left (h2 w hw) (W0 w)
  have a2:sm c (fun w=>Ws.getD w 0*sm rss.length (fun k=>AOf rss k w * -Sv.numAt c T rss.length (c+k)))=sm rss.length (fun k=>-Sv.numAt c T rss.length (c+k)*sm c (fun w=>Ws.getD w 0*AOf rss k w)):=by
   have b1:sm c (fun w=>Ws.getD w 0*sm rss.length (fun k=>AOf rss k w * -Sv.numAt c T rss.length (c+k)))=sm c (fun w=>sm rss.length (fun k=>-Sv.numAt c T rss.length (c+k)*(Ws.getD w 0*AOf rss k w))):=Zn fun w _=>by
    rw[← Y5]
    exact Zn fun k _=>by grind
   rw[b1,Sv.sm_comm]
   exact Zn fun k _=>Y5 _ _ _
  have a3:sm rss.length (fun k=>-Sv.numAt c T rss.length (c+k)*sm c (fun w=>Ws.getD w 0*AOf rss k w))<=0:=by
   have:=Wc (n:=rss.length) (f:=fun k=>-Sv.numAt c T rss.length (c+k)*sm c (fun w=>Ws.getD w 0*AOf rss k w)) (g:=fun _=>0) fun k hk=>Int.mul_nonpos_of_nonneg_of_nonpos (by have:=h1 k hk;omega) (f1 k hk)
   rw[sm_zero (f:=fun _=>0) fun _ _=>rfl] at this
   exact this
  omega
 have nns:=(Uj (o:=o) lW nn).1
 have e2:sm c (fun w=>Ws.getD w 0*(rowF (papR c o) w*T.b))=T.b*(List.zipWith (·*·) Ws (cutZ o (List.replicate c 1))).sum:=by
  rw[Yv c _ _ lW (by rw[Xh];simp),← Y5]
  refine Zn fun w hw=>?_
  rw[C3 hw,Wz,Xn,Tj hw]
  cases inE o w <;> simp <;> grind
 rw[e2] at s1
 apply Classical.byContradiction
 intro z
 have:=Int.mul_pos pos (show 0<(List.zipWith (·*·) Ws (cutZ o (List.replicate c 1))).sum by omega)
 omega
end Sb
namespace Sb
open PySem L2
def TabHere (K:W.Frag)(mg:Str->Option Value):Prop:=∃ (C f:Addr) (fd:FuncData),TabC K mg C/\Mk K C f/\Fun K "__init__" "Table.__init__" jZ f fd/\Binds K fd ["self","lines","owners","heads","bottom","lack"] []
theorem Z2a {K:W.Frag}{h:Heap}{mg:Str->Option Value}{C f:Addr}{oc:Value}{od an:Option Addr}{sl:Array (Option Value)}{kV dc pm cd ct:Value}(X:K.In h)(G:h.Ns mainGlobals mg)
  (aC:W.nsIn K mainGlobals "Table"=some (some (.ref C)))
  (a1:W.findIn K (.ref C) "__init__"=some (some (.ref f))) (i1:W.isFn K (.ref f)=true) (l1:K.lookup f=some ⟨oc,od,.func (W.fnOf "__init__" "Table.__init__" (defArgs jZ) (defBody jZ) (defScope jZ) .none kV dc pm an cd ct),sl⟩) (c1:W.codeIn K cd "Table.__init__"=true) (k1:W.keepIn K (.ref f)=true)
  (pg:W.plainGet K C Str.empty=true) (hd:W.hasDictIn K C=true) (po:W.plainOver K C=true) (sa:W.findIn K (.ref C) "__setattr__"=some (some (.builtin "object.__setattr__"))) (mk:W.makesIn K C=true) (kc:W.keepIn K (.ref C)=true)
  (nL:W.findIn K (.ref C) "lines"=some none) (nO:W.findIn K (.ref C) "owners"=some none) (nH:W.findIn K (.ref C) "heads"=some none) (nB:W.findIn K (.ref C) "bottom"=some none) (nK:W.findIn K (.ref C) "lack"=some none):TabHere K mg :=
 ⟨C,f,_,⟨⟨pg,hd,po,sa⟩,nL,nO,nH,nB,nK,W.mg_of X G aC⟩,⟨mk,a1,i1,kc⟩,Ts l1 c1 k1,(Ts l1 c1 k1).binds fun _ _ _ _ _ _ us hl=>match us,hl with | [_,_,_,_,_,_],_=>rfl⟩
def gG (K:W.Frag):Sp:=fun vs H Q _=>∃ (a b:Addr) (xs us:List V) (ws rs:List Rat) (n n':Nat) (D D':Int) (Ws Zs:List Int),vs=[.ref a,.ref b]/\(SqL K H a xs \/ SqT K H a xs)/\Rs K H ws xs/\(SqL K H b us \/ SqT K H b us)/\Rs K H rs us/\ws.length=rs.length/\rs.length<=1000/\RepL n D Ws ws/\RepL n' D' Zs rs/\n+n'+10<=4000 ∧
 ∀ c H',Same H H'->SqT K H' c [.int (sumR (List.zipWith mulR' ws rs)).1,.int (sumR (List.zipWith mulR' ws rs)).2]->Q (.ref c) H'
section
variable {P:Program}{w:World}{K:W.Frag}{mg:Str->Option Value}{base:Heap}
theorem Nx:FnScope ["_law_weights_here","_law_row_here","_law_come_here","_law_k"] ["_law_weights_here","_law_row_here"] (defScope lP):=fsc
theorem Cm (D:Def K mg "_law_mean" lP ["_law_weights_here","_law_row_here"])(T:Blt mg)(eS:Z3 P w K mg base)(fK:Has P w K mg base 3 "_law_times" ["_law_one","_law_other"] (eK K mulR')) :
  Has P w K mg base 4 "_law_mean" ["_law_weights_here","_law_row_here"] (gG K):=by
 refine D.has fun f fd F=>F.ok Nx (fun vs H Q E h=>?_) (fun cdv A outer s H vs Q E hr h=>?_)
 ·obtain⟨a,b,xs,us,ws,rs,n,n',D,D',Ws,Zs,rfl,_⟩:=h
  rfl
 ·obtain⟨a,b,xs,us,ws,rs,n,n',D,D',Ws,Zs,rfl,hA,hWs,hB,hRs,hl,hl2,rw_,rr,hnn,k⟩:=h
  have sc:=Nx
  refine⟨_,(Z6 (Zg (i:=2) sc.nd rfl (Or.inl rfl) (Y8 (Z0 Z5 (Z0 Z5 Z4))))
   (Z6 (Xk PassesOwn.never rfl (Yi rfl T.range (Z0 (Zu Y1 rfl T.len boot_len (Z0 (pv 1) Z4)) Z4)) (Zl (i:=3) sc.nd rfl (Or.inl rfl))
    (Z9 (Zg (i:=2) sc.nd rfl (Or.inl rfl) (Zc eS hr (Z0 (pv 2) (Z0 (Zc fK hr (Z0 (Ze K2 (pv 0) (pv 3) (fun _ _=>rfl)) (Z0 (Ze K2 (pv 1) (pv 3) (fun _ _=>rfl)) Z4))) Z4))))))
   (Z9 (Zf (pv 2))))),?_⟩
  refine⟨sz2,fun p hp=>?_⟩
  have lx:=hWs.len
  have lu:=hRs.len
  have S0:Same H (upd H p (.tup [.int 0,.int 1])):=Same.new hp
  have rm:=rw_.mul rr hl
  have lz:(List.zipWith mulR' ws rs).length=rs.length:=by rw[List.length_zipWith];omega
  have anyS:∀ {c:Addr} {ys:List V} {H1:Hp},Same H H1->(SqL K H c ys \/ SqT K H c ys)->(SqL K H1 c ys \/ SqT K H1 c ys):=fun S h=>h.elim (fun z=>.inl (Vh S z)) fun z=>.inr (Zo S z)
  refine⟨_,rfl,b,us,rfl,anyS S0 hB,(us.length:Int),rfl,(by omega),(by omega),?_⟩
  have et:(us.length:Int).toNat=us.length:=by omega
  rw[et]
  refine V1 (lo:=0) (n:=us.length) (fun i σ H'=>Same H H'/\∃ (c:Addr) (x:Option V),σ=[some (.ref a),some (.ref b),some (.ref c),x]/\SqT K H' c [.int (sumR ((List.zipWith mulR' ws rs).take i)).1,.int (sumR ((List.zipWith mulR' ws rs).take i)).2]) ⟨S0,p,none,rfl,SqT.of Z7⟩ ?_ ?_
  ·rintro i σ H1 hi ⟨S1,c,x0,rfl,hc⟩
   have e0:(0+(i:Int))=((i:Nat):Int):=by omega
   rw[e0]
   have hir:i<ws.length:=by omega
   have his:i<rs.length:=by omega
   have er:ws[i]?=some ws[i]:=by simp[hir]
   have es:rs[i]?=some rs[i]:=by simp[his]
   obtain⟨x1,ex,ix⟩:=hWs.at er
   obtain⟨y1,ey,iy⟩:=hRs.at es
   obtain⟨a1,rfl,sq1⟩:=ix.ext (Ext.same S1)
   obtain⟨b1,rfl,sq2⟩:=iy.ext (Ext.same S1)
   refine⟨_,rfl,_,rfl,_,rfl,a,xs,_,_,rfl,rfl,anyS S1 hA,Zd ex,_,rfl,_,rfl,b,us,_,_,rfl,rfl,anyS S1 hB,Zd ey,?_⟩
   refine⟨a1,b1,ws[i],rs[i],n+n'+10,rfl,sq1,sq2,(rw_.good _ (List.getElem_mem hir)).mono (by omega),(rr.good _ (List.getElem_mem his)).mono (by omega),by omega,fun c2 H2 f2 S2 e2=>?_⟩
   have ez:(List.zipWith mulR' ws rs)[i]?=some (mulR' ws[i] rs[i]):=by rw[List.getElem?_zipWith,er,es]
   refine⟨c,c2,_,mulR' ws[i] rs[i],n+n'+10,rfl,Zo S2 hc,SqT.of e2,(rm.take i).sumGood (k:=10) (by rw[List.length_take];omega),(rm.good _ (List.mem_of_getElem? ez)).mono (by omega),hnn,fun c3 H3 f3 S3 e3=>?_⟩
   refine⟨(S1.trans S2).trans S3,c3,_,rfl,?_⟩
   rw[G5 ez]
   exact SqT.of e3
  ·rintro σ H1 ⟨S1,c,x0,rfl,hc⟩
   rw[List.take_of_length_le (by omega)] at hc
   exact⟨_,rfl,k c H1 S1 hc⟩
def iQ (K:W.Frag):Sp:=fun vs H Q _=>∃ (b:Addr) (c n:Nat),vs=[.ref b,.int c]/\BagAt H b n/\n<=100000/\c<=1000 ∧
 ∀ (v:V) (H':Hp) (o:Option (Nat->Bool)),BagAt H' b (n+c+1)->SameX b H H'->EvAt K H' c o v->Q v H'
theorem Kx:FnScope ["_law_bag_here","_law_count"] ["_law_bag_here","_law_count"] (defScope lT):=fsc
theorem Z14 (D:Def K mg "_law_event" lT ["_law_bag_here","_law_count"])(T:Blt mg)(eD:Z2 P w K mg base):Has P w K mg base 2 "_law_event" ["_law_bag_here","_law_count"] (iQ K):=by
 refine D.has fun f fd F=>F.ok Kx (fun vs H Q E h=>?_) (fun cdv A outer s H vs Q E hr h=>?_)
 ·obtain⟨b,c,n,rfl,_⟩:=h
  rfl
 ·obtain⟨b,c,n,rfl,hB,hn,hl,k⟩:=h
  have sc:=Kx
  have nd1:(["_law_k","_law_bag_here"]:List Str).Nodup:=by decide +kernel
  refine⟨_,(Z6 (Yd (Zi Xu (Zc eD hr (Z0 (pv 0) (Z0 Z5 Z4))) Z5 (Zp _))
    (Z9 (Zf Yw))
    Zt)
   (Z9 (Zf (Y4 Zz rfl T.tuple PyProof.Rows.boot_tuple (Z0 (Yn (N:=["_law_k","_law_bag_here"]) (k:=1) (fv:=[0]) rfl (Yi rfl T.range (Z0 (pv 1) Z4))
   (fun _ _ _ _ _=>Zl (i:=0) nd1 rfl (Or.inl rfl)) (fun _ _ _ _ _=>Up (Zi Xu (Zc eD hr (Z0 (pv 1) (Z0 Z5 Z4))) Z5 (Zp _))) (fun _ _ _ _ _=>(pv 0)) Y2) Z4))))),?_⟩
  refine⟨_,rfl,b,_,_,rfl,hB,by omega,by decide,by decide +kernel,fun z H1 z0 z1 B1 S1=>⟨rfl,_,rfl,?_⟩⟩
  refine Xc (fun h=>?_) (fun h=>?_)
  ·exact k _ _ none (B1.mono (by omega)) S1 rfl
  have hBl:=B1.lst
  refine⟨_,rfl,(c:Int),rfl,(by omega),(by omega),fun d hd=>?_⟩
  have hdb:d≠b:=by
   obtain⟨ys,e⟩:=hBl
   exact (Z8 e hd).symm
  have et:(c:Int).toNat=c:=by omega
  rw[et]
  refine⟨c,fun i ys H2=>∃ p:Nat->Bool,ys=(evI i p).map V.int/\BagAt H2 b (n+1+i)/\SameX b H H2,Zq hl,?_,?_,?_⟩
  ·exact⟨fun _=>true,rfl,B1.upd (Ne.symm hdb),S1.trans (SameX.of (Same.new hd))⟩
  ·rintro i ys H2 hi ⟨p,rfl,B2,S2⟩ hd2
   refine⟨hi,?_⟩
   rintro x H3 ⟨rfl,rfl⟩
   have e0:(0+(i:Int))=((i:Nat):Int):=by omega
   rw[e0]
   refine Uv ?_
   refine⟨_,rfl,b,_,_,rfl,B2,by omega,by decide,by decide +kernel,fun r H4 r0 r1 B4 S4=>⟨rfl,_,rfl,?_⟩⟩
   have hd4:H4 d=some (.lst ((evI i p).map V.int)):=S4 _ _ hd2 hdb
   have ep:evI i p=evI i (fun j=>if j=i then decide (r=1) else p j):=Fn fun j hj=>by rw[if_neg (by omega)]
   refine Xc (fun h=>?_) (fun h=>?_)
   ·have h0:r=1:=by
     have:=of_decide_eq_true h
     injection this
    refine⟨_,rfl,hd4,fun j=>if j=i then decide (r=1) else p j,?_,(B4.upd (Ne.symm hdb)).mono (by omega),?_⟩
    ·rw[V5,if_pos (by simp[h0]),List.map_append,← ep]
     rfl
    ·exact fun q o e ne=>by
      have e2:=S4 q o (S2 q o e ne) ne
      rw[Zb (Z8 (S1 q o e ne) hd)]
      exact e2
   ·have h0:¬ r=1:=fun z=>h (decide_eq_true (by rw[z]))
    refine⟨hd4,fun j=>if j=i then decide (r=1) else p j,?_,B4.mono (by omega),S2.trans S4⟩
    rw[V5,if_neg (by simp[h0]),List.append_nil,← ep]
  ·rintro ys H2 ⟨p,rfl,B2,S2⟩ hd2
   refine⟨Nat.le_refl _,d,_,rfl,.inl ⟨SqL.of hd2,fun l hl'=>?_⟩⟩
   have S3:Same H2 (upd H2 l (.tup ((evI c p).map V.int))):=Same.new hl'
   exact k _ _ (some p) ((B2.same S3).mono (by omega)) (S2.trans (SameX.of S3)) ⟨l,rfl,SqT.of Z7⟩
end
open Sv (sm Zn X1 Y5 sm_zero Zw Zx Wc)
theorem Js {rss:List (List Rat)}{k:Nat}(hk:k<rss.length):AOf rss k=rowF rss[k]:=by
 funext v
 unfold AOf rowF
 simp[List.getD,hk]
theorem Z1j {c n:Nat}{Us:List Int}{rs:List Rat}(lU:Us.length=c)(hl:rs.length=c)(fit:FitR n Us rs):sm c (fun w=>Us.getD w 0*rowF rs w)<=0:=by
 obtain⟨D,Zs,rp,hz⟩:=fit
 rw[Yv c _ _ lU (by rw[rp.len];exact hl)] at hz
 have e:D*sm c (fun w=>Us.getD w 0*rowF rs w)=lcmB rs*sm c (fun w=>Us.getD w 0*Zs.getD w 0):=by
  rw[← Y5,← Y5]
  refine Zn fun w hw=>?_
  have:=M4 rp (v:=w) (by omega)
  grind
 have lp:=rp.least.pos
 apply Classical.byContradiction
 intro z
 have p1:=Int.mul_pos rp.pos (show 0<sm c (fun w=>Us.getD w 0*rowF rs w) by omega)
 rw[e] at p1
 have:=Int.mul_nonpos_of_nonneg_of_nonpos (show 0<=lcmB rs by omega) hz
 omega
theorem Py {Us:List Int}(nn:∀ U∈Us,0<=U)(w:Nat):0<=Us.getD w 0:=by
 by_cases q:w<Us.length
 ·have:Us.getD w 0=Us[w]:=by simp[List.getD,q]
  rw[this]
  exact nn _ (List.getElem_mem q)
 ·have:Us.getD w 0=0:=by simp[List.getD,q]
  omega
theorem MostT.dual {c n:Nat}{rss:List (List Rat)}{o:Option (Nat->Bool)}{gs:List Rat}{T:Sv.Tab}{Us:List Int}(h:MostT c rss o gs T)(lU:Us.length=c)(nn:∀ U∈Us,0<=U)(len:∀ rs∈rss,rs.length=c)(fit:∀ rs∈rss,FitR n Us rs) :
  sm c (fun w=>Us.getD w 0*rowF gs w)*T.b<=-T.L (rss.length+1) c*sm c (fun w=>Us.getD w 0*rowF (papR c o) w):=by
 have M:=h.sv
 have f1:∀ k,k<rss.length->sm c (fun w=>Us.getD w 0*AOf rss k w)<=0:=fun k hk=>by
  rw[Js hk]
  exact Z1j lU (len _ (List.getElem_mem hk)) (fit _ (List.getElem_mem hk))
 have a1:sm c (fun w=>Us.getD w 0*(rowF gs w*T.b))<=sm c (fun w=>Us.getD w 0*(sm rss.length (fun k=>AOf rss k w * -Sv.numAt c T (rss.length+1) (c+k))+rowF (papR c o) w * -T.L (rss.length+1) c)):=Wc fun w hw=>Int.mul_le_mul_of_nonneg_left (M.show_ w hw) (Py nn w)
 have a2:sm c (fun w=>Us.getD w 0*(sm rss.length (fun k=>AOf rss k w * -Sv.numAt c T (rss.length+1) (c+k))+rowF (papR c o) w * -T.L (rss.length+1) c))=sm rss.length (fun k=>-Sv.numAt c T (rss.length+1) (c+k)*sm c (fun w=>Us.getD w 0*AOf rss k w)) + -T.L (rss.length+1) c*sm c (fun w=>Us.getD w 0*rowF (papR c o) w):=by
  have b0:sm c (fun w=>Us.getD w 0*(sm rss.length (fun k=>AOf rss k w * -Sv.numAt c T (rss.length+1) (c+k))+rowF (papR c o) w * -T.L (rss.length+1) c))=sm c (fun w=>sm rss.length (fun k=>-Sv.numAt c T (rss.length+1) (c+k)*(Us.getD w 0*AOf rss k w)) + -T.L (rss.length+1) c*(Us.getD w 0*rowF (papR c o) w)):=Zn fun w _=>by
   rw[Int.mul_add,← Y5]
   congr 1
   ·exact Zn fun k _=>by grind
   ·grind
  rw[b0,X1,Y5,Sv.sm_comm]
  congr 1
  exact Zn fun k _=>Y5 _ _ _
 have a3:sm rss.length (fun k=>-Sv.numAt c T (rss.length+1) (c+k)*sm c (fun w=>Us.getD w 0*AOf rss k w))<=0:=by
  have:=Wc (n:=rss.length) (f:=fun k=>-Sv.numAt c T (rss.length+1) (c+k)*sm c (fun w=>Us.getD w 0*AOf rss k w)) (g:=fun _=>0) fun k hk=>Int.mul_nonpos_of_nonneg_of_nonpos (by have:=M.y0 k hk;omega) (f1 k hk)
  rw[sm_zero (f:=fun _=>0) fun _ _=>rfl] at this
  exact this
 have a4:sm c (fun w=>Us.getD w 0*(rowF gs w*T.b))=sm c (fun w=>Us.getD w 0*rowF gs w)*T.b:=by
  rw[Int.mul_comm _ T.b,← Y5]
  exact Zn fun w _=>by grind
 omega
theorem Vr {c n n':Nat}{D D':Int}{Us Zs:List Int}{us rs:List Rat}(hu:RepL n D Us us)(hr:RepL n' D' Zs rs)(lu:us.length=c)(lr:rs.length=c) :
  (sumR (List.zipWith mulR' us rs)).1*(D*lcmB rs)=sm c (fun w=>Us.getD w 0*rowF rs w)*(sumR (List.zipWith mulR' us rs)).2/\Low (sumR (List.zipWith mulR' us rs)):=by
 have hw:=hr.least
 obtain⟨e,lo⟩:=(hu.mul hw (by omega)).sum
 refine⟨?_,lo⟩
 have e2:(List.zipWith (·*·) Us (wholeB rs (lcmB rs))).sum=sm c (fun w=>Us.getD w 0*rowF rs w):=by
  rw[Yv c _ _ (by rw[hu.len];exact lu) (by rw[hw.len];exact lr)]
  rfl
 rw[← e2]
 exact e
theorem Jw {c n:Nat}{rss:List (List Rat)}{o:Option (Nat->Bool)}{gs:List Rat}{T:Sv.Tab}{D:Int}{Zs:List Int}(h:MostT c rss o gs T)(rg:RepL n D Zs gs) :
  (valueR c rss.length gs T).1*(lcmB gs*T.b)=-T.L (rss.length+1) c*(valueR c rss.length gs T).2/\Low (valueR c rss.length gs T):=by
 have I:=h.inv
 have ok:=TabOk.of I
 have p2:=Int.mul_pos rg.least.pos I.pos
 have ev:(valueR c rss.length gs T).1*(lcmB gs*T.b)=-Sv.endOf (rss.length+2) c T (c+rss.length+1)*(valueR c rss.length gs T).2:=Ys _ _
 rw[← h.aim,ok.endO (by omega)] at ev
 exact⟨ev,X8 (by omega)⟩
theorem MostT.notless {c n m n':Nat}{rss:List (List Rat)}{o:Option (Nat->Bool)}{gs us:List Rat}{T:Sv.Tab}{D D':Int}{Us Zs:List Int}(h:MostT c rss o gs T)(lg:gs.length=c)(rg:RepL n' D' Zs gs)(ru:RepL m D Us us)(lu:us.length=c)(nn:∀ U∈Us,0<=U)(len:∀ rs∈rss,rs.length=c)(fit:∀ rs∈rss,FitR n Us rs) :
  0<=(subR (mulR' (valueR c rss.length gs T) (sumR (List.zipWith mulR' us (papR c o)))) (sumR (List.zipWith mulR' us gs))).1:=by
 have d:=h.dual (by rw[ru.len];exact lu) nn len fit
 obtain⟨ev,lv⟩:=Jw h rg
 obtain⟨es,ls⟩:=Vr ru (Yt c o) lu (X6 c o)
 obtain⟨eg,lgo⟩:=Vr ru rg lu lg
 rw[Wz] at es
 have bp:=h.inv.pos
 have lp:=rg.least.pos
 have dp:=ru.pos
 generalize valueR c rss.length gs T=va at *
 generalize sumR (List.zipWith mulR' us (papR c o))=sh at *
 generalize sumR (List.zipWith mulR' us gs)=du at *
 generalize sm c (fun w=>Us.getD w 0*rowF (papR c o) w)=S at *
 generalize sm c (fun w=>Us.getD w 0*rowF gs w)=G at *
 generalize -T.L (rss.length+1) c=V at *
 generalize lcmB gs=L at *
 have m1:=Ul lv.pos ls.pos ev es
 have m2:(mulR' va sh).1*(L*T.b*D)=V*S*(mulR' va sh).2:=by
  rw[Int.mul_one] at m1
  exact m1
 have m3:du.1*(L*T.b*D)=G*T.b*du.2:=by
  have h1:du.1*(L*T.b*D)=du.1*(D*L)*T.b:=by grind
  rw[h1,eg]
  grind
 have m4:=Vz (W5 lv ls).pos lgo.pos m2 m3
 have px:0<L*T.b*D:=Int.mul_pos (Int.mul_pos lp bp) dp
 exact ((Yc px (Vc (W5 lv ls) lgo).pos m4).1).mpr (by omega)
theorem Vv {c m n:Nat}{D:Int}{Us:List Int}{us rs:List Rat}(ru:RepL m D Us us)(lu:us.length=c)(lr:rs.length=c)(rr:∃ D Zs,RepL n D Zs rs)(h:(sumR (List.zipWith mulR' us rs)).1<=0):FitR n Us rs:=by
 obtain⟨D',Zs,rr⟩:=rr
 refine⟨D',Zs,rr,?_⟩
 obtain⟨e,lo⟩:=(ru.mul rr (by omega)).sum
 exact ((Yc (Int.mul_pos ru.pos rr.pos) lo.pos e).2.1).mp h
theorem Wi {m:Nat}{D:Int}{Us:List Int}{us:List Rat}(ru:RepL m D Us us)(nn:∀ r∈us,0<=r.1):∀ U∈Us,0<=U:=fun U hU=>by
 obtain⟨i,hi⟩:=List.getElem?_of_mem hU
 have hl:i<us.length:=by have:=(List.getElem?_eq_some_iff.mp hi).1;have:=ru.len;omega
 have er:us[i]?=some us[i]:=by simp[hl]
 obtain⟨e,_,lo⟩:=ru.at_ i U us[i] hi er
 exact ((Yc ru.pos lo.pos e).1).mp (nn _ (List.getElem_mem hl))
theorem NoneT.noloads {c n N:Nat}{rss rss':List (List Rat)}{o:Option (Nat->Bool)}{gs as ls:List Rat}{va:Rat}{T:Sv.Tab}(h:NoneT c rss o gs T)(hrs:∀ rs∈rss,rs.length=c/\∃ D Ws,RepL n D Ws rs)(ok:LoadsOk c rss' o as N ls va)(sub:∀ rs∈rss,rs∈rss'):False:=by
 obtain⟨D,Ls,rL⟩:=ok.rep
 have nnL:=Wi rL ok.nn
 have lL:Ls.length=c:=by rw[rL.len];exact ok.len
 have s0:=h.share lL nnL (fun rs hr=>(hrs rs hr).1) fun rs hr=>Vv rL ok.len (hrs rs hr).1 (hrs rs hr).2 (ok.fit rs (sub rs hr))
 obtain⟨e,lo⟩:=(rL.mul (Yt c o) (by rw[X6];exact ok.len)).sum
 have e1:(sumR (List.zipWith mulR' ls (papR c o))).1=0:=((Yc (Int.mul_pos rL.pos (by decide)) lo.pos e).2.2).mpr s0
 rw[ok.lie] at e1
 exact absurd e1 (by decide)
theorem Qu {a b:Rat}(ha:Low a)(hb:Low b)(h:0<=(subR a b).1):b.1*a.2<=a.1*b.2:=by
 have e:=Ys (a.1*b.2 - b.1*a.2) (a.2*b.2)
 have p:=Int.mul_pos ha.pos hb.pos
 have q:=(Vc ha hb).pos
 have:=((Yc (r:=subR a b) p q e).1).mp h
 omega
end Sb
namespace Sb
open PySem L2
open Sv (sm Zn X1 Y5 sm_zero Zw Zx Wc)
theorem Z3b {N i:Nat}{f:Nat->Int}(h:∀ j,j<i->Bd N (f j))(hi:i<=1000):Bd (N+10) (sm i f):=by
 have h1:=Sv.sm_abs (n:=i) (M:=2 ^ N) (f:=f) fun j hj=>Nat.le_of_lt (h j hj)
 have h2:i*2 ^ N<=1000*2 ^ N:=Nat.mul_le_mul_right _ hi
 have h3:2 ^ (N+10)=1024*2 ^ N:=by rw[Nat.pow_add,Nat.mul_comm]
 have h4:=Nat.two_pow_pos N
 show (sm i f).natAbs<2 ^ (N+10)
 omega
structure ComeR (c n N:Nat)(rss:List (List Rat))(ms:List Rat)(D:Int)(E:Nat->Nat->Int):Prop where
 pos:0<D
 bD:Bd N D
 len:∀ rs∈rss,rs.length=c
 lm:ms.length=rss.length
 gr:∀ rs∈rss,∀ r∈rs,Good n r
 gm:∀ m∈ms,Good n m
 at_:∀ (j k:Nat) (rs:List Rat) (r m:Rat),rss[j]?=some rs->rs[k]?=some r->ms[j]?=some m->(mulR' r m).1*D=E j k*(mulR' r m).2/\Bd N (E j k)
def comeE (c g:Nat)(E:Nat->Nat->Int):List Int:=(List.range c).map fun k=>sm g (fun j=>E j k)
theorem Td {c g k:Nat}{E:Nat->Nat->Int}(hk:k<c):(comeE c g E)[k]?=some (sm g (fun j=>E j k)):=by
 unfold comeE
 simp[hk]
theorem Z3u {c N:Nat}{D:Int}{E:Nat->Nat->Int}(pos:0<D)(bD:Bd N D):RepL (N+10) D (comeE c 0 E) (List.replicate c (0,1)):=by
 refine⟨pos,bD.mono (by omega),by unfold comeE;simp,fun i W r hW hr=>?_⟩
 have h2:=List.eq_of_mem_replicate (List.mem_of_getElem? hr)
 subst h2
 have hi:i<c:=by have:=(List.getElem?_eq_some_iff.mp hr).1;simpa using this
 rw[Td hi] at hW
 cases hW
 refine⟨?_,bd0 _,Uy⟩
 show (0:Int)*D=0*1
 omega
theorem Fr {c n N g:Nat}{rss:List (List Rat)}{ms:List Rat}{D:Int}{E:Nat->Nat->Int}{cs ns:List Rat}{rs:List Rat}{m:Rat}(h:ComeR c n N rss ms D E)(hg:g<rss.length)(hg2:rss.length<=1000)(er:rss[g]?=some rs)(em:ms[g]?=some m)(rc:RepL (N+10) D (comeE c g E) cs)(ln:ns.length=c)(hn:∀ (k:Nat) (r x:Rat),cs[k]?=some x->rs[k]?=some r->ns[k]?=some (addR x (mulR' r m))):RepL (N+10) D (comeE c (g+1) E) ns:=by
 refine⟨h.pos,h.bD.mono (by omega),by unfold comeE;simp[ln],fun k W z hW hz=>?_⟩
 have hk:k<c:=by have:=(List.getElem?_eq_some_iff.mp hz).1;omega
 have lc:cs.length=c:=by rw[← rc.len];unfold comeE;simp
 have lr:=h.len rs (List.mem_of_getElem? er)
 have ex:cs[k]?=some (cs[k]'(by omega)):=by simp
 have ey:rs[k]?=some (rs[k]'(by omega)):=by simp
 have e:=hn k _ _ ex ey
 rw[e] at hz
 cases hz
 rw[Td hk] at hW
 cases hW
 obtain⟨a1,_,a3⟩:=rc.at_ k _ _ (Td hk) ex
 obtain⟨b1,_⟩:=h.at_ g k rs _ m er ey em
 have gr:=h.gr rs (List.mem_of_getElem? er) _ (List.mem_of_getElem? ey)
 have gm:=h.gm m (List.mem_of_getElem? em)
 have lm:=W5 gr.low gm.low
 refine⟨?_,Z3b (fun j hj=>?_) (by omega),Sq a3 lm⟩
 ·exact Um a3.pos lm.pos a1 b1
 ·have hj':j<rss.length:=by omega
  have e1:rss[j]?=some rss[j]:=by simp[hj']
  have l1:=h.len rss[j] (List.getElem_mem hj')
  have e2:rss[j][k]?=some (rss[j][k]'(by omega)):=by simp
  have e3:ms[j]?=some (ms[j]'(by have:=h.lm;omega)):=by simp
  exact (h.at_ j k _ _ _ e1 e2 e3).2
theorem N1 {c:Nat}{rss:List (List Rat)}{T:Sv.Tab}{i j:Nat}{b:Int}(hj:j<rss.length):(multR c rss T i b)[j]?=some (nrm (-(Sv.numAt c T i (c+j))*lcmB rss[j]) (b*T.b)):=by
 unfold multR
 simp[List.getD,hj]
theorem Vp {c:Nat}{rss:List (List Rat)}{T:Sv.Tab}{i:Nat}{b:Int}:(multR c rss T i b).length=rss.length:=by unfold multR;simp
theorem Gy {c n N i:Nat}{rss:List (List Rat)}{T:Sv.Tab}{b:Int}(hrs:∀ rs∈rss,rs.length=c/\∃ D Ws,RepL n D Ws rs)(pos:0<T.b)(ok:TabOk (rss.length+2) c T)(bd:TabBd N (rss.length+2) c T)(hi:i<rss.length+2)(hb:0<b)(bb:Bd n b):ComeR c (n+N) (n+N) rss (multR c rss T i b) (b*T.b) (fun j k=>AOf rss j k * -Sv.numAt c T i (c+j)):=by
 have p2:=Int.mul_pos hb pos
 refine⟨p2,bb.mul bd.b,fun rs hr=>(hrs rs hr).1,Vp,fun rs hr r hr'=>?_,fun m hm=>?_,fun j k rs r m er ek em=>?_⟩
 ·obtain⟨_,D,Ws,rp⟩:=hrs rs hr
  exact (rp.good r hr').mono (by omega)
 ·obtain⟨j,hj⟩:=List.getElem?_of_mem hm
  have hjl:j<rss.length:=by have:=(List.getElem?_eq_some_iff.mp hj).1;rw[Vp] at this;exact this
  rw[N1 hjl] at hj
  cases hj
  obtain⟨_,D,Ws,rp⟩:=hrs _ (List.getElem_mem hjl)
  have b1:=((ok.numBd bd hi (c+j)).neg).mul rp.least.bD
  rw[Nat.add_comm] at b1
  exact Rp b1 (bb.mul bd.b) (by omega)
 ·have hj:j<rss.length:=(List.getElem?_eq_some_iff.mp er).1
  have e0:rss[j]=rs:=by rw[List.getElem?_eq_getElem hj] at er;exact Option.some.inj er
  rw[N1 hj] at em
  cases em
  obtain⟨_,D,Ws,rp⟩:=hrs rs (List.mem_of_getElem? er)
  have ea:AOf rss j k=rowF rs k:=by rw[Js hj,e0]
  rw[ea,e0]
  have hk:k<rs.length:=(List.getElem?_eq_some_iff.mp ek).1
  have ew:(wholeB rs (lcmB rs))[k]?=some (rowF rs k):=by
   rw[Vy ek]
   unfold wholeB
   rw[List.getElem?_map,ek]
   rfl
  obtain⟨a1,a2,a3⟩:=rp.least.at_ k _ _ ew ek
  have lp:=rp.least.pos
  have lo:=X8 (p:=-(Sv.numAt c T i (c+j))*lcmB rs) (q:=b*T.b) (by omega)
  have e:=Ul a3.pos lo.pos a1 (Ys (-(Sv.numAt c T i (c+j))*lcmB rs) (b*T.b))
  refine⟨?_,(a2.mul (ok.numBd bd hi (c+j)).neg)⟩
  have e':lcmB rs*((mulR' r (nrm (-(Sv.numAt c T i (c+j))*lcmB rs) (b*T.b))).1*(b*T.b))=lcmB rs*(rowF rs k * -(Sv.numAt c T i (c+j))*(mulR' r (nrm (-(Sv.numAt c T i (c+j))*lcmB rs) (b*T.b))).2):=by
   have h1:lcmB rs*((mulR' r (nrm (-(Sv.numAt c T i (c+j))*lcmB rs) (b*T.b))).1*(b*T.b))=(mulR' r (nrm (-(Sv.numAt c T i (c+j))*lcmB rs) (b*T.b))).1*(lcmB rs*(b*T.b)):=by grind
   rw[h1]
   refine e.trans ?_
   show rowF rs k*(-(Sv.numAt c T i (c+j))*lcmB rs)*(mulR' r (nrm (-(Sv.numAt c T i (c+j))*lcmB rs) (b*T.b))).2=_
   grind
  exact Int.eq_of_mul_eq_mul_left (by omega) e'
theorem Z19 {c i n:Nat}{rss:List (List Rat)}{T:Sv.Tab}{b:Int}(hrs:∀ rs∈rss,rs.length=c/\∃ D Ws,RepL n D Ws rs)(pos:0<T.b)(hb:0<b)(h:∀ k,k<rss.length->Sv.numAt c T i (c+k)<=0):∀ m∈multR c rss T i b,0<=m.1:=fun m hm=>by
 have p2:=Int.mul_pos hb pos
 obtain⟨j,hj⟩:=List.getElem?_of_mem hm
 have hjl:j<rss.length:=by have:=(List.getElem?_eq_some_iff.mp hj).1;rw[Vp] at this;exact this
 rw[N1 hjl] at hj
 cases hj
 obtain⟨_,D,Ws,rp⟩:=hrs _ (List.getElem_mem hjl)
 have lp:=rp.least.pos
 have y:=h j hjl
 refine ((Yc p2 (X8 (by omega)).pos (Ys (-(Sv.numAt c T i (c+j))*lcmB rss[j]) (b*T.b))).1).mpr ?_
 exact Int.mul_nonneg (by omega) (by omega)
theorem NoneT.shows {c N:Nat}{rss:List (List Rat)}{o:Option (Nat->Bool)}{gs cs:List Rat}{T:Sv.Tab}(h:NoneT c rss o gs T)(rc:RepL N (1*T.b) (comeE c rss.length (fun j k=>AOf rss j k * -Sv.numAt c T rss.length (c+j))) cs){k:Nat}{r:Rat}(hk:k<c)(e:cs[k]?=some r):r.2*(if inE o k then 1 else 0)<=r.1:=by
 obtain⟨_,h2⟩:=h.sv
 obtain⟨a1,_,a3⟩:=rc.at_ k _ _ (Td hk) e
 have s:=h2 k hk
 rw[C3 hk,Wz] at s
 have bp:=h.inv.pos
 have rp:=a3.pos
 rw[Int.one_mul] at a1
 generalize sm rss.length (fun j=>AOf rss j k * -Sv.numAt c T rss.length (c+j))=Y at *
 generalize (if inE o k then (1:Int) else 0)=u at *
 apply Classical.byContradiction
 intro z
 have h3:r.1*T.b<r.2*u*T.b:=Int.mul_lt_mul_of_pos_right (by omega) bp
 rw[a1] at h3
 have h4:u*T.b*r.2<=Y*r.2:=Int.mul_le_mul_of_nonneg_right s (by omega)
 have h5:r.2*u*T.b=u*T.b*r.2:=by grind
 omega
end Sb
namespace Sb
open PySem L2
open Sv (sm Zn X1 Y5 sm_zero Zw Zx Wc)
end Sb
namespace Sb
open PySem L2
open Sv (sm Zn X1 Y5 sm_zero Zw Zx Wc)
theorem LoadsOk.dot {c n N:Nat}{rss:List (List Rat)}{o:Option (Nat->Bool)}{as ls rs:List Rat}{va:Rat}{D D':Int}{Ls Zs:List Int}(h:LoadsOk c rss o as N ls va)(rL:RepL N D Ls ls)(hm:rs∈rss)(hl:rs.length=c)(rr:RepL n D' Zs rs):sm c (fun w=>Ls.getD w 0*Zs.getD w 0)<=0:=by
 obtain⟨e,lo⟩:=(rL.mul rr (by rw[h.len];omega)).sum
 have f:=h.fit rs hm
 have:=((Yc (Int.mul_pos rL.pos rr.pos) lo.pos e).2.1).mp f
 rw[Yv c _ _ (by rw[rL.len];exact h.len) (by rw[rr.len];exact hl)] at this
 exact this
theorem Bx {c k:Nat}{Ls Zs:List Int}(nL:∀ w,0<=Ls.getD w 0)(nZ:∀ w,0<=Zs.getD w 0)(h:sm c (fun w=>Ls.getD w 0*Zs.getD w 0)<=0)(hk:k<c)(pz:0<Zs.getD k 0):Ls.getD k 0=0:=by
 rw[Zx hk] at h
 have p2:0<=sm c (fun i=>if i=k then 0 else Ls.getD i 0*Zs.getD i 0):=Zw fun i hi=>by
  split
  ·exact Int.le_refl _
  ·exact Int.mul_nonneg (nL i) (nZ i)
 apply Classical.byContradiction
 intro z
 have:=Int.mul_pos (show 0<Ls.getD k 0 by have:=nL k;omega) pz
 omega
end Sb
namespace Sb
open PySem L2
open Sv (sm Zn X1 Y5 sm_zero Zw Zx Wc)
end Sb
namespace Sb
open PySem PySem.Spec PyProof.Rows L2
section
variable {X:Cx}{K:W.Frag}
end
end Sb
namespace Sb
open PySem L2
section
variable {P:Program}{w:World}{K:W.Frag}{mg:Str->Option Value}{base:Heap}
theorem Kq:FnScope ["one","other"] ["one","other"] (defScope lM):=fsc
theorem Z0x (D:Def K mg "minus" lM ["one","other"])(fD:Has P w K mg base 2 "lowest" ["top","bottom"] eI):Has P w K mg base 3 "minus" ["one","other"] (eK K subR):=by
 refine D.has fun f fd F=>F.ok Kq (fun vs H Q E h=>?_) (fun cdv A outer s H vs Q E hr h=>?_)
 ·obtain⟨a,b,r,s,n,rfl,_⟩:=h
  rfl
 ·obtain⟨a,b,r,s,n,rfl,hA,hB,gr,gs,hn,k⟩:=h
  have sc:=Kq
  refine⟨_,(Z9 (Zf (Zc fD hr (Z0 (Zh Vn (Zh Zv (Ze Xg (pv 0) Z5 (fun _ _=>rfl)) (Ze Yq (pv 1) Z5 (fun _ _=>rfl))) (Zh Zv (Ze Xg (pv 1) Z5 (fun _ _=>rfl)) (Ze Yq (pv 0) Z5 (fun _ _=>rfl)))) (Z0 (Zh Zv (Ze Yq (pv 0) Z5 (fun _ _=>rfl)) (Ze Yq (pv 1) Z5 (fun _ _=>rfl))) Z4))))),?_⟩
  exact⟨_,rfl,_,_,_,rfl,rfl,hA,_,rfl,_,_,_,rfl,rfl,hB,_,_,rfl,rfl,gr.b1.mulOk gs.b2 (by omega) (by omega),_,rfl,_,_,_,rfl,rfl,hB,_,rfl,_,_,_,rfl,rfl,hA,_,_,rfl,rfl,gs.b1.mulOk gr.b2 (by omega) (by omega),_,_,rfl,rfl,_,rfl,_,_,_,rfl,rfl,hA,_,rfl,_,_,_,rfl,rfl,hB,_,_,rfl,rfl,gr.b2.mulOk gs.b2 (by omega) (by omega),_,_,rfl,Wu gr.pos gs.pos,U2 gr.b2 gs.b2 hn,k⟩
end
def ConI (mg:Str->Option Value)(x:Str)(i:Int):Prop:=∃ t,mg x=some (Value.int i t)
theorem Su {K:W.Frag}{h:Heap}{mg:Str->Option Value}{x:Str}{i:Int}{t:Tok}(X:K.In h)(G:h.Ns mainGlobals mg)(e:W.nsIn K mainGlobals x=some (some (.int i t))):ConI mg x i:=⟨t,W.mg_of X G e⟩
structure Offr where
 row:List Rat
 ask:Option Rat
 bid:Option Rat
 ev:Option (Nat->Bool)
def MayAt (K:W.Frag)(H:Hp)(o:Option Rat)(v:V):Prop:=match o with
 | none=>v=.non
 | some r=>IsR K H r v
theorem MayAt.ext {K:W.Frag}{H H':Hp}{o:Option Rat}{v:V}(h:MayAt K H o v)(e:Ext H H'):MayAt K H' o v:=by
 cases o with
 | none=>exact h
 | some r=>exact IsR.ext h e
def OffAt (K:W.Frag)(H:Hp)(c:Nat)(o:Offr)(v:V):Prop:=∃ (p a:Addr) (va vb ve:V),v=.ref p/\SqT K H p [.ref a,va,vb,ve]/\RowAt K H a o.row/\o.row.length=c/\MayAt K H o.ask va/\MayAt K H o.bid vb/\EvAt K H c o.ev ve
theorem OffAt.ext {K:W.Frag}{H H':Hp}{c:Nat}{o:Offr}{v:V}(h:OffAt K H c o v)(e:Ext H H'):OffAt K H' c o v:=by
 obtain⟨p,a,va,vb,ve,h0,h1,h2,h3,h4,h5,h6⟩:=h
 exact⟨p,a,va,vb,ve,h0,e.sq h1,h2.ext e,h3,h4.ext e,h5.ext e,h6.ext e⟩
theorem OffAt.same {K:W.Frag}{H H':Hp}{c:Nat}{o:Offr}{v:V}(h:OffAt K H c o v)(e:Same H H'):OffAt K H' c o v:=h.ext (Ext.same e)
structure GoodO (n:Nat)(o:Offr):Prop where
 row:∀ r∈o.row,Good n r
 ask:∀ r,o.ask=some r->Good n r
 bid:∀ r,o.bid=some r->Good n r
def gainR (o:Offr)(buy:Bool):List Rat:=cutR o.ev (o.row.map fun r=>if buy then subR r (o.ask.getD (0,1)) else subR (o.bid.getD (0,1)) r)
def priceO (o:Offr)(buy:Bool):Option Rat:=if buy then o.ask else o.bid
def wordO (buy:Bool):Str:=if buy then "buy" else "sell"
theorem P0 (o:Offr)(buy:Bool):(gainR o buy).length=o.row.length:=by unfold gainR;rw[Yb,List.length_map]
section
variable {P:Program}{w:World}{K:W.Frag}{mg:Str->Option Value}{base:Heap}
def i9 (K:W.Frag):Sp:=fun vs H Q _=>∃ (v:V) (c n:Nat) (o:Offr) (buy:Bool) (pr:Rat),vs=[v,.str (wordO buy)]/\OffAt K H c o v/\c<=1000/\GoodO n o/\n<=4000/\priceO o buy=some pr ∧
 ∀ p H',Same H H'->RowAt K H' p (gainR o buy)->Q (.ref p) H'
theorem Dk:FnScope ["offer","word","worths"] ["offer","word"] (defScope l9):=fsc
theorem Z2p (D:Def K mg "gain" l9 ["offer","word"])(T:Blt mg)(fJ:Has P w K mg base 3 "minus" ["one","other"] (eK K subR))(jG:Has P w K mg base 2 "cut" ["row","event"] (iS K))(jX:ConI mg "ROW" 0)(jT:ConI mg "ASK" 1)(jS:ConI mg "BID" 2)(jR:ConI mg "EVENT" 3) :
  Has P w K mg base 4 "gain" ["offer","word"] (i9 K):=by
 refine D.has fun f fd F=>F.ok Dk (fun vs H Q E h=>?_) (fun cdv A outer s H vs Q E hr h=>?_)
 ·obtain⟨v,c,n,o,buy,pr,rfl,_⟩:=h
  rfl
 ·obtain⟨v,c,n,o,buy,pr,rfl,⟨p,a,va,vb,ve,rfl,hp,hR,hl,hA,hB,hE⟩,hc,g,hn,hpr,k⟩:=h
  obtain⟨t0,m_ROW⟩:=jX
  obtain⟨t1,m_ASK⟩:=jT
  obtain⟨t2,m_BID⟩:=jS
  obtain⟨t3,m_EVENT⟩:=jR
  obtain⟨xs,hxs,hrs⟩:=hR
  have lx:=hrs.len
  have sc:=Dk
  have nd1:(["worth","offer"]:List Str).Nodup:=by decide +kernel
  have nd2:(["worth","offer"]:List Str).Nodup:=by decide +kernel
  refine⟨_,(Z6 (Yd (Zi Xu (pv 1) Xl (Zp _))
    (Z9 (Wn (i:=2) (N:=["worth","offer"]) (k:=1) (fv:=[0]) sc.nd rfl (Or.inl rfl) rfl (Ti (Ze Yg (pv 0) (Yj (v:=.int 0) rfl m_ROW ⟨_,rfl⟩) (fun _ _=>rfl)))
   (fun _ _ _ _ _=>Zl (i:=0) nd1 rfl (Or.inl rfl)) (fun _ _ _ _ _=>Yh) (fun _ _ _ _ _=>(Zc fJ hr (Z0 (pv 0) (Z0 (Ze (Rw (K:=K)) (pv 1) (Yj (v:=.int 1) rfl m_ASK ⟨_,rfl⟩) (fun _ _=>rfl)) Z4)))) Y2))
    (Z9 (Wn (i:=2) (N:=["worth","offer"]) (k:=1) (fv:=[0]) sc.nd rfl (Or.inl rfl) rfl (Ti (Ze Yg (pv 0) (Yj (v:=.int 0) rfl m_ROW ⟨_,rfl⟩) (fun _ _=>rfl)))
   (fun _ _ _ _ _=>Zl (i:=0) nd2 rfl (Or.inl rfl)) (fun _ _ _ _ _=>Yh) (fun _ _ _ _ _=>(Zc fJ hr (Z0 (Ze (Rw (K:=K)) (pv 1) (Yj (v:=.int 2) rfl m_BID ⟨_,rfl⟩) (fun _ _=>rfl)) (Z0 (pv 0) Z4)))) Y2)))
   (Z9 (Zf (Zc jG hr (Z0 (Y4 Zz rfl T.tuple PyProof.Rows.boot_tuple (Z0 (pv 2) Z4)) (Z0 (Ze Yg (pv 0) (Yj (v:=.int 3) rfl m_EVENT ⟨_,rfl⟩) (fun _ _=>rfl)) Z4)))))),?_⟩
  cases buy with
  | true =>
   replace hpr:o.ask=some pr:=hpr
   have kk:=k
   unfold gainR at kk
   rw[hpr] at hA kk
   obtain⟨b,rfl,hb⟩:=hA
   refine⟨_,rfl,rfl,_,rfl,Qx rfl ?_⟩
   refine⟨_,rfl,p,_,_,_,rfl,rfl,hp,Zd (j:=0) rfl,a,rfl,⟨_,hxs⟩,fun d hd=>?_⟩
   refine⟨o.row.length,fun i ys H2=>Same H H2/\Rs K H2 ((o.row.map fun r=>subR r pr).take i) ys,Zq (by omega),⟨Same.new hd,.nil⟩,?_,?_⟩
   ·rintro i ys H2 hi ⟨S2,R2⟩ hd2
    refine⟨⟨xs,xs[i]'(by omega),Zo S2 hxs,by simp⟩,?_⟩
    rintro x H3 ⟨rfl,fx⟩
    obtain⟨r,er,ix⟩:=hrs.back (fx xs (Zo S2 hxs))
    obtain⟨a1,rfl,sq1⟩:=ix.ext (Ext.same S2)
    refine Yo ?_
    refine⟨_,rfl,_,rfl,p,_,_,_,rfl,rfl,Zo S2 hp,Zd (j:=1) rfl,a1,b,r,pr,n,rfl,sq1,Zo S2 hb,g.row r (List.mem_of_getElem? er),g.ask pr hpr,hn,fun c4 H4 f4 S4 e4=>?_⟩
    have hd4:=S4 _ _ hd2
    refine⟨hd4,fun q o' e=>?_,?_⟩
    ·rw[Zb (Z8 e hd)]
     exact S4 _ _ (S2 _ _ e)
    ·rw[Wv _ er]
     exact (R2.ext ((Ext.same S4).trans (Ext.upd hd4))).snoc ⟨c4,rfl,(Ext.upd hd4).sq (SqT.of e4)⟩
   ·rintro ys H2 ⟨S2,R2⟩ hd2
    rw[List.take_of_length_le (by rw[List.length_map];omega)] at R2
    refine⟨⟨xs,Zo S2 hxs,by omega⟩,_,rfl,d,ys,rfl,.inl ⟨SqL.of hd2,fun l hl'=>?_⟩⟩
    have S3:Same H2 (upd H2 l (.tup ys)):=Same.new hl'
    refine⟨_,rfl,p,_,_,_,rfl,rfl,Zo (S2.trans S3) hp,Zd (j:=3) rfl,l,ve,_,o.ev,rfl,⟨ys,SqT.of Z7,R2.ext (Ext.same S3)⟩,?_,by rw[List.length_map];omega,fun p' H' S' R'=>kk p' H' ((S2.trans S3).trans S') R'⟩
    rw[List.length_map,hl]
    exact hE.same (S2.trans S3)
  | false =>
   replace hpr:o.bid=some pr:=hpr
   have kk:=k
   unfold gainR at kk
   rw[hpr] at hB kk
   obtain⟨b,rfl,hb⟩:=hB
   refine⟨_,rfl,rfl,_,rfl,Qy (by decide) ?_⟩
   refine⟨_,rfl,p,_,_,_,rfl,rfl,hp,Zd (j:=0) rfl,a,rfl,⟨_,hxs⟩,fun d hd=>?_⟩
   refine⟨o.row.length,fun i ys H2=>Same H H2/\Rs K H2 ((o.row.map fun r=>subR pr r).take i) ys,Zq (by omega),⟨Same.new hd,.nil⟩,?_,?_⟩
   ·rintro i ys H2 hi ⟨S2,R2⟩ hd2
    refine⟨⟨xs,xs[i]'(by omega),Zo S2 hxs,by simp⟩,?_⟩
    rintro x H3 ⟨rfl,fx⟩
    obtain⟨r,er,ix⟩:=hrs.back (fx xs (Zo S2 hxs))
    obtain⟨a1,rfl,sq1⟩:=ix.ext (Ext.same S2)
    refine Yo ?_
    refine⟨_,rfl,p,_,_,_,rfl,rfl,Zo S2 hp,Zd (j:=2) rfl,_,rfl,b,a1,pr,r,n,rfl,Zo S2 hb,sq1,g.bid pr hpr,g.row r (List.mem_of_getElem? er),hn,fun c4 H4 f4 S4 e4=>?_⟩
    have hd4:=S4 _ _ hd2
    refine⟨hd4,fun q o' e=>?_,?_⟩
    ·rw[Zb (Z8 e hd)]
     exact S4 _ _ (S2 _ _ e)
    ·rw[Wv _ er]
     exact (R2.ext ((Ext.same S4).trans (Ext.upd hd4))).snoc ⟨c4,rfl,(Ext.upd hd4).sq (SqT.of e4)⟩
   ·rintro ys H2 ⟨S2,R2⟩ hd2
    rw[List.take_of_length_le (by rw[List.length_map];omega)] at R2
    refine⟨⟨xs,Zo S2 hxs,by omega⟩,_,rfl,d,ys,rfl,.inl ⟨SqL.of hd2,fun l hl'=>?_⟩⟩
    have S3:Same H2 (upd H2 l (.tup ys)):=Same.new hl'
    refine⟨_,rfl,p,_,_,_,rfl,rfl,Zo (S2.trans S3) hp,Zd (j:=3) rfl,l,ve,_,o.ev,rfl,⟨ys,SqT.of Z7,R2.ext (Ext.same S3)⟩,?_,by rw[List.length_map];omega,fun p' H' S' R'=>kk p' H' ((S2.trans S3).trans S') R'⟩
    rw[List.length_map,hl]
    exact hE.same (S2.trans S3)
end
def wordsO (o:Offr):List Bool:=(if o.ask.isSome then [true] else [])++if o.bid.isSome then [false] else []
def offD:Offr:=⟨[],none,none,none⟩
def sidesP (os:List Offr)(n:Nat):List (Nat × Bool):=(List.range n).flatMap fun i=>(wordsO (os.getD i offD)).map fun b=>(i,b)
def gainsP (os:List Offr)(n:Nat):List (List Rat):=(List.range n).flatMap fun i=>(wordsO (os.getD i offD)).map fun b=>gainR (os.getD i offD) b
theorem Tw (os:List Offr)(n:Nat):sidesP os (n+1)=sidesP os n++(wordsO (os.getD n offD)).map fun b=>(n,b):=by
 unfold sidesP
 rw[List.range_succ,List.flatMap_append]
 simp
theorem Sc (os:List Offr)(n:Nat):gainsP os (n+1)=gainsP os n++(wordsO (os.getD n offD)).map fun b=>gainR (os.getD n offD) b:=by
 unfold gainsP
 rw[List.range_succ,List.flatMap_append]
 simp
theorem Vt (os:List Offr)(n:Nat):(sidesP os n).map (fun s=>gainR (os.getD s.1 offD) s.2)=gainsP os n:=by
 unfold sidesP gainsP
 rw[List.map_flatMap]
 congr 1
 funext i
 rw[List.map_map]
 rfl
theorem R9 {os:List Offr}{n i:Nat}{b:Bool}(h:(i,b)∈sidesP os n):i<n/\∃ r,priceO (os.getD i offD) b=some r:=by
 unfold sidesP at h
 rw[List.mem_flatMap] at h
 obtain⟨j,hj,hm⟩:=h
 rw[List.mem_map] at hm
 obtain⟨b',hb,e⟩:=hm
 cases e
 refine⟨List.mem_range.mp hj,?_⟩
 unfold wordsO at hb
 rcases List.mem_append.mp hb with z | z
 ·split at z
  ·rename_i hs
   rw[List.mem_singleton.mp z]
   exact Option.isSome_iff_exists.mp hs
  ·cases z
 ·split at z
  ·rename_i hs
   rw[List.mem_singleton.mp z]
   exact Option.isSome_iff_exists.mp hs
  ·cases z
theorem U8 (o:Offr):(wordsO o).length<=2:=by
 unfold wordsO
 split <;> split <;> decide
theorem V7 (os:List Offr):∀ n,(sidesP os n).length<=2*n
 | 0=>by unfold sidesP;simp
 | n+1=>by
  rw[Tw,List.length_append,List.length_map]
  have:=V7 os n
  have:=U8 (os.getD n offD)
  omega
section
variable {P:Program}{w:World}{K:W.Frag}{mg:Str->Option Value}{base:Heap}
def OffsAt (K:W.Frag)(H:Hp)(l:Addr)(c:Nat)(os:List Offr):Prop:=∃ vs:List V,H l=some (.lst vs)/\Paired (fun v o=>OffAt K H c o v) vs os
theorem Y7 {H H':Hp}{c:Nat}{vs:List V}{os:List Offr}(h:Paired (fun v o=>OffAt K H c o v) vs os)(x:Ext H H'):Paired (fun v o=>OffAt K H' c o v) vs os:=Paired.mapP h fun _ _ q=>q.ext x
theorem OffAt.asks {H:Hp}{c:Nat}{o:Offr}{v:V}(h:OffAt K H c o v):∃ (p a:Addr) (va vb ve:V),v=.ref p/\SqT K H p [.ref a,va,vb,ve]/\(va=.non ↔ o.ask=none)/\(vb=.non ↔ o.bid=none):=by
 obtain⟨p,a,va,vb,ve,rfl,hp,_,_,hA,hB,_⟩:=h
 refine⟨p,a,va,vb,ve,rfl,hp,?_,?_⟩
 ·cases e:o.ask with
  | none=>rw[e] at hA;exact⟨fun _=>rfl,fun _=>hA⟩
  | some r=>rw[e] at hA;obtain⟨b,rfl,_⟩:=hA;exact⟨(fun z=>nomatch z),fun z=>nomatch z⟩
 ·cases e:o.bid with
  | none=>rw[e] at hB;exact⟨fun _=>rfl,fun _=>hB⟩
  | some r=>rw[e] at hB;obtain⟨b,rfl,_⟩:=hB;exact⟨(fun z=>nomatch z),fun z=>nomatch z⟩
def iF (K:W.Frag):Sp:=fun vs H Q _=>∃ (v:V) (c:Nat) (o:Offr),vs=[v]/\OffAt K H c o v/\∀ l H',H l=none->Same H H'->H' l=some (.lst ((wordsO o).map fun b=>V.str (wordO b)))->Q (.ref l) H'
theorem Kf:FnScope ["offer","told"] ["offer"] (defScope kI):=fsc
theorem Z0l (D:Def K mg "words_of" kI ["offer"])(jT:ConI mg "ASK" 1)(jS:ConI mg "BID" 2):Has P w K mg base 1 "words_of" ["offer"] (iF K):=by
 refine D.has fun f fd F=>F.ok Kf (fun vs H Q E h=>?_) (fun cdv A outer s H vs Q E hr h=>?_)
 ·obtain⟨v,c,o,rfl,_⟩:=h
  rfl
 ·obtain⟨v,c,o,rfl,hO,k⟩:=h
  obtain⟨t1,m_ASK⟩:=jT
  obtain⟨t2,m_BID⟩:=jS
  obtain⟨p,a,va,vb,ve,rfl,hp,ha,hb⟩:=hO.asks
  have sc:=Kf
  refine⟨_,(Z6 (Zg (i:=1) sc.nd rfl (Or.inl rfl) (Xb Z4))
   (Z6 (Wo (Yd (Zi So (Ze Yg (pv 0) (Yj (v:=.int 1) rfl m_ASK ⟨_,rfl⟩) (fun _ _=>rfl)) Yw (Zp _))
    (Z9 (Yr (Wf PySem.F.plainAttrs_list PySem.F.slot_list_append PySem.F.type_list_append Yl (pv 1) (Z0 Xl Z4))))
    Zt))
   (Z6 (Yd (Zi So (Ze Yg (pv 0) (Yj (v:=.int 2) rfl m_BID ⟨_,rfl⟩) (fun _ _=>rfl)) Yw (Zp _))
    (Z9 (Yr (Wf PySem.F.plainAttrs_list PySem.F.slot_list_append PySem.F.type_list_append Yl (pv 1) (Z0 Xl Z4))))
    Zt)
   (Z9 (Zf (pv 1)))))),?_⟩
  refine⟨sz0,fun l hl=>?_⟩
  have S0:Same H (upd H l (.lst [])):=Same.new hl
  have up:∀ (zs:List V) (H1:Hp),Same H H1->Same H (upd H1 l (.lst zs)):=fun zs H1 S1 q o e=>by
   rw[Zb (Z8 e hl)]
   exact S1 _ _ e
  refine⟨fun σ H'=>Same H H'/\σ=[some (.ref p),some (.ref l)]/\H' l=some (.lst ((if o.ask.isSome then [true] else []).map fun b=>V.str (wordO b))),?_,?_⟩
  ·refine⟨_,rfl,p,_,_,_,rfl,rfl,Zo S0 hp,Zd (j:=1) rfl,rfl,_,rfl,?_⟩
   cases e:o.ask with
   | none =>
    have:=ha.mpr e
    subst this
    exact Xf ⟨S0,rfl,Z7⟩
   | some r =>
    have hne:va≠V.non:=fun z=>by rw[ha.mp z] at e;cases e
    refine Mi hne ?_
    exact⟨_,rfl,.inl ⟨rfl,_,SqL.of Z7⟩,l,_,_,rfl,rfl,Z7,(by show 0<sizeLine;decide),up _ _ S0,rfl,Z7⟩
  ·rintro σ H1 ⟨S1,rfl,h1⟩
   refine⟨_,rfl,p,_,_,_,rfl,rfl,Zo S1 hp,Zd (j:=2) rfl,rfl,_,rfl,?_⟩
   cases e:o.bid with
   | none =>
    have:=hb.mpr e
    subst this
    refine Xf ⟨_,rfl,k l H1 hl S1 ?_⟩
    rw[h1]
    unfold wordsO
    rw[e]
    simp
   | some r =>
    have hne:vb≠V.non:=fun z=>by rw[hb.mp z] at e;cases e
    refine Mi hne ⟨_,rfl,.inl ⟨rfl,_,SqL.of h1⟩,l,_,_,rfl,rfl,h1,?_,_,rfl,k l _ hl (up _ _ S1) ?_⟩
    ·refine Xd ?_
     rw[List.length_map]
     split <;> decide
    ·rw[Z7]
     unfold wordsO
     rw[e]
     simp
     rfl
def SideV (K:W.Frag)(H:Hp)(v:V)(s:Nat × Bool):Prop:=∃ t:Addr,v=.ref t/\SqT K H t [.int (s.1:Int),.str (wordO s.2)]
theorem SideV.ext {H H':Hp}{v:V}{s:Nat × Bool}(h:SideV K H v s)(x:Ext H H'):SideV K H' v s:=by
 obtain⟨t,e,q⟩:=h
 exact⟨t,e,x.sq q⟩
def iH (K:W.Frag):Sp:=fun vs H Q _=>∃ (l:Addr) (c:Nat) (os:List Offr),vs=[.ref l]/\OffsAt K H l c os/\os.length<=100/\∀ (d:Addr) (ws:List V) (H':Hp),H d=none->Same H H'->H' d=some (.lst ws)->Paired (SideV K H') ws (sidesP os os.length)->Q (.ref d) H'
theorem Kl:FnScope ["offers","told","number","offer"] ["offers"] (defScope lJ):=fsc
theorem Z0s (D:Def K mg "sides" lJ ["offers"])(T:Blt mg)(jB:Has P w K mg base 1 "words_of" ["offer"] (iF K)):Has P w K mg base 2 "sides" ["offers"] (iH K):=by
 refine D.has fun f fd F=>F.ok Kl (fun vs H Q E h=>?_) (fun cdv A outer s H vs Q E hr h=>?_)
 ·obtain⟨l,c,os,rfl,_⟩:=h
  rfl
 ·obtain⟨l,c,os,rfl,⟨vs,hl,hO⟩,hlen,k⟩:=h
  have sc:=Kl
  have nd1:(["word","number"]:List Str).Nodup:=by decide +kernel
  refine⟨_,(Z6 (Zg (i:=1) sc.nd rfl (Or.inl rfl) (Xb Z4))
   (Z6 (Xk PassesOwn.never rfl (Rj rfl T.enumerate (Z0 (pv 0) Z4)) (Wq (n:=2) rfl (Y6 (Zl (i:=2) sc.nd rfl (Or.inr rfl)) (Y6 (Zl (i:=3) sc.nd rfl (Or.inl rfl)) Xp)))
    (Z9 (Yr (Wf PySem.F.plainAttrs_list PySem.F.slot_list_extend PySem.F.type_list_extend F6 (pv 1) (Z0 (Yn (N:=["word","number"]) (k:=1) (fv:=[2]) rfl (Xo (Zc jB hr (Z0 (pv 3) Z4)))
   (fun _ _ _ _ _=>Zl (i:=0) nd1 rfl (Or.inl rfl)) (fun _ _ _ _ _=>Yh) (fun _ _ _ _ _=>(Y8 (Z0 (pv 1) (Z0 (pv 0) Z4)))) Y2) Z4)))))
   (Z9 (Zf (pv 1))))),?_⟩
  have lo:=Paired.length hO
  refine⟨sz0,fun d hd=>?_⟩
  have S0:Same H (upd H d (.lst [])):=Same.new hd
  have up:∀ (zs:List V) (H1:Hp),Same H H1->Same H (upd H1 d (.lst zs)):=fun zs H1 S1 q o e=>by
   rw[Zb (Z8 e hd)]
   exact S1 _ _ e
  refine⟨_,rfl,l,rfl,⟨_,SqL.of (S0 _ _ hl)⟩,Tt (K:=K) (a:=l) (xs:=vs) (fun i σ H'=>Same H H'/\∃ (ws:List V) (x y:Option V),σ=[some (.ref l),some (.ref d),x,y]/\H' d=some (.lst ws)/\Paired (SideV K H') ws (sidesP os i)) ⟨S0,[],none,none,rfl,Z7,.nil⟩ (fun i σ H' _ h=>SqL.of (h.1 _ _ hl)) ?_ ?_⟩
  ·rintro i v σ H1 p hi ⟨S1,ws,x,y,rfl,hd1,P1⟩ hp
   have S2:Same H1 (upd H1 p (.tup [.int (i:Int),v])):=Same.new hp
   have hd2:=S2 _ _ hd1
   have hiv:i<vs.length:=(List.getElem?_eq_some_iff.mp hi).1
   have hio:i<os.length:=by omega
   have eo:os[i]?=some (os.getD i offD):=by simp[List.getD,hio]
   have hv:=((Paired.getB hO hi eo).same S1).same S2
   refine⟨p,_,rfl,SqT.of Z7,rfl,_,_,rfl,_,_,rfl,rfl,?_⟩
   refine⟨_,rfl,.inl ⟨rfl,_,SqL.of hd2⟩,_,rfl,v,c,os.getD i offD,rfl,hv,fun lw H3 f3 S3 e3=>?_⟩
   generalize hw:wordsO (os.getD i offD)=wo at *
   have lwo:wo.length<=2:=by rw[← hw];exact U8 _
   refine⟨lw,rfl,⟨_,SqL.of e3⟩,fun dc hdc=>?_⟩
   refine⟨wo.length,fun j ys H4=>Same H3 H4/\Paired (SideV K H4) ys ((wo.map fun b=>(i,b)).take j),Zq (by omega),⟨Same.new hdc,.nil⟩,?_,?_⟩
   ·rintro j ys H4 hj ⟨S4,P4⟩ hd4
    have ew:wo[j]?=some wo[j]:=by simp[hj]
    refine⟨⟨_,V.str (wordO wo[j]),SqL.of (S4 _ _ e3),by simp[hj]⟩,?_⟩
    rintro x' H5 ⟨rfl,fx⟩
    have ex:x'=V.str (wordO wo[j]):=by
     have:=fx _ (SqL.of (S4 _ _ e3))
     rw[List.getElem?_map,ew] at this
     exact (Option.some.inj this).symm
    subst ex
    refine Yo ?_
    refine⟨_,rfl,_,rfl,sz2,fun t ht=>?_⟩
    have S6:Same H5 (upd H5 t (.tup [.int (i:Int),.str (wordO wo[j])])):=Same.new ht
    have hd6:=S6 _ _ hd4
    refine⟨hd6,fun q o' e=>?_,?_⟩
    ·rw[Zb (Z8 e hdc)]
     exact S6 _ _ (S4 _ _ e)
    ·rw[Wv _ ew]
     have x7:=(Ext.same S6).trans (Ext.upd (o:=.lst (ys++[.ref t])) hd6)
     exact Paired.snoc (Paired.mapP P4 fun _ _ q=>q.ext x7) ⟨t,rfl,(Ext.upd hd6).sq (SqT.of Z7)⟩
   ·rintro ys H4 ⟨S4,P4⟩ hd4
    rw[List.take_of_length_le (by rw[List.length_map];omega)] at P4
    refine⟨⟨_,SqL.of (S4 _ _ e3),by rw[List.length_map];omega⟩,?_⟩
    have hd5:=S4 _ _ (S3 _ _ hd2)
    have lw1:=Paired.length P1
    have lw4:=Paired.length P4
    have sl:=V7 os i
    rw[List.length_map] at lw4
    refine⟨d,dc,ws,ys,rfl,rfl,hd5,hd4,Zq (by omega),?_⟩
    have S15:Same H1 H4:=(S2.trans S3).trans S4
    refine⟨up _ _ (S1.trans S15),ws++ys,_,_,rfl,Z7,?_⟩
    rw[Tw,hw]
    have xx:=Ext.upd (o:=.lst (ws++ys)) hd5
    exact Paired.appP (Paired.mapP P1 fun _ _ q=>q.ext ((Ext.same S15).trans xx)) (Paired.mapP P4 fun _ _ q=>q.ext xx)
  ·rintro σ H1 ⟨S1,ws,x,y,rfl,hd1,P1⟩
   rw[lo] at P1
   exact⟨_,rfl,k d ws H1 hd S1 hd1 P1⟩
def eN (K:W.Frag):Sp:=fun vs H Q _=>∃ (l:Addr) (c n:Nat) (os:List Offr),vs=[.ref l]/\OffsAt K H l c os/\os.length<=100/\c<=1000/\n<=4000/\(∀ o∈os,GoodO n o)/\∀ (d:Addr) (H':Hp),H d=none->Same H H'->RowsAt K H' d (gainsP os os.length)->Q (.ref d) H'
theorem Nz:FnScope ["offers"] ["offers"] (defScope lQ):=fsc
theorem Cn (D:Def K mg "gains" lQ ["offers"])(jP:Has P w K mg base 2 "sides" ["offers"] (iH K))(jW:Has P w K mg base 4 "gain" ["offer","word"] (i9 K)):Has P w K mg base 5 "gains" ["offers"] (eN K):=by
 refine D.has fun f fd F=>F.ok Nz (fun vs H Q E h=>?_) (fun cdv A outer s H vs Q E hr h=>?_)
 ·obtain⟨l,c,n,os,rfl,_⟩:=h
  rfl
 ·obtain⟨l,c,n,os,rfl,⟨vs,hl,hO⟩,hlen,hc,hn,g,k⟩:=h
  have sc:=Nz
  have nd1:(["number","word","offers"]:List Str).Nodup:=by decide +kernel
  refine⟨_,(Z9 (Zf (Yn (N:=["number","word","offers"]) (k:=2) (fv:=[0]) rfl (Xo (Zc jP hr (Z0 (pv 0) Z4)))
   (fun _ _ _ _ _=>Wq (n:=2) rfl (Y6 (Zl (i:=0) nd1 rfl (Or.inl rfl)) (Y6 (Zl (i:=1) nd1 rfl (Or.inl rfl)) Xp))) (fun _ _ _ _ _=>Yh) (fun _ _ _ _ _=>(Zc jW hr (Z0 (Ze (Bb (K:=K)) (pv 2) (pv 0) (fun _ _=>rfl)) (Z0 (pv 1) Z4)))) Vw))),?_⟩
  have lo:=Paired.length hO
  refine⟨_,rfl,l,c,os,rfl,⟨vs,hl,hO⟩,hlen,fun ds ws H1 f1 S1 e1 P1=>?_⟩
  have lp:=Paired.length P1
  have sl:=V7 os os.length
  refine⟨ds,rfl,⟨_,SqL.of e1⟩,fun d hd=>?_⟩
  have hd0:H d=none:=by
   cases q:H d with
   | none=>rfl
   | some o=>rw[S1 _ _ q] at hd;cases hd
  refine⟨ws.length,fun i ys H2=>Same H1 H2/\∃ as:List Addr,ys=as.map V.ref/\Paired (RowAt K H2) as ((gainsP os os.length).take i),Zq (by omega),⟨Same.new hd,[],rfl,.nil⟩,?_,?_⟩
  ·rintro i ys H2 hi ⟨S2,as,rfl,P2⟩ hd2
   have ew:ws[i]?=some ws[i]:=by simp[hi]
   refine⟨⟨_,ws[i],SqL.of (S2 _ _ e1),by simp⟩,?_⟩
   rintro x' H3 ⟨rfl,fx⟩
   have ex:x'=ws[i]:=by
    have:=fx _ (SqL.of (S2 _ _ e1))
    rw[ew] at this
    exact (Option.some.inj this).symm
   subst ex
   have his:i<(sidesP os os.length).length:=by omega
   have es:(sidesP os os.length)[i]?=some ((sidesP os os.length)[i]):=by simp[his]
   obtain⟨t,et,sqt⟩:=(Paired.getB P1 ew es).ext (Ext.same S2)
   have hmem:=List.getElem_mem his
   generalize hsd:(sidesP os os.length)[i]=sd at *
   obtain⟨j,b⟩:=sd
   obtain⟨hj,r,hr'⟩:=R9 hmem
   rw[et]
   refine Pr sqt ?_
   have ej:os[j]?=some (os.getD j offD):=by simp[List.getD,hj]
   have hjv:j<vs.length:=by omega
   have ev:vs[j]?=some vs[j]:=by simp[hjv]
   have hov:=((Paired.getB hO ev ej).same S1).same S2
   refine⟨_,rfl,_,rfl,l,vs,_,_,rfl,rfl,SqL.of (S2 _ _ (S1 _ _ hl)),Zd ev,_,rfl,?_⟩
   refine⟨vs[j],c,n,os.getD j offD,b,r,rfl,hov,hc,g _ (List.mem_of_getElem? ej),hn,hr',fun p H4 S4 R4=>?_⟩
   have hd4:=S4 _ _ hd2
   refine⟨hd4,fun q o' e=>?_,as++[p],by rw[List.map_append];rfl,?_⟩
   ·rw[Zb (Z8 e hd)]
    exact S4 _ _ (S2 _ _ e)
   ·have eg:(gainsP os os.length)[i]?=some (gainR (os.getD j offD) b):=by rw[← Vt,List.getElem?_map,es];rfl
    rw[Yf eg]
    exact Paired.snoc (Xr P2 ((Ext.same S4).trans (Ext.upd hd4))) (R4.ext (Ext.upd hd4))
  ·rintro ys H2 ⟨S2,as,rfl,P2⟩ hd2
   have lg:(gainsP os os.length).length=ws.length:=by rw[← Vt,List.length_map,lp]
   rw[List.take_of_length_le (by omega)] at P2
   exact⟨⟨_,SqL.of (S2 _ _ e1),Nat.le_refl _⟩,k d H2 hd0 (S1.trans S2) ⟨as,hd2,P2⟩⟩
end
open Sv (sm Zn X1 Y5 sm_zero Zw Zx Wc)
theorem Me {c n N:Nat}{D:Int}{o:Option (Nat->Bool)}{as as2 ls:List Rat}{b m:Rat}{Ls:List Int}(rL:RepL N D Ls ls)(ll:ls.length=c)(lie:sumR (List.zipWith mulR' ls (papR c o))=(1,1))(la:as.length=c)(la2:as2.length=c)(ra:∃ D Zs,RepL n D Zs as)(ra2:∃ n D Zs,RepL n D Zs as2)(lb:Low b)(lm:Low m)
  (h:∀ (k:Nat) (x y:Rat),inE o k=true->as[k]?=some x->as2[k]?=some y->y=addR (mulR' x b) m):sumR (List.zipWith mulR' ls (cutR o as2))=addR (mulR' (sumR (List.zipWith mulR' ls (cutR o as))) b) m:=by
 obtain⟨Da,Za,r1⟩:=ra
 obtain⟨n2,D2,Z2,r2⟩:=ra2
 have c1:=r1.cut o
 have c2:=r2.cut o
 have lc1:(cutR o as).length=c:=by rw[Yb];exact la
 have lc2:(cutR o as2).length=c:=by rw[Yb];exact la2
 obtain⟨e1,lo1⟩:=Vr rL c1 ll lc1
 obtain⟨e2,lo2⟩:=Vr rL c2 ll lc2
 obtain⟨ep,_⟩:=Vr rL (Yt c o) ll (X6 c o)
 rw[lie,Wz] at ep
 have ep':D=sm c (fun w=>Ls.getD w 0*rowF (papR c o) w):=by
  have:(1:Int)*(D*1)=sm c (fun w=>Ls.getD w 0*rowF (papR c o) w)*1:=ep
  omega
 have l1:=c1.least
 have l2:=c2.least
 have p1:=l1.pos
 have p2:=l2.pos
 have pD:=rL.pos
 have pb:=lb.pos
 have pm:=lm.pos
 have key:∀ w,w<c->rowF (cutR o as2) w*(lcmB (cutR o as)*(b.2*m.2))=lcmB (cutR o as2)*(rowF (cutR o as) w*(b.1*m.2)+rowF (papR c o) w*(lcmB (cutR o as)*(b.2*m.1))):=fun w hw=>by
  have ex:as[w]?=some (as[w]'(by omega)):=by simp
  have ey:as2[w]?=some (as2[w]'(by omega)):=by simp
  have cx:(cutR o as)[w]?=some (if inE o w then as[w]'(by omega) else (0,1)):=Yz ex
  have cy:(cutR o as2)[w]?=some (if inE o w then as2[w]'(by omega) else (0,1)):=Yz ey
  rw[C3 hw,Wz]
  have wx:(wholeB (cutR o as) (lcmB (cutR o as)))[w]?=some (rowF (cutR o as) w):=by
   rw[Vy cx];unfold wholeB;rw[List.getElem?_map,cx];rfl
  have wy:(wholeB (cutR o as2) (lcmB (cutR o as2)))[w]?=some (rowF (cutR o as2) w):=by
   rw[Vy cy];unfold wholeB;rw[List.getElem?_map,cy];rfl
  obtain⟨ax,_,lx⟩:=l1.at_ w _ _ wx cx
  obtain⟨ay,_,ly⟩:=l2.at_ w _ _ wy cy
  generalize rowF (cutR o as) w=X at *
  generalize rowF (cutR o as2) w=Y at *
  generalize lcmB (cutR o as)=L1 at *
  generalize lcmB (cutR o as2)=L2 at *
  cases q:inE o w with
  | true =>
   rw[q] at ax ay lx ly
   simp only [if_true] at ax ay lx ly ⊢
   have ee:=h w _ _ q ex ey
   rw[ee] at ay ly
   generalize as[w]'(by omega)=x at *
   have hm1:=Ul lx.pos pb ax (show b.1*b.2=b.1*b.2 from rfl)
   have hm2:=Xj m.2 hm1
   have hm3:m.1*(L1*b.2*m.2)=m.1*(L1*b.2)*m.2:=by grind
   have hadd:=Um (W5 lx lb).pos pm hm2 hm3
   generalize addR (mulR' x b) m=z at *
   have pz:=ly.pos
   have e:Y*(L1*(b.2*m.2))*z.2=L2*(X*(b.1*m.2)+1*(L1*(b.2*m.1)))*z.2:=by
    have t1:Y*(L1*(b.2*m.2))*z.2=(Y*z.2)*(L1*b.2*m.2):=by grind
    rw[t1,← ay]
    have t2:z.1*L2*(L1*b.2*m.2)=L2*(z.1*(L1*b.2*m.2)):=by grind
    rw[t2,hadd]
    grind
   exact Int.eq_of_mul_eq_mul_right (by omega) e
  | false =>
   rw[q] at ax ay
   simp only [Bool.false_eq_true,if_false] at ax ay ⊢
   have hX:X=0:=by
    have:(0:Int)*L1=X*1:=ax
    omega
   have hY:Y=0:=by
    have:(0:Int)*L2=Y*1:=ay
    omega
   rw[hX,hY]
   simp
 have tot:sm c (fun w=>Ls.getD w 0*rowF (cutR o as2) w)*(lcmB (cutR o as)*(b.2*m.2))=lcmB (cutR o as2)*(sm c (fun w=>Ls.getD w 0*rowF (cutR o as) w)*(b.1*m.2)+D*(lcmB (cutR o as)*(b.2*m.1))):=by
  rw[Int.mul_comm,← Y5]
  have e3:sm c (fun w=>lcmB (cutR o as)*(b.2*m.2)*(Ls.getD w 0*rowF (cutR o as2) w))=sm c (fun w=>lcmB (cutR o as2)*(b.1*m.2)*(Ls.getD w 0*rowF (cutR o as) w)+lcmB (cutR o as2)*(lcmB (cutR o as)*(b.2*m.1))*(Ls.getD w 0*rowF (papR c o) w)):=Zn fun w hw=>by
   have:=key w hw
   grind
  rw[e3,X1,Y5,Y5,← ep']
  grind
 generalize sumR (List.zipWith mulR' ls (cutR o as))=s1 at *
 generalize sumR (List.zipWith mulR' ls (cutR o as2))=s2 at *
 generalize sm c (fun w=>Ls.getD w 0*rowF (cutR o as) w)=S1 at *
 generalize sm c (fun w=>Ls.getD w 0*rowF (cutR o as2) w)=S2 at *
 generalize lcmB (cutR o as)=L1 at *
 generalize lcmB (cutR o as2)=L2 at *
 have f1:=Ul lo1.pos pb e1 (show b.1*b.2=b.1*b.2 from rfl)
 have f2:=Xj m.2 f1
 have f3:m.1*(D*L1*b.2*m.2)=m.1*(D*L1*b.2)*m.2:=by grind
 have f4:=Um (W5 lo1 lb).pos pm f2 f3
 have lz:=Sq (W5 lo1 lb) lm
 generalize addR (mulR' s1 b) m=z at *
 refine X9 lo2.pos lz.pos lo2.cop lz.cop ?_
 have px:0<D*L2*(D*L1*b.2*m.2):=Int.mul_pos (Int.mul_pos pD p2) (Int.mul_pos (Int.mul_pos (Int.mul_pos pD p1) pb) pm)
 have e5:s2.1*z.2*(D*L2*(D*L1*b.2*m.2))=z.1*s2.2*(D*L2*(D*L1*b.2*m.2)):=by
  have t1:s2.1*z.2*(D*L2*(D*L1*b.2*m.2))=(s2.1*(D*L2))*(z.2*(D*L1*b.2*m.2)):=by grind
  have t2:z.1*s2.2*(D*L2*(D*L1*b.2*m.2))=(z.1*(D*L1*b.2*m.2))*(s2.2*(D*L2)):=by grind
  rw[t1,t2,e2,f4]
  have t3:S2*s2.2*(z.2*(D*L1*b.2*m.2))=(S2*(L1*(b.2*m.2)))*(s2.2*z.2*D):=by grind
  rw[t3,tot]
  grind
 exact Int.eq_of_mul_eq_mul_right (by omega) e5
end Sb
namespace Sb
open PySem L2
open Sv (sm Zn X1 Y5 sm_zero Zw Zx Wc)
structure Wts (c:Nat)(rss:List (List Rat))(ls:List Rat):Prop where
 len:ls.length=c
 rep:∃ N D Ls,RepL N D Ls ls
 nn:∀ r∈ls,0<=r.1
 fit:∀ rs∈rss,(sumR (List.zipWith mulR' ls rs)).1<=0
 lie:sumR (List.zipWith mulR' ls (papR c none))=(1,1)
theorem LoadsOk.wts {c N:Nat}{rss:List (List Rat)}{as ls:List Rat}{va:Rat}(h:LoadsOk c rss none as N ls va):Wts c rss ls:=⟨h.len,h.rep.elim fun D z=>z.elim fun L r=>⟨N,D,L,r⟩,h.nn,h.fit,h.lie⟩
def mn (ls as:List Rat):Rat:=sumR (List.zipWith mulR' ls as)
def leR (r s:Rat):Prop:=r.1*s.2<=s.1*r.2
def negR (r:Rat):Rat:=(-r.1,r.2)
theorem negR.low {r:Rat}(h:Low r):Low (negR r):=⟨h.pos,by show Int.gcd (-r.1) r.2=1;rw[Int.neg_gcd];exact h.cop⟩
theorem negR.neg (r:Rat):negR (negR r)=r:=by
 unfold negR
 simp
theorem negR.le {r s:Rat}(h:leR r s):leR (negR s) (negR r):=by
 unfold leR negR at *
 show -s.1*r.2<=-r.1*s.2
 rw[Int.neg_mul,Int.neg_mul]
 omega
theorem mul_one {r:Rat}(h:Low r):mulR' r (1,1)=r:=by
 show nrm (r.1*1) (r.2*1)=r
 rw[Int.mul_one,Int.mul_one]
 exact Vo h.pos h.cop
theorem mul_neg {r:Rat}(h:Low r):mulR' r (-1,1)=negR r:=by
 show nrm (r.1 * -1) (r.2*1)=negR r
 rw[Int.mul_one,Int.mul_neg,Int.mul_one]
 exact Vo (r:=negR r) h.pos (negR.low h).cop
theorem Sy {r:Rat}(h:Low r):subR (0,1) r=negR r:=by
 show nrm (0*r.2 - r.1*1) (1*r.2)=negR r
 rw[Int.zero_mul,Int.mul_one,Int.one_mul,Int.zero_sub]
 exact Vo (r:=negR r) h.pos (negR.low h).cop
theorem Sg {r:Rat}(h:Low r):addR r (0,1)=r:=by
 show nrm (r.1*1+0*r.2) (r.2*1)=r
 rw[Int.mul_one,Int.mul_one,Int.zero_mul,Int.add_zero]
 exact Vo h.pos h.cop
def RowR (c:Nat)(as:List Rat):Prop:=as.length=c/\∃ n D Zs,RepL n D Zs as
section
variable {c:Nat}{rss:List (List Rat)}{ls as bs:List Rat}
theorem Wts.mlow (w:Wts c rss ls)(ra:RowR c as):Low (mn ls as):=by
 obtain⟨N,D,L,r⟩:=w.rep
 obtain⟨la,n,D',Z,r2⟩:=ra
 exact (r.mul r2 (by rw[w.len,la])).sum.2
theorem Z2u (w:Wts c rss ls)(ra:RowR c as)(rb:RowR c bs){b m:Rat}(lb:Low b)(lm:Low m)(h:∀ (k:Nat) (x y:Rat),as[k]?=some x->bs[k]?=some y->y=addR (mulR' x b) m):mn ls bs=addR (mulR' (mn ls as) b) m:=by
 obtain⟨N,D,L,r⟩:=w.rep
 obtain⟨la,n,D',Z,r2⟩:=ra
 obtain⟨lb',r3⟩:=rb
 have:=Me (o:=none) r w.len w.lie la lb' ⟨_,_,r2⟩ r3 lb lm fun k x y _ e1 e2=>h k x y e1 e2
 rw[Yx,Yx] at this
 exact this
end
structure MostV (c:Nat)(rss:List (List Rat))(as:List Rat)(va:Rat):Prop where
 low:Low va
 hit:∃ ls,Wts c rss ls/\mn ls as=va
 top:∀ ls,Wts c rss ls->leR (mn ls as) va
structure LeastV (c:Nat)(rss:List (List Rat))(as:List Rat)(va:Rat):Prop where
 low:Low va
 hit:∃ ls,Wts c rss ls/\mn ls as=va
 bot:∀ ls,Wts c rss ls->leR va (mn ls as)
section
variable {c:Nat}{rss:List (List Rat)}{as bs cs:List Rat}{u v x y z:Rat}
def IsNeg (as bs:List Rat):Prop:=∀ (k:Nat) (x y:Rat),as[k]?=some x->bs[k]?=some y->y=negR x
theorem Lr {ls:List Rat}(w:Wts c rss ls)(ra:RowR c as)(rb:RowR c bs)(h:IsNeg as bs):mn ls bs=negR (mn ls as):=by
 have lw:=w.mlow ra
 have:=Z2u w ra rb (b:=(-1,1)) (m:=(0,1)) ⟨by decide,by decide⟩ Uy fun k x y e1 e2=>by
  obtain⟨la,n,D,Z,r⟩:=ra
  have lx:Low x:=(r.good x (List.mem_of_getElem? e1)).low
  rw[h k x y e1 e2,mul_neg lx,Sg (negR.low lx)]
 rw[this,mul_neg lw,Sg (negR.low lw)]
theorem MostT.mostV {n:Nat}{T:Sv.Tab}(h:MostT c rss none (cutR none as) T)(hrs:∀ rs∈rss,rs.length=c/\∃ D Ws,RepL n D Ws rs)(ha:∃ D Ws,RepL n D Ws as)(la:as.length=c)(hn:1<=n)(hm:rss.length+2<=32):MostV c rss as (valueR c rss.length (cutR none as) T):=by
 have ok:=h.loads hrs ha la hn hm
 have ra:RowR c as:=⟨la,ha.elim fun D z=>z.elim fun Z r=>⟨n,D,Z,r⟩⟩
 have ev:mn (loadsR c rss.length T) as=valueR c rss.length (cutR none as) T:=by
  have:=ok.val
  rw[Yx] at this
  rw[Yx]
  exact this.symm
 have lv:Low (valueR c rss.length (cutR none as) T):=by
  rw[← ev]
  exact ok.wts.mlow ra
 refine⟨lv,⟨_,ok.wts,ev⟩,fun ls w=>?_⟩
 obtain⟨N,D,L,r⟩:=w.rep
 obtain⟨Da,Za,rz⟩:=ha
 have key:=h.notless (by rw[Yb];exact la) (rz.cut none) r w.len (Wi r w.nn) (fun rs hr=>(hrs rs hr).1) fun rs hr=>Vv r w.len (hrs rs hr).1 (hrs rs hr).2 (w.fit rs hr)
 rw[w.lie,mul_one lv] at key
 have lm:=w.mlow ra
 rw[Yx] at key
 rw[Yx] at lv ⊢
 exact Qu lv lm key
theorem MostV.least (h:MostV c rss bs v)(ra:RowR c as)(rb:RowR c bs)(e:IsNeg as bs):LeastV c rss as (negR v):=by
 obtain⟨ls,w,ew⟩:=h.hit
 refine⟨negR.low h.low,⟨ls,w,?_⟩,fun l w'=>?_⟩
 ·have:=Lr w ra rb e
  rw[ew] at this
  rw[this,negR.neg]
 ·have h1:=h.top l w'
  rw[Lr w' ra rb e] at h1
  have h2:=negR.le h1
  rw[negR.neg] at h2
  exact h2
end
end Sb
namespace Sb
open PySem L2
section
variable {P:Program}{w:World}{K:W.Frag}{mg:Str->Option Value}{base:Heap}
theorem Ki:FnScope ["one","other"] ["one","other"] (defScope lF):=fsc
theorem Z0o (D:Def K mg "times" lF ["one","other"])(fD:Has P w K mg base 2 "lowest" ["top","bottom"] eI):Has P w K mg base 3 "times" ["one","other"] (eK K mulR'):=by
 refine D.has fun f fd F=>F.ok Ki (fun vs H Q E h=>?_) (fun cdv A outer s H vs Q E hr h=>?_)
 ·obtain⟨a,b,r,s,n,rfl,_⟩:=h
  rfl
 ·obtain⟨a,b,r,s,n,rfl,hA,hB,gr,gs,hn,k⟩:=h
  have sc:=Ki
  refine⟨_,(Z9 (Zf (Zc fD hr (Z0 (Zh Zv (Ze Xg (pv 0) Z5 (fun _ _=>rfl)) (Ze Xg (pv 1) Z5 (fun _ _=>rfl))) (Z0 (Zh Zv (Ze Yq (pv 0) Z5 (fun _ _=>rfl)) (Ze Yq (pv 1) Z5 (fun _ _=>rfl))) Z4))))),?_⟩
  exact⟨_,rfl,_,_,_,rfl,rfl,hA,_,rfl,_,_,_,rfl,rfl,hB,_,_,rfl,rfl,gr.b1.mulOk gs.b1 (by omega) (by omega),_,rfl,_,_,_,rfl,rfl,hA,_,rfl,_,_,_,rfl,rfl,hB,_,_,rfl,rfl,gr.b2.mulOk gs.b2 (by omega) (by omega),_,_,rfl,Wu gr.pos gs.pos,U2 gr.b2 gs.b2 hn,k⟩
def fA (K:W.Frag):Sp:=fun vs H Q _=>∃ (a b:Addr) (rs:List Rat) (s:Rat) (n:Nat),vs=[.ref a,.ref b]/\RowAt K H a rs/\SqT K H b [.int s.1,.int s.2]/\rs.length<=1000/\(∀ r∈rs,Good n r)/\Good n s/\n<=4000 ∧
 ∀ c H' ys,Same H H'->H' c=some (.tup ys)->Rs K H' (rs.map fun r=>mulR' r s) ys->Q (.ref c) H'
theorem Uk:FnScope ["row","by"] ["row","by"] (defScope j6):=fsc
theorem Px (D:Def K mg "multiplied" j6 ["row","by"])(T:Blt mg)(jN:Has P w K mg base 3 "times" ["one","other"] (eK K mulR')):Has P w K mg base 4 "multiplied" ["row","by"] (fA K):=by
 refine D.has fun f fd F=>F.ok Uk (fun vs H Q E h=>?_) (fun cdv A outer s H vs Q E hr h=>?_)
 ·obtain⟨a,b,rs,s,n,rfl,_⟩:=h
  rfl
 ·obtain⟨a,b,rs,s,n,rfl,⟨xs,hA,hRs⟩,hB,hl2,gr,gs,hn,k⟩:=h
  have sc:=Uk
  have nd:(["worth","by"]:List Str).Nodup:=by decide +kernel
  refine⟨_,(Z9 (Zf (Y4 Zz rfl T.tuple PyProof.Rows.boot_tuple (Z0 (Yn (N:=["worth","by"]) (k:=1) (fv:=[1]) rfl (Ti (pv 0))
   (fun _ _ _ _ _=>Zl (i:=0) nd rfl (Or.inl rfl)) (fun _ _ _ _ _=>Yh) (fun _ _ _ _ _=>Rl jN (hr.mono (by decide)) rfl (Z0 (pv 0) (Z0 (pv 1) Z4))) Y2) Z4)))),?_⟩
  refine⟨_,rfl,a,rfl,⟨_,hA⟩,fun d hd=>?_⟩
  have lx:=hRs.len
  refine⟨rs.length,fun i ys H2=>Same H H2/\Rs K H2 (mapR (fun r=>mulR' r s) rs i) ys,Zq hl2,⟨Same.new hd,.nil⟩,?_,?_⟩
  ·rintro i ys H2 hi ⟨S2,R2⟩ hd2
   refine⟨⟨xs,xs[i]'(by omega),Zo S2 hA,by simp⟩,?_⟩
   rintro x H3 ⟨rfl,fx⟩
   obtain⟨r,er,ix⟩:=hRs.back (fx xs (Zo S2 hA))
   obtain⟨a1,rfl,sq1⟩:=ix.ext (Ext.same S2)
   refine Yo ?_
   refine⟨_,rfl,_,rfl,a1,b,r,s,n,rfl,sq1,Zo S2 hB,gr r (List.mem_of_getElem? er),gs,hn,fun c H4 fc S4 e4=>?_⟩
   have hd4:H4 d=some (.lst ys):=S4 _ _ hd2
   have E5:Ext H4 (upd H4 d (.lst (ys++[.ref c]))):=Ext.upd hd4
   refine⟨hd4,fun q o e=>?_,?_⟩
   ·rw[Zb (Z8 e hd)]
    exact S4 _ _ (S2 _ _ e)
   ·rw[F7 _ er]
    exact (R2.ext ((Ext.same S4).trans E5)).snoc ⟨c,rfl,E5.sq (SqT.of e4)⟩
  ·rintro ys H2 ⟨S2,R2⟩ hd2
   refine⟨⟨xs,Zo S2 hA,by omega⟩,d,ys,rfl,.inl ⟨SqL.of hd2,fun l hl'=>?_⟩⟩
   rw[Cw _ rfl] at R2
   exact k l _ ys (S2.trans (Same.new hl')) Z7 (R2.ext (Ext.new hl'))
end
structure BookU (c n:Nat)(os:List Offr):Prop where
 few:os.length<=100
 good:∀ o∈os,GoodO n o
 rep:∀ rs∈gainsP os os.length,rs.length=c/\∃ D Zs,RepL n D Zs rs
 sides:(gainsP os os.length).length<=30
 n1:1<=n
 n8:n<=800
 bits:bitsOf n c (gainsP os os.length).length<=3000
theorem Wts.ok {c:Nat}{rss:List (List Rat)}{ls:List Rat}(w:Wts c rss ls)(as:List Rat):∃ N,LoadsOk c rss none as N ls (sumR (List.zipWith mulR' ls (cutR none as))):=by
 obtain⟨N,D,L,r⟩:=w.rep
 exact⟨N,w.len,⟨D,L,r⟩,w.nn,w.fit,w.lie,rfl⟩
theorem Va {n:Nat}{D:Int}{Zs:List Int}{as:List Rat}(h:RepL n D Zs as):RepL n D (Zs.map fun z=>-z) (as.map fun r=>mulR' r (-1,1)):=by
 refine⟨h.pos,h.bD,by rw[List.length_map,List.length_map,h.len],fun i W r hW hr=>?_⟩
 rw[List.getElem?_map] at hW hr
 cases e1:Zs[i]? with
 | none=>rw[e1] at hW;cases hW
 | some z =>
  cases e2:as[i]? with
  | none=>rw[e2] at hr;cases hr
  | some x =>
   rw[e1] at hW
   rw[e2] at hr
   cases hW
   cases hr
   obtain⟨a1,a2,a3⟩:=h.at_ i z x e1 e2
   show (mulR' x (-1,1)).1*D=-z*(mulR' x (-1,1)).2/\Bd n (-z)/\Low (mulR' x (-1,1))
   rw[mul_neg a3]
   refine⟨?_,?_,negR.low a3⟩
   ·show -x.1*D=-z*x.2
    rw[Int.neg_mul,Int.neg_mul,a1]
   ·show (-z).natAbs<2 ^ n
    rw[Int.natAbs_neg]
    exact a2
theorem IsNeg.map {c:Nat}{as:List Rat}(ra:RowR c as):IsNeg as (as.map fun r=>mulR' r (-1,1)):=fun k x y e1 e2=>by
 obtain⟨_,n,D,Z,r⟩:=ra
 rw[List.getElem?_map,e1] at e2
 cases e2
 exact mul_neg (r.good x (List.mem_of_getElem? e1)).low
theorem MostT.good {c n:Nat}{rss:List (List Rat)}{as:List Rat}{T:Sv.Tab}(h:MostT c rss none (cutR none as) T)(hrs:∀ rs∈rss,rs.length=c/\∃ D Ws,RepL n D Ws rs)(ha:∃ D Ws,RepL n D Ws as)(la:as.length=c)(hn:1<=n)(hm:rss.length+2<=32)(hc:c<=1000):Good (bitsOf n c rss.length+n+10) (valueR c rss.length (cutR none as) T):=by
 have ok:=h.loads hrs ha la hn hm
 obtain⟨D,L,r⟩:=ok.rep
 obtain⟨Da,Za,ra⟩:=ha
 rw[ok.val]
 exact (r.mul (ra.cut none) (by rw[ok.len,Yb,la])).sumGood (k:=10) (by rw[List.length_zipWith,ok.len,Yb,la];show min c c<=1024;omega)
section
variable {P:Program}{w:World}{K:W.Frag}{mg:Str->Option Value}{base:Heap}
def fR (K:W.Frag):Sp:=fun vs H Q _=>∃ (a:Addr) (rs:List Rat) (n:Nat),vs=[.ref a]/\RowAt K H a rs/\rs.length<=1000/\(∀ r∈rs,Good n r)/\1<=n/\n<=4000/\∀ c H',Same H H'->RowAt K H' c (rs.map fun r=>mulR' r (-1,1))->Q (.ref c) H'
theorem Nn:FnScope ["row"] ["row"] (defScope kW):=fsc
theorem Ca (D:Def K mg "turned" kW ["row"])(gU:Has P w K mg base 4 "multiplied" ["row","by"] (fA K)):Has P w K mg base 5 "turned" ["row"] (fR K):=by
 refine D.has fun f fd F=>F.ok Nn (fun vs H Q E h=>?_) (fun cdv A outer s H vs Q E hr h=>?_)
 ·obtain⟨a,rs,n,rfl,_⟩:=h
  rfl
 ·obtain⟨a,rs,n,rfl,hA,hl,gr,n1,hn,k⟩:=h
  have sc:=Nn
  refine⟨_,(Z9 (Zf (Zc gU hr (Z0 (pv 0) (Z0 (Y8 (Z0 (Vj Xz Z5) (Z0 Z5 Z4))) Z4))))),?_⟩
  refine⟨_,rfl,_,rfl,sz2,fun p hp=>?_⟩
  have S1:Same H (upd H p (.tup [.int (-1),.int 1])):=Same.new hp
  have g1:Good n (-1,1):=⟨W3 1 (by decide) n1,W3 1 (by decide) n1,by decide,by decide⟩
  exact⟨a,p,rs,(-1,1),n,rfl,hA.same S1,SqT.of Z7,hl,gr,g1,hn,fun c H' ys S e R=>k c H' (S1.trans S) ⟨ys,SqT.of e,R⟩⟩
def gF (K:W.Frag):Sp:=fun vs H Q _=>∃ (l g:Addr) (c n:Nat) (os:List Offr) (as:List Rat),vs=[.int (c:Int),.ref l,.ref g]/\OffsAt K H l c os/\BookU c n os/\RowAt K H g as/\as.length=c/\(∃ D Ws,RepL n D Ws as)/\(∃ ls,Wts c (gainsP os os.length) ls)/\2<=c/\c<=100 ∧
 ∀ (t q va lo:Addr) (xs:List V) (T:Sv.Tab) (H':Hp),H q=none->Same H H'->MostT c (gainsP os os.length) none (cutR none as) T->H' q=some (.lst xs)->Rs K H' (multR c (gainsP os os.length) T ((gainsP os os.length).length+1) (lcmB (cutR none as))) xs->SqT K H' va [.int (valueR c (gainsP os os.length).length (cutR none as) T).1,.int (valueR c (gainsP os os.length).length (cutR none as) T).2]->RowAt K H' lo (loadsR c (gainsP os os.length).length T)->SqT K H' t [.ref va,.ref q,.ref lo]->Q (.ref t) H'
theorem Kh:FnScope ["count","offers","row","found"] ["count","offers","row"] (defScope lD):=fsc
theorem Z0n (D:Def K mg "upper" lD ["count","offers","row"])(fS:Has P w K mg base 5 "solve" ["count","rows","event","aim"] (fN K))(fV:Has P w K mg base 5 "gains" ["offers"] (eN K)):Has P w K mg base 6 "upper" ["count","offers","row"] (gF K):=by
 refine D.has fun f fd F=>F.ok Kh (fun vs H Q E h=>?_) (fun cdv A outer s H vs Q E hr h=>?_)
 ·obtain⟨l,g,c,n,os,as,rfl,_⟩:=h
  rfl
 ·obtain⟨l,g,c,n,os,as,rfl,hO,bu,hg,la,ra,⟨ls,wl⟩,hc2,hc,k⟩:=h
  have sc:=Kh
  refine⟨_,(Z6 (Zg (i:=3) sc.nd rfl (Or.inl rfl) (Zc fS hr (Z0 (pv 0) (Z0 (Zc fV hr (Z0 (pv 1) Z4)) (Z0 Yw (Z0 (pv 2) Z4))))))
   (Z6 (Yd (Zi Xu (Ze Yg (pv 3) Z5 (fun _ _=>rfl)) Xl (Zp _))
    (Z9 Xt)
    Zt)
   (Z9 (Zf (Y8 (Z0 (Ze Yg (pv 3) Z5 (fun _ _=>rfl)) (Z0 (Ze Yg (pv 3) Z5 (fun _ _=>rfl)) (Z0 (Ze Yg (pv 3) Z5 (fun _ _=>rfl)) Z4)))))))),?_⟩
  have few:=bu.few
  have sides:=bu.sides
  have n1:=bu.n1
  have n8:=bu.n8
  have bits:=bu.bits
  refine⟨_,rfl,_,rfl,l,c,n,os,rfl,hO,few,by omega,by omega,bu.good,fun d H1 fd S1 hR1=>?_⟩
  refine⟨_,rfl,d,g,.non,c,n,gainsP os os.length,none,as,rfl,hR1,rfl,hg.same S1,la,bu.rep,ra,n1,by omega,by omega,hc2,by omega,by omega,fun T q t4 xs H4 fq S4 nt hq rs4 sq=>?_,fun T q t4 va lo xs H4 fq S4 mt hq rs4 iv rl sq=>?_⟩
  ·obtain⟨N,ok⟩:=wl.ok as
   exact (nt.noloads bu.rep ok fun _ h=>h).elim
  ·refine⟨_,rfl,t4,_,_,_,rfl,rfl,sq,Zd (j:=0) rfl,rfl,_,rfl,Xf ?_⟩
   obtain⟨va',e,sv⟩:=iv
   cases e
   refine⟨_,rfl,t4,_,_,_,rfl,rfl,sq,Zd (j:=1) rfl,_,rfl,t4,_,_,_,rfl,rfl,sq,Zd (j:=3) rfl,_,rfl,t4,_,_,_,rfl,rfl,sq,Zd (j:=2) rfl,sz3,fun t hp=>?_⟩
   have S5:Same H4 (upd H4 t (.tup [.ref va,.ref q,.ref lo])):=Same.new hp
   exact k t q va lo xs T _ (Yk S1 fq) ((S1.trans S4).trans S5) mt (S5 _ _ hq) (rs4.ext (Ext.same S5)) (Zo S5 sv) (rl.same S5) (SqT.of Z7)
def gH (K:W.Frag):Sp:=fun vs H Q _=>∃ (l g:Addr) (c n:Nat) (os:List Offr) (as:List Rat),vs=[.int (c:Int),.ref l,.ref g]/\OffsAt K H l c os/\BookU c n os/\RowAt K H g as/\as.length=c/\(∃ D Ws,RepL n D Ws as)/\(∃ ls,Wts c (gainsP os os.length) ls)/\2<=c/\c<=100 ∧
 ∀ (t q va lo:Addr) (xs:List V) (T:Sv.Tab) (H':Hp),H q=none->Same H H'->MostT c (gainsP os os.length) none (cutR none (as.map fun r=>mulR' r (-1,1))) T->H' q=some (.lst xs)->Rs K H' (multR c (gainsP os os.length) T ((gainsP os os.length).length+1) (lcmB (cutR none (as.map fun r=>mulR' r (-1,1))))) xs->SqT K H' va [.int (negR (valueR c (gainsP os os.length).length (cutR none (as.map fun r=>mulR' r (-1,1))) T)).1,.int (negR (valueR c (gainsP os os.length).length (cutR none (as.map fun r=>mulR' r (-1,1))) T)).2]->RowAt K H' lo (loadsR c (gainsP os os.length).length T)->SqT K H' t [.ref va,.ref q,.ref lo]->Q (.ref t) H'
theorem Kr:FnScope ["count","offers","row","told"] ["count","offers","row"] (defScope lN):=fsc
theorem Z0y (D:Def K mg "lower" lN ["count","offers","row"])(h9:Has P w K mg base 6 "upper" ["count","offers","row"] (gF K))(gK:Has P w K mg base 5 "turned" ["row"] (fR K))(fJ:Has P w K mg base 3 "minus" ["one","other"] (eK K subR))(eG:Con K mg "NOUGHT" (0,1)):Has P w K mg base 7 "lower" ["count","offers","row"] (gH K):=by
 refine D.has fun f fd F=>F.ok Kr (fun vs H Q E h=>?_) (fun cdv A outer s H vs Q E hr h=>?_)
 ·obtain⟨l,g,c,n,os,as,rfl,_⟩:=h
  rfl
 ·obtain⟨l,g,c,n,os,as,rfl,hO,bu,hg,la,⟨Da,Za,ra⟩,wl,hc2,hc,k⟩:=h
  obtain⟨c_NOUGHT,m_NOUGHT,s_NOUGHT⟩:=eG
  have sc:=Kr
  refine⟨_,(Z6 (Zg (i:=3) sc.nd rfl (Or.inl rfl) (Zc h9 hr (Z0 (pv 0) (Z0 (pv 1) (Z0 (Zc gK hr (Z0 (pv 2) Z4)) Z4)))))
   (Z9 (Zf (Y8 (Z0 (Zc fJ hr (Z0 (Yj (v:=.ref c_NOUGHT) rfl m_NOUGHT rfl) (Z0 (Ze Yg (pv 3) Z5 (fun _ _=>rfl)) Z4))) (Z0 (Ze Yg (pv 3) Z5 (fun _ _=>rfl)) (Z0 (Ze Yg (pv 3) Z5 (fun _ _=>rfl)) Z4))))))),?_⟩
  have n1:=bu.n1
  have n8:=bu.n8
  have bits:=bu.bits
  have sides:=bu.sides
  refine⟨_,rfl,_,rfl,_,rfl,g,as,n,rfl,hg,by omega,ra.good,n1,by omega,fun g2 H1 S1 R1=>?_⟩
  obtain⟨vs,hl,hP⟩:=hO
  refine⟨l,g2,c,n,os,_,rfl,⟨vs,S1 _ _ hl,Y7 hP (Ext.same S1)⟩,bu,R1,by rw[List.length_map];exact la,⟨_,_,Va ra⟩,wl,hc2,hc,fun t q va lo xs T H2 fq S2 mt hq rs2 sv rl sq=>?_⟩
  have gv:=mt.good bu.rep ⟨_,_,Va ra⟩ (by rw[List.length_map];exact la) n1 (by omega) (by omega)
  refine⟨_,rfl,t,_,_,_,rfl,rfl,sq,Zd (j:=0) rfl,c_NOUGHT,va,(0,1),_,_,rfl,s_NOUGHT _,sv,⟨bd0 _,W3 1 (by decide) (by omega),by decide,by decide⟩,gv,by omega,fun m H3 fm S3 e3=>?_⟩
  rw[Sy gv.low] at e3
  have sq3:=Zo S3 sq
  refine⟨_,rfl,t,_,_,_,rfl,rfl,sq3,Zd (j:=1) rfl,_,rfl,t,_,_,_,rfl,rfl,sq3,Zd (j:=2) rfl,sz3,fun t2 hp=>?_⟩
  have S4:Same H3 (upd H3 t2 (.tup [.ref m,.ref q,.ref lo])):=Same.new hp
  have S24:=S3.trans S4
  exact k t2 q m lo xs T _ (Yk S1 fq) ((S1.trans S2).trans S24) mt (S24 _ _ hq) (rs2.ext (Ext.same S24)) (Zo S4 (SqT.of e3)) (rl.same S24) (SqT.of Z7)
end
theorem Pb (rs:List Rat):cutR none rs=rs:=by
 apply List.ext_getElem?
 intro i
 cases h:rs[i]? with
 | some r=>rw[Yz h];rfl
 | none =>
  rw[List.getElem?_eq_none]
  rw[Yb]
  exact List.getElem?_eq_none_iff.mp h
def gainsO (o:Offr):List (List Rat):=(wordsO o).map fun b=>gainR o b
theorem Sa (os:List Offr):∀ n,n<=os.length->gainsP os n=(os.take n).flatMap gainsO
 | 0,_=>rfl
 | n+1,h=>by
  have e:os[n]?=some (os.getD n offD):=by simp[List.getD,show n<os.length by omega]
  rw[Sc,Sa os n (by omega),Yf e,List.flatMap_append]
  simp[gainsO]
theorem Wl (os:List Offr):gainsP os os.length=os.flatMap gainsO:=by rw[Sa os _ (Nat.le_refl _),List.take_of_length_le (Nat.le_refl _)]
theorem Q0 {o:Offr}{rs:List Rat}(h:rs∈gainsO o):∃ b r,priceO o b=some r/\rs=gainR o b:=by
 unfold gainsO at h
 obtain⟨b,hb,e⟩:=List.mem_map.mp h
 have:(0,b)∈sidesP [o] 1:=by
  unfold sidesP
  simp
  exact hb
 obtain⟨_,r,hr⟩:=R9 this
 exact⟨b,r,hr,e.symm⟩
theorem K6 (o:Offr):(gainsO o).length<=2:=by unfold gainsO;rw[List.length_map];exact U8 o
theorem Q1:∀ os:List Offr,(os.flatMap gainsO).length<=2*os.length
 | []=>by simp
 | o::t=>by
  rw[List.flatMap_cons,List.length_append,List.length_cons]
  have:=Q1 t
  have:=K6 o
  omega
structure OffRep (c:Nat)(o:Offr):Prop where
 len:o.row.length=c
 rep:∃ (D A B:Int) (Zs:List Int),RepL 90 D Zs o.row/\(∀ r,o.ask=some r->Low r/\r.1*D=A*r.2/\Bd 90 A)/\∀ r,o.bid=some r->Low r/\r.1*D=B*r.2/\Bd 90 B
theorem OffRep.good {c:Nat}{o:Offr}(h:OffRep c o):GoodO 90 o:=by
 obtain⟨D,A,B,Zs,h1,h2,h3⟩:=h.rep
 exact⟨h1.good,fun r e=>Xw h1.pos (h2 r e).1.pos (h2 r e).1.cop (h2 r e).2.1 h1.bD (h2 r e).2.2,fun r e=>Xw h1.pos (h3 r e).1.pos (h3 r e).1.cop (h3 r e).2.1 h1.bD (h3 r e).2.2⟩
theorem OffRep.gain {c:Nat}{o:Offr}(h:OffRep c o){b:Bool}{r:Rat}(hr:priceO o b=some r):(gainR o b).length=c/\∃ D Zs,RepL 91 D Zs (gainR o b):=by
 refine⟨by rw[P0];exact h.len,?_⟩
 obtain⟨D,A,B,Zs,h1,h2,h3⟩:=h.rep
 have key:∀ (f:Rat->Rat) (g:Int->Int),(∀ i W x,Zs[i]?=some W->o.row[i]?=some x->(f x).1*D=g W*(f x).2/\Bd 91 (g W)/\Low (f x))->RepL 91 D (Zs.map g) (o.row.map f):=fun f g hf=>by
  refine⟨h1.pos,h1.bD.mono (by decide),by rw[List.length_map,List.length_map,h1.len],fun i W x hW hx=>?_⟩
  rw[List.getElem?_map] at hW hx
  cases e1:Zs[i]? with
  | none=>rw[e1] at hW;cases hW
  | some W' =>
   cases e2:o.row[i]? with
   | none=>rw[e2] at hx;cases hx
   | some x' =>
    rw[e1] at hW
    rw[e2] at hx
    cases hW
    cases hx
    exact hf i W' x' e1 e2
 unfold gainR
 cases b with
 | true =>
  have hr:o.ask=some r:=hr
  obtain⟨lr,er,br⟩:=h2 r hr
  rw[hr]
  refine⟨D,_,RepL.cut (key _ (fun W=>W - A) fun i W x e1 e2=>?_) o.ev⟩
  obtain⟨a1,a2,a3⟩:=h1.at_ i W x e1 e2
  exact⟨Vz a3.pos lr.pos a1 er,a2.sub br,Vc a3 lr⟩
 | false =>
  have hr:o.bid=some r:=hr
  obtain⟨lr,er,br⟩:=h3 r hr
  rw[hr]
  refine⟨D,_,RepL.cut (key _ (fun W=>B - W) fun i W x e1 e2=>?_) o.ev⟩
  obtain⟨a1,a2,a3⟩:=h1.at_ i W x e1 e2
  exact⟨Vz lr.pos a3.pos er a1,br.sub a2,Vc lr a3⟩
def FitO (Ws:List Int)(o:Offr):Prop:=∀ (b:Bool) (r:Rat),priceO o b=some r->FitR 61 Ws (gainR o b)
def PriceR (t:Int)(mid:Rat)(o:Option Rat):Prop:=∀ r,o=some r->∃ (sl:Rat) (s:Int),r=addR mid sl/\Low sl/\0<=s/\s<=18/\sl.1*6=(t*s)*sl.2
section
variable {c:Nat}{rs:List Rat}{ask bid:Option Rat}{ev:Option (Nat->Bool)}{mid:Rat}{k C:Int}
theorem U0 {t:Int}{o:Option Rat}{r:Rat}(hp:PriceR t mid o)(lm:Low mid)(hm:mid.1*(6*k)=C*mid.2)(bk:Bd 21 k)(bC:Bd 46 C)(ht:t=1 \/ t=-1)(hr:o=some r):∃ s,0<=s/\s<=18/\Low r/\r.1*(6*k)=(C+t*s*k)*r.2/\Bd 50 (C+t*s*k):=by
 obtain⟨sl,s,e,ls,s0,s1,es⟩:=hp r hr
 refine⟨s,s0,s1,by rw[e];exact Sq lm ls,?_,?_⟩
 ·rw[e]
  exact Um lm.pos ls.pos hm (Xj k es)
 ·have b1:Bd 6 (t*s):=W3 6 (show (t*s).natAbs<64 by rcases ht with rfl | rfl <;> omega) (by decide)
  exact ((bC.mono (show 46<=49 by decide)).add ((b1.mul bk).mono (by decide))).mono (by decide)
theorem Gv (six:∀ r∈rs,Six r)(lr:rs.length=c)(lm:Low mid)(hk:0<k)(hm:mid.1*(6*k)=C*mid.2)(bk:Bd 21 k)(bC:Bd 46 C)(ha:PriceR 1 mid ask)(hb:PriceR (-1) mid bid):OffRep c ⟨rs,ask,bid,ev⟩:=by
 refine⟨lr,?_⟩
 have r6:=(RepL.six six).scale hk bk
 have A:∃ A:Int,∀ r,ask=some r->Low r/\r.1*(6*k)=A*r.2/\Bd 90 A:=by
  cases ask with
  | none=>exact⟨0,fun r e=>nomatch e⟩
  | some x =>
   obtain⟨s,_,_,l,e,b⟩:=U0 ha lm hm bk bC (.inl rfl) rfl
   exact⟨_,fun r er=>by cases er;exact⟨l,e,b.mono (by decide)⟩⟩
 have B:∃ A:Int,∀ r,bid=some r->Low r/\r.1*(6*k)=A*r.2/\Bd 90 A:=by
  cases bid with
  | none=>exact⟨0,fun r e=>nomatch e⟩
  | some x =>
   obtain⟨s,_,_,l,e,b⟩:=U0 hb lm hm bk bC (.inr rfl) rfl
   exact⟨_,fun r er=>by cases er;exact⟨l,e,b.mono (by decide)⟩⟩
 obtain⟨A,hA⟩:=A
 obtain⟨B,hB⟩:=B
 exact⟨6*k,A,B,_,r6.mono (by decide),hA,hB⟩
theorem Fk (six:∀ r∈rs,Six r)(lm:Low mid)(hk:0<k)(hm:mid.1*(6*k)=C*mid.2)(bk:Bd 21 k)(bC:Bd 46 C)(ha:PriceR 1 mid ask)(hb:PriceR (-1) mid bid)(b:Bool)(r:Rat)(hr:priceO ⟨rs,ask,bid,ev⟩ b=some r) :
  ∃ (t s:Int),(t=1 \/ t=-1)/\0<=s/\s<=18/\RepL 61 (6*k) (cutZ ev ((wholeB rs 6).map fun z=>t*(z*k - (C+t*s*k)))) (gainR ⟨rs,ask,bid,ev⟩ b):=by
 have em:∀ t s:Int,(wholeB rs 6).map (fun z=>t*(z*k - (C+t*s*k)))=rs.map fun x=>t*(x.1*(6:Int).fdiv x.2*k - (C+t*s*k)):=fun t s=>by
  unfold wholeB
  rw[List.map_map]
  rfl
 have b6:Bd 61 (6*k):=((W3 (x:=6) 3 (by decide) (by decide):Bd 3 6).mul bk).mono (by decide)
 cases b with
 | true =>
  have hr:ask=some r:=hr
  obtain⟨s,s0,s1,l,e,bb⟩:=U0 ha lm hm bk bC (.inl rfl) hr
  refine⟨1,s,.inl rfl,s0,s1,?_⟩
  unfold gainR
  simp only [if_true]
  rw[hr,em]
  refine RepL.cut (RepL.of_map (by omega) b6 rs _ _ fun x hx=>?_) ev
  have sx:=six x hx
  have e1:=Xj k sx.rep.1
  refine⟨?_,?_,Vc sx.g.low l⟩
  ·rw[Int.one_mul]
   exact Vz sx.g.pos l.pos e1 e
  ·rw[Int.one_mul]
   exact (((sx.rep.2.mul bk).mono (show 24+21<=50 by decide)).sub bb).mono (by decide)
 | false =>
  have hr:bid=some r:=hr
  obtain⟨s,s0,s1,l,e,bb⟩:=U0 hb lm hm bk bC (.inr rfl) hr
  refine⟨-1,s,.inr rfl,s0,s1,?_⟩
  unfold gainR
  simp only [Bool.false_eq_true,if_false]
  rw[hr,em]
  refine RepL.cut (RepL.of_map (by omega) b6 rs _ _ fun x hx=>?_) ev
  have sx:=six x hx
  have e1:=Xj k sx.rep.1
  have e2:=Vz l.pos sx.g.pos e e1
  refine⟨?_,?_,Vc l sx.g.low⟩
  ·have:-1*(x.1*(6:Int).fdiv x.2*k - (C + -1*s*k))=(C + -1*s*k) - x.1*(6:Int).fdiv x.2*k:=by omega
   rw[this]
   exact e2
  ·have:-1*(x.1*(6:Int).fdiv x.2*k - (C + -1*s*k))=(C + -1*s*k) - x.1*(6:Int).fdiv x.2*k:=by omega
   rw[this]
   exact (bb.sub ((sx.rep.2.mul bk).mono (show 24+21<=50 by decide))).mono (by decide)
theorem Q2 {Ws:List Int}{S M:Int}(lW:Ws.length=c)(nn:∀ W∈Ws,0<=W)(six:∀ r∈rs,Six r)(lr:rs.length=c)(hS:S=(List.zipWith (·*·) Ws (cutZ ev (List.replicate c 1))).sum)(hM:M=(List.zipWith (·*·) Ws (cutZ ev (wholeB rs 6))).sum)
  (lm:Low mid) (hk:0<k) (hm:mid.1*(6*k)=C*mid.2) (bk:Bd 21 k) (bC:Bd 46 C) (h1:0<S->k=S/\C=M) (ha:PriceR 1 mid ask) (hb:PriceR (-1) mid bid):FitO Ws ⟨rs,ask,bid,ev⟩:=fun b r hr=>by
 obtain⟨t,s,ht,s0,s1,rep⟩:=Fk (ev:=ev) six lm hk hm bk bC ha hb b r hr
 have lR:(wholeB rs 6).length=c:=by rw[(RepL.six six).len,lr]
 refine⟨_,_,rep,?_⟩
 rw[Z1o lW lR,← hS,← hM]
 have S0:0<=S:=by rw[hS];exact (Uj lW nn).1
 by_cases q:0<S
 ·obtain⟨rfl,rfl⟩:=h1 q
  have e:t*(k*C - (C+t*s*k)*k)=- (s*(k*k)):=by
   rcases ht with rfl | rfl <;> grind
  rw[e]
  have:0<=s*(k*k):=Int.mul_nonneg s0 (Int.mul_nonneg S0 S0)
  omega
 ·have e0:S=0:=by omega
  have eM:M=0:=by
   rw[hM]
   exact Lb lW lR nn (by rw[← hS];exact e0)
  rw[e0,eM]
  simp
end
theorem Z1t (r s:Rat):subR r s=addR r (negR s):=by
 show nrm (r.1*s.2 - s.1*r.2) (r.2*s.2)=nrm (r.1*s.2 + -s.1*r.2) (r.2*s.2)
 rw[Int.neg_mul,Int.sub_eq_add_neg]
theorem Mm {z:Int}:(nrm z 2).1*6=z*3*(nrm z 2).2:=by
 have:=J1 (p:=z) (show (2:Int)≠0 by decide)
 have e:=Xj 3 this
 exact e
theorem Dy {z:Int}{mid:Rat}(h0:0<=z)(h1:z<=6):PriceR 1 mid (some (addR mid (nrm z 2))):=fun r e=>by
 cases e
 refine⟨nrm z 2,z*3,rfl,X8 (by decide),by omega,by omega,?_⟩
 rw[Int.one_mul]
 exact Mm
theorem Li {z:Int}{mid:Rat}(h0:0<=z)(h1:z<=6):PriceR (-1) mid (some (subR mid (nrm z 2))):=fun r e=>by
 cases e
 refine⟨negR (nrm z 2),z*3,Z1t _ _,negR.low (X8 (by decide)),by omega,by omega,?_⟩
 show -(nrm z 2).1*6=-1*(z*3)*(nrm z 2).2
 rw[Int.neg_mul,Mm]
 grind
theorem PriceR.non {t:Int}{mid:Rat}:PriceR t mid none:=fun r e=>nomatch e
structure MidR (c:Nat)(Ws:List Int)(rs:List Rat)(o:Option (Nat->Bool))(mid:Rat)(k C:Int):Prop where
 len:rs.length=c
 six:∀ r∈rs,Six r
 g:Good 100 mid
 pos:0<k
 eq:mid.1*(6*k)=C*mid.2
 bk:Bd 21 k
 bC:Bd 46 C
 at_:0<(List.zipWith (·*·) Ws (cutZ o (List.replicate c 1))).sum->k=(List.zipWith (·*·) Ws (cutZ o (List.replicate c 1))).sum/\C=(List.zipWith (·*·) Ws (cutZ o (wholeB rs 6))).sum
theorem Same.viaX {b:Addr}{H H1 H2:Hp}(fb:H b=none)(S:Same H H1)(X:SameX b H1 H2):Same H H2:=fun q o e=>X q o (S q o e) (Z8 e fb)
section
variable {P:Program}{w:World}{K:W.Frag}{mg:Str->Option Value}{base:Heap}
def jK (K:W.Frag):Sp:=fun vs H Q _=>∃ (a g:Addr) (ve:V) (c:Nat) (Ws:List Int) (ws rs:List Rat) (o:Option (Nat->Bool)),vs=[.ref a,.ref g,ve]/\RowAt K H a ws/\WtsR c Ws ws/\RowAt K H g rs/\rs.length=c/\(∀ r∈rs,Six r)/\EvAt K H c o ve/\1<=c/\c<=100 ∧
 ∀ (am:Addr) (H':Hp) (mid:Rat) (k C:Int),Same H H'->SqT K H' am [.int mid.1,.int mid.2]->MidR c Ws rs o mid k C->Q (.ref am) H'
theorem Z1v:FnScope ["_law_weights_here","_law_row_here","_law_event_here","_law_share"] ["_law_weights_here","_law_row_here","_law_event_here"] (defScope mE):=fsc
set_option maxHeartbeats 1600000 in
theorem Z3g (D:Def K mg "_law_mid" mE ["_law_weights_here","_law_row_here","_law_event_here"])(T:Blt mg)(fF:Has P w K mg base 4 "_law_mean" ["_law_weights_here","_law_row_here"] (gG K))(fG:Has P w K mg base 2 "_law_cut" ["_law_row_here","_law_event_here"] (hI K))(iB:Has P w K mg base 3 "_law_parted" ["_law_one","_law_other"] (gR K)) :
  Has P w K mg base 5 "_law_mid" ["_law_weights_here","_law_row_here","_law_event_here"] (jK K):=by
 refine D.has fun f fd F=>F.ok Z1v (fun vs H Q E h=>?_) (fun cdv A outer s H vs Q E hr h=>?_)
 ·obtain⟨a,g,ve,c,Ws,ws,rs,o,rfl,_⟩:=h
  rfl
 ·obtain⟨a,g,ve,c,Ws,ws,rs,o,rfl,⟨xs,hxs,hws⟩,wt,⟨us,hus,hrs⟩,l1,six,E0,hc1,hc,k⟩:=h
  have sc:=Z1v
  have nd1:(["_law_one"]:List Str).Nodup:=by decide +kernel
  refine⟨_,(Z6 (Zg (i:=3) sc.nd rfl (Or.inl rfl) (Zc fF hr (Z0 (pv 0) (Z0 (Zc fG hr (Z0 (Yn (N:=["_law_one"]) (k:=1) (fv:=[]) rfl (Ti (pv 1))
   (fun _ _ _ _ _=>Zl (i:=0) nd1 rfl (Or.inl rfl)) (fun _ _ _ _ _=>Yh) (fun _ _ _ _ _=>(Y8 (Z0 Z5 (Z0 Z5 Z4)))) Y2) (Z0 (pv 2) Z4))) Z4))))
   (Z6 (Yd (Zi Xu (Ze Xg (pv 3) Z5 (fun _ _=>rfl)) Z5 (Zp _))
    (Z9 (Zf (Y8 (Z0 Z5 (Z0 Z5 Z4)))))
    Zt)
   (Z9 (Zf (Zc iB hr (Z0 (Zc fF hr (Z0 (pv 0) (Z0 (Zc fG hr (Z0 (pv 1) (Z0 (pv 2) Z4))) Z4))) (Z0 (pv 3) Z4))))))),?_⟩
  have lus:=hrs.len
  refine⟨_,rfl,_,rfl,g,rfl,⟨_,hus⟩,fun d hd=>?_⟩
  refine⟨c,fun j ys H'=>Same H H'/\Rs K H' (List.replicate j (1,1)) ys,Zq (by omega),⟨Same.new hd,.nil⟩,?_,?_⟩
  ·rintro j ys H10 hj ⟨S10,R10⟩ hd10
   refine⟨⟨us,us[j]'(by omega),Zo S10 hus,by simp⟩,?_⟩
   rintro x' H3 ⟨rfl,fx⟩
   refine Yo ?_
   refine⟨sz2,fun p hp=>?_⟩
   have S11:Same H3 (upd H3 p (.tup [.int 1,.int 1])):=Same.new hp
   have hd11:=S11 _ _ hd10
   refine⟨hd11,fun q o' e=>?_,?_⟩
   ·rw[Zb (Z8 e hd)]
    exact S11 _ _ (S10 _ _ e)
   ·rw[List.replicate_succ']
    exact (R10.ext ((Ext.same S11).trans (Ext.upd hd11))).snoc ⟨p,rfl,(Ext.upd hd11).sq (SqT.of Z7)⟩
  rintro ys H10 ⟨S10,R10⟩ hd10
  refine⟨⟨us,Zo S10 hus,by omega⟩,_,rfl,d,ve,ys,List.replicate c (1,1),o,rfl,.inl (SqL.of hd10),R10,by rw[List.length_replicate];exact E0.same S10,by rw[List.length_replicate];omega,fun p11 H11 S11 R11=>?_⟩
  obtain⟨ys11,h11,r11⟩:=R11
  have S011:=S10.trans S11
  have ro:=(RepL.ones c).cut o
  have lo:(cutR o (List.replicate c (1,1))).length=c:=by rw[Yb,List.length_replicate]
  refine⟨a,p11,xs,ys11,ws,_,10,1,_,_,_,_,rfl,.inr (Zo S011 hxs),hws.ext (Ext.same S011),.inr h11,r11,by rw[lo];exact wt.len,by rw[lo];omega,wt.rep,ro,by decide,fun ash H12 S12 e12=>?_⟩
  have S012:=S011.trans S12
  have lWs:Ws.length=c:=by rw[wt.rep.len];exact wt.len
  obtain⟨shE,shL⟩:=(wt.rep.mul ro (by rw[lo];exact wt.len)).sum
  have shG:=(wt.rep.mul ro (by rw[lo];exact wt.len)).sumGood (k:=10) (by rw[List.length_zipWith,lo];omega)
  replace shE:(sumR (List.zipWith mulR' ws (cutR o (List.replicate c (1,1))))).1*(Ws.sum*1)=(List.zipWith (·*·) Ws (cutZ o (List.replicate c 1))).sum*(sumR (List.zipWith mulR' ws (cutR o (List.replicate c (1,1))))).2:=shE
  replace shL:Low (sumR (List.zipWith mulR' ws (cutR o (List.replicate c (1,1))))):=shL
  replace shG:Good (10+1+10) (sumR (List.zipWith mulR' ws (cutR o (List.replicate c (1,1))))):=shG
  generalize sumR (List.zipWith mulR' ws (cutR o (List.replicate c (1,1))))=sh at *
  have bS:Bd 21 (List.zipWith (·*·) Ws (cutZ o (List.replicate c 1))).sum:=By (m:=10) (n:=1) (k:=10) (fun W hW=>wt.rep.bdW W hW) (fun z hz=>ro.bdW z hz) (by rw[lWs];omega)
  have r6:=RepL.six six
  have bM:Bd 44 (List.zipWith (·*·) Ws (cutZ o (wholeB rs 6))).sum:=By (m:=10) (n:=24) (k:=10) (fun W hW=>wt.rep.bdW W hW) (fun z hz=>(r6.cut o).bdW z hz) (by rw[lWs];omega)
  have Snn:0<=(List.zipWith (·*·) Ws (cutZ o (List.replicate c 1))).sum:=(Uj lWs wt.nn).1
  have wp:=wt.pos
  refine⟨_,rfl,ash,_,_,rfl,rfl,e12,rfl,_,rfl,?_⟩
  refine Xc (fun h=>?_) (fun h=>?_)
  ·have h0:sh.1=0:=by
    have:=of_decide_eq_true h
    injection this
   have S0:¬ 0<(List.zipWith (·*·) Ws (cutZ o (List.replicate c 1))).sum:=fun z=>by
    have h1:=Int.mul_pos z shL.pos
    rw[h0,Int.zero_mul] at shE
    omega
   refine⟨sz2,fun p hp=>?_⟩
   exact k p _ (0,1) 1 0 (S012.trans (Same.new hp)) (SqT.of Z7) ⟨l1,six,⟨bd0 _,W3 1 (by decide) (by decide),by decide,by decide⟩,by decide,by decide,W3 1 (by decide) (by decide),bd0 _,fun z=>absurd z S0⟩
  ·have h0:sh.1≠0:=fun z=>h (decide_eq_true (by rw[z]))
   have hpos:0<sh.1:=by
    have:0<=sh.1:=((Yc (show 0<Ws.sum*1 by omega) shL.pos shE).1).mpr Snn
    omega
   have Spos:0<(List.zipWith (·*·) Ws (cutZ o (List.replicate c 1))).sum:=by
    apply Classical.byContradiction
    intro z
    have:(List.zipWith (·*·) Ws (cutZ o (List.replicate c 1))).sum=0:=by omega
    rw[this,Int.zero_mul] at shE
    have:=Int.mul_pos hpos (show 0<Ws.sum*1 by omega)
    omega
   refine⟨_,rfl,_,rfl,_,rfl,g,ve,us,rs,o,rfl,.inr (Zo S012 hus),hrs.ext (Ext.same S012),by rw[l1];exact E0.same S012,by omega,fun p13 H13 S13 R13=>?_⟩
   obtain⟨ys13,h13,r13⟩:=R13
   have rc:=r6.cut o
   have lc:(cutR o rs).length=c:=by rw[Yb];exact l1
   refine⟨a,p13,xs,ys13,ws,_,10,24,_,_,_,_,rfl,.inr (Zo (S012.trans S13) hxs),hws.ext (Ext.same (S012.trans S13)),.inr h13,r13,by rw[lc];exact wt.len,by rw[lc];omega,wt.rep,rc,by decide,fun am2 H14 S14 e14=>?_⟩
   obtain⟨miE,miL⟩:=(wt.rep.mul rc (by rw[lc];exact wt.len)).sum
   have miG:=(wt.rep.mul rc (by rw[lc];exact wt.len)).sumGood (k:=10) (by rw[List.length_zipWith,lc];omega)
   replace miE:(sumR (List.zipWith mulR' ws (cutR o rs))).1*(Ws.sum*6)=(List.zipWith (·*·) Ws (cutZ o (wholeB rs 6))).sum*(sumR (List.zipWith mulR' ws (cutR o rs))).2:=miE
   replace miL:Low (sumR (List.zipWith mulR' ws (cutR o rs))):=miL
   replace miG:Good (10+24+10) (sumR (List.zipWith mulR' ws (cutR o rs))):=miG
   generalize sumR (List.zipWith mulR' ws (cutR o rs))=mi at *
   have S1214:=S13.trans S14
   replace e12:=Zo S1214 e12
   refine⟨_,rfl,am2,ash,mi,sh,44,rfl,e14,e12,miG,shG.mono (by decide),hpos,by decide,fun aq H15 f15 S15 e15=>?_⟩
   have qE:=Du (q:=nrm (mi.1*sh.2) (mi.2*sh.1)) miL.pos shL.pos miE shE (Ys (mi.1*sh.2) (mi.2*sh.1))
   have hne:mi.2*sh.1≠0:=Wu miL.pos hpos
   have qG:Good 65 (nrm (mi.1*sh.2) (mi.2*sh.1)):=Rp (miG.b1.mul shG.b2) (miG.b2.mul shG.b1) hne
   exact k aq H15 _ _ _ ((S012.trans S1214).trans S15) (SqT.of e15) ⟨l1,six,qG.mono (by decide),Spos,qE,bS,bM.mono (by decide),fun _=>⟨rfl,rfl⟩⟩
def gS (K:W.Frag):Sp:=fun vs H Q _=>∃ (b a:Addr) (c n:Nat) (Ws:List Int) (ws:List Rat),vs=[.ref b,.ref a,.int 0]/\BagAt H b n/\n<=50000/\RowAt K H a ws/\WtsR c Ws ws/\1<=c/\c<=100 ∧
 ∀ (v:V) (H':Hp) (o:Offr),SameX b H H'->OffAt K H' c o v->OffRep c o->FitO Ws o->Q v H'
theorem Nr:FnScope ["_law_bag_here","_law_weights_here","_law_loose","_law_event_here","_law_row_here","_law_mid_here","_law_ask","_law_bid","_law_way"] ["_law_bag_here","_law_weights_here","_law_loose"] (defScope lK):=fsc
set_option maxHeartbeats 1600000 in
theorem Cg (D:Def K mg "_law_offer" lK ["_law_bag_here","_law_weights_here","_law_loose"])(T:Blt mg)(eD:Z2 P w K mg base)(iZ:Has P w K mg base 2 "_law_event" ["_law_bag_here","_law_count"] (iQ K))(gN:Has P w K mg base 4 "_law_row" ["_law_bag_here","_law_count"] (hG K))(jI:Has P w K mg base 5 "_law_mid" ["_law_weights_here","_law_row_here","_law_event_here"] (jK K))
  (eE:Z1 P w K mg base) (eS:Z3 P w K mg base) (eU:Has P w K mg base 3 "_law_minus" ["_law_one","_law_other"] (eK K subR)) :
  Has P w K mg base 6 "_law_offer" ["_law_bag_here","_law_weights_here","_law_loose"] (gS K):=by
 refine D.has fun f fd F=>F.ok Nr (fun vs H Q E h=>?_) (fun cdv A outer s H vs Q E hr h=>?_)
 ·obtain⟨b,a,c,n,Ws,ws,rfl,_⟩:=h
  rfl
 ·obtain⟨b,a,c,n,Ws,ws,rfl,hB,hn,⟨xs,hxs,hws⟩,wt,hc1,hc,k⟩:=h
  have sc:=Nr
  refine⟨_,(Z6 (Zg (i:=3) sc.nd rfl (Or.inl rfl) (Zc iZ hr (Z0 (pv 0) (Z0 (Zu Y1 rfl T.len boot_len (Z0 (pv 1) Z4)) Z4))))
   (Z6 (Zg (i:=4) sc.nd rfl (Or.inl rfl) (Zc gN hr (Z0 (pv 0) (Z0 (Zu Y1 rfl T.len boot_len (Z0 (pv 1) Z4)) Z4))))
   (Z6 (Zg (i:=5) sc.nd rfl (Or.inl rfl) (Zc jI hr (Z0 (pv 1) (Z0 (pv 4) (Z0 (pv 3) Z4)))))
   (Z6 (Zg (i:=6) sc.nd rfl (Or.inl rfl) (Zc eS hr (Z0 (pv 5) (Z0 (Zc eE hr (Z0 (Zh Vn (Zc eD hr (Z0 (pv 0) (Z0 Z5 Z4))) (pv 2)) (Z0 Z5 Z4))) Z4))))
   (Z6 (Zg (i:=7) sc.nd rfl (Or.inl rfl) (Zc eU hr (Z0 (pv 5) (Z0 (Zc eE hr (Z0 (Zh Vn (Zc eD hr (Z0 (pv 0) (Z0 Z5 Z4))) (pv 2)) (Z0 Z5 Z4))) Z4))))
   (Z6 (Zg (i:=8) sc.nd rfl (Or.inl rfl) (Zc eD hr (Z0 (pv 0) (Z0 Z5 Z4))))
   (Z6 (Wo (Yd (Zi Xu (pv 8) Z5 (Zp _))
    (Z9 (Zg (i:=6) sc.nd rfl (Or.inl rfl) Yw))
    Zt))
   (Z6 (Wo (Yd (Zi Xu (pv 8) Z5 (Zp _))
    (Z9 (Zg (i:=7) sc.nd rfl (Or.inl rfl) Yw))
    Zt))
   (Z9 (Zf (Y8 (Z0 (pv 4) (Z0 (pv 6) (Z0 (pv 7) (Z0 (pv 3) Z4))))))))))))))),?_⟩
  have lx:=hws.len
  obtain rfl:c=xs.length:=by have:=wt.len;omega
  generalize hcc:xs.length=c at *
  refine⟨_,rfl,_,rfl,a,xs,rfl,.inr hxs,?_⟩
  rw[hcc]
  refine⟨b,c,n,rfl,hB,by omega,by omega,fun ve H1 o B1 S1 E1=>?_⟩
  have hxs1:SqT K H1 a xs:=(Ext.bag S1 hB).sq hxs
  have hws1:=hws.ext (Ext.bag S1 hB)
  refine⟨_,rfl,_,rfl,a,xs,rfl,.inr hxs1,?_⟩
  rw[hcc]
  refine⟨b,c,_,rfl,B1,by omega,by omega,fun a1 H2 rs B2 S2 R2 l1 six=>?_⟩
  have x12:=Ext.bag S2 B1
  refine⟨_,rfl,_,rfl,_,rfl,a,a1,ve,c,Ws,ws,rs,o,rfl,⟨xs,x12.sq hxs1,hws1.ext x12⟩,wt,R2,l1,six,E1.ext x12,hc1,hc,fun am H3 mid kk C S3 sqm mr=>?_⟩
  have B3:=B2.same S3
  have E3:=(E1.ext x12).same S3
  have R3:=R2.same S3
  have S03:SameX b H H3:=(S1.trans S2).trans (SameX.of S3)
  clear S1 S2 S3 B1 B2 hxs1 hws1 x12 E1 R2
  refine⟨_,rfl,_,rfl,b,_,_,rfl,B3,by omega,by decide,by decide +kernel,fun z H4 z0 z1 B4 S4=>⟨_,rfl,_,_,rfl,rfl,?_⟩⟩
  refine⟨_,_,rfl,by decide,by decide,fun asl H5 f5 S5 e5=>?_⟩
  have e0:z - 0=z:=by omega
  rw[e0] at e5
  have g5:Good 100 (nrm z 2):=(Ui (by omega) (by omega) (.inr (.inl rfl))).g.mono (by decide)
  have x35:=(Ext.bag S4 B3).trans (Ext.same S5)
  refine⟨am,asl,mid,nrm z 2,100,rfl,x35.sq sqm,SqT.of e5,mr.g,g5,by decide,fun aA H6 f6 S6 e6=>?_⟩
  have S36:SameX b H3 H6:=(S4.trans (SameX.of S5)).trans (SameX.of S6)
  have B6:=(B4.same S5).same S6
  have x36:=Ext.bag S36 B3
  clear S4 S5 S6 e5 x35 f5 f6 B4
  refine⟨_,rfl,_,rfl,b,_,_,rfl,B6,by omega,by decide,by decide +kernel,fun y H7 y0 y1 B7 S7=>⟨_,rfl,_,_,rfl,rfl,?_⟩⟩
  refine⟨_,_,rfl,by decide,by decide,fun asl H8 f8 S8 e8=>?_⟩
  have e0:y - 0=y:=by omega
  rw[e0] at e8
  have g8:Good 100 (nrm y 2):=(Ui (by omega) (by omega) (.inr (.inl rfl))).g.mono (by decide)
  have x68:=(Ext.bag S7 B6).trans (Ext.same S8)
  refine⟨am,asl,mid,nrm y 2,100,rfl,x68.sq (x36.sq sqm),SqT.of e8,mr.g,g8,by decide,fun aB H9 f9 S9 e9=>?_⟩
  have S69:SameX b H6 H9:=(S7.trans (SameX.of S8)).trans (SameX.of S9)
  have B9:=(B7.same S8).same S9
  have x69:=Ext.bag S69 B6
  have sqA:=x69.sq (SqT.of (K:=K) e6)
  have sqB:=SqT.of (K:=K) e9
  have x39:=x36.trans x69
  have S09:=(S03.trans S36).trans S69
  clear S7 S8 S9 e8 x68 f8 f9 B7 e6 e9
  refine⟨_,rfl,b,_,_,rfl,B9,by omega,by decide,by decide +kernel,fun wy H10 w0 w1 B10 S10=>?_⟩
  have x910:=Ext.bag S10 B9
  have pu:=Dy (mid:=mid) z0 (show z<=6 by omega)
  have pd:=Li (mid:=mid) y0 (show y<=6 by omega)
  have fin:∀ (oa ob:Option Rat) (va vb:V),MayAt K H10 oa va->MayAt K H10 ob vb->PriceR 1 mid oa->PriceR (-1) mid ob->∀ p,H10 p=none->Q (.ref p) (upd H10 p (.tup [.ref a1,va,vb,ve])):=fun oa ob va vb Ma Mb pa pb p hp=>by
   have S11:Same H10 (upd H10 p (.tup [.ref a1,va,vb,ve])):=Same.new hp
   have x11:=Ext.same S11
   have x311:=(x39.trans x910).trans x11
   have lWs:Ws.length=c:=by rw[wt.rep.len];exact wt.len
   exact k _ _ ⟨rs,oa,ob,o⟩ ((S09.trans S10).trans (SameX.of S11)) ⟨p,a1,va,vb,ve,rfl,SqT.of Z7,R3.ext x311,l1,Ma.ext x11,Mb.ext x11,E3.ext x311⟩ (Gv six l1 mr.g.low mr.pos mr.eq mr.bk mr.bC pa pb) (Q2 lWs wt.nn six l1 rfl rfl mr.g.low mr.pos mr.eq mr.bk mr.bC mr.at_ pa pb)
  refine⟨fun σ H'=>H'=H10/\∃ (oa:Option Rat) (va:V),σ=[some (.ref b),some (.ref a),some (.int 0),some ve,some (.ref a1),some (.ref am),some va,some (.ref aB),some (.int wy)]/\MayAt K H10 oa va/\PriceR 1 mid oa,?_,?_⟩
  ·refine⟨_,rfl,rfl,_,rfl,?_⟩
   refine Xc (fun h=>?_) (fun h=>?_)
   ·exact⟨rfl,none,.non,rfl,rfl,PriceR.non⟩
   ·exact⟨rfl,some _,.ref aA,rfl,⟨aA,rfl,x910.sq sqA⟩,pu⟩
  rintro σ H11 ⟨rfl,oa,va,rfl,Ma,pa⟩
  refine⟨fun σ H'=>H'=H11/\∃ (ob:Option Rat) (vb:V),σ=[some (.ref b),some (.ref a),some (.int 0),some ve,some (.ref a1),some (.ref am),some va,some vb,some (.int wy)]/\MayAt K H11 ob vb/\PriceR (-1) mid ob,?_,?_⟩
  ·refine⟨_,rfl,rfl,_,rfl,?_⟩
   refine Xc (fun h=>?_) (fun h=>?_)
   ·exact⟨rfl,none,.non,rfl,rfl,PriceR.non⟩
   ·exact⟨rfl,some _,.ref aB,rfl,⟨aB,rfl,x910.sq sqB⟩,pd⟩
  rintro σ H12 ⟨rfl,ob,vb,rfl,Mb,pb⟩
  exact⟨_,rfl,_,rfl,_,rfl,_,rfl,sz4,fun p hp=>fin oa ob va vb Ma Mb pa pb p hp⟩
structure FairB (c:Nat)(Ws:List Int)(os:List Offr):Prop where
 rep:∀ o∈os,OffRep c o
 fit:∀ o∈os,FitO Ws o
 few:os.length<=3
def iP (K:W.Frag):Sp:=fun vs H Q _=>∃ (a:Addr) (c:Nat) (ns:List Int),vs=[.ref a,.int (c:Int)]/\SqL K H a (ns.map V.int)/\1<=c/\c<=100 ∧
 ∀ (t aw l:Addr) (H':Hp) (Ws:List Int) (ws:List Rat) (os:List Offr),Same H H'->SqT K H' t [.ref aw,.ref l]->RowAt K H' aw ws->WtsR c Ws ws->OffsAt K H' l c os->FairB c Ws os->Q (.ref t) H'
theorem Kw:FnScope ["_law_script","_law_count","_law_weights_here","_law_many","_law_offers","_law_k"] ["_law_script","_law_count"] (defScope kH):=fsc
set_option maxHeartbeats 1600000 in
theorem Z13 (D:Def K mg "_law_fair_book" kH ["_law_script","_law_count"])(T:Blt mg)(eO:Has P w K mg base 2 "_law_bag" ["_law_script","_law_at"] (gJ K))(eD:Z2 P w K mg base)(gW:Has P w K mg base 3 "_law_weights" ["_law_bag_here","_law_count"] (fP K))(iX:Has P w K mg base 6 "_law_offer" ["_law_bag_here","_law_weights_here","_law_loose"] (gS K)) :
  Has P w K mg base 7 "_law_fair_book" ["_law_script","_law_count"] (iP K):=by
 refine D.has fun f fd F=>F.ok Kw (fun vs H Q E h=>?_) (fun cdv A outer s H vs Q E hr h=>?_)
 ·obtain⟨a,c,ns,rfl,_⟩:=h
  rfl
 ·obtain⟨a,c,ns,rfl,hS,hc1,hc,k⟩:=h
  have sc:=Kw
  refine⟨_,(Z6 (Zg (i:=2) sc.nd rfl (Or.inl rfl) (Zc gW hr (Z0 (Zc eO hr (Z0 (pv 0) (Z0 Z5 Z4))) (Z0 (pv 1) Z4))))
   (Z6 (Zg (i:=3) sc.nd rfl (Or.inl rfl) (Ze Zy (Xb (Z0 Z5 (Z0 Z5 (Z0 Z5 (Z0 Z5 (Z0 Z5 (Z0 Z5 (Z0 Z5 (Z0 Z5 Z4))))))))) (Zc eD hr (Z0 (Zc eO hr (Z0 (pv 0) (Z0 Z5 Z4))) (Z0 Z5 Z4))) (fun _ _=>rfl)))
   (Z6 (Zg (i:=4) sc.nd rfl (Or.inl rfl) (Xb Z4))
   (Z6 (Xk PassesOwn.never rfl (Yi rfl T.range (Z0 (pv 3) Z4)) (Zl (i:=5) sc.nd rfl (Or.inl rfl))
    (Z9 (Yr (Wf PySem.F.plainAttrs_list PySem.F.slot_list_append PySem.F.type_list_append Yl (pv 4) (Z0 (Zc iX hr (Z0 (Zc eO hr (Z0 (pv 0) (Z0 (Zh Yu Z5 (pv 5)) Z4))) (Z0 (pv 2) (Z0 Z5 Z4)))) Z4)))))
   (Z9 (Zf (Y8 (Z0 (pv 2) (Z0 (pv 4) Z4))))))))),?_⟩
  refine⟨_,rfl,a,2,ns,rfl,hS,by decide,fun b H1 fb S1 B1=>?_⟩
  refine⟨_,rfl,b,c,_,rfl,B1,by omega,hc1,hc,fun aw H2 Ws ws B2 S2 R2 wt=>?_⟩
  have S02:=Same.viaX fb S1 S2
  refine⟨sz8,fun l0 hl0=>?_⟩
  have S3:Same H2 (upd H2 l0 (.lst [.int 0,.int 1,.int 2,.int 3,.int 1,.int 2,.int 3,.int 2])):=Same.new hl0
  have e3:upd H2 l0 (.lst [.int 0,.int 1,.int 2,.int 3,.int 1,.int 2,.int 3,.int 2]) l0=some (.lst [.int 0,.int 1,.int 2,.int 3,.int 1,.int 2,.int 3,.int 2]):=Z7
  generalize upd H2 l0 (.lst [.int 0,.int 1,.int 2,.int 3,.int 1,.int 2,.int 3,.int 2])=H3 at *
  have S03:=S02.trans S3
  refine⟨_,rfl,a,3,ns,rfl,Vh S03 hS,by decide,fun b4 H4 fb4 S4 B4=>?_⟩
  refine⟨b4,_,_,rfl,B4,by omega,by decide,by decide +kernel,fun z H5 z0 z1 B5 S5=>?_⟩
  have S35:=Same.viaX fb4 S4 S5
  obtain⟨m,em,hm⟩:∃ m:Nat,atI [V.int 0,.int 1,.int 2,.int 3,.int 1,.int 2,.int 3,.int 2] z=some (.int m)/\m<=3:=by
   have h:z=0 \/ z=1 \/ z=2 \/ z=3 \/ z=4 \/ z=5 \/ z=6 \/ z=7:=by omega
   rcases h with rfl | rfl | rfl | rfl | rfl | rfl | rfl | rfl
   ·exact⟨0,Zd (j:=0) rfl,by decide⟩
   ·exact⟨1,Zd (j:=1) rfl,by decide⟩
   ·exact⟨2,Zd (j:=2) rfl,by decide⟩
   ·exact⟨3,Zd (j:=3) rfl,by decide⟩
   ·exact⟨1,Zd (j:=4) rfl,by decide⟩
   ·exact⟨2,Zd (j:=5) rfl,by decide⟩
   ·exact⟨3,Zd (j:=6) rfl,by decide⟩
   ·exact⟨2,Zd (j:=7) rfl,by decide⟩
  refine⟨l0,_,_,_,rfl,rfl,SqL.of (S35 _ _ e3),em,?_⟩
  refine⟨sz0,fun l hl=>?_⟩
  have S6:Same H5 (upd H5 l (.lst [])):=Same.new hl
  have e6:upd H5 l (.lst []) l=some (.lst []):=Z7
  have S06:=(S03.trans S35).trans S6
  have W6:=R2.same ((S3.trans S35).trans S6)
  have hl0':H l=none:=Yk (S03.trans S35) hl
  generalize upd H5 l (.lst [])=H6 at *
  clear S1 S2 S3 S4 S5 S6 S35 S03 S02 B1 B2 B4 B5 R2 e3 hl0 hl fb4 em z0 z1
  refine⟨_,rfl,(m:Int),rfl,(by omega),(by omega),?_⟩
  have et:(m:Int).toNat=m:=by omega
  rw[et]
  refine V1 (lo:=0) (n:=m) (fun i σ H'=>Same H H'/\RowAt K H' aw ws/\∃ (vs:List V) (os:List Offr) (x:Option V),σ=[some (.ref a),some (.int c),some (.ref aw),some (.int m),some (.ref l),x]/\H' l=some (.lst vs)/\Paired (fun v o=>OffAt K H' c o v) vs os/\os.length=i/\(∀ o∈os,OffRep c o)/\(∀ o∈os,FitO Ws o)) ⟨S06,W6,[],[],none,rfl,e6,.nil,rfl,(fun _ h=>nomatch h),fun _ h=>nomatch h⟩ ?_ ?_
  ·rintro i σ H7 hi ⟨S7,W7,vs,os,x,rfl,hl7,P7,l7,rep7,fit7⟩
   have lp:=Paired.length P7
   refine⟨_,rfl,.inl ⟨rfl,_,SqL.of hl7⟩,_,rfl,_,rfl,_,_,rfl,rfl,a,4+i,ns,(by show [V.ref a,V.int (4+(0+(i:Int)))]=_;rw[show (4+(0+(i:Int)))=((4+i:Nat):Int) by omega]),Vh S7 hS,by omega,fun b8 H8 fb8 S8 B8=>?_⟩
   refine⟨_,rfl,b8,aw,c,_,Ws,ws,rfl,B8,by omega,W7.same S8,wt,hc1,hc,fun v H9 o S9 O9 r9 f9=>?_⟩
   have S79:=Same.viaX fb8 S8 S9
   have hl9:=S79 _ _ hl7
   refine⟨l,_,_,rfl,rfl,hl9,Xd (by omega),fun q o' e=>?_,(W7.same S79).ext (Ext.upd hl9),vs++[v],os++[o],_,rfl,Z7,Paired.snoc (Y7 P7 ((Ext.same S79).trans (Ext.upd hl9))) (O9.ext (Ext.upd hl9)),by rw[List.length_append,l7];rfl,fun o' ho=>?_,fun o' ho=>?_⟩
   ·rw[Zb (Z8 e hl0')]
    exact S79 _ _ (S7 q o' e)
   ·rcases List.mem_append.mp ho with z | z
    ·exact rep7 o' z
    ·rw[List.mem_singleton.mp z];exact r9
   ·rcases List.mem_append.mp ho with z | z
    ·exact fit7 o' z
    ·rw[List.mem_singleton.mp z];exact f9
  ·rintro σ H7 ⟨S7,W7,vs,os,x,rfl,hl7,P7,l7,rep7,fit7⟩
   refine⟨_,rfl,_,rfl,sz2,fun t ht=>?_⟩
   have S8:Same H7 (upd H7 t (.tup [.ref aw,.ref l])):=Same.new ht
   exact k t aw l _ Ws ws os (S7.trans S8) (SqT.of Z7) (W7.same S8) wt ⟨vs,S8 _ _ hl7,Y7 P7 (Ext.same S8)⟩ ⟨rep7,fit7,by omega⟩
end
theorem RowR.of {c n:Nat}{as:List Rat}(la:as.length=c)(ra:∃ D Ws,RepL n D Ws as):RowR c as:=⟨la,ra.elim fun D z=>z.elim fun W r=>⟨n,D,W,r⟩⟩
theorem FairB.wts {c:Nat}{Ws:List Int}{ws:List Rat}{os:List Offr}(wt:WtsR c Ws ws)(fb:FairB c Ws os):Wts c (gainsP os os.length) ws:=by
 have lW:Ws.length=c:=by rw[wt.rep.len];exact wt.len
 have wp:=wt.pos
 refine⟨wt.len,⟨_,_,_,wt.rep⟩,fun r hr=>?_,fun rs hr=>?_,?_⟩
 ·obtain⟨i,hi⟩:=List.getElem?_of_mem hr
  have hl:i<Ws.length:=by have:=(List.getElem?_eq_some_iff.mp hi).1;have:=wt.rep.len;omega
  obtain⟨e,_,lo⟩:=wt.rep.at_ i Ws[i] r (by simp[hl]) hi
  exact ((Yc wt.pos lo.pos e).1).mpr (wt.nn _ (List.getElem_mem hl))
 ·rw[Wl] at hr
  obtain⟨o,ho,hm⟩:=List.mem_flatMap.mp hr
  obtain⟨b,r,hp,e⟩:=Q0 hm
  obtain⟨D,Zs,rp,hd⟩:=fb.fit o ho b r hp
  rw[e]
  have ll:(gainR o b).length=c:=by rw[P0];exact (fb.rep o ho).len
  obtain⟨e1,lo⟩:=(wt.rep.mul rp (by rw[wt.len,ll])).sum
  exact ((Yc (Int.mul_pos wt.pos rp.pos) lo.pos e1).2.1).mpr hd
 ·have lp:=X6 c none
  obtain⟨e1,lo⟩:=(wt.rep.mul (Yt c none) (by rw[wt.len,lp])).sum
  have e2:(List.zipWith (·*·) Ws (cutZ none (List.replicate c 1))).sum=Ws.sum:=by
   have:cutZ none (List.replicate c (1:Int))=List.replicate c 1:=by
    apply List.ext_getElem?
    intro i
    rw[Nf]
    cases (List.replicate c (1:Int))[i]? <;> rfl
   rw[this,← lW]
   exact (show ∀ l:List Int,(List.zipWith (·*·) l (List.replicate l.length 1)).sum=l.sum from fun l=>by
    induction l with
    | nil=>rfl
    | cons a t ih=>rw[List.length_cons,List.replicate_succ,List.zipWith_cons_cons,List.sum_cons,List.sum_cons,ih,Int.mul_one]) Ws
  rw[e2] at e1
  refine X9 lo.pos (by decide) lo.cop (by decide) ?_
  show (sumR (List.zipWith mulR' ws (papR c none))).1*1=1*(sumR (List.zipWith mulR' ws (papR c none))).2
  have e1:(sumR (List.zipWith mulR' ws (papR c none))).1*(Ws.sum*1)=Ws.sum*(sumR (List.zipWith mulR' ws (papR c none))).2:=e1
  generalize sumR (List.zipWith mulR' ws (papR c none))=x at *
  rw[Int.mul_one] at e1 ⊢
  rw[Int.one_mul]
  rw[Int.mul_comm x.1] at e1
  exact Int.eq_of_mul_eq_mul_left (by omega) e1
theorem FairB.book {c:Nat}{Ws:List Int}{os:List Offr}(fb:FairB c Ws os):BookU c 91 os:=by
 have few:=fb.few
 have fl:=Q1 os
 have ga:=Wl os
 refine⟨by omega,fun o ho=>?_,fun rs hr=>?_,by rw[ga];omega,by decide,by decide,?_⟩
 ·have g:=(fb.rep o ho).good
  exact⟨fun r hr=>(g.row r hr).mono (by decide),fun r e=>(g.ask r e).mono (by decide),fun r e=>(g.bid r e).mono (by decide)⟩
 ·rw[ga] at hr
  obtain⟨o,ho,hm⟩:=List.mem_flatMap.mp hr
  obtain⟨b,r,hp,e⟩:=Q0 hm
  rw[e]
  exact (fb.rep o ho).gain hp
 ·rw[ga]
  unfold bitsOf
  omega
end Sb
namespace Sb
open PySem L2 Sv
structure NewO (c:Nat)(o:Offr)(as:List Rat):Prop where
 row:o.row=as
 len:as.length=c
 rep:RepL 24 6 (wholeB as 6) as
 ask:∀ r,o.ask=some r->Good 530 r
 bid:∀ r,o.bid=some r->Good 530 r
 ev:o.ev=none
end Sb
namespace Sb
open PySem L2
theorem Z0f {c:Nat}{o:Option (Nat->Bool)}{k:Nat}{x:Rat}(h:(papR c o)[k]?=some x):x=if inE o k then (1,1) else (0,1):=by
 have hk:k<c:=by
  have:=(List.getElem?_eq_some_iff.mp h).1
  rwa [X6] at this
 have e:(papR c o)[k]?=some (if inE o k then (1,1) else (0,1)):=Yz (by simp[hk])
 rw[e] at h
 exact (Option.some.inj h).symm
theorem Ur (c:Nat)(o:Option (Nat->Bool)):RowR c (papR c o):=⟨X6 c o,_,_,_,Yt c o⟩
section
variable {c:Nat}{rss:List (List Rat)}{ls:List Rat}{o:Option (Nat->Bool)}{u v:Rat}
end
section
variable {P:Program}{w:World}{K:W.Frag}{mg:Str->Option Value}{base:Heap}
def fZ (K:W.Frag):Sp:=fun vs H Q _=>∃ (l:Addr) (ve:V) (c:Nat) (os:List Offr) (o:Option (Nat->Bool)),vs=[.int (c:Int),.ref l,ve]/\OffsAt K H l c os/\BookU c 91 os/\(gainsP os os.length).length<=8/\EvAt K H c o ve/\(∃ ls,Wts c (gainsP os os.length) ls)/\2<=c/\c<=5 ∧
 ∀ (t al ah:Addr) (u v:Rat) (H':Hp),Same H H'->SqT K H' t [.ref al,.ref ah]->SqT K H' al [.int u.1,.int u.2]->SqT K H' ah [.int v.1,.int v.2]->Good 900 u->Good 900 v->LeastV c (gainsP os os.length) (papR c o) u->MostV c (gainsP os os.length) (papR c o) v->Q (.ref t) H'
theorem Qk:FnScope ["count","offers","event","paper"] ["count","offers","event"] (defScope kX):=fsc
theorem Gm (D:Def K mg "shares" kX ["count","offers","event"])(eR:Has P w K mg base 3 "paper_of" ["count","event"] (fO K))(h9:Has P w K mg base 6 "upper" ["count","offers","row"] (gF K))(iA:Has P w K mg base 7 "lower" ["count","offers","row"] (gH K)):Has P w K mg base 8 "shares" ["count","offers","event"] (fZ K):=by
 refine D.has fun f fd F=>F.ok Qk (fun vs H Q E h=>?_) (fun cdv A outer s H vs Q E hr h=>?_)
 ·obtain⟨l,ve,c,os,o,rfl,_⟩:=h
  rfl
 ·obtain⟨l,ve,c,os,o,rfl,⟨vs,hl,hP⟩,bu,six,hE,wl,hc2,hc,k⟩:=h
  have sc:=Qk
  refine⟨_,(Z6 (Zg (i:=3) sc.nd rfl (Or.inl rfl) (Zc eR hr (Z0 (pv 0) (Z0 (pv 2) Z4))))
   (Z9 (Zf (Y8 (Z0 (Ze Yg (Zc iA hr (Z0 (pv 0) (Z0 (pv 1) (Z0 (pv 3) Z4)))) Z5 (fun _ _=>rfl)) (Z0 (Ze Yg (Zc h9 hr (Z0 (pv 0) (Z0 (pv 1) (Z0 (pv 3) Z4)))) Z5 (fun _ _=>rfl)) Z4)))))),?_⟩
  have la:=X6 c o
  have ra:∃ D Ws,RepL 91 D Ws (papR c o):=⟨_,_,(Yt c o).mono (by decide)⟩
  have ra':∃ D Ws,RepL 91 D Ws ((papR c o).map fun r=>mulR' r (-1,1)):=ra.elim fun D z=>z.elim fun W r=>⟨_,_,Va r⟩
  have la':((papR c o).map fun r=>mulR' r (-1,1)).length=c:=by rw[List.length_map];exact la
  refine⟨_,rfl,_,rfl,c,ve,o,rfl,hE,hc2,by omega,fun g H1 S1 R1=>?_⟩
  replace R1:RowAt K H1 g (papR c o):=R1
  refine⟨_,rfl,_,rfl,_,rfl,l,g,c,91,os,papR c o,rfl,⟨vs,S1 _ _ hl,Y7 hP (Ext.same S1)⟩,bu,R1,la,ra,wl,hc2,by omega,fun t q va lo xs T1 H2 fq S2 mt hq rs2 sv rl sq=>?_⟩
  have S02:=S1.trans S2
  refine⟨t,_,_,_,rfl,rfl,sq,Zd (j:=0) rfl,?_⟩
  refine⟨_,rfl,_,rfl,_,rfl,l,g,c,91,os,papR c o,rfl,⟨vs,S02 _ _ hl,Y7 hP (Ext.same S02)⟩,bu,R1.same S2,la,ra,wl,hc2,by omega,fun t' q' va' lo' xs' T2 H4 fq' S4 mt' hq' rs4 sv' rl' sq'=>?_⟩
  refine⟨t',_,_,_,rfl,rfl,sq',Zd (j:=0) rfl,sz2,fun p hp=>?_⟩
  have S5:Same H4 (upd H4 p (.tup [.ref va,.ref va'])):=Same.new hp
  have S45:=S4.trans S5
  have n1:=bu.n1
  have bo:bitsOf 91 c (gainsP os os.length).length<=481:=by
   unfold bitsOf
   have:=Nat.mul_le_mul_left (91+5) (show min c ((gainsP os os.length).length+2)<=5 by omega)
   omega
  have m1:=mt.mostV bu.rep ra' la' n1 (by omega)
  have m2:=mt'.mostV bu.rep ra la n1 (by omega)
  have g1:=mt.good bu.rep ra' la' n1 (by omega) (by omega)
  have g2:=mt'.good bu.rep ra la n1 (by omega) (by omega)
  have rr:=Ur c o
  refine k p va va' _ _ _ (S02.trans S45) (SqT.of Z7) (Zo S45 sv) (Zo S5 sv') ?_ (g2.mono (by omega)) (m1.least rr (RowR.of la' ra') (IsNeg.map rr)) m2
  have g1':=g1.mono (show bitsOf 91 c (gainsP os os.length).length+91+10<=900 by omega)
  refine⟨?_,g1'.b2,g1'.pos,(negR.low g1'.low).cop⟩
  show (-_:Int).natAbs<_
  rw[Int.natAbs_neg]
  exact g1'.b1
end
open Sv (sm)
theorem RowR.low8 {c:Nat}{as:List Rat}(ra:RowR c as){x:Rat}(h:x∈as):Low x:=by
 obtain⟨_,n,D,Z,r⟩:=ra
 exact (r.good x h).low
theorem L8 {a p:Rat}(la:Low a)(lp:Low p):(subR a p).1*(a.2*p.2)=(a.1*p.2 - p.1*a.2)*(subR a p).2:=Vz la.pos lp.pos (by grind) (by grind)
theorem Do {u v:Rat}{D W:Int}(lu:Low u)(lv:Low v)(hD:0<D)(e1:u.1*D=W*u.2)(e2:v.1*D=W*v.2):u=v:=by
 refine X9 lu.pos lv.pos lu.cop lv.cop ?_
 have:D*(u.1*v.2)=D*(v.1*u.2):=by grind
 exact Int.eq_of_mul_eq_mul_left (by omega) this
theorem Jv (c:Nat){n:Nat}(hn:1<=n):RepL n 1 (List.replicate c 0) (List.replicate c (0,1)):=by
 refine⟨by decide,Nat.lt_of_lt_of_le (show (1:Int).natAbs<2 ^ 1 by decide) (Nat.pow_le_pow_right (by decide) hn),by simp,fun i W r hW hr=>?_⟩
 have h1:=List.eq_of_mem_replicate (List.mem_of_getElem? hW)
 have h2:=List.eq_of_mem_replicate (List.mem_of_getElem? hr)
 subst h1
 subst h2
 exact⟨rfl,bd0 n,Uy⟩
theorem MostT.goodE {c n na:Nat}{rss:List (List Rat)}{o:Option (Nat->Bool)}{as:List Rat}{T:Sv.Tab}{Da:Int}{Za:List Int}(h:MostT c rss o (cutR o as) T)(hrs:∀ rs∈rss,rs.length=c/\∃ D Ws,RepL n D Ws rs)(ha:RepL na Da Za as)(hna:na<=n)(la:as.length=c)(hn:1<=n)(hm:rss.length+2<=32)(hc:c<=1000):Good (bitsOf n c rss.length+na+10) (valueR c rss.length (cutR o as) T):=by
 have ok:=h.loads hrs ⟨_,_,ha.mono hna⟩ la hn hm
 obtain⟨D,L,r⟩:=ok.rep
 rw[ok.val]
 exact (r.mul (ha.cut o) (by rw[ok.len,Yb,la])).sumGood (k:=10) (by rw[List.length_zipWith,ok.len,Yb,la];show min c c<=1024;omega)
def shR (c:Nat)(ev:Option (Nat->Bool))(ws:List Rat):Rat:=mn ws (cutR ev (List.replicate c (1,1)))
theorem Ja {c:Nat}{W rs:List Rat}(w:RowR c W)(hr:RowR c rs)(h:∀ (k:Nat) (x y:Rat),k<c->rs[k]?=some x->W[k]?=some y->x.1=0 \/ y.1=0):(mn W rs).1=0:=by
 obtain⟨lw,N,D,Ls,rL⟩:=w
 obtain⟨lr,n,D',Zs,rr⟩:=hr
 obtain⟨e,lo⟩:=(rL.mul rr (by omega)).sum
 have lL:Ls.length=c:=by rw[rL.len];exact lw
 have lZ:Zs.length=c:=by rw[rr.len];exact lr
 rw[Yv c _ _ lL lZ,Sv.sm_zero (fun k hk=>?_)] at e
 ·exact ((Yc (Int.mul_pos rL.pos rr.pos) lo.pos e).2.2).mpr rfl
 ·have eL:Ls[k]?=some (Ls[k]'(by omega)):=by simp
  have eZ:Zs[k]?=some (Zs[k]'(by omega)):=by simp
  have gL:Ls.getD k 0=Ls[k]'(by omega):=by simp[List.getD,lL,hk]
  have gZ:Zs.getD k 0=Zs[k]'(by omega):=by simp[List.getD,lZ,hk]
  have ex:rs[k]?=some (rs[k]'(by omega)):=by simp
  have ey:W[k]?=some (W[k]'(by omega)):=by simp
  obtain⟨a1,_,a3⟩:=rL.at_ k _ _ eL ey
  obtain⟨b1,_,b3⟩:=rr.at_ k _ _ eZ ex
  rw[gL,gZ]
  rcases h k _ _ hk ex ey with z | z
  ·rw[((Yc rr.pos b3.pos b1).2.2).mp z,Int.mul_zero]
  ·rw[((Yc rL.pos a3.pos a1).2.2).mp z,Int.zero_mul]
theorem LoadsOk.out {c k N:Nat}{rss:List (List Rat)}{o:Option (Nat->Bool)}{as W rs:List Rat}{va x y:Rat}(h:LoadsOk c rss o as N W va)(hm:rs∈rss)(hr:RowR c rs)(nn:∀ r∈rs,0<=r.1)(hk:k<c)(ex:rs[k]?=some x)(px:0<x.1)(ey:W[k]?=some y):y.1=0:=by
 obtain⟨D,Ls,rL⟩:=h.rep
 obtain⟨lr,n,D',Zs,rr⟩:=hr
 have lw:=h.len
 have d:=h.dot rL hm lr rr
 have lL:Ls.length=c:=by rw[rL.len];exact lw
 have lZ:Zs.length=c:=by rw[rr.len];exact lr
 have eL:Ls[k]?=some (Ls[k]'(by omega)):=by simp
 have eZ:Zs[k]?=some (Zs[k]'(by omega)):=by simp
 have gL:Ls.getD k 0=Ls[k]'(by omega):=by simp[List.getD,lL,hk]
 have gZ:Zs.getD k 0=Zs[k]'(by omega):=by simp[List.getD,lZ,hk]
 obtain⟨a1,_,a3⟩:=rL.at_ k _ _ eL ey
 obtain⟨b1,_,b3⟩:=rr.at_ k _ _ eZ ex
 have pz:0<Zs.getD k 0:=by
  rw[gZ]
  apply Classical.byContradiction
  intro q
  have:=((Yc rr.pos b3.pos b1).2.1).mpr (by omega)
  omega
 have z:=Bx (Py (Wi rL h.nn)) (Py (Wi rr nn)) d hk pz
 rw[gL] at z
 exact ((Yc rL.pos a3.pos a1).2.2).mpr z
theorem Ux {y:Rat}(h:Low y)(z:y.1=0):y=(0,1):=X9 h.pos (by decide) h.cop (by decide) (by rw[z];simp)
theorem Z24 {x:Rat}(h:Low x):mulR' (0,1) x=(0,1):=Ux (W5 Uy h) (by
 have c:=Ys (0*x.1) (1*x.2)
 have p:=h.pos
 replace c:(mulR' (0,1) x).1*(1*x.2)=0*x.1*(mulR' (0,1) x).2:=c
 rw[Int.zero_mul,Int.zero_mul,Int.one_mul] at c
 rcases Int.mul_eq_zero.mp c with z | z
 ·exact z
 ·omega)
theorem Lu {c:Nat}{rss:List (List Rat)}{o:Option (Nat->Bool)}{W as:List Rat}(w:Wts c rss W)(ra:RowR c as)(h0:∀ (k:Nat) (y:Rat),k<c->inE o k=false->W[k]?=some y->y.1=0):mn W (cutR o as)=mn W as:=by
 have e:List.zipWith mulR' W (cutR o as)=List.zipWith mulR' W as:=by
  apply List.ext_getElem?
  intro k
  rw[List.getElem?_zipWith,List.getElem?_zipWith]
  cases ey:W[k]? with
  | none=>rfl
  | some y =>
   cases ex:as[k]? with
   | none =>
    have:(cutR o as)[k]?=none:=by
     rw[List.getElem?_eq_none_iff,Yb]
     exact List.getElem?_eq_none_iff.mp ex
    rw[this]
   | some x =>
    rw[Yz ex]
    cases q:inE o k with
    | true=>rfl
    | false =>
     have hk:k<c:=by
      have:=(List.getElem?_eq_some_iff.mp ex).1
      have:=ra.1
      omega
     obtain⟨N,D,Ls,rL⟩:=w.rep
     have ly:=(rL.good y (List.mem_of_getElem? ey)).low
     have yz:=Ux ly (h0 k y hk q ey)
     subst yz
     have lx:=ra.low8 (List.mem_of_getElem? ex)
     show some (mulR' (0,1) (0,1))=some (mulR' (0,1) x)
     rw[Z24 lx,Z24 Uy]
 unfold mn
 rw[e]
structure ExtO (c:Nat)(p:Nat->Bool)(o:Offr):Prop where
 len:o.row.length=c
 six:∀ r∈o.row,Six r
 nn:∀ r∈o.row,0<=r.1
 out:∀ (k:Nat) (r:Rat),o.row[k]?=some r->p k=false->r.1=0
 ask:o.ask=some (0,1)
 bid:o.bid=none
 ev:o.ev=none
theorem G7 {x:Rat}(lx:Low x):subR x (0,1)=x:=Do (D:=x.2) (W:=x.1) (Vc lx Uy) lx lx.pos (by have:(subR x (0,1)).1*(x.2*1)=(x.1*1 - 0*x.2)*(subR x (0,1)).2:=L8 lx Uy;grind) rfl
theorem ExtO.gains {c:Nat}{p:Nat->Bool}{o:Offr}(h:ExtO c p o):gainsO o=[o.row]:=by
 have e:gainsO o=[gainR o true]:=by
  unfold gainsO wordsO
  rw[h.ask,h.bid]
  rfl
 rw[e]
 unfold gainR
 rw[h.ev,Pb,h.ask]
 congr 1
 have:(o.row.map fun r=>subR r (0,1))=o.row.map id:=List.map_congr_left fun r hr=>G7 (h.six r hr).g.low
 rw[List.map_id] at this
 exact this
theorem ExtO.rep {c:Nat}{p:Nat->Bool}{o:Offr}(h:ExtO c p o):RepL 24 6 (wholeB o.row 6) o.row:=RepL.six h.six
theorem ExtO.rowR {c:Nat}{p:Nat->Bool}{o:Offr}(h:ExtO c p o):RowR c o.row:=⟨h.len,_,_,_,h.rep⟩
theorem U4 {c:Nat}{p:Nat->Bool}{os:List Offr}{o1 o2:Offr}(h1:ExtO c p o1)(h2:ExtO c p o2):gainsP (o1::(os++[o2])) (o1::(os++[o2])).length=o1.row::(gainsP os os.length++[o2.row]):=by
 rw[Wl,Wl,List.flatMap_cons,List.flatMap_append,h1.gains,List.flatMap_cons,List.flatMap_nil,h2.gains]
 rfl
theorem Bp {c:Nat}{p:Nat->Bool}{os:List Offr}{o1 o2:Offr}(h1:ExtO c p o1)(h2:ExtO c p o2)(bu:BookU c 91 os)(sd:(gainsP os os.length).length<=6)(fw:os.length<=3)(c5:c<=5):BookU c 91 (o1::(os++[o2])):=by
 have eg:=U4 (os:=os) h1 h2
 have lg:(gainsP (o1::(os++[o2])) (o1::(os++[o2])).length).length<=8:=by
  rw[eg]
  simp
  omega
 have gx:∀ {o:Offr},ExtO c p o->GoodO 91 o:=fun h=>⟨fun r hr=>(h.six r hr).g.mono (by decide),fun r e=>by rw[h.ask] at e;cases e;exact⟨bd0 _,W3 1 (by decide) (by decide),by decide,by decide⟩,fun r e=>by rw[h.bid] at e;cases e⟩
 refine⟨by simp;omega,fun o ho=>?_,fun rs hr=>?_,by omega,by decide,by decide,?_⟩
 ·rcases List.mem_cons.mp ho with rfl | ho
  ·exact gx h1
  ·rcases List.mem_append.mp ho with ho | ho
   ·exact bu.good o ho
   ·rw[List.mem_singleton.mp ho]
    exact gx h2
 ·rw[eg] at hr
  rcases List.mem_cons.mp hr with rfl | hr
  ·exact⟨h1.len,_,_,h1.rep.mono (by decide)⟩
  ·rcases List.mem_append.mp hr with hr | hr
   ·exact bu.rep rs hr
   ·rw[List.mem_singleton.mp hr]
    exact⟨h2.len,_,_,h2.rep.mono (by decide)⟩
 ·unfold bitsOf
  have:=Nat.mul_le_mul_left (91+5) (show min c ((gainsP (o1::(os++[o2])) (o1::(os++[o2])).length).length+2)<=5 by omega)
  omega
theorem Z1k {c:Nat}{p:Nat->Bool}{os:List Offr}{o1 o2:Offr}{ws:List Rat}(h1:ExtO c p o1)(h2:ExtO c p o2)(w:Wts c (gainsP os os.length) ws)(h0:∀ (k:Nat) (r:Rat),ws[k]?=some r->p k=true->r.1=0):Wts c (gainsP (o1::(os++[o2])) (o1::(os++[o2])).length) ws:=by
 rw[U4 h1 h2]
 have fx:∀ {o:Offr},ExtO c p o->(mn ws o.row).1<=0:=fun h=>by
  rw[Ja ⟨w.len,w.rep⟩ h.rowR fun k x y hk ex ey=>?_]
  ·exact Int.le_refl _
  ·cases q:p k with
   | true=>exact .inr (h0 k y ey q)
   | false=>exact .inl (h.out k x ex q)
 refine⟨w.len,w.rep,w.nn,fun rs hr=>?_,w.lie⟩
 rcases List.mem_cons.mp hr with rfl | hr
 ·exact fx h1
 ·rcases List.mem_append.mp hr with hr | hr
  ·exact w.fit rs hr
  ·rw[List.mem_singleton.mp hr]
   exact fx h2
def NoSh (c:Nat)(rss:List (List Rat))(o:Option (Nat->Bool)):Prop:=∀ W,Wts c rss W->(shR c o W).1=0
def NoLd (c:Nat)(rss:List (List Rat))(o:Option (Nat->Bool)):Prop:=∀ (as ls:List Rat) (N:Nat) (va:Rat),LoadsOk c rss o as N ls va->False
theorem Mp {c N:Nat}{p q:Nat->Bool}{os:List Offr}{o1 o2:Offr}{o:Option (Nat->Bool)}{as W:List Rat}{va:Rat}(h1:ExtO c p o1)(h2:ExtO c p o2)(hp:∀ k,k<c->p k=true->∃ o,(o=o1 \/ o=o2)/\∃ r,o.row[k]?=some r/\0<r.1)(hq:∀ k,q k=true->p k=true)(w:LoadsOk c (gainsP (o1::(os++[o2])) (o1::(os++[o2])).length) o as N W va):(mn W (papR c (some q))).1=0:=by
 rw[U4 h1 h2] at w
 refine Ja ⟨w.len,w.rep.elim fun D z=>z.elim fun L r=>⟨N,D,L,r⟩⟩ (Ur c (some q)) fun k x y hk ex ey=>?_
 have ex:=Z0f ex
 have eq:inE (some q) k=q k:=rfl
 cases qk:q k with
 | false =>
  left
  rw[ex,eq,qk]
  rfl
 | true =>
  right
  obtain⟨o,ho,r,er,pr⟩:=hp k hk (hq k qk)
  rcases ho with rfl | rfl
  ·exact w.out (by simp) h1.rowR h1.nn hk er pr ey
  ·exact w.out (by simp) h2.rowR h2.nn hk er pr ey
theorem Bo {c:Nat}{p q:Nat->Bool}{os:List Offr}{o1 o2:Offr}(h1:ExtO c p o1)(h2:ExtO c p o2)(hp:∀ k,k<c->p k=true->∃ o,(o=o1 \/ o=o2)/\∃ r,o.row[k]?=some r/\0<r.1)(hq:∀ k,q k=true->p k=true):NoSh c (gainsP (o1::(os++[o2])) (o1::(os++[o2])).length) (some q)/\NoLd c (gainsP (o1::(os++[o2])) (o1::(os++[o2])).length) (some q):=by
 refine⟨fun W w=>(w.ok W).elim fun N h=>Mp h1 h2 hp hq h,fun as ls N va h=>?_⟩
 have e:=Mp h1 h2 hp hq h
 have l:mn ls (papR c (some q))=(1,1):=h.lie
 rw[l] at e
 cases e
theorem NoSh.least {c:Nat}{rss:List (List Rat)}{o:Option (Nat->Bool)}{u:Rat}(h:NoSh c rss o)(l:LeastV c rss (papR c o) u):u=(0,1):=by
 obtain⟨ls,w,e⟩:=l.hit
 refine Ux l.low ?_
 rw[← e]
 exact h ls w
theorem NoSh.most {c:Nat}{rss:List (List Rat)}{o:Option (Nat->Bool)}{u:Rat}(h:NoSh c rss o)(l:MostV c rss (papR c o) u):u=(0,1):=by
 obtain⟨ls,w,e⟩:=l.hit
 refine Ux l.low ?_
 rw[← e]
 exact h ls w
theorem MostT.over {c n n':Nat}{rss:List (List Rat)}{o:Option (Nat->Bool)}{as W:List Rat}{T:Sv.Tab}{D:Int}{Z:List Int}(h:MostT c rss o (cutR o as) T)(hrs:∀ rs∈rss,rs.length=c/\∃ D Ws,RepL n D Ws rs)(la:as.length=c)(ra:RepL n' D Z as)(lv:Low (valueR c rss.length (cutR o as) T))(w:Wts c rss W)(sh:shR c o W=(1,1))(mc:mn W (cutR o as)=mn W as):leR (mn W as) (valueR c rss.length (cutR o as) T):=by
 obtain⟨N,D',Ls,rL⟩:=w.rep
 have x:=h.notless (by rw[Yb];exact la) (ra.cut o) rL w.len (Wi rL w.nn) (fun rs hr=>(hrs rs hr).1) fun rs hr=>Vv rL w.len (hrs rs hr).1 (hrs rs hr).2 (w.fit rs hr)
 have e1:sumR (List.zipWith mulR' W (papR c o))=(1,1):=sh
 have e2:sumR (List.zipWith mulR' W (cutR o as))=mn W as:=mc
 rw[e1,e2,mul_one lv] at x
 exact Qu lv (w.mlow ⟨la,_,_,_,ra⟩) x
end Sb
namespace Sb
open PySem L2
section
variable {P:Program}{w:World}{K:W.Frag}{mg:Str->Option Value}{base:Heap}
def gD (K:W.Frag):Sp:=fun vs H Q _=>∃ (l g:Addr) (ve:V) (c:Nat) (os:List Offr) (o:Option (Nat->Bool)),vs=[.int (c:Int),.ref l,ve,.ref g]/\OffsAt K H l c os/\BookU c 91 os/\EvAt K H c o ve/\(∃ W,Wts c (gainsP os os.length) W)/\NoSh c (gainsP os os.length) o/\2<=c/\c<=5 ∧
 ∀ (t:Addr) (H':Hp),Same H H'->SqT K H' t [.str "any"]->Q (.ref t) H'
theorem M2:FnScope ["count","offers","event","row","prices"] ["count","offers","event","row"] (defScope kC):=fsc
theorem Gu (D:Def K mg "called_off" kC ["count","offers","event","row"])(eR:Has P w K mg base 3 "paper_of" ["count","event"] (fO K))(iA:Has P w K mg base 7 "lower" ["count","offers","row"] (gH K))(eG:Con K mg "NOUGHT" (0,1)):Has P w K mg base 8 "called_off" ["count","offers","event","row"] (gD K):=by
 refine D.has fun f fd F=>F.ok M2 (fun vs H Q E h=>?_) (fun cdv A outer s H vs Q E hr h=>?_)
 ·obtain⟨l,g,ve,c,os,o,rfl,_⟩:=h
  rfl
 ·obtain⟨l,g,ve,c,os,o,rfl,⟨vs,hl,hP⟩,bu,hE,wl,nosh,hc2,hc,k⟩:=h
  obtain⟨c_NOUGHT,m_NOUGHT,s_NOUGHT⟩:=eG
  have hU:=Nat.lt_of_succ_lt (Bi hr)
  have sc:=M2
  refine⟨_,(Z6 (Yd (Zi (C8 (K:=K) hU) (Ze Yg (Zc iA hr (Z0 (pv 0) (Z0 (pv 1) (Z0 (Zc eR hr (Z0 (pv 0) (Z0 (pv 2) Z4))) Z4)))) Z5 (fun _ _=>rfl)) (Yj (v:=.ref c_NOUGHT) rfl m_NOUGHT rfl) (Zp _))
    (Z9 (Zf (Y8 (Z0 Xl Z4))))
    Zt)
   (Z6 Xt
   (Z6 Xt
   (Z9 Xt)))),?_⟩
  have sides:=bu.sides
  have n1:=bu.n1
  have lp:=X6 c o
  have rp:∃ D Ws,RepL 91 D Ws (papR c o):=⟨_,_,(Yt c o).mono (by decide)⟩
  have rp':∃ D Ws,RepL 91 D Ws ((papR c o).map fun r=>mulR' r (-1,1)):=rp.elim fun D z=>z.elim fun W r=>⟨_,_,Va r⟩
  have lp':((papR c o).map fun r=>mulR' r (-1,1)).length=c:=by rw[List.length_map];exact lp
  refine⟨_,rfl,_,rfl,_,rfl,_,rfl,c,ve,o,rfl,hE,hc2,by omega,fun g1 H1 S1 R1=>?_⟩
  replace R1:RowAt K H1 g1 (papR c o):=R1
  refine⟨l,g1,c,91,os,papR c o,rfl,⟨vs,S1 _ _ hl,Y7 hP (Ext.same S1)⟩,bu,R1,lp,rp,wl,hc2,by omega,fun t q va lo xs T1 H2 fq S2 mt hq rs2 sv rl sq=>?_⟩
  have S02:=S1.trans S2
  have rr:=Ur c o
  have lv:=(mt.mostV bu.rep rp' lp' n1 (by omega)).least rr (RowR.of lp' rp') (IsNeg.map rr)
  rw[nosh.least lv] at sv
  refine⟨t,_,_,_,rfl,rfl,sq,Zd (j:=0) rfl,va,c_NOUGHT,[0,1],[0,1],rfl,rfl,sv,s_NOUGHT _,_,rfl,Qx rfl ?_⟩
  refine⟨sz1,fun t1 ht1=>?_⟩
  exact k t1 _ (S02.trans (Same.new ht1)) (SqT.of Z7)
end
section
variable {P:Program}{w:World}{K:W.Frag}{mg:Str->Option Value}{base:Heap}{C:Addr}
theorem Re:FnScope ["self","multiples"] ["self","multiples"] (defScope j3):=fsc
theorem Rn {f fI D:Addr}{fd:FuncData}{xn:Str}(F:Fun K "__init__" "NoChance.__init__" j3 f fd)(T:Blt mg)(O:ExcI K mg xn C fI)(B:BaseI K mg "SureError" D)(S:StoI K C "multiples"):FnOk P w K mg base CX0 1 f fd ["self","multiples"] (fH K C):=by
 refine F.ok Re (fun vs H Q E h=>?_) (fun cdv A outer s H vs Q E hr h=>?_)
 ·obtain⟨e,l,xs,rfl,_⟩:=h
  rfl
 ·obtain⟨e,l,xs,rfl,he,hl,k⟩:=h
  refine⟨_,Z6 (Yr (C2 B rfl (Z0 (pv 0) (Z0 Xl Z4)))) (Z9 (Z0a (pv 0) (Y4 Xi rfl T.list PyProof.Rows.boot_list (Z0 (pv 1) Z4)) rfl)),?_⟩
  refine⟨_,rfl,e,C,fI,none,xn,_,rfl,sz1,he,O,?_⟩
  refine⟨_,rfl,l,xs,rfl,.inl hl,fun l' hl'=>?_⟩
  have ne:e≠l':=fun z=>by rw[← z,he] at hl';cases hl'
  refine⟨_,rfl,e,C,fI,xn,rfl,?_,O,S,fun d hd hde=>Bt he hl' hd hde k⟩
  rw[Zb ne]
  exact he
end
theorem Gb {K:W.Frag}{C e l:Addr}{H1:Hp}{xs:List V}{E:XK}(he:H1 e=none)(hl:H1 l=some (.lst xs))(hw:∀ (d q:Addr) (H':Hp),Same H1 H'->H1 q=none->H' d=some (.xd [("multiples",.ref q)])->H' q=some (.lst xs)->E (.ref C) (some d) H') :
  fH K C [.ref e,.ref l] (upd H1 e (excN e C none)) (fun v H2=>v=.non/\∃ dd,H2 e=some (excN e C dd)/\E (.ref C) dd (unT H2 e)) E0:=by
 have nl:l≠e:=Z8 hl he
 refine⟨e,l,xs,rfl,Z7,SqL.of (by rw[Zb nl];exact hl),fun d q H' hq hd h1 h2 h3 kp=>⟨rfl,some d,h1,?_⟩⟩
 have nq:q≠e:=fun z=>by rw[z,Z7] at hq;cases hq
 have nd:d≠e:=fun z=>by rw[z,Z7] at hd;cases hd
 rw[Zb nq] at hq
 refine hw d q _ (fun b o hb=>?_) hq (by rw[V6 nd];exact h2) (by rw[V6 nq];exact h3)
 have nb:b≠e:=Z8 hb he
 rw[V6 nb]
 exact kp b o (by rw[Zb nb];exact hb) nb
section
variable {P:Program}{w:World}{K:W.Frag}{mg:Str->Option Value}{base:Heap}{C fI:Addr}{fdI:FuncData}
def gA (K:W.Frag):Sp:=fun vs H Q _=>∃ (l:Addr) (c n:Nat) (os:List Offr),vs=[.int (c:Int),.ref l]/\OffsAt K H l c os/\BookU c n os/\(∃ ls,Wts c (gainsP os os.length) ls)/\2<=c/\c<=100 ∧
 ∀ (t lo:Addr) (H':Hp),Same H H'->SqT K H' t [.str "fair",.ref lo]->Q (.ref t) H'
theorem Ny:FnScope ["count","offers","found"] ["count","offers"] (defScope lA):=fsc
set_option maxHeartbeats 800000 in
theorem Go (D:Def K mg "judged" lA ["count","offers"])(fS:Has P w K mg base 5 "solve" ["count","rows","event","aim"] (fN K))(fV:Has P w K mg base 5 "gains" ["offers"] (eN K))(eG:Con K mg "NOUGHT" (0,1)):Has P w K mg base 6 "judged" ["count","offers"] (gA K):=by
 refine D.has fun f fd F=>F.ok Ny (fun vs H Q E h=>?_) (fun cdv A outer s H vs Q E hr h=>?_)
 ·obtain⟨l,c,n,os,rfl,_⟩:=h
  rfl
 ·obtain⟨l,c,n,os,rfl,hO,bg,⟨ls,wl⟩,hc2,hc,k⟩:=h
  obtain⟨c_NOUGHT,m_NOUGHT,s_NOUGHT⟩:=eG
  have sc:=Ny
  refine⟨_,(Z6 (Zg (i:=2) sc.nd rfl (Or.inl rfl) (Zc fS hr (Z0 (pv 0) (Z0 (Zc fV hr (Z0 (pv 1) Z4)) (Z0 Yw (Z0 (Zh J7 (Y8 (Z0 (Yj (v:=.ref c_NOUGHT) rfl m_NOUGHT rfl) Z4)) (pv 0)) Z4))))))
   (Z6 (Yd (Zi Xu (Ze Yg (pv 2) Z5 (fun _ _=>rfl)) Xl (Zp _))
    (Z9 Xt)
    Zt)
   (Z9 (Zf (Y8 (Z0 Xl (Z0 (Ze Yg (pv 2) Z5 (fun _ _=>rfl)) Z4))))))),?_⟩
  have few:=bg.few
  have bits:=bg.bits
  have sides:=bg.sides
  have n1:=bg.n1
  have n8:=bg.n8
  refine⟨_,rfl,_,rfl,l,c,n,os,rfl,hO,few,by omega,by omega,bg.good,fun d H1 fd S1 hR1=>?_⟩
  refine⟨sz1,fun t ht=>⟨_,rfl,t,c,[.ref c_NOUGHT],rfl,rfl,SqT.of Z7,by omega,by simp,by simp;omega,fun p hp=>?_⟩⟩
  have S2:Same H1 (upd H1 t (.tup [.ref c_NOUGHT])):=Same.new ht
  have et:(c:Int).toNat=c:=by omega
  have ef:(List.replicate (c:Int).toNat [V.ref c_NOUGHT]).flatten=List.replicate c (V.ref c_NOUGHT):=by rw[et];simp
  rw[ef]
  have S3:=S2.trans (Same.new (o:=.tup (List.replicate c (V.ref c_NOUGHT))) hp)
  have R3:RowAt K (upd (upd H1 t (.tup [.ref c_NOUGHT])) p (.tup (List.replicate c (V.ref c_NOUGHT)))) p (List.replicate c (0,1)):=⟨_,SqT.of Z7,Rs.rep ⟨c_NOUGHT,rfl,s_NOUGHT _⟩ c⟩
  generalize upd (upd H1 t (.tup [.ref c_NOUGHT])) p (.tup (List.replicate c (V.ref c_NOUGHT)))=H3 at *
  obtain⟨ads,hd,hP⟩:=hR1
  have S03:=S1.trans S3
  have zr:=Jv c n1
  refine⟨d,p,.non,c,n,gainsP os os.length,none,List.replicate c (0,1),rfl,⟨ads,S3 _ _ hd,Xr hP (Ext.same S3)⟩,rfl,R3,by simp,bg.rep,⟨_,_,zr⟩,n1,by omega,by omega,hc2,by omega,by omega,fun Tb q t4 xs H4 fq S4 nt hq rs4 sq=>?_,fun Tb q t4 va lo xs H4 fq S4 mt hq rs4 iv rl sq=>?_⟩
  ·obtain⟨N',ok⟩:=wl.ok (List.replicate c (0,1))
   exact (nt.noloads bg.rep ok fun _ h=>h).elim
  ·refine⟨_,rfl,t4,_,_,_,rfl,rfl,sq,Zd (j:=0) rfl,rfl,_,rfl,Xf ?_⟩
   refine⟨_,rfl,t4,_,_,_,rfl,rfl,sq,Zd (j:=2) rfl,sz2,fun t6 ht6=>?_⟩
   have S6:=Same.new (o:=.tup [.str "fair",.ref lo]) ht6
   exact k t6 lo _ ((S03.trans S4).trans S6) (SqT.of Z7)
def i4 (K:W.Frag):Sp:=fun vs H Q _=>∃ (l:Addr) (c n:Nat) (os:List Offr),vs=[.int (c:Int),.ref l]/\OffsAt K H l c os/\BookU c n os/\(∃ ls,Wts c (gainsP os os.length) ls)/\2<=c/\c<=100/\∀ (H':Hp),Same H H'->Q .non H'
theorem De:FnScope ["count","offers","told"] ["count","offers"] (defScope j2):=fsc
theorem Z2k (D:Def K mg "refuse_beaten" j2 ["count","offers"])(jJ:Has P w K mg base 6 "judged" ["count","offers"] (gA K)):Has P w K mg base 7 "refuse_beaten" ["count","offers"] (i4 K):=by
 refine D.has fun f fd F=>F.ok De (fun vs H Q E h=>?_) (fun cdv A outer s H vs Q E hr h=>?_)
 ·obtain⟨l,c,n,os,rfl,_⟩:=h
  rfl
 ·obtain⟨l,c,n,os,rfl,hO,bg,wl,hc2,hc,k⟩:=h
  have sc:=De
  refine⟨_,(Z6 (Zg (i:=2) sc.nd rfl (Or.inl rfl) (Zc jJ hr (Z0 (pv 0) (Z0 (pv 1) Z4))))
   (Z9 (Yd (Zi Xu (Ze Yg (pv 2) Z5 (fun _ _=>rfl)) Xl (Zp _))
    (Z9 Xt)
    Zt))),?_⟩
  refine⟨_,rfl,_,rfl,l,c,n,os,rfl,hO,bg,wl,hc2,hc,fun t lo H1 S1 ht=>?_⟩
  refine⟨_,rfl,t,_,_,_,rfl,rfl,ht,Zd (j:=0) rfl,rfl,_,rfl,Xf ?_⟩
  exact k _ S1
def jL (K:W.Frag)(C:Addr):Sp:=fun vs H Q E=>∃ (l g:Addr) (ve:V) (c n:Nat) (os:List Offr) (o:Option (Nat->Bool)) (as:List Rat),vs=[.int (c:Int),.ref l,ve,.ref g]/\OffsAt K H l c os/\BookU c n os/\EvAt K H c o ve/\RowAt K H g as/\as.length=c/\(∃ D Ws,RepL n D Ws as)/\(∃ ls,Wts c (gainsP os os.length) ls)/\2<=c/\c<=100 ∧
 (∀ (va:Addr) (T:Sv.Tab) (H':Hp),Same H H'->MostT c (gainsP os os.length) o (cutR o as) T->SqT K H' va [.int (valueR c (gainsP os os.length).length (cutR o as) T).1,.int (valueR c (gainsP os os.length).length (cutR o as) T).2]->Q (.ref va) H') ∧
 (∀ (d q:Addr) (xs:List V) (T:Sv.Tab) (H':Hp),Same H H'->H q=none->NoneT c (gainsP os os.length) o (cutR o as) T->H' d=some (.xd [("multiples",.ref q)])->H' q=some (.lst xs)->Rs K H' (multR c (gainsP os os.length) T (gainsP os os.length).length 1) xs->E (.ref C) (some d) H')
theorem Z1z:FnScope ["count","offers","event","row","found"] ["count","offers","event","row"] (defScope j4):=fsc
set_option maxHeartbeats 800000 in
theorem Z3k (D:Def K mg "greatest_left" j4 ["count","offers","event","row"])(x_NoChance:ExcI K mg "NoChance" C fI)(F_NoChance:FnOk P w K mg base CX0 1 fI fdI ["self","multiples"] (fH K C))(b_NoChance:Binds K fdI ["self","multiples"] [])(fS:Has P w K mg base 5 "solve" ["count","rows","event","aim"] (fN K))(fV:Has P w K mg base 5 "gains" ["offers"] (eN K))(fW:Has P w K mg base 7 "refuse_beaten" ["count","offers"] (i4 K)):HasD P w K mg base 8 "greatest_left" ["count","offers","event","row"] (jL K C):=by
 refine D.hasD Z1z (fun vs H Q E h=>?_) (fun f cdv A outer s H vs Q E hr h=>?_)
 ·obtain⟨l,g,ve,c,n,os,o,as,rfl,_⟩:=h
  rfl
 ·obtain⟨l,g,ve,c,n,os,o,as,rfl,⟨vs,hl,hP⟩,bu,hE,hg,la,ra,wl,hc2,hc,kQ,kE⟩:=h
  have sc:=Z1z
  refine⟨_,(Z6 (Zg (i:=4) sc.nd rfl (Or.inl rfl) (Zc fS hr (Z0 (pv 0) (Z0 (Zc fV hr (Z0 (pv 1) Z4)) (Z0 (pv 2) (Z0 (pv 3) Z4))))))
   (Z6 (Yd (Zi Xu (Ze Yg (pv 4) Z5 (fun _ _=>rfl)) Xl (Zp _))
    (Z6 (Yr (Zc fW hr (Z0 (pv 0) (Z0 (pv 1) Z4))))
    (Z9 (Gd x_NoChance F_NoChance b_NoChance (hr.mono (by decide)) rfl (Z0 (Ze Yg (pv 4) Z5 (fun _ _=>rfl)) Z4))))
    Zt)
   (Z9 (Zf (Ze Yg (pv 4) Z5 (fun _ _=>rfl)))))),?_⟩
  have few:=bu.few
  have sides:=bu.sides
  have n1:=bu.n1
  have n8:=bu.n8
  have bits:=bu.bits
  refine⟨_,rfl,_,rfl,l,c,n,os,rfl,⟨vs,hl,hP⟩,few,by omega,by omega,bu.good,fun d H1 fd S1 hR1=>?_⟩
  refine⟨_,rfl,_,rfl,d,g,ve,c,n,gainsP os os.length,o,as,rfl,hR1,hE.same S1,hg.same S1,la,bu.rep,ra,n1,by omega,by omega,hc2,by omega,by omega,fun T q t4 xs H4 fq S4 nt hq rs4 sq=>?_,fun T q t4 va lo xs H4 fq S4 mt hq rs4 iv rl sq=>?_⟩
  ·refine⟨_,rfl,t4,_,_,_,rfl,rfl,sq,Zd (j:=0) rfl,rfl,_,rfl,Rx ?_⟩
   have S04:=S1.trans S4
   refine⟨_,rfl,_,rfl,l,c,n,os,rfl,⟨vs,S04 _ _ hl,Y7 hP (Ext.same S04)⟩,bu,wl,hc2,hc,fun H5 S5=>?_⟩
   have S05:=S04.trans S5
   refine⟨_,rfl,t4,_,_,_,rfl,rfl,Zo S5 sq,Zd (j:=1) rfl,sz1,fun e he=>?_⟩
   exact Gb he (S5 _ _ hq) fun d3 q2 H' S' fq2 e1 e2=>kE d3 q2 xs T H' (S05.trans S') (Yk S05 fq2) nt e1 e2 (rs4.ext (Ext.same (S5.trans S')))
  ·refine⟨_,rfl,t4,_,_,_,rfl,rfl,sq,Zd (j:=0) rfl,rfl,_,rfl,Xf ?_⟩
   obtain⟨va',e,sv⟩:=iv
   cases e
   refine⟨_,rfl,t4,_,_,_,rfl,rfl,sq,Zd (j:=1) rfl,?_⟩
   exact kQ va T _ (S1.trans S4) mt sv
def tn (as:List Rat):List Rat:=as.map fun r=>mulR' r (-1,1)
def eX (K:W.Frag)(C:Addr):Sp:=fun vs H Q E=>∃ (l g:Addr) (ve:V) (c:Nat) (os:List Offr) (o:Option (Nat->Bool)) (as:List Rat) (D:Int) (Z:List Int),vs=[.int (c:Int),.ref l,ve,.ref g]/\OffsAt K H l c os/\BookU c 91 os/\EvAt K H c o ve/\RowAt K H g as/\as.length=c/\RepL 24 D Z as/\bitsOf 91 c (gainsP os os.length).length<=1500/\(∃ ls,Wts c (gainsP os os.length) ls)/\2<=c/\c<=100 ∧
 (∀ (t a b:Addr) (T1 T2:Sv.Tab) (H':Hp),Same H H'->SqT K H' t [.ref a,.ref b]->SqT K H' a [.int (negR (valueR c (gainsP os os.length).length (cutR o (tn as)) T2)).1,.int (negR (valueR c (gainsP os os.length).length (cutR o (tn as)) T2)).2]->SqT K H' b [.int (valueR c (gainsP os os.length).length (cutR o as) T1).1,.int (valueR c (gainsP os os.length).length (cutR o as) T1).2]->MostT c (gainsP os os.length) o (cutR o as) T1->MostT c (gainsP os os.length) o (cutR o (tn as)) T2->Good 1540 (valueR c (gainsP os os.length).length (cutR o (tn as)) T2)->Good 1540 (valueR c (gainsP os os.length).length (cutR o as) T1)->Q (.ref t) H') ∧
 (∀ (d q:Addr) (xs:List V) (T:Sv.Tab) (gs:List Rat) (H':Hp),Same H H'->H q=none->NoneT c (gainsP os os.length) o gs T->(∃ D Zs,RepL 91 D Zs gs)->H' d=some (.xd [("multiples",.ref q)])->H' q=some (.lst xs)->Rs K H' (multR c (gainsP os os.length) T (gainsP os os.length).length 1) xs->E (.ref C) (some d) H')
theorem Rf:FnScope ["count","offers","event","row","greatest","least"] ["count","offers","event","row"] (defScope kP):=fsc
set_option maxHeartbeats 800000 in
theorem Lo (D:Def K mg "learned" kP ["count","offers","event","row"])(eV:HasD P w K mg base 8 "greatest_left" ["count","offers","event","row"] (jL K C))(gK:Has P w K mg base 5 "turned" ["row"] (fR K))(fJ:Has P w K mg base 3 "minus" ["one","other"] (eK K subR))(eG:Con K mg "NOUGHT" (0,1)):HasD P w K mg base 9 "learned" ["count","offers","event","row"] (eX K C):=by
 refine D.hasD Rf (fun vs H Q E h=>?_) (fun f cdv A outer s H vs Q E hr h=>?_)
 ·obtain⟨l,g,ve,c,os,o,as,D,Z,rfl,_⟩:=h
  rfl
 ·obtain⟨l,g,ve,c,os,o,as,D,Z,rfl,⟨vs,hl,hP⟩,bu,hE,hg,la,ra,bt,wl,hc2,hc,kQ,kE⟩:=h
  obtain⟨c_NOUGHT,m_NOUGHT,s_NOUGHT⟩:=eG
  have sc:=Rf
  refine⟨_,(Z6 (Zg (i:=4) sc.nd rfl (Or.inl rfl) (Sn eV (hr.mono (by decide)) rfl Rv (Z0 (pv 0) (Z0 (pv 1) (Z0 (pv 2) (Z0 (pv 3) Z4))))))
   (Z6 (Zg (i:=5) sc.nd rfl (Or.inl rfl) (Zc fJ hr (Z0 (Yj (v:=.ref c_NOUGHT) rfl m_NOUGHT rfl) (Z0 (Sn eV (hr.mono (by decide)) rfl Rv (Z0 (pv 0) (Z0 (pv 1) (Z0 (pv 2) (Z0 (Zc gK hr (Z0 (pv 3) Z4)) Z4))))) Z4))))
   (Z9 (Zf (Y8 (Z0 (pv 5) (Z0 (pv 4) Z4))))))),?_⟩
  have n1:=bu.n1
  have sides:=bu.sides
  have hn:24<=91:=by decide
  have ra':RepL 24 D _ (tn as):=Va ra
  have la':(tn as).length=c:=by unfold tn;rw[List.length_map];exact la
  refine⟨_,rfl,_,rfl,_,rfl,_,rfl,l,g,ve,c,91,os,o,as,rfl,⟨vs,hl,hP⟩,bu,hE,hg,la,⟨_,_,ra.mono hn⟩,wl,hc2,hc,fun va T1 H1 S1 mt1 sv=>?_,fun d q xs T H' S' fq nt e1 e2 r3=>kE d q xs T _ H' S' fq nt ⟨_,_,(ra.mono hn).cut o⟩ e1 e2 r3⟩
  have gv:=(mt1.goodE bu.rep ra hn la n1 (by omega) (by omega)).mono (show bitsOf 91 c (gainsP os os.length).length+24+10<=1540 by omega)
  refine⟨_,rfl,_,rfl,_,rfl,_,rfl,g,as,24,rfl,hg.same S1,by omega,ra.good,by decide,by decide,fun g2 H2 S2 R2=>?_⟩
  have S02:=S1.trans S2
  refine⟨l,g2,ve,c,91,os,o,tn as,rfl,⟨vs,S02 _ _ hl,Y7 hP (Ext.same S02)⟩,bu,hE.same S02,R2,la',⟨_,_,ra'.mono hn⟩,wl,hc2,hc,fun vb T2 H3 S3 mt2 su=>?_,fun d q xs T H' S' fq nt e1 e2 r3=>kE d q xs T _ H' (S02.trans S') (Yk S02 fq) nt ⟨_,_,(ra'.mono hn).cut o⟩ e1 e2 r3⟩
  have gu:=(mt2.goodE bu.rep ra' hn la' n1 (by omega) (by omega)).mono (show bitsOf 91 c (gainsP os os.length).length+24+10<=1540 by omega)
  refine⟨c_NOUGHT,vb,(0,1),_,1540,rfl,s_NOUGHT _,su,⟨bd0 _,W3 1 (by decide) (by omega),by decide,by decide⟩,gu,by decide,fun m H4 fm S4 e4=>?_⟩
  rw[Sy gu.low] at e4
  refine⟨_,rfl,_,rfl,sz2,fun t ht=>?_⟩
  have S5:=Same.new (o:=.tup [.ref m,.ref va]) ht
  have S45:=S4.trans S5
  exact kQ t m va T1 T2 _ ((S02.trans S3).trans S45) (SqT.of Z7) (SqT.of (S5 _ _ e4)) (Zo ((S2.trans S3).trans S45) sv) mt1 mt2 gu gv
end
section
variable {P:Program}{w:World}{K:W.Frag}{mg:Str->Option Value}{base:Heap}
theorem Qo:FnScope ["_law_offers","_law_rows","_law_row_here","_law_ask","_law_bid","_law_event_here"] ["_law_offers"] (defScope k9):=fsc
set_option maxHeartbeats 800000 in
theorem Gr (D:Def K mg "_law_gains" k9 ["_law_offers"])(eU:Has P w K mg base 3 "_law_minus" ["_law_one","_law_other"] (eK K subR))(fG:Has P w K mg base 2 "_law_cut" ["_law_row_here","_law_event_here"] (hI K)):Has P w K mg base 4 "_law_gains" ["_law_offers"] (eN K):=by
 refine D.has fun f fd F=>F.ok Qo (fun vs H Q E h=>?_) (fun cdv A outer s H vs Q E hr h=>?_)
 ·obtain⟨l,c,n,os,rfl,_⟩:=h
  rfl
 ·obtain⟨l,c,n,os,rfl,⟨vs,hl,hO⟩,hlen,hc,hn,g,k⟩:=h
  have sc:=Qo
  have nd1:(["_law_worth","_law_ask"]:List Str).Nodup:=by decide +kernel
  have nd2:(["_law_worth","_law_bid"]:List Str).Nodup:=by decide +kernel
  refine⟨_,(Z6 (Zg (i:=1) sc.nd rfl (Or.inl rfl) (Xb Z4))
   (Z6 (Xk PassesOwn.never rfl (Xo (pv 0)) (Wq (n:=4) rfl (Y6 (Zl (i:=2) sc.nd rfl (Or.inl rfl)) (Y6 (Zl (i:=3) sc.nd rfl (Or.inr rfl)) (Y6 (Zl (i:=4) sc.nd rfl (Or.inr rfl)) (Y6 (Zl (i:=5) sc.nd rfl (Or.inl rfl)) Xp)))))
    (Z6 (Wo (Yd (Zi So (pv 3) Yw (Zp _))
     (Z9 (Yr (Wf PySem.F.plainAttrs_list PySem.F.slot_list_append PySem.F.type_list_append Yl (pv 1) (Z0 (Zc fG hr (Z0 (Yn (N:=["_law_worth","_law_ask"]) (k:=1) (fv:=[3]) rfl (Ti (pv 2))
   (fun _ _ _ _ _=>Zl (i:=0) nd1 rfl (Or.inl rfl)) (fun _ _ _ _ _=>Yh) (fun _ _ _ _ _=>(Zc eU hr (Z0 (pv 0) (Z0 (pv 1) Z4)))) Y2) (Z0 (pv 5) Z4))) Z4))))
     Zt))
    (Z9 (Yd (Zi So (pv 4) Yw (Zp _))
     (Z9 (Yr (Wf PySem.F.plainAttrs_list PySem.F.slot_list_append PySem.F.type_list_append Yl (pv 1) (Z0 (Zc fG hr (Z0 (Yn (N:=["_law_worth","_law_bid"]) (k:=1) (fv:=[4]) rfl (Ti (pv 2))
   (fun _ _ _ _ _=>Zl (i:=0) nd2 rfl (Or.inl rfl)) (fun _ _ _ _ _=>Yh) (fun _ _ _ _ _=>(Zc eU hr (Z0 (pv 1) (Z0 (pv 0) Z4)))) Y2) (Z0 (pv 5) Z4))) Z4))))
     Zt))))
   (Z9 (Zf (pv 1))))),?_⟩
  have lo:=Paired.length hO
  refine⟨sz0,fun d hd=>?_⟩
  have S0:Same H (upd H d (.lst [])):=Same.new hd
  have up:∀ (zs:List V) (H1:Hp),Same H H1->Same H (upd H1 d (.lst zs)):=fun zs H1 S1 q o e=>by
   rw[Zb (Z8 e hd)]
   exact S1 _ _ e
  have glen:∀ i,i<=os.length->(gainsP os i).length<=2*i:=fun i _=>by rw[← Vt,List.length_map];exact V7 os i
  refine⟨_,rfl,l,rfl,⟨_,SqL.of (S0 _ _ hl)⟩,Vu (K:=K) (a:=l) (xs:=vs) (fun i σ H'=>Same H H'/\∃ (as:List Addr) (x1 x2 x3 x4:Option V),σ=[some (.ref l),some (.ref d),x1,x2,x3,x4]/\H' d=some (.lst (as.map V.ref))/\Paired (RowAt K H') as (gainsP os i)) ⟨S0,[],none,none,none,none,rfl,Z7,.nil⟩ (fun i σ H' _ h=>SqL.of (h.1 _ _ hl)) ?_ ?_⟩
  ·rintro i v σ H1 hi ⟨S1,as,x1,x2,x3,x4,rfl,hd1,P1⟩
   have hiv:i<vs.length:=(List.getElem?_eq_some_iff.mp hi).1
   have hio:i<os.length:=by omega
   have eo:os[i]?=some (os.getD i offD):=by simp[List.getD,hio]
   have hv:=(Paired.getB hO hi eo).same S1
   have go:=g _ (List.mem_of_getElem? eo)
   have gl:=glen i (by omega)
   have ga:=Sc os i
   generalize os.getD i offD=o at *
   obtain⟨p,ar,va,vb,ve,rfl,hp,hR,hrl,hA,hB,hE⟩:=hv
   have la1:=Paired.length P1
   refine⟨p,_,rfl,hp,rfl,_,_,rfl,_,_,rfl,_,_,rfl,_,_,rfl,rfl,?_⟩
   obtain⟨xs,hxs,hrs⟩:=hR
   have lx:=hrs.len
   refine⟨fun σ H'=>SameX d H1 H'/\Same H H'/\∃ as':List Addr,σ=[some (.ref l),some (.ref d),some (.ref ar),some va,some vb,some ve]/\H' d=some (.lst (as'.map V.ref))/\Paired (RowAt K H') as' (gainsP os i++(if o.ask.isSome then [gainR o true] else [])),?_,?_⟩
   ·refine⟨_,rfl,rfl,_,rfl,?_⟩
    cases e:o.ask with
    | none =>
     rw[e] at hA
     have z:va=V.non:=hA
     subst z
     exact Xf ⟨SameX.refl _ _,S1,as,rfl,hd1,by simpa using P1⟩
    | some r =>
     rw[e] at hA
     obtain⟨ab,rfl,hab⟩:=hA
     refine Mi (fun z=>nomatch z) ?_
     refine⟨_,rfl,.inl ⟨rfl,_,SqL.of hd1⟩,_,rfl,ar,rfl,⟨_,hxs⟩,fun dd hdd=>?_⟩
     refine⟨o.row.length,fun j ys H2=>Same H1 H2/\Rs K H2 ((o.row.map fun x=>subR x r).take j) ys,Zq (by omega),⟨Same.new hdd,.nil⟩,?_,?_⟩
     ·rintro j ys H2 hj ⟨S2,R2⟩ hd2
      refine⟨⟨xs,xs[j]'(by omega),Zo S2 hxs,by simp⟩,?_⟩
      rintro x H3 ⟨rfl,fx⟩
      obtain⟨x0,er,ix⟩:=hrs.back (fx xs (Zo S2 hxs))
      obtain⟨a1,rfl,sq1⟩:=ix.ext (Ext.same S2)
      refine Yo ?_
      refine⟨_,rfl,_,rfl,a1,ab,x0,r,n,rfl,sq1,Zo S2 hab,go.row x0 (List.mem_of_getElem? er),go.ask r e,hn,fun c4 H4 f4 S4 e4=>?_⟩
      have hd4:=S4 _ _ hd2
      refine⟨hd4,fun q o' e=>?_,?_⟩
      ·rw[Zb (Z8 e hdd)]
       exact S4 _ _ (S2 _ _ e)
      ·rw[Wv _ er]
       exact (R2.ext ((Ext.same S4).trans (Ext.upd hd4))).snoc ⟨c4,rfl,(Ext.upd hd4).sq (SqT.of e4)⟩
     ·rintro ys H2 ⟨S2,R2⟩ hd2
      rw[List.take_of_length_le (by rw[List.length_map];omega)] at R2
      refine⟨⟨xs,Zo S2 hxs,by omega⟩,_,rfl,dd,ve,ys,_,o.ev,rfl,.inl (SqL.of hd2),R2,by rw[List.length_map,hrl];exact hE.same S2,by rw[List.length_map];omega,fun p' H' S' R'=>?_⟩
      have S1':=S2.trans S'
      have hd':=S1' _ _ hd1
      refine⟨d,_,_,rfl,rfl,hd',Xd (by rw[List.length_map];omega),(SameX.of S1').trans (SameX.upd d H' _),up _ _ (S1.trans S1'),as++[p'],rfl,by rw[Z7,List.map_append];rfl,?_⟩
      ·have hg:cutR o.ev (o.row.map fun x=>subR x r)=gainR o true:=by unfold gainR;rw[e];rfl
       rw[hg] at R'
       simp only [Option.isSome_some,if_true]
       exact Paired.snoc (Xr P1 ((Ext.same S1').trans (Ext.upd hd'))) (R'.ext (Ext.upd hd'))
   ·rintro σ H2 ⟨SX,S2,as',rfl,hd2,P2⟩
    have x2:Ext H1 H2:=Ext.x SX hd1
    replace hxs:=x2.sq hxs
    replace hrs:=hrs.ext x2
    replace hE:=hE.ext x2
    replace hB:=hB.ext x2
    have la2:=Paired.length P2
    have la3:(gainsP os i++(if o.ask.isSome then [gainR o true] else [])).length<=2*i+1:=by
     rw[List.length_append]
     have:(if o.ask.isSome then [gainR o true] else []).length<=1:=by split <;> simp
     omega
    refine⟨_,rfl,rfl,_,rfl,?_⟩
    cases e:o.bid with
    | none =>
     rw[e] at hB
     have z:vb=V.non:=hB
     subst z
     refine Xf ⟨S2,as',_,_,_,_,rfl,hd2,?_⟩
     rw[ga]
     unfold wordsO
     rw[e]
     cases ea:o.ask with
     | none=>rw[ea] at P2;simpa using P2
     | some r=>rw[ea] at P2;simpa using P2
    | some r =>
     rw[e] at hB
     obtain⟨ab,rfl,hab⟩:=hB
     refine Mi (fun z=>nomatch z) ?_
     refine⟨_,rfl,.inl ⟨rfl,_,SqL.of hd2⟩,_,rfl,ar,rfl,⟨_,hxs⟩,fun dd hdd=>?_⟩
     refine⟨o.row.length,fun j ys H3=>Same H2 H3/\Rs K H3 ((o.row.map fun x=>subR r x).take j) ys,Zq (by omega),⟨Same.new hdd,.nil⟩,?_,?_⟩
     ·rintro j ys H3 hj ⟨S3,R3⟩ hd3
      refine⟨⟨xs,xs[j]'(by omega),Zo S3 hxs,by simp⟩,?_⟩
      rintro x H4 ⟨rfl,fx⟩
      obtain⟨x0,er,ix⟩:=hrs.back (fx xs (Zo S3 hxs))
      obtain⟨a1,rfl,sq1⟩:=ix.ext (Ext.same S3)
      refine Yo ?_
      refine⟨_,rfl,_,rfl,ab,a1,r,x0,n,rfl,Zo S3 hab,sq1,go.bid r e,go.row x0 (List.mem_of_getElem? er),hn,fun c4 H5 f4 S4 e4=>?_⟩
      have hd4:=S4 _ _ hd3
      refine⟨hd4,fun q o' e=>?_,?_⟩
      ·rw[Zb (Z8 e hdd)]
       exact S4 _ _ (S3 _ _ e)
      ·rw[Wv _ er]
       exact (R3.ext ((Ext.same S4).trans (Ext.upd hd4))).snoc ⟨c4,rfl,(Ext.upd hd4).sq (SqT.of e4)⟩
     ·rintro ys H3 ⟨S3,R3⟩ hd3
      rw[List.take_of_length_le (by rw[List.length_map];omega)] at R3
      refine⟨⟨xs,Zo S3 hxs,by omega⟩,_,rfl,dd,ve,ys,_,o.ev,rfl,.inl (SqL.of hd3),R3,by rw[List.length_map,hrl];exact hE.same S3,by rw[List.length_map];omega,fun p' H' S' R'=>?_⟩
      have S2':=S3.trans S'
      have hd':=S2' _ _ hd2
      refine⟨d,_,_,rfl,rfl,hd',Xd (by rw[List.length_map];omega),up _ _ (S2.trans S2'),as'++[p'],_,_,_,_,rfl,by rw[Z7,List.map_append];rfl,?_⟩
      have hg:cutR o.ev (o.row.map fun x=>subR r x)=gainR o false:=by unfold gainR;rw[e];rfl
      rw[hg] at R'
      have P3:=Paired.snoc (Xr P2 ((Ext.same S2').trans (Ext.upd (o:=.lst (as'.map V.ref++[.ref p'])) hd'))) (R'.ext (Ext.upd hd'))
      rw[ga]
      unfold wordsO
      rw[e]
      cases ea:o.ask with
      | none=>rw[ea] at P3;simpa using P3
      | some r=>rw[ea] at P3;simpa using P3
  ·rintro σ H1 ⟨S1,as,x1,x2,x3,x4,rfl,hd1,P1⟩
   rw[lo] at P1
   exact⟨_,rfl,k d H1 hd S1 ⟨as,hd1,P1⟩⟩
end
end Sb
namespace Sb
open PySem PySem.Spec PyProof.Rows L2
section
variable {X:Cx}{K:W.Frag}
theorem Gj (h:X.K=K:=by rfl):OpR X (compareOp .NotIn) (rIn K true):=h ▸ Pu
end
section
variable {P:Program}{w:World}{K:W.Frag}{mg:Str->Option Value}{base:Heap}
def LstAt (K:W.Frag)(H:Hp)(a:Addr)(ms:List Rat):Prop:=∃ xs,H a=some (.lst xs)/\Rs K H ms xs
def iT (K:W.Frag):Sp:=fun vs H Q _=>∃ (l q:Addr) (c n N:Nat) (rss:List (List Rat)) (ms:List Rat) (D:Int) (E:Nat->Nat->Int),vs=[.int (c:Int),.ref l,.ref q]/\RowsAt K H l rss/\LstAt K H q ms/\ComeR c n N rss ms D E/\n<=4000/\N<=3900/\c<=100/\rss.length<=100 ∧
 ∀ (d:Addr) (cs:List Rat) (H':Hp),Same H H'->RowAt K H' d cs->RepL (N+10) D (comeE c rss.length E) cs->Q (.ref d) H'
theorem Kz:FnScope ["_law_count","_law_rows","_law_multiples_here","_law_come_here","_law_j"] ["_law_count","_law_rows","_law_multiples_here"] (defScope mB):=fsc
set_option maxHeartbeats 800000 in
theorem Z16 (D:Def K mg "_law_come" mB ["_law_count","_law_rows","_law_multiples_here"])(T:Blt mg)(eS:Z3 P w K mg base)(fK:Has P w K mg base 3 "_law_times" ["_law_one","_law_other"] (eK K mulR')):Has P w K mg base 4 "_law_come" ["_law_count","_law_rows","_law_multiples_here"] (iT K):=by
 refine D.has fun f fd F=>F.ok Kz (fun vs H Q E h=>?_) (fun cdv A outer s H vs Q E hr h=>?_)
 ·obtain⟨l,q,c,n,N,rss,ms,D,E,rfl,_⟩:=h
  rfl
 ·obtain⟨l,q,c,n,N,rss,ms,D,En,rfl,⟨ads,hl,hP⟩,⟨xs,hq,hms⟩,cr,hn,hN,hc,hg,k⟩:=h
  have sc:=Kz
  have nd1:(["_law_k"]:List Str).Nodup:=by decide +kernel
  have nd2:(["_law_k","_law_rows","_law_multiples_here","_law_come_here","_law_j"]:List Str).Nodup:=by decide +kernel
  refine⟨_,(Z6 (Zg (i:=3) sc.nd rfl (Or.inr rfl) (Y4 Zz rfl T.tuple PyProof.Rows.boot_tuple (Z0 (Yn (N:=["_law_k"]) (k:=1) (fv:=[]) rfl (Yi rfl T.range (Z0 (pv 0) Z4))
   (fun _ _ _ _ _=>Zl (i:=0) nd1 rfl (Or.inl rfl)) (fun _ _ _ _ _=>Yh) (fun _ _ _ _ _=>(Y8 (Z0 Z5 (Z0 Z5 Z4)))) Y2) Z4)))
   (Z6 (Xk PassesOwn.never rfl (Yi rfl T.range (Z0 (Zu Y1 rfl T.len boot_len (Z0 (pv 1) Z4)) Z4)) (Zl (i:=4) sc.nd rfl (Or.inr rfl))
    (Z9 (Zg (i:=3) sc.nd rfl (Or.inr rfl) (Y4 Zz rfl T.tuple PyProof.Rows.boot_tuple (Z0 (Yn (N:=["_law_k","_law_rows","_law_multiples_here","_law_come_here","_law_j"]) (k:=1) (fv:=[1,2,3,4]) rfl (Yi rfl T.range (Z0 (pv 0) Z4))
   (fun _ _ _ _ _=>Zl (i:=0) nd2 rfl (Or.inl rfl)) (fun _ _ _ _ _=>Yh) (fun _ _ _ _ _=>(Zc eS hr (Z0 (Ze (Rw (K:=K)) (pv 3) (pv 0) (fun _ _=>rfl)) (Z0 (Zc fK hr (Z0 (Ze (Rw (K:=K)) (Ze (Bb (K:=K)) (pv 1) (pv 4) (fun _ _=>rfl)) (pv 0) (fun _ _=>rfl)) (Z0 (Ze (Bb (K:=K)) (pv 2) (pv 4) (fun _ _=>rfl)) Z4))) Z4)))) Y2) Z4)))))
   (Z9 (Zf (pv 3))))),?_⟩
  have lp:=Paired.length hP
  have lx:=hms.len
  have lm:=cr.lm
  have et:(c:Int).toNat=c:=by omega
  refine⟨_,rfl,(c:Int),rfl,(by omega),(by omega),fun d hd=>?_⟩
  rw[et]
  refine⟨c,fun i ys H'=>Same H H'/\Rs K H' (List.replicate i (0,1)) ys,Zq (by omega),⟨Same.new hd,.nil⟩,?_,?_⟩
  ·rintro i ys H10 hi ⟨S10,R10⟩ hd10
   refine⟨hi,?_⟩
   rintro x' H3 ⟨rfl,rfl⟩
   refine Yo ?_
   refine⟨sz2,fun p hp=>?_⟩
   have S11:Same H3 (upd H3 p (.tup [.int 0,.int 1])):=Same.new hp
   have hd11:=S11 _ _ hd10
   refine⟨hd11,fun q o' e=>?_,?_⟩
   ·rw[Zb (Z8 e hd)]
    exact S11 _ _ (S10 _ _ e)
   ·rw[List.replicate_succ']
    exact (R10.ext ((Ext.same S11).trans (Ext.upd hd11))).snoc ⟨p,rfl,(Ext.upd hd11).sq (SqT.of Z7)⟩
  rintro ys0 H0 ⟨S0,R0⟩ hd0
  refine⟨Nat.le_refl _,d,ys0,rfl,.inl ⟨SqL.of hd0,fun lt0 hlt0=>?_⟩⟩
  have S00:Same H0 (upd H0 lt0 (.tup ys0)):=Same.new hlt0
  have e00:upd H0 lt0 (.tup ys0) lt0=some (.tup ys0):=Z7
  generalize upd H0 lt0 (.tup ys0)=H00 at *
  replace S0:=S0.trans S00
  replace R0:=R0.ext (Ext.same S00)
  refine⟨_,rfl,l,_,rfl,.inl (SqL.of (S0 _ _ hl)),((ads.map V.ref).length:Int),rfl,(by rw[List.length_map];omega),(by rw[List.length_map];omega),?_⟩
  have et2:(((ads.map V.ref).length:Nat):Int).toNat=rss.length:=by rw[List.length_map];omega
  rw[et2]
  refine V1 (lo:=0) (n:=rss.length) (fun i σ H'=>Same H H'/\∃ (dc:Addr) (cs:List Rat) (x:Option V),σ=[some (.int (c:Int)),some (.ref l),some (.ref q),some (.ref dc),x]/\RowAt K H' dc cs/\RepL (N+10) D (comeE c i En) cs) ⟨S0,lt0,_,none,rfl,⟨ys0,SqT.of e00,R0⟩,Z3u cr.pos cr.bD⟩ ?_ ?_
  ·rintro i σ H1 hi ⟨S1,dc,cs,x,rfl,⟨ys,hdc,Rc⟩,rep⟩
   have e0:(0+(i:Int))=((i:Nat):Int):=by omega
   rw[e0]
   have ea:ads[i]?=some (ads[i]'(by omega)):=by simp
   have er:rss[i]?=some rss[i]:=by simp[hi]
   have em:ms[i]?=some (ms[i]'(by omega)):=by simp
   obtain⟨us,hus,hrs⟩:=(Paired.getB hP ea er).same S1
   obtain⟨xm,exm,ixm⟩:=hms.at em
   obtain⟨am,rfl,sqm⟩:=ixm.ext (Ext.same S1)
   have hm:=List.getElem_mem hi
   have lr:=cr.len _ hm
   have gm:=cr.gm _ (List.mem_of_getElem? em)
   have lcs:cs.length=c:=by rw[← rep.len];unfold comeE;simp
   have lys:=Rc.len
   have lus:=hrs.len
   refine⟨_,rfl,(c:Int),rfl,(by omega),(by omega),fun d2 hd2=>?_⟩
   rw[et]
   refine⟨c,fun j zs H'=>Same H1 H'/\∃ ns,Rs K H' ns zs/\ns.length=j/\∀ (k:Nat) (r x:Rat),k<j->cs[k]?=some x->rss[i][k]?=some r->ns[k]?=some (addR x (mulR' r (ms[i]'(by omega)))),Zq (by omega),⟨Same.new hd2,[],.nil,rfl,fun k r x h=>by omega⟩,?_,?_⟩
   ·rintro j zs H3 hj ⟨S3,ns,R3,l3,h3⟩ hd3
    refine⟨hj,?_⟩
    rintro x' H4 ⟨rfl,rfl⟩
    have e1:(0+(j:Int))=((j:Nat):Int):=by omega
    rw[e1]
    refine Yo ?_
    have hjc:j<cs.length:=by omega
    have hjr:j<rss[i].length:=by omega
    obtain⟨yv,ey,iy⟩:=Rc.at (i:=j) (r:=cs[j]) (by simp[hjc])
    obtain⟨rv,ev,iv⟩:=hrs.at (i:=j) (r:=rss[i][j]) (by simp[hjr])
    obtain⟨ay,rfl,sqy⟩:=iy.ext (Ext.same S3)
    obtain⟨av,rfl,sqv⟩:=iv.ext (Ext.same S3)
    have gc:=rep.good cs[j] (List.getElem_mem hjc)
    have gr:=cr.gr _ hm rss[i][j] (List.getElem_mem hjr)
    have S13:=S1.trans S3
    refine⟨_,rfl,_,rfl,dc,_,_,_,rfl,rfl,Zo S3 hdc,Zd ey,?_⟩
    refine⟨_,rfl,_,rfl,l,_,_,_,rfl,rfl,SqL.of (S13 _ _ hl),Zd (by rw[List.getElem?_map,ea];rfl),_,rfl,_,_,_,_,rfl,rfl,Zo S3 hus,Zd ev,?_⟩
    refine⟨_,rfl,_,rfl,q,_,_,_,rfl,rfl,SqL.of (S13 _ _ hq),Zd exm,?_⟩
    refine⟨av,am,rss[i][j],ms[i]'(by omega),n,rfl,sqv,Zo S3 sqm,gr,gm,by omega,fun p5 H5 f5 S5 e5=>?_⟩
    obtain⟨ce1,ce2⟩:=cr.at_ i j _ _ _ er (show rss[i][j]?=some rss[i][j] by simp[hjr]) em
    have lp':=W5 gr.low gm.low
    have gp:Good N (mulR' rss[i][j] (ms[i]'(by omega))):=Xw cr.pos lp'.pos lp'.cop ce1 cr.bD ce2
    have bnd:N<=4000:=by omega
    refine⟨ay,p5,cs[j],mulR' rss[i][j] (ms[i]'(by omega)),4000,rfl,Zo S5 sqy,SqT.of e5,gc.mono (by omega),gp.mono bnd,by decide,fun p6 H6 f6 S6 e6=>?_⟩
    have hd6:=S6 _ _ (S5 _ _ hd3)
    refine⟨hd6,fun q' o' e=>?_,ns++[addR cs[j] (mulR' rss[i][j] (ms[i]'(by omega)))],(R3.ext ((Ext.same (S5.trans S6)).trans (Ext.upd hd6))).snoc ⟨p6,rfl,(Ext.upd hd6).sq (SqT.of e6)⟩,by rw[List.length_append,l3];rfl,fun kk r x hk ex ek=>?_⟩
    ·rw[Zb (Z8 e hd2)]
     exact S6 _ _ (S5 _ _ (S3 _ _ e))
    ·by_cases qq:kk<ns.length
     ·rw[List.getElem?_append_left qq]
      exact h3 kk r x (by omega) ex ek
     ·have hkj:kk=j:=by omega
      subst hkj
      rw[List.getElem?_append_right (by omega),l3,Nat.sub_self]
      rw[List.getElem?_eq_getElem hjc] at ex
      rw[List.getElem?_eq_getElem hjr] at ek
      cases ex
      cases ek
      rfl
   ·rintro zs H3 ⟨S3,ns,R3,l3,h3⟩ hd3
    refine⟨Nat.le_refl _,d2,zs,rfl,.inl ⟨SqL.of hd3,fun lt hlt=>?_⟩⟩
    refine⟨(S1.trans S3).trans (Same.new hlt),lt,ns,_,rfl,⟨zs,SqT.of Z7,R3.ext (Ext.new hlt)⟩,Fr cr hi (by omega) er em rep l3 fun k r x ex ek=>?_⟩
    exact h3 k r x (by have:=(List.getElem?_eq_some_iff.mp ek).1;omega) ex ek
  ·rintro σ H1 ⟨S1,dc,cs,x,rfl,Rc,rep⟩
   exact⟨_,rfl,k dc cs H1 S1 Rc rep⟩
def iK (K:W.Frag):Sp:=fun vs H Q _=>∃ (q:Addr) (ms:List Rat) (n:Nat),vs=[.ref q,.int (ms.length:Int)]/\LstAt K H q ms/\(∀ m∈ms,Good n m/\0<=m.1)/\n<=4000/\∀ H',Same H H'->Q (.bl true) H'
theorem Kp:FnScope ["_law_found","_law_many","_law_one"] ["_law_found","_law_many"] (defScope j9):=fsc
theorem Z0w (D:Def K mg "_law_multiples" j9 ["_law_found","_law_many"])(T:Blt mg)(gY:Has P w K mg base 3 "_law_is_ratio" ["_law_found"] (i5 K)):Has P w K mg base 4 "_law_multiples" ["_law_found","_law_many"] (iK K):=by
 refine D.has fun f fd F=>F.ok Kp (fun vs H Q E h=>?_) (fun cdv A outer s H vs Q E hr h=>?_)
 ·obtain⟨q,ms,n,rfl,_⟩:=h
  rfl
 ·obtain⟨q,ms,n,rfl,⟨xs,hq,hms⟩,g,hn,k⟩:=h
  have sc:=Kp
  refine⟨_,(Z6 (Yd (PW.pt (Vi (We (Xa (Zu Xy rfl T.isinstance PyProof.Rows.boot_isinstance (Z0 (pv 0) (Z0 (Rm T.list PyProof.Rows.boot_list) Z4))))) (Wd (Zi J8 (Zu Y1 rfl T.len boot_len (Z0 (pv 0) Z4)) (pv 1) (Zp _)))))
    (Z9 (Zf Wy))
    Zt)
   (Z6 (Xk PassesOwn.never rfl (Xo (pv 0)) (Zl (i:=2) sc.nd rfl (Or.inl rfl))
    (Z9 (Yd (PW.pt (Vi (We (Xa (Zc gY hr (Z0 (pv 2) Z4)))) (Wd (Zi Ut (Ze Xg (pv 2) Z5 (fun _ _=>rfl)) Z5 (Zp _)))))
     (Z9 (Zf Wy))
     Zt)))
   (Z9 (Zf Wy)))),?_⟩
  have lx:=hms.len
  refine⟨_,rfl,_,_,_,_,rfl,TyOf.lst hq,T4,_,rfl,Xf ?_⟩
  refine⟨_,rfl,q,_,rfl,.inl (SqL.of hq),_,rfl,rfl,_,rfl,Bf (by rw[lx]) ?_⟩
  refine⟨_,rfl,q,rfl,⟨_,SqL.of hq⟩,Vu (K:=K) (a:=q) (xs:=xs) (fun i σ H'=>Same H H'/\∃ (x:Option V),σ=[some (.ref q),some (.int (ms.length:Int)),x]) ⟨Same.refl _,none,rfl⟩ (fun i σ H' _ h=>SqL.of (h.1 _ _ hq)) ?_ ?_⟩
  ·rintro i x σ H2 hix ⟨S2,x1,rfl⟩
   obtain⟨r,er,b,rfl,hb⟩:=(hms.ext (Ext.same S2)).back hix
   obtain⟨gr,nn⟩:=g r (List.mem_of_getElem? er)
   refine⟨_,rfl,b,r,n,rfl,hb,gr,by omega,fun H3 S3=>⟨_,rfl,Xf ?_⟩⟩
   refine⟨_,rfl,b,_,_,rfl,rfl,Zo S3 hb,_,_,rfl,rfl,_,rfl,?_⟩
   refine Xc (fun h=>absurd (of_decide_eq_true h) (by omega)) (fun _=>?_)
   exact⟨S2.trans S3,_,rfl⟩
  ·rintro σ H2 ⟨S2,x1,rfl⟩
   exact k _ S2
end
end Sb
namespace Sb
open PySem L2
theorem K8 {n:Nat}{kp:Nat->Bool}{i j:Nat}{a b:Int}(h:i<j)(ea:(evI n kp)[i]?=some a)(eb:(evI n kp)[j]?=some b):a<b:=by
 have hs:(List.range n).Pairwise (·<·):=List.pairwise_lt_range
 have hf:=hs.filter kp
 unfold evI at ea eb
 rw[List.getElem?_map] at ea eb
 cases e1:((List.range n).filter kp)[i]? with
 | none=>rw[e1] at ea;cases ea
 | some x =>
  cases e2:((List.range n).filter kp)[j]? with
  | none=>rw[e2] at eb;cases eb
  | some y =>
   rw[e1] at ea
   rw[e2] at eb
   cases ea
   cases eb
   obtain⟨q1,rfl⟩:=List.getElem?_eq_some_iff.mp e1
   obtain⟨q2,rfl⟩:=List.getElem?_eq_some_iff.mp e2
   have:=List.pairwise_iff_getElem.mp hf i j q1 q2 h
   exact Int.ofNat_lt.mpr this
theorem Z1p (xs:List V):cutV xs none (some 1)=xs.take 1/\cutV xs (some 1) none=xs.drop 1:=by
 cases xs with
 | nil=>exact⟨rfl,rfl⟩
 | cons x xs=>exact⟨Z35 (i:=1) (by simp),Z36 (i:=1) (by simp)⟩
theorem K9 (c:Nat)(p:Nat->Bool)(q:Int->Bool):(evI c p).filter q=evI c fun k=>p k && q (k:Int):=by
 unfold evI
 rw[List.filter_map,List.filter_filter]
 congr 1
 apply List.filter_congr
 intro k _
 simp[Bool.and_comm]
section
variable {P:Program}{w:World}{K:W.Frag}{mg:Str->Option Value}{base:Heap}
def gC (K:W.Frag):Sp:=fun vs H Q _=>∃ (a aw:Addr) (c:Nat) (ns:List Int) (ws:List Rat),vs=[.ref a,.ref aw]/\SqL K H a (ns.map V.int)/\RowAt K H aw ws/\ws.length=c/\1<=c/\c<=100 ∧
 ∀ (t te l:Addr) (p:Nat->Bool) (o1 o2:Offr) (H':Hp),Same H H'->SqT K H' t [.ref te,.ref l]->SqT K H' te ((evI c p).map V.int)->OffsAt K H' l c [o1,o2]->(∀ (k:Nat) (r:Rat),ws[k]?=some r->p k=true->r.1=0)->ExtO c p o1->ExtO c p o2->(∀ k,k<c->p k=true->∃ o,(o=o1 \/ o=o2)/\∃ r,o.row[k]?=some r/\0<r.1)->Q (.ref t) H'
theorem Qp:FnScope ["_law_script","_law_weights_here","_law_count","_law_free","_law_bag_here","_law_some","_law_extra","_law_part","_law_row_here","_law_k","_law_more"] ["_law_script","_law_weights_here"] (defScope kU):=fsc
set_option maxHeartbeats 1600000 in
theorem Gs (D:Def K mg "_law_chances" kU ["_law_script","_law_weights_here"])(T:Blt mg)(eO:Has P w K mg base 2 "_law_bag" ["_law_script","_law_at"] (gJ K))(eD:Z2 P w K mg base)(eE:Z1 P w K mg base):Has P w K mg base 3 "_law_chances" ["_law_script","_law_weights_here"] (gC K):=by
 refine D.has fun f fd F=>F.ok Qp (fun vs H Q E h=>?_) (fun cdv A outer s H vs Q E hr h=>?_)
 ·obtain⟨a,aw,c,ns,ws,rfl,_⟩:=h
  rfl
 ·obtain⟨a,aw,c,ns,ws,rfl,hS,⟨xw,hxw,hws⟩,lw,c1,hc,k⟩:=h
  have sc:=Qp
  have nd1:(["_law_k","_law_weights_here"]:List Str).Nodup:=by decide +kernel
  have nd2:(["_law_k","_law_bag_here"]:List Str).Nodup:=by decide +kernel
  refine⟨_,(Z6 (Zg (i:=2) sc.nd rfl (Or.inl rfl) (Zu Y1 rfl T.len boot_len (Z0 (pv 1) Z4)))
   (Z6 (Wn (i:=3) (N:=["_law_k","_law_weights_here"]) (k:=1) (fv:=[1]) sc.nd rfl (Or.inl rfl) rfl (Yi rfl T.range (Z0 (pv 2) Z4))
   (fun _ _ _ _ _=>Zl (i:=0) nd1 rfl (Or.inl rfl)) (fun _ _ _ _ _=>Up (Zi Xu (Ze (K1 (K:=K)) (Ze (Rw (K:=K)) (pv 1) (pv 0) (fun _ _=>rfl)) Z5 (fun _ _=>rfl)) Z5 (Zp _))) (fun _ _ _ _ _=>(pv 0)) Y2)
   (Z6 (Zg (i:=4) sc.nd rfl (Or.inr rfl) (Zc eO hr (Z0 (pv 0) (Z0 Z5 Z4))))
   (Z6 (Wn (i:=5) (N:=["_law_k","_law_bag_here"]) (k:=1) (fv:=[4]) sc.nd rfl (Or.inl rfl) rfl (Xo (pv 3))
   (fun _ _ _ _ _=>Zl (i:=0) nd2 rfl (Or.inl rfl)) (fun _ _ _ _ _=>Up (Zi Xu (Zc eD hr (Z0 (pv 1) (Z0 Z5 Z4))) Z5 (Zp _))) (fun _ _ _ _ _=>(pv 0)) Y2)
   (Z6 (Zg (i:=6) sc.nd rfl (Or.inl rfl) (Xb Z4))
   (Z6 (Xk PassesOwn.never rfl (Xo (Xb (Z0 (Uq Sk (pv 5) Sm (Sl Z5)) (Z0 (Uq Sk (pv 5) (Sl Z5) Sm) Z4)))) (Zl (i:=7) sc.nd rfl (Or.inl rfl))
    (Z6 (Zg (i:=8) sc.nd rfl (Or.inl rfl) (Xb Z4))
    (Z6 (Xk PassesOwn.never rfl (Yi rfl T.range (Z0 (pv 2) Z4)) (Zl (i:=9) sc.nd rfl (Or.inl rfl))
     (Z6 (Zg (i:=10) sc.nd rfl (Or.inl rfl) (Zc eE hr (Z0 (Zh Yu Z5 (Zc eD hr (Z0 (pv 4) (Z0 Z5 Z4)))) (Z0 (Zh Yu Z5 (Zc eD hr (Z0 (pv 4) (Z0 Z5 Z4)))) Z4))))
     (Z9 (Yr (Wf PySem.F.plainAttrs_list PySem.F.slot_list_append PySem.F.type_list_append Yl (pv 8) (Z0 (Wx (Zi Xm (pv 9) (pv 7) rfl) (pv 10) (Y8 (Z0 Z5 (Z0 Z5 Z4)))) Z4))))))
    (Z9 (Yr (Wf PySem.F.plainAttrs_list PySem.F.slot_list_append PySem.F.type_list_append Yl (pv 6) (Z0 (Y8 (Z0 (Y4 Zz rfl T.tuple PyProof.Rows.boot_tuple (Z0 (pv 8) Z4)) (Z0 (Y8 (Z0 Z5 (Z0 Z5 Z4))) (Z0 Yw (Z0 Yw Z4))))) Z4)))))))
   (Z9 (Zf (Y8 (Z0 (Y4 Zz rfl T.tuple PyProof.Rows.boot_tuple (Z0 (pv 5) Z4)) (Z0 (pv 6) Z4))))))))))),?_⟩
  have lx:=hws.len
  have et:(c:Int).toNat=c:=by omega
  refine⟨_,rfl,aw,xw,rfl,.inr hxw,?_⟩
  rw[show ((xw.length:Nat):Int)=(c:Int) by omega]
  refine⟨_,rfl,(c:Int),rfl,(by omega),(by omega),fun d hd=>?_⟩
  rw[et]
  refine⟨c,fun i ys H2=>Same H H2/\ys=(evI i (fun k=>decide ((ws.getD k (0,1)).1=0))).map V.int,Zq (by omega),⟨Same.new hd,rfl⟩,?_,?_⟩
  ·rintro i ys H2 hi ⟨S2,rfl⟩ hd2
   refine⟨hi,?_⟩
   rintro x H3 ⟨rfl,rfl⟩
   have e0:(0+(i:Int))=((i:Nat):Int):=by omega
   rw[e0]
   refine Uv ?_
   have hiw:i<ws.length:=by omega
   have gw:ws.getD i (0,1)=ws[i]:=by simp[List.getD,hiw]
   obtain⟨wv,ewv,iw⟩:=hws.at (i:=i) (r:=ws[i]) (by simp[hiw])
   obtain⟨ax,rfl,sqx⟩:=iw.ext (Ext.same S2)
   refine⟨_,rfl,_,rfl,aw,_,_,_,rfl,rfl,Zo S2 hxw,Zd ewv,ax,_,_,rfl,rfl,sqx,rfl,_,rfl,?_⟩
   refine Xc (fun h=>?_) (fun h=>?_)
   ·have h0:ws[i].1=0:=by
     have:=of_decide_eq_true h
     injection this
    refine⟨_,rfl,hd2,fun q o e=>?_,?_⟩
    ·rw[Zb (Z8 e hd)]
     exact S2 _ _ e
    ·rw[V5,if_pos (by rw[gw];exact decide_eq_true h0),List.map_append]
     rfl
   ·have h0:¬ ws[i].1=0:=fun z=>h (decide_eq_true (by rw[z]))
    refine⟨hd2,S2,?_⟩
    rw[V5,if_neg (by rw[gw,decide_eq_false h0];decide),List.append_nil]
  rintro ys H1 ⟨S1,rfl⟩ hd1
  refine⟨Nat.le_refl _,?_⟩
  have lL:=Jj c (fun k=>decide ((ws.getD k (0,1)).1=0))
  refine⟨_,rfl,a,7,ns,rfl,Vh S1 hS,by decide,fun b H2 fb S2 B2=>?_⟩
  have hd2:=S2 _ _ hd1
  have hdb:d≠b:=Z8 hd1 fb
  have hb0:H b=none:=Yk S1 fb
  refine⟨_,rfl,d,rfl,⟨_,SqL.of hd2⟩,fun e he=>?_⟩
  have heb:e≠b:=by
   obtain⟨ys,z⟩:=B2.lst
   exact (Z8 z he).symm
  have sorted:∀ {i j:Nat} {x y:Int},i<j->(evI c (fun k=>decide ((ws.getD k (0,1)).1=0)))[i]?=some x->(evI c (fun k=>decide ((ws.getD k (0,1)).1=0)))[j]?=some y->x<y:=fun h e1 e2=>K8 h e1 e2
  have back:∀ z∈evI c (fun k=>decide ((ws.getD k (0,1)).1=0)),∃ k:Nat,z=(k:Int)/\k<c/\decide ((ws.getD k (0,1)).1=0)=true:=fun z hz=>Z1m hz
  generalize eL:evI c (fun k=>decide ((ws.getD k (0,1)).1=0))=L at *
  refine⟨L.length,fun i ys H'=>SameX b H2 H'/\BagAt H' b (101+i)/\∃ q:Int->Bool,ys=((L.take i).filter q).map V.int,Zq (by omega),⟨SameX.of (Same.new he),B2.upd (Ne.symm heb),fun _=>true,rfl⟩,?_,?_⟩
  ·rintro i ys H3 hi ⟨S3,B3,q,rfl⟩ he3
   have ez:L[i]?=some L[i]:=by simp[hi]
   refine⟨⟨_,V.int L[i],SqL.of (S3 _ _ hd2 hdb),by simp[hi]⟩,?_⟩
   rintro x H4 ⟨rfl,fx⟩
   have ex:x=V.int L[i]:=by
    have:=fx _ (SqL.of (S3 _ _ hd2 hdb))
    rw[List.getElem?_map,ez] at this
    exact (Option.some.inj this).symm
   subst ex
   refine Uv ?_
   refine⟨_,rfl,b,_,_,rfl,B3,by omega,by decide,by decide +kernel,fun r H5 r0 r1 B5 S5=>⟨rfl,_,rfl,?_⟩⟩
   have he5:=S5 _ _ he3 heb
   have eq:(L.take i).filter q=(L.take i).filter (fun y=>if y=L[i] then decide (r=1) else q y):=by
    apply List.filter_congr
    intro y hy
    obtain⟨j,hj⟩:=List.getElem?_of_mem hy
    rw[List.getElem?_take] at hj
    split at hj
    ·have:=sorted ‹_› hj ez
     rw[if_neg (by omega)]
    ·cases hj
   refine Xc (fun h=>?_) (fun h=>?_)
   ·have h0:r=1:=by
     have:=of_decide_eq_true h
     injection this
    refine⟨_,rfl,he5,fun q' o e' ne=>?_,(B5.upd (Ne.symm heb)).mono (by omega),fun y=>if y=L[i] then decide (r=1) else q y,?_⟩
    ·rw[Zb (Z8 e' he)]
     exact S5 _ _ (S3 _ _ e' ne) ne
    ·rw[Yf ez,List.filter_append,← eq,List.map_append]
     simp[h0]
   ·have h0:¬ r=1:=fun z=>h (decide_eq_true (by rw[z]))
    refine⟨he5,S3.trans S5,B5.mono (by omega),fun y=>if y=L[i] then decide (r=1) else q y,?_⟩
    rw[Yf ez,List.filter_append,← eq,List.map_append]
    simp[h0]
  rintro ys H3 ⟨S3,B3,q,rfl⟩ he3
  rw[List.take_of_length_le (Nat.le_refl _)] at he3
  refine⟨⟨_,SqL.of (S3 _ _ hd2 hdb),by rw[List.length_map];omega⟩,?_⟩
  have eP:L.filter q=evI c (fun k=>decide ((ws.getD k (0,1)).1=0) && q (k:Int)):=by rw[← eL,K9]
  have pz:∀ (k:Nat) (r:Rat),ws[k]?=some r->(fun k:Nat=>decide ((ws.getD k (0,1)).1=0) && q (k:Int)) k=true->r.1=0:=fun k r er h=>by
   replace h:(decide ((ws.getD k (0,1)).1=0) && q (k:Int))=true:=h
   have h1:=of_decide_eq_true (Bool.and_eq_true_iff.mp h).1
   have:ws.getD k (0,1)=r:=by simp[List.getD,er]
   rw[this] at h1
   exact h1
  rw[eP] at he3
  generalize (fun k:Nat=>decide ((ws.getD k (0,1)).1=0) && q (k:Int))=p at *
  have S03:Same H H3:=fun b' o' eb=>S3 _ _ (S2 _ _ (S1 _ _ eb)) (Z8 eb hb0)
  have B3':BagAt H3 b 1000:=B3.mono (by omega)
  have hbe:e≠b:=heb
  have he0:H e=none:=Yk (S1.trans S2) he
  clear S3 S2 S1 B2 B3 hd2 hd1 hd he fb back sorted eL eP hdb heb
  have lZ:=Jj c p
  refine⟨sz0,fun l hl=>?_⟩
  have S4:Same H3 (upd H3 l (.lst [])):=Same.new hl
  have e4:upd H3 l (.lst []) l=some (.lst []):=Z7
  have he4:=S4 _ _ he3
  have B4:=B3'.same S4
  have hl0:H l=none:=Yk S03 hl
  have hle:l≠e:=(Z8 he3 hl).symm
  have hlb:l≠b:=by
   obtain⟨ys,z⟩:=B3'.lst
   exact (Z8 z hl).symm
  have S04:=S03.trans S4
  generalize upd H3 l (.lst [])=H4 at *
  refine⟨_,rfl,_,rfl,e,_,rfl,SqL.of he4,fun p1 hp1=>?_⟩
  rw[(Z1p _).1]
  have T1:=Same.new (o:=.lst (((evI c p).map V.int).take 1)) hp1
  have f1:upd H4 p1 (.lst (((evI c p).map V.int).take 1)) p1=some (.lst (((evI c p).map V.int).take 1)):=Z7
  have p1b:p1≠b:=by
   obtain⟨ys,z⟩:=B4.lst
   exact (Z8 z hp1).symm
  have p1l:p1≠l:=(Z8 e4 hp1).symm
  have p10:H p1=none:=Yk S04 hp1
  generalize upd H4 p1 (.lst (((evI c p).map V.int).take 1))=G1 at *
  refine⟨_,rfl,_,rfl,?_⟩
  refine Cs ?_
  refine⟨e,_,rfl,SqL.of (T1 _ _ he4),fun p2 hp2=>?_⟩
  rw[(Z1p _).2]
  have T2:=Same.new (o:=.lst (((evI c p).map V.int).drop 1)) hp2
  have f2:upd G1 p2 (.lst (((evI c p).map V.int).drop 1)) p2=some (.lst (((evI c p).map V.int).drop 1)):=Z7
  have p2b:p2≠b:=by
   obtain⟨ys,z⟩:=(B4.same T1).lst
   exact (Z8 z hp2).symm
  have p2l:p2≠l:=(Z8 (T1 _ _ e4) hp2).symm
  generalize upd G1 p2 (.lst (((evI c p).map V.int).drop 1))=G2 at *
  refine⟨sz2,fun lp hlp=>?_⟩
  have T3:=Same.new (o:=.lst [.ref p1,.ref p2]) hlp
  have f3:upd G2 lp (.lst [.ref p1,.ref p2]) lp=some (.lst [.ref p1,.ref p2]):=Z7
  have lpb:lp≠b:=by
   obtain⟨ys,z⟩:=((B4.same T1).same T2).lst
   exact (Z8 z hlp).symm
  have lpl:lp≠l:=(Z8 (T2 _ _ (T1 _ _ e4)) hlp).symm
  generalize upd G2 lp (.lst [.ref p1,.ref p2])=G3 at *
  have T23:=T2.trans T3
  have T13:=T1.trans T23
  have q1:=T23 _ _ f1
  have q2:=T3 _ _ f2
  have qe:=T13 _ _ he4
  have ql:=T13 _ _ e4
  have B5:=B4.same T13
  have S05:=S04.trans T13
  clear T1 T2 T3 T23 T13 f1 f2 he4 e4 B4 S04 S4 hp1 hp2 hlp B3' S03 he3 hl p10
  obtain⟨ZS,hZS⟩:∃ ZS:List (List Int),ZS=[(evI c p).take 1,(evI c p).drop 1]:=⟨_,rfl⟩
  have zin:∀ Zj∈ZS,∀ z∈Zj,z∈evI c p:=fun Zj hZ z hz=>by
   rw[hZS] at hZ
   rcases List.mem_cons.mp hZ with rfl | hZ
   ·exact List.mem_of_mem_take hz
   ·rw[List.mem_singleton.mp hZ] at hz
    exact List.mem_of_mem_drop hz
  refine⟨lp,rfl,⟨_,SqL.of f3⟩,Vu (K:=K) (a:=lp) (xs:=[.ref p1,.ref p2]) (fun i σ H'=>Same H H'/\BagAt H' b (1000+2*c*i)/\H' e=some (.lst ((evI c p).map V.int))/\H' p1=some (.lst (((evI c p).map V.int).take 1))/\H' p2=some (.lst (((evI c p).map V.int).drop 1))/\H' lp=some (.lst [.ref p1,.ref p2])/\∃ (vs:List V) (os:List Offr) (x1 x2 x3 x4:Option V),σ=[some (.ref a),some (.ref aw),some (.int (c:Int)),some (.ref d),some (.ref b),some (.ref e),some (.ref l),x1,x2,x3,x4]/\H' l=some (.lst vs)/\Paired (fun v o=>OffAt K H' c o v) vs os/\os.length=i/\∀ (j:Nat) (o:Offr) (Zj:List Int),os[j]?=some o->ZS[j]?=some Zj->ExtO c p o/\∀ k:Nat,k<c->(k:Int)∈Zj->∃ r,o.row[k]?=some r/\0<r.1) ⟨S05,B5,qe,q1,q2,f3,[],[],none,none,none,none,rfl,ql,.nil,rfl,fun j o Zj h=>by simp at h⟩ (fun i σ H' _ h=>SqL.of h.2.2.2.2.2.1) ?_ ?_⟩
  ·rintro i v σ H6 hiv ⟨S6,B6,he6,q16,q26,f6,vs,os,x1,x2,x3,x4,rfl,hl6,P6,l6,ok6⟩
   have lv:=Paired.length P6
   have hi2:i<2:=(List.getElem?_eq_some_iff.mp hiv).1
   obtain⟨pp,Zj,rfl,eZ,hpp,ppb,ppl⟩:∃ (pp:Addr) (Zj:List Int),v=.ref pp/\ZS[i]?=some Zj/\H6 pp=some (.lst (Zj.map V.int))/\pp≠b/\pp≠l:=by
    have:i=0 \/ i=1:=by omega
    rcases this with rfl | rfl
    ·refine⟨p1,(evI c p).take 1,?_,by rw[hZS];rfl,by rw[List.map_take];exact q16,p1b,p1l⟩
     simp at hiv
     exact hiv.symm
    ·refine⟨p2,(evI c p).drop 1,?_,by rw[hZS];rfl,by rw[List.map_drop];exact q26,p2b,p2l⟩
     simp at hiv
     exact hiv.symm
   have zj:=zin Zj (List.mem_of_getElem? eZ)
   refine⟨sz0,fun lr hlr=>?_⟩
   have S7:Same H6 (upd H6 lr (.lst [])):=Same.new hlr
   have e7:upd H6 lr (.lst []) lr=some (.lst []):=Z7
   have lrb:lr≠b:=by
    obtain⟨ys,z⟩:=B6.lst
    exact (Z8 z hlr).symm
   have B7:=B6.same S7
   generalize upd H6 lr (.lst [])=H7 at *
   refine⟨_,rfl,(c:Int),rfl,(by omega),(by omega),?_⟩
   rw[et]
   refine V1 (lo:=0) (n:=c) (fun j σ H'=>SameX b H6 H'/\BagAt H' b (1000+2*c*i+2*j)/\∃ (rs:List Rat) (xs:List V) (x5 x6:Option V),σ=[some (.ref a),some (.ref aw),some (.int (c:Int)),some (.ref d),some (.ref b),some (.ref e),some (.ref l),some (.ref pp),some (.ref lr),x5,x6]/\H' lr=some (.lst xs)/\Rs K H' rs xs/\rs.length=j/\(∀ r∈rs,Six r/\0<=r.1)/\∀ (k:Nat) (r:Rat),rs[k]?=some r->((k:Int)∈Zj->0<r.1)/\((k:Int) ∉ Zj->r.1=0)) ⟨SameX.of S7,B7,[],[],_,_,rfl,e7,.nil,rfl,(fun _ h=>nomatch h),fun k r h=>by simp at h⟩ ?_ ?_
   ·rintro j σ H8 hj ⟨S8,B8,rs,xs,x5,x6,rfl,hl8,R8,lr8,ok8,at8⟩
    have e0:(0+(j:Int))=((j:Nat):Int):=by omega
    rw[e0]
    have i2:2*c*i<=2*c*1:=Nat.mul_le_mul_left _ (by omega)
    refine⟨_,rfl,b,_,_,rfl,B8,by omega,by decide,by decide +kernel,fun y H9 y0 y1 B9 S9=>⟨_,_,rfl,rfl,?_⟩⟩
    refine⟨_,rfl,b,_,_,rfl,B9,by omega,by decide,by decide +kernel,fun u H10 u0 u1 B10 S10=>⟨_,_,rfl,rfl,?_⟩⟩
    refine⟨_,_,rfl,by omega,(Fx (x:=1+u) (by omega) (by omega)).log (by decide),fun ak H11 f11 S11 e11=>?_⟩
    replace e11:H11 ak=some (.tup [.int (nrm (1+y) (1+u)).1,.int (nrm (1+y) (1+u)).2]):=e11
    have sm:Six (nrm (1+y) (1+u)):=Ui (by omega) (by omega) (by omega)
    have m0:0<(nrm (1+y) (1+u)).1:=by
     have cr:=Ys (1+y) (1+u)
     replace cr:(nrm (1+y) (1+u)).1*(1+u)=(1+y)*(nrm (1+y) (1+u)).2:=cr
     have ps:=sm.g.pos
     generalize nrm (1+y) (1+u)=m at *
     have k1:=Int.mul_pos (show (0:Int)<1+y by omega) ps
     rw[← cr] at k1
     exact Int.pos_of_mul_pos_left k1 (by omega)
    generalize nrm (1+y) (1+u)=m at *
    have SX:=(S9.trans S10).trans (SameX.of S11)
    have x811:=((Ext.bag S9 B8).trans (Ext.bag S10 B9)).trans (Ext.same S11)
    have B11:=B10.same S11
    have hl11:=SX _ _ hl8 lrb
    have hpp11:=SX _ _ (S8 _ _ hpp ppb) ppb
    have lx8:=R8.len
    refine⟨_,rfl,.inl ⟨rfl,_,SqL.of hl11⟩,?_⟩
    refine⟨_,rfl,_,rfl,pp,_,rfl,.inl (SqL.of hpp11),rfl,Wb _,_,rfl,?_⟩
    show if inV (.int (j:Int)) (Zj.map V.int)=true then _ else _
    rw[V0]
    have up:∀ (xs':List V) (G:Hp),Same H11 G->SameX b H6 (upd G lr (.lst xs')):=fun xs' G SG q' o e' ne=>by
     rw[Zb (Z8 e' hlr)]
     exact SG _ _ (SX q' o (S8 q' o e' ne) ne)
    have atN:∀ m':Rat,((j:Int)∈Zj->0<m'.1)->((j:Int) ∉ Zj->m'.1=0)->∀ (k:Nat) (r:Rat),(rs++[m'])[k]?=some r->((k:Int)∈Zj->0<r.1)/\((k:Int) ∉ Zj->r.1=0):=fun m' h1 h2 k r er=>by
     by_cases q:k<rs.length
     ·rw[List.getElem?_append_left q] at er
      exact at8 k r er
     ·have hk:k<(rs++[m']).length:=(List.getElem?_eq_some_iff.mp er).1
      rw[List.length_append] at hk
      replace hk:k<rs.length+1:=hk
      obtain rfl:k=j:=by omega
      rw[List.getElem?_append_right (by omega),lr8,Nat.sub_self] at er
      cases er
      exact⟨h1,h2⟩
    have okN:∀ m':Rat,Six m'->0<=m'.1->∀ r∈rs++[m'],Six r/\0<=r.1:=fun m' h1 h2 r hr=>by
     rcases List.mem_append.mp hr with z | z
     ·exact ok8 r z
     ·rw[List.mem_singleton.mp z]
      exact⟨h1,h2⟩
    refine Xc (fun h=>?_) (fun h=>?_)
    ·have hz:=of_decide_eq_true h
     refine⟨_,rfl,lr,_,_,rfl,rfl,hl11,Xd (by omega),up _ _ (Same.refl _),(B11.upd (Ne.symm lrb)).mono (by omega),rs++[m],_,_,_,rfl,Z7,(R8.ext (x811.trans (Ext.upd hl11))).snoc ⟨ak,rfl,(Ext.upd hl11).sq (SqT.of e11)⟩,by rw[List.length_append,lr8];rfl,okN m sm (by omega),atN m (fun _=>m0) (fun z=>(z hz).elim)⟩
    ·have hz:¬ (j:Int)∈Zj:=fun z=>h (decide_eq_true z)
     refine⟨sz2,fun pz hpz=>?_⟩
     have S12:Same H11 (upd H11 pz (.tup [.int 0,.int 1])):=Same.new hpz
     have e12:upd H11 pz (.tup [.int 0,.int 1]) pz=some (.tup [.int 0,.int 1]):=Z7
     generalize upd H11 pz (.tup [.int 0,.int 1])=H12 at *
     have hl12:=S12 _ _ hl11
     refine⟨lr,_,_,rfl,rfl,hl12,Xd (by omega),up _ _ S12,((B11.same S12).upd (Ne.symm lrb)).mono (by omega),rs++[(0,1)],_,_,_,rfl,Z7,(R8.ext ((x811.trans (Ext.same S12)).trans (Ext.upd hl12))).snoc ⟨pz,rfl,(Ext.upd hl12).sq (SqT.of e12)⟩,by rw[List.length_append,lr8];rfl,okN (0,1) (Z06 (by decide) (by decide)) (by decide),atN (0,1) (fun z=>(hz z).elim) (fun _=>rfl)⟩
   ·rintro σ H8 ⟨S8,B8,rs,xs,x5,x6,rfl,hl8,R8,lr8,ok8,at8⟩
    have x68:=Ext.bag S8 B6
    have hl8':=S8 _ _ hl6 hlb
    refine⟨_,rfl,.inl ⟨rfl,_,SqL.of hl8'⟩,?_⟩
    refine⟨_,rfl,lr,xs,rfl,.inl ⟨SqL.of hl8,fun lt hlt=>?_⟩⟩
    have T1:=Same.new (o:=.tup xs) hlt
    have g1:upd H8 lt (.tup xs) lt=some (.tup xs):=Z7
    generalize upd H8 lt (.tup xs)=H9 at *
    refine⟨sz2,fun pz hpz=>?_⟩
    have T2:=Same.new (o:=.tup [.int 0,.int 1]) hpz
    have g2:upd H9 pz (.tup [.int 0,.int 1]) pz=some (.tup [.int 0,.int 1]):=Z7
    generalize upd H9 pz (.tup [.int 0,.int 1])=H10 at *
    refine⟨sz4,fun po hpo=>?_⟩
    have T3:=Same.new (o:=.tup [.ref lt,.ref pz,.non,.non]) hpo
    have g3:upd H10 po (.tup [.ref lt,.ref pz,.non,.non]) po=some (.tup [.ref lt,.ref pz,.non,.non]):=Z7
    generalize upd H10 po (.tup [.ref lt,.ref pz,.non,.non])=H11 at *
    have T13:=(T1.trans T2).trans T3
    have hl11:=T13 _ _ hl8'
    have x811:=(Ext.same T13).trans (Ext.upd (o:=.lst (vs++[.ref po])) hl11)
    have keep:∀ {q':Addr} {ob:HO},H6 q'=some ob->q'≠b->q'≠l->upd H11 l (.lst (vs++[.ref po])) q'=some ob:=fun h n1 n2=>by
     rw[Zb n2]
     exact T13 _ _ (S8 _ _ h n1)
    have ol:OffAt K (upd H11 l (.lst (vs++[.ref po]))) c ⟨rs,some (0,1),none,none⟩ (.ref po):=⟨po,lt,.ref pz,.non,.non,rfl,(Ext.upd hl11).sq (SqT.of g3),⟨xs,(Ext.upd hl11).sq (SqT.of ((T2.trans T3) _ _ g1)),R8.ext x811⟩,lr8,⟨pz,rfl,(Ext.upd hl11).sq (SqT.of (T3 _ _ g2))⟩,rfl,rfl⟩
    have ex:ExtO c p ⟨rs,some (0,1),none,none⟩:=⟨lr8,fun r hr=>(ok8 r hr).1,fun r hr=>(ok8 r hr).2,fun k r er pk=>(at8 k r er).2 (fun z=>by
     have:=(mem_evI.mp (zj _ z)).2
     rw[pk] at this
     cases this),rfl,rfl,rfl⟩
    refine⟨l,_,_,rfl,rfl,hl11,Xd (by omega),fun q' o' eq'=>?_,((B8.same T13).upd (Ne.symm hlb)).mono (by rw[Nat.mul_add];omega),keep he6 hbe (Ne.symm hle),keep q16 p1b p1l,keep q26 p2b p2l,keep f6 lpb lpl,vs++[.ref po],os++[⟨rs,some (0,1),none,none⟩],_,_,_,_,rfl,Z7,Paired.snoc (Y7 P6 (x68.trans x811)) ol,by rw[List.length_append,l6];rfl,fun j o Zk eo eZk=>?_⟩
    ·rw[Zb (Z8 eq' hl0)]
     exact T13 _ _ (S8 _ _ (S6 _ _ eq') (Z8 eq' hb0))
    ·by_cases qj:j<os.length
     ·rw[List.getElem?_append_left qj] at eo
      exact ok6 j o Zk eo eZk
     ·have hj:j<(os++[(⟨rs,some (0,1),none,none⟩:Offr)]).length:=(List.getElem?_eq_some_iff.mp eo).1
      rw[List.length_append] at hj
      replace hj:j<os.length+1:=hj
      obtain rfl:j=i:=by omega
      rw[List.getElem?_append_right (by omega),l6,Nat.sub_self] at eo
      cases eo
      rw[eZ] at eZk
      cases eZk
      exact⟨ex,fun k hk hz=>by
       have hkr:k<rs.length:=by omega
       exact⟨rs[k],by simp[hkr],(at8 k rs[k] (by simp[hkr])).1 hz⟩⟩
  ·rintro σ H6 ⟨S6,B6,he6,q16,q26,f6,vs,os,x1,x2,x3,x4,rfl,hl6,P6,l6,ok6⟩
   refine⟨_,rfl,e,_,rfl,.inl ⟨SqL.of he6,fun te hte=>?_⟩⟩
   have T1:=Same.new (o:=.tup ((evI c p).map V.int)) hte
   have g1:upd H6 te (.tup ((evI c p).map V.int)) te=some (.tup ((evI c p).map V.int)):=Z7
   generalize upd H6 te (.tup ((evI c p).map V.int))=H7 at *
   refine⟨_,rfl,sz2,fun t ht=>?_⟩
   have T2:=Same.new (o:=.tup [.ref te,.ref l]) ht
   have T12:=T1.trans T2
   have lo:os.length=2:=l6
   obtain⟨o1,o2,rfl⟩:∃ o1 o2,os=[o1,o2]:=by
    match os,lo with
    | [o1,o2],_=>exact⟨o1,o2,rfl⟩
   obtain⟨x1',k1⟩:=ok6 0 o1 ((evI c p).take 1) rfl (by rw[hZS];rfl)
   obtain⟨x2',k2⟩:=ok6 1 o2 ((evI c p).drop 1) rfl (by rw[hZS];rfl)
   refine k t te l p o1 o2 _ (S6.trans T12) (SqT.of Z7) (SqT.of (T2 _ _ g1)) ⟨vs,T12 _ _ hl6,Y7 P6 (Ext.same T12)⟩ pz x1' x2' fun k hk hp=>?_
   have hm:(k:Int)∈evI c p:=mem_evI.mpr ⟨hk,hp⟩
   rw[← List.take_append_drop 1 (evI c p)] at hm
   rcases List.mem_append.mp hm with z | z
   ·exact⟨o1,.inl rfl,k1 k hk z⟩
   ·exact⟨o2,.inr rfl,k2 k hk z⟩
end
end Sb
namespace Sb
open PySem PySem.Spec PyProof.Rows L2
theorem Fv {X:Cx}{K:W.Frag}(h:X.K=K:=by rfl):CallR X (.builtin "len") (fun xs H Q=>∃ p ys,xs=[V.ref p]/\(SqL K H p ys \/ SqT K H p ys)/\Q (V.int ↑ys.length) H):=h ▸ Y1
end Sb
namespace Sb
open PySem L2
theorem G4 {C:Addr}{i:Nat}{tb:(L2.St->XK)->TS}{ts:Addr->Option Addr->TS}{t2:TS}{Ds:Ends}{σ:L2.St}{H:Hp}(R:XK)(h1:∀ EX:L2.St->XK,(∀ cls dd H',R cls dd H'->EX σ cls dd H')->tb EX { Ds with nx:=t2 Ds } σ H)
  (h2:∀ cls dd H',R cls dd H'->cls=.ref C/\∀ a,H' a=none->ts a dd (unN i { Ds with nx:=t2 Ds }) (σ.set i (some (.ref a))) H'):tSeq (tTryQAs C i tb ts) t2 Ds σ H:=h1 _ h2
theorem Pp {X:Cx}{e:Expr}{f:Str}{pos:Pos}{ta:TE}{K:W.Frag}{mg:Str->Option Value}{a C0:Addr}{dd:Option Addr}{pn:List (Addr × Obj)}(xx:Exc pn a C0 dd)(he:PE X e ta)(hb:attributeBase e f X.env (eval e X.env)=eval e X.env:=by rfl)(hp:X.pn=pn:=by rfl)(hK:X.K=K:=by rfl)(hM:X.mg=mg:=by rfl):PE X (.Attribute e f pos) (tFldQ K mg a C0 dd ta f):=by
 subst hp
 exact Z0d xx he hb hK hM
theorem Z2f {X:Cx}{K:W.Frag}{T name id:_}{r:_}{o e:Expr}{es:List Expr}{to:TE}{t:TA}{apos cpos:Pos}(pa:PlainAttrs T)(slot:Slot T name id)(hty:typeOf (.builtin id)=pure (.type "method_descriptor"))(hm:MtR X id r)(ho:PE X o to)(ha:PA X (e::es) t)
  (hbase:attributeBase o name X.env (eval o X.env)=eval o X.env:=by rfl)
  (hfew:((backTo cpos (starEach (e::es) X.env)).all (fun x=>!x.1) && (backToKw cpos (keywordEach [] X.env)).all (fun x=>x.1.isSome)
   && decide ((e::es).length+([]:List Keyword).length+(if ([]:List Keyword).isEmpty then 0 else 1)<30))=true:=by rfl)
  (hline:(apos.endLine == cpos.line)=true:=by rfl) (hs:starEach (e::es) X.env=(false,eval e X.env)::starEach es X.env:=by rfl) (hplain:(backTo cpos (starEach es X.env)).any (·.1)=false:=by rfl) (hK:X.K=K:=by rfl) :
  PE X (.Call (.Attribute o name apos) (e::es) [] cpos) (tBM K T r to t):=hK ▸ Wf pa slot hty hm ho ha hbase hfew hline hs hplain
structure Kinds (K:W.Frag)(mg:Str->Option Value)(C c1 c2 c3 c4 c5:Addr):Prop where
 m1:mg "NoFair"=some (.ref c1)
 m2:mg "NoName"=some (.ref c2)
 m3:mg "NoRatio"=some (.ref c3)
 m4:mg "NoRow"=some (.ref c4)
 m5:mg "NoText"=some (.ref c5)
 m0:mg "NoChance"=some (.ref C)
 mv:mg "ValueError"=none
 ka:W.kitAny K (.ref C) [.ref c1,.ref c2,.ref c3,.ref c4,.ref c5]=some false
 k0:W.kitOne K (.ref C) (.ref C)=some true
 kv:W.kitOne K (.ref C) (.type "ValueError")=some true
def KindsHere (K:W.Frag)(mg:Str->Option Value):Prop:=∃ C c1 c2 c3 c4 c5,Kinds K mg C c1 c2 c3 c4 c5
theorem Ba {K:W.Frag}{h:Heap}{mg:Str->Option Value}{C c1 c2 c3 c4 c5:Addr}(X:K.In h)(G:h.Ns mainGlobals mg)(a0:W.nsIn K mainGlobals "NoChance"=some (some (.ref C)))(a1:W.nsIn K mainGlobals "NoFair"=some (some (.ref c1)))(a2:W.nsIn K mainGlobals "NoName"=some (some (.ref c2)))(a3:W.nsIn K mainGlobals "NoRatio"=some (some (.ref c3)))
  (a4:W.nsIn K mainGlobals "NoRow"=some (some (.ref c4))) (a5:W.nsIn K mainGlobals "NoText"=some (some (.ref c5))) (av:W.nsIn K mainGlobals "ValueError"=some none) (ka:W.kitAny K (.ref C) [.ref c1,.ref c2,.ref c3,.ref c4,.ref c5]=some false) (k0:W.kitOne K (.ref C) (.ref C)=some true) (kv:W.kitOne K (.ref C) (.type "ValueError")=some true):KindsHere K mg :=
 ⟨C,c1,c2,c3,c4,c5,W.mg_of X G a1,W.mg_of X G a2,W.mg_of X G a3,W.mg_of X G a4,W.mg_of X G a5,W.mg_of X G a0,W.mg_none_of X G av,ka,k0,kv⟩
section
variable {P:Program}{w:World}{K:W.Frag}{mg:Str->Option Value}{base:Heap}
def f7 (K:W.Frag):Sp:=fun vs H Q _=>∃ (l g te:Addr) (c:Nat) (os:List Offr) (q:Nat->Bool) (as:List Rat) (D:Int) (Z:List Int),vs=[.int (c:Int),.ref l,.ref te,.ref g]/\OffsAt K H l c os/\BookU c 91 os/\(gainsP os os.length).length<=8/\SqT K H te ((evI c q).map V.int)/\RowAt K H g as/\as.length=c/\RepL 24 D Z as/\(∃ ls,Wts c (gainsP os os.length) ls)/\NoLd c (gainsP os os.length) (some q)/\2<=c/\c<=5/\∀ H',Same H H'->Q (.bl true) H'
theorem Ql:FnScope ["_law_count","_law_offers","_law_event_here","_law_row_here","_law_rows","e","_law_come_here","_law_k"] ["_law_count","_law_offers","_law_event_here","_law_row_here"] (defScope kL):=fsc
set_option maxHeartbeats 1600000 in
theorem Gn {c_NoFair c_NoChance c_NoName c_NoRatio c_NoRow c_NoText fI D0:Addr}(D:Def K mg "_law_refused" kL ["_law_count","_law_offers","_law_event_here","_law_row_here"])(T:Blt mg)(ks:Kinds K mg c_NoChance c_NoFair c_NoName c_NoRatio c_NoRow c_NoText)(k_SureError:CatchBy K c_NoChance D0)(m_SureError:mg "SureError"=some (.ref D0))(O:ExcI K mg "NoChance" c_NoChance fI)(R:ExcRead K c_NoChance)(S0:StoI K c_NoChance "multiples")
  (iY:Has P w K mg base 4 "_law_gains" ["_law_offers"] (eN K)) (fT:HasD P w K mg base 9 "learned" ["count","offers","event","row"] (eX K c_NoChance)) (fX:Has P w K mg base 4 "_law_multiples" ["_law_found","_law_many"] (iK K)) (jD:Has P w K mg base 4 "_law_come" ["_law_count","_law_rows","_law_multiples_here"] (iT K)) (eT:Has P w K mg base 1 "_law_under" ["_law_one","_law_other"] (fQ K)):Has P w K mg base 10 "_law_refused" ["_law_count","_law_offers","_law_event_here","_law_row_here"] (f7 K) true:=by
 refine D.has fun f fd F=>F.ok Ql (fun vs H Q E h=>?_) (fun cdv A outer s H vs Q E hr h=>?_)
 ·obtain⟨l,g,te,c,os,q,as,D,Z,rfl,_⟩:=h
  rfl
 ·obtain⟨l,g,te,c,os,q,as,D,Z,rfl,⟨vs,hl,hP⟩,bu,sd,hte,hg,la,ra,wl,nosh,c2,c5,k⟩:=h
  have m_NoChance:=ks.m0
  have m_NoName:=ks.m2
  have m_NoRatio:=ks.m3
  have m_NoRow:=ks.m4
  have m_NoText:=ks.m5
  have m_NoFair:=ks.m1
  have n_ValueError:=ks.mv
  have sc:=Ql
  refine⟨_,(Z6 (Zg (i:=4) sc.nd rfl (Or.inl rfl) (Zc iY hr (Z0 (pv 1) Z4)))
   (Z6 (Gc (i:=5) sc.nd rfl rfl rfl rfl k_SureError m_SureError rfl (fun _ _ _ hL=>(Z9 (Yr (Sn fT (hr.mono (by decide)) rfl hL (Z0 (pv 0) (Z0 (Y4 (U7 (K:=K)) rfl T.list PyProof.Rows.boot_list (Z0 (pv 1) Z4)) (Z0 (pv 2) (Z0 (pv 3) Z4)))))))) (fun a dd _ _ xx=>(PSs.nox (Z6 (Yd (PW.pt (Vi (Xa (Zu (Vg xx (K:=K)) rfl T.isinstance PyProof.Rows.boot_isinstance (Z0 (pv 5) (Z0 (Y8 (Z0 (Yj (v:=.ref c_NoFair) rfl m_NoFair rfl) (Z0 (Yj (v:=.ref c_NoName) rfl m_NoName rfl) (Z0 (Yj (v:=.ref c_NoRatio) rfl m_NoRatio rfl) (Z0 (Yj (v:=.ref c_NoRow) rfl m_NoRow rfl) (Z0 (Yj (v:=.ref c_NoText) rfl m_NoText rfl) Z4)))))) Z4)))) (Wd (We (Xa (Zu (Vg xx (K:=K)) rfl T.isinstance PyProof.Rows.boot_isinstance (Z0 (pv 5) (Z0 (Yj (v:=.ref c_NoChance) rfl m_NoChance rfl) Z4))))))))
     (Z9 (Zf Wy))
     Zt)
    (Z6 (Yd (PW.pt (Vi (We (Xa (Zu (Vg xx (K:=K)) rfl T.isinstance PyProof.Rows.boot_isinstance (Z0 (pv 5) (Z0 (Rm n_ValueError PyProof.Rows.Boot.«ValueError») Z4))))) (Wd (We (Xa (Rl fX (hr.mark.mono (by decide)) rfl (Z0 (Pp xx (K:=K) (mg:=mg) (pv 5)) (Z0 (Zu (Fv (K:=K)) rfl T.len boot_len (Z0 (pv 4) Z4)) Z4))))))))
     (Z9 (Zf Wy))
     Zt)
    (Z6 (Zg (i:=6) sc.nd rfl (Or.inl rfl) (Rl jD (hr.mark.mono (by decide)) rfl (Z0 (pv 0) (Z0 (pv 4) (Z0 (Pp xx (K:=K) (mg:=mg) (pv 5)) Z4)))))
    (Z6 (Xk PassesOwn.never rfl (Yi rfl T.range (Z0 (pv 0) Z4)) (Zl (i:=7) sc.nd rfl (Or.inl rfl))
     (Z9 (Yd (PW.pt (Vi (Zi Ut (Ze (K1 (K:=K)) (Ze (Rw (K:=K)) (pv 6) (pv 7) (fun _ _=>rfl)) Z5 (fun _ _=>rfl)) Z5 (Zp _)) (Wd (PW.pt (Lh (Zi (C7 (K:=K)) (pv 7) (pv 2) rfl) (Pm (Xa (Rl eT (hr.mark.mono (by decide)) rfl (Z0 (Ze (Rw (K:=K)) (pv 6) (pv 7) (fun _ _=>rfl)) (Z0 (Y8 (Z0 Z5 (Z0 Z5 Z4))) Z4))))))))))
      (Z9 (Zf Wy))
      Zt)))
    (Z6 (Yr (Z2f (K:=K) PySem.F.plainAttrs_list PySem.F.slot_list_append PySem.F.type_list_append Yl (Pp xx (K:=K) (mg:=mg) (pv 5)) (Z0 (Y8 (Z0 Z5 (Z0 Z5 Z4))) Z4)))
    (Z9 (Zf Wy))))))))))
   (Z9 (Zf Wy)))),?_⟩
  have few:=bu.few
  have n1:=bu.n1
  have bo:bitsOf 91 c (gainsP os os.length).length<=481:=by
   unfold bitsOf
   have:=Nat.mul_le_mul_left (91+5) (show min c ((gainsP os os.length).length+2)<=5 by omega)
   omega
  refine⟨_,rfl,l,c,91,os,rfl,⟨vs,hl,hP⟩,few,by omega,by decide,bu.good,fun d H1 fd S1 hR1=>?_⟩
  obtain⟨ads,hd,hRP⟩:=hR1
  have lp:=Paired.length hRP
  replace hl:=S1 _ _ hl
  replace hP:=Y7 hP (Ext.same S1)
  replace hte:=Zo S1 hte
  replace hg:=hg.same S1
  dsimp only
  refine G4 (fun cls dd H'=>cls=.ref c_NoChance/\Same H1 H'/\∃ (dx qx:Addr) (xs:List V) (Tb:Sv.Tab) (gs:List Rat),dd=some dx/\H1 qx=none/\H' dx=some (.xd [("multiples",.ref qx)])/\H' qx=some (.lst xs)/\Rs K H' (multR c (gainsP os os.length) Tb (gainsP os os.length).length 1) xs/\NoneT c (gainsP os os.length) (some q) gs Tb/\∃ D Zs,RepL 91 D Zs gs) (fun EX hEX=>?_) ?_
  ·refine⟨_,rfl,_,rfl,l,vs,rfl,.inl (SqL.of hl),fun lc hlc=>?_⟩
   have T1:=Same.new (o:=.lst vs) hlc
   have f1:upd H1 lc (.lst vs) lc=some (.lst vs):=Z7
   generalize upd H1 lc (.lst vs)=G1 at *
   refine⟨_,rfl,_,rfl,lc,g,.ref te,c,os,some q,as,D,Z,rfl,⟨vs,f1,Y7 hP (Ext.same T1)⟩,bu,⟨te,rfl,Zo T1 hte⟩,hg.same T1,la,ra,by omega,wl,c2,by omega,fun t au av T1' T2' H9 S9 ht su sv mt1 mt2 gu gv=>(nosh _ _ _ _ (mt1.loads bu.rep ⟨_,_,ra.mono (by decide)⟩ la n1 (by omega))).elim,fun d3 q3 xs3 T3 gs3 H' S' fq nt rg e1 e2 r3=>hEX _ _ _ ⟨rfl,T1.trans S',d3,q3,xs3,T3,gs3,rfl,Yk T1 fq,e1,e2,r3,nt,rg⟩⟩
  rintro cls dd H2 ⟨rfl,S2,dx,qx,xs,Tb,gs,rfl,fq,ex,hq,rsq,nt,rg⟩
  refine⟨rfl,fun ae hae=>?_⟩
  have I:=nt.inv
  have bd:=L6 bu.rep rg n1 (by omega) I
  have cr:=Gy (i:=(gainsP os os.length).length) (b:=1) bu.rep I.pos (TabOk.of I) bd (by omega) (by decide) (show Bd 91 1 from Nat.lt_of_lt_of_le (show (1:Int).natAbs<2 ^ 1 by decide) (Nat.pow_le_pow_right (by decide) (by decide)))
  have nn:=Z19 (i:=(gainsP os os.length).length) (b:=1) bu.rep I.pos (by decide) nt.sv.1
  refine⟨_,rfl,sz5,fun t ht=>?_⟩
  have S3:=Same.new (o:=.tup [.ref c_NoFair,.ref c_NoName,.ref c_NoRatio,.ref c_NoRow,.ref c_NoText]) ht
  have et:upd H2 t (.tup [.ref c_NoFair,.ref c_NoName,.ref c_NoRatio,.ref c_NoRow,.ref c_NoText]) t=some (.tup [.ref c_NoFair,.ref c_NoName,.ref c_NoRatio,.ref c_NoRow,.ref c_NoText]):=Z7
  generalize upd H2 t (.tup [.ref c_NoFair,.ref c_NoName,.ref c_NoRatio,.ref c_NoRow,.ref c_NoText])=H3 at *
  refine⟨.ref t,false,rfl,R,.inr ⟨t,[c_NoFair,c_NoName,c_NoRatio,c_NoRow,c_NoText],rfl,SqT.of et,ks.ka⟩,_,rfl,Xf ?_⟩
  refine⟨_,rfl,.ref c_NoChance,true,rfl,R,.inl ⟨.ref c_NoChance,fun u z=>z,ks.k0⟩,_,rfl,Xf ?_⟩
  refine⟨_,rfl,.ty "ValueError",true,rfl,R,.inl ⟨.type "ValueError",fun u z=>z,ks.kv⟩,_,rfl,Xf ?_⟩
  have S13:=S2.trans S3
  refine⟨_,rfl,c_NoChance,fI,dx,"NoChance",_,.ref qx,rfl,⟨rfl,rfl⟩,S3 _ _ ex,rfl,R,O,S0.na,_,rfl,d,_,rfl,.inl (SqL.of (S13 _ _ hd)),qx,multR c (gainsP os os.length) Tb (gainsP os os.length).length 1,_,?_,⟨xs,S3 _ _ hq,rsq.ext (Ext.same S3)⟩,fun m hm=>⟨cr.gm m hm,nn m hm⟩,by omega,fun H4 S4=>⟨_,rfl,Xf ?_⟩⟩
  ·rw[List.length_map,lp,Vp]
   rfl
  have S14:=S13.trans S4
  have S24:=S3.trans S4
  refine⟨_,rfl,_,rfl,_,rfl,c_NoChance,fI,dx,"NoChance",_,.ref qx,rfl,⟨rfl,rfl⟩,S24 _ _ ex,rfl,R,O,S0.na,d,qx,c,_,_,gainsP os os.length,_,_,_,rfl,⟨ads,S14 _ _ hd,Xr hRP (Ext.same S14)⟩,⟨xs,S24 _ _ hq,rsq.ext (Ext.same S24)⟩,cr,by omega,by omega,by omega,by omega,fun dc cs H5 S5 Rd rep=>?_⟩
  have lcs:cs.length=c:=by rw[← rep.len];unfold comeE;simp
  obtain⟨yc,hyc,Rcs⟩:=Rd
  have S15:=S14.trans S5
  have S25:=S24.trans S5
  refine⟨_,rfl,(c:Int),rfl,(by omega),(by omega),?_⟩
  have ec:(c:Int).toNat=c:=by omega
  rw[ec]
  refine V1 (lo:=0) (n:=c) (fun i σ H'=>Same H5 H'/\∃ (x1:Option V),σ=[some (.int (c:Int)),some (.ref l),some (.ref te),some (.ref g),some (.ref d),some (.ref ae),some (.ref dc),x1]) ⟨Same.refl _,none,rfl⟩ ?_ ?_
  ·rintro i σ H6 hi ⟨S6,x1,rfl⟩
   have e0:(0+(i:Int))=((i:Nat):Int):=by omega
   rw[e0]
   have hic:i<cs.length:=by omega
   have eci:cs[i]?=some cs[i]:=by simp[hic]
   obtain⟨yv,ey,iy⟩:=Rcs.at eci
   obtain⟨ay,rfl,sqy⟩:=iy.ext (Ext.same S6)
   have sh:=nt.shows rep hi eci
   have gy:=rep.good cs[i] (List.getElem_mem hic)
   have hyc6:=Zo S6 hyc
   have y0:0<=cs[i].1:=by
    have p2:=gy.pos
    refine Int.le_trans ?_ sh
    refine Int.mul_nonneg (Int.le_of_lt p2) ?_
    cases inE (some q) i <;> decide
   refine⟨_,rfl,_,rfl,dc,_,_,_,rfl,rfl,hyc6,Zd ey,ay,_,_,rfl,rfl,sqy,_,_,rfl,rfl,_,rfl,?_⟩
   rw[decide_eq_false (show ¬ cs[i].1<0 by omega)]
   refine Xf ?_
   refine⟨_,rfl,_,rfl,te,_,rfl,.inr (Zo (S15.trans S6) hte),rfl,Wb _,_,rfl,?_⟩
   have iv:inV (.int (i:Int)) ((evI c q).map V.int)=q i:=by
    rw[V0,Bool.eq_iff_iff,decide_eq_true_eq,mem_evI]
    simp[hi]
   show if inV (.int (i:Int)) ((evI c q).map V.int)=true then _ else _
   rw[iv]
   cases qi:q i with
   | false=>exact Xf ⟨S6,_,rfl⟩
   | true =>
    refine Rx ?_
    have hin:inE (some q) i=true:=qi
    rw[if_pos hin,Int.mul_one] at sh
    refine⟨_,rfl,_,rfl,dc,_,_,_,rfl,rfl,hyc6,Zd ey,sz2,fun p hp=>?_⟩
    have S7:Same H6 (upd H6 p (.tup [.int 1,.int 1])):=Same.new hp
    refine⟨ay,p,cs[i],(1,1),4000,rfl,Zo S7 sqy,SqT.of Z7,gy.mono (by omega),⟨W3 1 (by decide) (by decide),W3 1 (by decide) (by decide),by decide,by decide⟩,by decide,?_⟩
    rw[decide_eq_false (show ¬ cs[i].1*1<1*cs[i].2 by omega)]
    exact⟨_,rfl,Xf ⟨S6.trans S7,_,rfl⟩⟩
  ·rintro σ H6 ⟨S6,x1,rfl⟩
   have S26:=S25.trans S6
   have S16:=S15.trans S6
   have hq6:=S26 _ _ hq
   have lxs:=rsq.len
   rw[Vp] at lxs
   refine⟨_,rfl,c_NoChance,fI,dx,"NoChance",_,.ref qx,rfl,⟨rfl,rfl⟩,S26 _ _ ex,rfl,R,O,S0.na,.inl ⟨rfl,_,SqL.of hq6⟩,sz2,fun p hp=>?_⟩
   have S7:Same H6 (upd H6 p (.tup [.int 7,.int 1])):=Same.new hp
   refine⟨qx,xs,_,rfl,rfl,S7 _ _ hq6,Xd (by omega),k _ fun b' o' eb=>?_⟩
   have eb1:=S1 _ _ eb
   rw[Zb (Z8 eb1 fq)]
   exact S7 _ _ (S16 _ _ eb1)
end
theorem G0 {C:Addr}{tb:(L2.St->XK)->TS}{ts t2:TS}{Ds:Ends}{σ:L2.St}{H:Hp}(R:XK)(h1:∀ EX:L2.St->XK,(∀ cls dd H',R cls dd H'->EX σ cls dd H')->tb EX { Ds with nx:=t2 Ds } σ H)(h2:∀ cls dd H',R cls dd H'->cls=.ref C/\ts { Ds with nx:=t2 Ds } σ H'):tSeq (tTryD C tb ts) t2 Ds σ H:=h1 _ h2
theorem at8b (z:Int):∃ c:Nat,atI [V.int 2,.int 3,.int 4,.int 3,.int 2,.int 3,.int 4,.int 5] (z % 8)=some (.int c)/\2<=c/\c<=5:=by
 have h:z % 8=0 \/ z % 8=1 \/ z % 8=2 \/ z % 8=3 \/ z % 8=4 \/ z % 8=5 \/ z % 8=6 \/ z % 8=7:=by omega
 rcases h with e | e | e | e | e | e | e | e <;> rw[e]
 ·exact⟨2,Zd (j:=0) rfl,by decide,by decide⟩
 ·exact⟨3,Zd (j:=1) rfl,by decide,by decide⟩
 ·exact⟨4,Zd (j:=2) rfl,by decide,by decide⟩
 ·exact⟨3,Zd (j:=3) rfl,by decide,by decide⟩
 ·exact⟨2,Zd (j:=4) rfl,by decide,by decide⟩
 ·exact⟨3,Zd (j:=5) rfl,by decide,by decide⟩
 ·exact⟨4,Zd (j:=6) rfl,by decide,by decide⟩
 ·exact⟨5,Zd (j:=7) rfl,by decide,by decide⟩
theorem Qg {K:W.Frag}{H:Hp}{a b:Addr}{r:Rat}(h1:SqT K H a [.int r.1,.int r.2])(h2:SqT K H b [.int r.1,.int r.2]):EqU K H 1 (.ref a) (.ref b):=.inr ⟨a,b,_,_,rfl,rfl,.inr ⟨h1,h2⟩,.cons ⟨rfl,rfl⟩ (.cons ⟨rfl,rfl⟩ .nil)⟩
theorem Lk {K:W.Frag}{H:Hp}{a b a' b':Addr}{r s:Rat}(h1:SqT K H a [.int r.1,.int r.2])(h2:SqT K H a' [.int r.1,.int r.2])(h3:SqT K H b [.int s.1,.int s.2])(h4:SqT K H b' [.int s.1,.int s.2]):Paired (EqU K H 1) [.ref a,.ref b] [.ref a',.ref b']:=.cons (Qg h1 h2) (.cons (Qg h3 h4) .nil)
section
variable {P:Program}{w:World}{K:W.Frag}{mg:Str->Option Value}{base:Heap}{C:Addr}
def spLaw (K:W.Frag):Sp:=fun vs H Q _=>∃ (a:Addr) (ns:List Int),vs=[.ref a]/\SqL K H a (ns.map V.int)/\∀ H',Q (.bl true) H'
theorem Z1x:FnScope ["_law_script","_law_count","_law_weights_here","_law_offers","_law_event_here","_law_extra","_law_book","_law_row_here","_law_one","_law_others","_law_found","_law_middle"] ["_law_script"] (defScope mG):=fsc
set_option maxHeartbeats 3200000 in
theorem Z3i {f:Addr}{fd:FuncData}(F:Fun K "law" "law" mG f fd)(T:Blt mg)(k_NoChance:CatchBy K C C)(m_NoChance:mg "NoChance"=some (.ref C))(fU:Has P w K mg base 1 "_law_cell" ["_law_script","_law_k"] (hV K))(eO:Has P w K mg base 2 "_law_bag" ["_law_script","_law_at"] (gJ K))(gO:Has P w K mg base 7 "_law_fair_book" ["_law_script","_law_count"] (iP K))(g0:Has P w K mg base 3 "_law_chances" ["_law_script","_law_weights_here"] (gC K))(gN:Has P w K mg base 4 "_law_row" ["_law_bag_here","_law_count"] (hG K))(gX:Has P w K mg base 10 "_law_refused" ["_law_count","_law_offers","_law_event_here","_law_row_here"] (f7 K) true)
  (jH:Has P w K mg base 8 "shares" ["count","offers","event"] (fZ K)) (iE:Has P w K mg base 8 "called_off" ["count","offers","event","row"] (gD K)) (fT:HasD P w K mg base 9 "learned" ["count","offers","event","row"] (eX K C)) (fF:Has P w K mg base 4 "_law_mean" ["_law_weights_here","_law_row_here"] (gG K)) (eT:Has P w K mg base 1 "_law_under" ["_law_one","_law_other"] (fQ K)):FnOk P w K mg base CX0 11 f fd ["_law_script"] (spLaw K) true:=by
 refine F.ok Z1x (fun vs H Q E h=>?_) (fun cdv A outer s H vs Q E hr h=>?_)
 ·obtain⟨a,ns,rfl,_⟩:=h
  rfl
 ·obtain⟨a,ns,rfl,hS,k⟩:=h
  have hU:=Nat.lt_of_succ_lt (Bi hr)
  have hU64:=hr.units
  have sc:=Z1x
  have nd1:(["_law_k","_law_event_here"]:List Str).Nodup:=by decide +kernel
  refine⟨_,(Z6 (Zg (i:=1) sc.nd rfl (Or.inl rfl) (Ze Zy (Xb (Z0 Z5 (Z0 Z5 (Z0 Z5 (Z0 Z5 (Z0 Z5 (Z0 Z5 (Z0 Z5 (Z0 Z5 Z4))))))))) (Zh Wh (Zc fU hr (Z0 (pv 0) (Z0 Z5 Z4))) Z5) (fun _ _=>rfl)))
   (Z6 (Ub (Zc gO hr (Z0 (pv 0) (Z0 (pv 1) Z4))) (Wq (n:=2) rfl (Y6 (Zl (i:=2) sc.nd rfl (Or.inl rfl)) (Y6 (Zl (i:=3) sc.nd rfl (Or.inl rfl)) Xp))))
   (Z6 (Ub (Zc g0 hr (Z0 (pv 0) (Z0 (pv 2) Z4))) (Wq (n:=2) rfl (Y6 (Zl (i:=4) sc.nd rfl (Or.inr rfl)) (Y6 (Zl (i:=5) sc.nd rfl (Or.inl rfl)) Xp))))
   (Z6 (Wo (Zg (i:=6) sc.nd rfl (Or.inl rfl) (Zh Ll (Zh Ll (Uq Sk (pv 5) Sm (Sl Z5)) (pv 3)) (Uq Sk (pv 5) (Sl Z5) Sm))))
   (Z6 (Zg (i:=7) sc.nd rfl (Or.inl rfl) (Zc gN hr (Z0 (Zc eO hr (Z0 (pv 0) (Z0 Z5 Z4))) (Z0 (pv 1) Z4))))
   (Z6 (Xk PassesOwn.never rfl (Xo (Xb (Z0 (pv 4) (Z0 (Y8 Z4) (Z0 (pv 4) Z4))))) (Zl (i:=8) sc.nd rfl (Or.inl rfl))
    (Z6 (Yd (We (Xa (Z0c gX (hr.mono (by decide)) rfl (Z0 (pv 1) (Z0 (pv 6) (Z0 (pv 8) (Z0 (pv 7) Z4)))))))
     (Z9 (Zf Wy))
     Zt)
    (Z9 (Yd (PW.pt (Vi (Zi (C6 (K:=K) hU64) (Zc jH hr (Z0 (pv 1) (Z0 (Y4 Xi rfl T.list PyProof.Rows.boot_list (Z0 (pv 6) Z4)) (Z0 (pv 8) Z4)))) (Y8 (Z0 (Y8 (Z0 Z5 (Z0 Z5 Z4))) (Z0 (Y8 (Z0 Z5 (Z0 Z5 Z4))) Z4))) (Zp _)) (Wd (Zi (C6 (K:=K) hU64) (Zc iE hr (Z0 (pv 1) (Z0 (Y4 Xi rfl T.list PyProof.Rows.boot_list (Z0 (pv 6) Z4)) (Z0 (pv 8) (Z0 (pv 7) Z4))))) (Y8 (Z0 Xl Z4)) (Zp _)))))
     (Z9 (Zf Wy))
     Zt))))
   (Z6 (Wo (Zg (i:=9) sc.nd rfl (Or.inl rfl) (Y4 Zz rfl T.tuple PyProof.Rows.boot_tuple (Z0 (Yn (N:=["_law_k","_law_event_here"]) (k:=1) (fv:=[4]) rfl (Yi rfl T.range (Z0 (pv 1) Z4))
   (fun _ _ _ _ _=>Zl (i:=0) nd1 rfl (Or.inl rfl)) (fun _ _ _ _ _=>Up (Zi (Gj (K:=K)) (pv 0) (pv 1) rfl)) (fun _ _ _ _ _=>(pv 0)) Y2) Z4))))
   (Z6 (Z09 rfl rfl k_NoChance m_NoChance rfl (fun _ _ _ hL=>(Z9 (Zg (i:=10) sc.nd rfl (Or.inl rfl) (Sn fT (hr.mono (by decide)) rfl hL (Z0 (pv 1) (Z0 (Y4 (U7 (K:=K)) rfl T.list PyProof.Rows.boot_list (Z0 (pv 6) Z4)) (Z0 (pv 9) (Z0 (pv 7) Z4)))))))) (fun _ _ _=>(Z9 (Zf Wy))))
   (Z6 (Zg (i:=11) sc.nd rfl (Or.inl rfl) (Zc fF hr (Z0 (pv 2) (Z0 (pv 7) Z4))))
   (Z9 (Zf (Lj (Po (Zc eT hr (Z0 (pv 11) (Z0 (Ze Yg (pv 10) Z5 (fun _ _=>rfl)) Z4)))) (Pn (Po (Zc eT hr (Z0 (Ze Yg (pv 10) Z5 (fun _ _=>rfl)) (Z0 (pv 11) Z4))))))))))))))))),?_⟩
  refine⟨sz8,fun l0 hl0=>?_⟩
  have S0:Same H (upd H l0 (.lst [.int 2,.int 3,.int 4,.int 3,.int 2,.int 3,.int 4,.int 5])):=Same.new hl0
  have e0:upd H l0 (.lst [.int 2,.int 3,.int 4,.int 3,.int 2,.int 3,.int 4,.int 5]) l0=some (.lst [.int 2,.int 3,.int 4,.int 3,.int 2,.int 3,.int 4,.int 5]):=Z7
  generalize upd H l0 (.lst [.int 2,.int 3,.int 4,.int 3,.int 2,.int 3,.int 4,.int 5])=H0 at *
  replace hS:=Vh S0 hS
  refine⟨_,rfl,a,_,ns,rfl,hS,by decide,by decide,fun z=>⟨_,_,rfl,rfl,Uw (by decide),?_⟩⟩
  obtain⟨c,ec,c2,c5⟩:=at8b z
  refine⟨l0,_,_,_,rfl,rfl,SqL.of e0,ec,?_⟩
  refine⟨_,rfl,_,rfl,a,c,ns,rfl,hS,by omega,by omega,fun t aw l H1 Ws ws os S1 ht hw wt hO fb=>?_⟩
  refine⟨t,_,rfl,ht,rfl,_,_,rfl,_,_,rfl,rfl,?_⟩
  replace hS:=Vh S1 hS
  refine⟨_,rfl,_,rfl,a,aw,c,ns,ws,rfl,hS,hw,wt.len,by omega,by omega,fun t2 te le p o1 o2 H2 S2 ht2 hte hOe pz x1 x2 cov=>?_⟩
  refine⟨t2,_,rfl,ht2,rfl,_,_,rfl,_,_,rfl,rfl,?_⟩
  obtain⟨vs,hl,hP⟩:=hO
  obtain⟨ves,hle,hPe⟩:=hOe
  obtain⟨v1,v2,rfl,hv1,hv2⟩:∃ v1 v2,ves=[v1,v2]/\OffAt K H2 c o1 v1/\OffAt K H2 c o2 v2:=by
   cases hPe with
   | cons h1 t =>
    cases t with
    | cons h2 t =>
     cases t
     exact⟨_,_,rfl,h1,h2⟩
  replace hS:=Vh S2 hS
  replace hw:=hw.same S2
  replace hl:=S2 _ _ hl
  replace hP:=Y7 hP (Ext.same S2)
  clear S0 e0 hl0 ec S1 ht ht2 S2
  have few:=fb.few
  have lv:=Paired.length hP
  have sd6:(gainsP os os.length).length<=6:=by
   have:=Q1 os
   rw[Wl]
   omega
  refine⟨fun σ H'=>∃ (lb:Addr),σ=[some (.ref a),some (.int (c:Int)),some (.ref aw),some (.ref l),some (.ref te),some (.ref le),some (.ref lb),none,none,none,none,none]/\Same H2 H'/\H' lb=some (.lst (v1::(vs++[v2]))),?_,?_⟩
  ·refine⟨_,rfl,_,rfl,le,_,rfl,SqL.of hle,fun p1 hp1=>?_⟩
   rw[(Z1p _).1]
   have T1:=Same.new (o:=.lst ([v1,v2].take 1)) hp1
   have f1:upd H2 p1 (.lst ([v1,v2].take 1)) p1=some (.lst ([v1,v2].take 1)):=Z7
   generalize upd H2 p1 (.lst ([v1,v2].take 1))=G1 at *
   refine⟨_,rfl,p1,l,_,_,rfl,rfl,f1,T1 _ _ hl,?_,fun p2 hp2=>?_⟩
   ·refine Zq ?_
    show 1+vs.length<=1000
    omega
   have T2:=Same.new (o:=.lst ([v1,v2].take 1++vs)) hp2
   have f2:upd G1 p2 (.lst ([v1,v2].take 1++vs)) p2=some (.lst ([v1,v2].take 1++vs)):=Z7
   generalize upd G1 p2 (.lst ([v1,v2].take 1++vs))=G2 at *
   refine⟨_,rfl,_,rfl,?_⟩
   refine Cs ?_
   refine⟨le,_,rfl,SqL.of ((T1.trans T2) _ _ hle),fun p3 hp3=>?_⟩
   rw[(Z1p _).2]
   have T3:=Same.new (o:=.lst ([v1,v2].drop 1)) hp3
   have f3:upd G2 p3 (.lst ([v1,v2].drop 1)) p3=some (.lst ([v1,v2].drop 1)):=Z7
   generalize upd G2 p3 (.lst ([v1,v2].drop 1))=G3 at *
   refine⟨p2,p3,_,_,rfl,rfl,T3 _ _ f2,f3,?_,fun lb hlb=>?_⟩
   ·refine Zq ?_
    show (v1::vs).length+1<=1000
    rw[List.length_cons]
    omega
   exact⟨lb,rfl,((T1.trans T2).trans T3).trans (Same.new hlb),Z7⟩
  rintro σ H3 ⟨lb,rfl,S3,hlb⟩
  replace hS:=Vh S3 hS
  replace hw:=hw.same S3
  replace hte:=Zo S3 hte
  have hPB:Paired (fun v o=>OffAt K H3 c o v) (v1::(vs++[v2])) (o1::(os++[o2])):=.cons (hv1.ext (Ext.same S3)) (Paired.snoc (Y7 hP (Ext.same S3)) (hv2.ext (Ext.same S3)))
  have bu:=Bp x1 x2 fb.book sd6 (by omega) c5
  have ww:=Z1k x1 x2 (fb.wts wt) pz
  have sd:(gainsP (o1::(os++[o2])) (o1::(os++[o2])).length).length<=8:=by
   rw[U4 x1 x2]
   simp
   omega
  have nosh:∀ q:Nat->Bool,(∀ k,q k=true->p k=true)->NoSh c (gainsP (o1::(os++[o2])) (o1::(os++[o2])).length) (some q)/\NoLd c (gainsP (o1::(os++[o2])) (o1::(os++[o2])).length) (some q):=fun q hq=>Bo x1 x2 cov hq
  clear hP hl hle hv1 hv2 S3 x1 x2 cov
  generalize o1::(os++[o2])=OB at *
  generalize v1::(vs++[v2])=VB at *
  refine⟨_,rfl,a,8,ns,rfl,hS,by decide,fun b3 H4 fb3 S4 B4=>?_⟩
  refine⟨_,rfl,b3,c,_,rfl,B4,by omega,by omega,fun ag H5 rs B5 S5 R5 l5 six5=>?_⟩
  have S35:=Same.viaX fb3 S4 S5
  replace hw:=hw.same S35
  replace hte:=Zo S35 hte
  replace hlb:=S35 _ _ hlb
  replace hPB:=Y7 hPB (Ext.same S35)
  clear S4 S5 S35 B4 B5 fb3 hS
  have r6:=RepL.six six5
  have ra:∃ D Ws,RepL 91 D Ws rs:=⟨_,_,r6.mono (by decide)⟩
  have rr:RowR c rs:=RowR.of l5 ra
  have lws:=wt.len
  have n1:=bu.n1
  have bo:bitsOf 91 c (gainsP OB OB.length).length<=481:=by
   unfold bitsOf
   have:=Nat.mul_le_mul_left (91+5) (show min c ((gainsP OB OB.length).length+2)<=5 by omega)
   omega
  refine⟨_,rfl,sz0,fun t0 ht0=>?_⟩
  have S6:Same H5 (upd H5 t0 (.tup [])):=Same.new ht0
  have e6:upd H5 t0 (.tup []) t0=some (.tup []):=Z7
  generalize upd H5 t0 (.tup [])=H6 at *
  refine⟨_,rfl,sz3,fun lo hlo=>?_⟩
  have S7:Same H6 (upd H6 lo (.lst [.ref te,.ref t0,.ref te])):=Same.new hlo
  have e7:upd H6 lo (.lst [.ref te,.ref t0,.ref te]) lo=some (.lst [.ref te,.ref t0,.ref te]):=Z7
  generalize upd H6 lo (.lst [.ref te,.ref t0,.ref te])=H7 at *
  have S57:=S6.trans S7
  replace hw:=hw.same S57
  replace hte:=Zo S57 hte
  replace hlb:=S57 _ _ hlb
  replace hPB:=Y7 hPB (Ext.same S57)
  replace R5:=R5.same S57
  have h07:SqT K H7 t0 []:=SqT.of (S7 _ _ e6)
  refine⟨lo,rfl,⟨_,SqL.of e7⟩,Vu (K:=K) (a:=lo) (xs:=[.ref te,.ref t0,.ref te]) (fun i σ H'=>Same H7 H'/\∃ (x1:Option V),σ=[some (.ref a),some (.int (c:Int)),some (.ref aw),some (.ref l),some (.ref te),some (.ref le),some (.ref lb),some (.ref ag),x1,none,none,none]) ⟨Same.refl _,none,rfl⟩ (fun i σ H' _ h=>SqL.of (h.1 _ _ e7)) ?_ ?_⟩
  ·rintro i v σ H8 hiv ⟨S8,x3,rfl⟩
   obtain⟨tt,q,rfl,htt,hq⟩:∃ (tt:Addr) (q:Nat->Bool),v=.ref tt/\SqT K H7 tt ((evI c q).map V.int)/\∀ k,q k=true->p k=true:=by
    have hi3:i<3:=(List.getElem?_eq_some_iff.mp hiv).1
    have:i=0 \/ i=1 \/ i=2:=by omega
    rcases this with rfl | rfl | rfl
    ·simp at hiv
     exact⟨te,p,hiv.symm,hte,fun _ h=>h⟩
    ·simp at hiv
     refine⟨t0,fun _=>false,hiv.symm,?_,fun _ h=>by cases h⟩
     have:(evI c fun _=>false)=[]:=by unfold evI;simp
     rw[this]
     exact h07
    ·simp at hiv
     exact⟨te,p,hiv.symm,hte,fun _ h=>h⟩
   obtain⟨ns',nl'⟩:=nosh q hq
   refine⟨_,rfl,_,rfl,_,rfl,_,rfl,lb,ag,tt,c,OB,q,rs,6,_,rfl,⟨VB,S8 _ _ hlb,Y7 hPB (Ext.same S8)⟩,bu,sd,Zo S8 htt,R5.same S8,l5,r6,⟨ws,ww⟩,nl',c2,c5,fun H9 S9=>⟨_,rfl,Xf ?_⟩⟩
   have S79:=S8.trans S9
   refine⟨_,rfl,_,rfl,lb,_,rfl,.inl (SqL.of (S79 _ _ hlb)),fun lc hlc=>?_⟩
   have T1:=Same.new (o:=.lst VB) hlc
   have f1:upd H9 lc (.lst VB) lc=some (.lst VB):=Z7
   generalize upd H9 lc (.lst VB)=G1 at *
   have S7G:=S79.trans T1
   refine⟨_,rfl,lc,.ref tt,c,OB,some q,rfl,⟨VB,f1,Y7 hPB (Ext.same S7G)⟩,bu,sd,⟨tt,rfl,Zo S7G htt⟩,⟨ws,ww⟩,c2,by omega,fun tS al ah u v H10 S10 htS hal hah gu gv lvv mvv=>?_⟩
   obtain rfl:=ns'.least lvv
   obtain rfl:=ns'.most mvv
   have S710:=S7G.trans S10
   refine⟨sz2,fun pA hA=>?_⟩
   have SA:Same H10 (upd H10 pA (.tup [.int 0,.int 1])):=Same.new hA
   have eA:upd H10 pA (.tup [.int 0,.int 1]) pA=some (.tup [.int 0,.int 1]):=Z7
   generalize upd H10 pA (.tup [.int 0,.int 1])=HA at *
   refine⟨sz2,fun pB hB=>?_⟩
   have SB:Same HA (upd HA pB (.tup [.int 0,.int 1])):=Same.new hB
   have eB:upd HA pB (.tup [.int 0,.int 1]) pB=some (.tup [.int 0,.int 1]):=Z7
   generalize upd HA pB (.tup [.int 0,.int 1])=HB at *
   refine⟨sz2,fun pC hC=>?_⟩
   have SC:Same HB (upd HB pC (.tup [.ref pA,.ref pB])):=Same.new hC
   have eC:upd HB pC (.tup [.ref pA,.ref pB]) pC=some (.tup [.ref pA,.ref pB]):=Z7
   generalize upd HB pC (.tup [.ref pA,.ref pB])=HC at *
   have SBC:=SB.trans SC
   have SAC:=SA.trans SBC
   refine⟨1,tS,pC,_,_,rfl,rfl,by decide,.inr ⟨Zo SAC htS,SqT.of eC⟩,Lk (r:=(0,1)) (s:=(0,1)) (Zo SAC hal) (SqT.of (SBC _ _ eA)) (Zo SAC hah) (SqT.of (SC _ _ eB)),_,rfl,Xf ?_⟩
   have S7C:=S710.trans SAC
   refine⟨_,rfl,_,rfl,lb,_,rfl,.inl (SqL.of (S7C _ _ hlb)),fun lc2 hlc2=>?_⟩
   have T2:=Same.new (o:=.lst VB) hlc2
   have f2:upd HC lc2 (.lst VB) lc2=some (.lst VB):=Z7
   generalize upd HC lc2 (.lst VB)=G2 at *
   have S7D:=S7C.trans T2
   refine⟨_,rfl,_,rfl,lc2,ag,.ref tt,c,OB,some q,rfl,⟨VB,f2,Y7 hPB (Ext.same S7D)⟩,bu,⟨tt,rfl,Zo S7D htt⟩,⟨ws,ww⟩,ns',c2,c5,fun tC H11 S11 hTC=>?_⟩
   refine⟨sz1,fun pD hD=>?_⟩
   have SD:Same H11 (upd H11 pD (.tup [.str "any"])):=Same.new hD
   refine⟨0,tC,pD,_,_,rfl,rfl,by decide,.inr ⟨Zo SD hTC,SqT.of Z7⟩,.cons (EqU.flat rfl) .nil,_,rfl,Xf ?_⟩
   exact⟨(S7D.trans S11).trans SD,_,rfl⟩
  rintro σ H8 ⟨S8,x3,rfl⟩
  replace hw:=hw.same S8
  replace hte:=Zo S8 hte
  replace hlb:=S8 _ _ hlb
  replace hPB:=Y7 hPB (Ext.same S8)
  replace R5:=R5.same S8
  clear S8 h07 e7 S57 S7 S6 hlo ht0 e6
  refine⟨fun σ H'=>∃ (to_:Addr),σ=[some (.ref a),some (.int (c:Int)),some (.ref aw),some (.ref l),some (.ref te),some (.ref le),some (.ref lb),some (.ref ag),x3,some (.ref to_),none,none]/\Same H8 H'/\SqT K H' to_ ((evI c fun k=>!p k).map V.int),?_,?_⟩
  ·refine⟨_,rfl,(c:Int),rfl,(by omega),(by omega),fun d hd=>?_⟩
   have et:(c:Int).toNat=c:=by omega
   rw[et]
   refine⟨c,fun i ys H'=>Same H8 H'/\ys=(evI i fun k=>!p k).map V.int,Zq (by omega),⟨Same.new hd,rfl⟩,?_,?_⟩
   ·rintro i ys H9 hi ⟨S9,rfl⟩ hd9
    refine⟨hi,?_⟩
    rintro x H10 ⟨rfl,rfl⟩
    have e0:(0+(i:Int))=((i:Nat):Int):=by omega
    rw[e0]
    refine Uv ?_
    have iv:inV (.int (i:Int)) ((evI c p).map V.int)=p i:=by
     rw[V0,Bool.eq_iff_iff,decide_eq_true_eq,mem_evI]
     simp[hi]
    refine⟨_,rfl,_,rfl,te,_,rfl,.inr (Zo S9 hte),rfl,Wb _,_,rfl,?_⟩
    show if (!inV (.int (i:Int)) ((evI c p).map V.int))=true then _ else _
    rw[iv]
    cases pi:p i with
    | false =>
     refine Rx ?_
     refine⟨_,rfl,hd9,fun q o e=>?_,?_⟩
     ·rw[Zb (Z8 e hd)]
      exact S9 _ _ e
     ·rw[V5,if_pos (by rw[pi];rfl),List.map_append]
      rfl
    | true =>
     refine Xf ?_
     refine⟨hd9,S9,?_⟩
     rw[V5,if_neg (by rw[pi];decide),List.append_nil]
   ·rintro ys H9 ⟨S9,rfl⟩ hd9
    refine⟨Nat.le_refl _,d,_,rfl,.inl ⟨SqL.of hd9,fun lt hlt=>?_⟩⟩
    exact⟨lt,rfl,S9.trans (Same.new hlt),SqT.of Z7⟩
  rintro σ H9 ⟨to_,rfl,S9,hto⟩
  replace hw:=hw.same S9
  replace hlb:=S9 _ _ hlb
  replace hPB:=Y7 hPB (Ext.same S9)
  replace R5:=R5.same S9
  clear S9 hte
  have out0:∀ (k:Nat) (y:Rat),k<c->inE (some fun k=>!p k) k=false->ws[k]?=some y->y.1=0:=fun k y hk h ey=>by
   refine pz k y ey ?_
   have h:(!p k)=false:=h
   cases q:p k with
   | true=>rfl
   | false=>rw[q] at h;cases h
  have sh1:shR c (some fun k=>!p k) ws=(1,1):=by
   have e:=Lu (o:=some fun k=>!p k) ww (Ur c none) out0
   have l:=ww.lie
   unfold papR at l e
   rw[Pb] at l e
   exact e.trans l
  have mc:mn ws (cutR (some fun k=>!p k) rs)=mn ws rs:=Lu ww rr out0
  dsimp only
  refine G0 (fun cls dd H'=>∃ T gs,NoneT c (gainsP OB OB.length) (some fun k=>!p k) gs T) (fun EX hEX=>?_) ?_
  case refine_2 =>
   rintro cls dd H' ⟨T',gs,nt⟩
   obtain⟨N',D',Ls',rL'⟩:=ww.rep
   exact (nt.noloads bu.rep (as:=rs) ⟨ww.len,⟨D',Ls',rL'⟩,ww.nn,ww.fit,sh1,rfl⟩ fun _ h=>h).elim
  refine⟨_,rfl,_,rfl,lb,_,rfl,.inl (SqL.of hlb),fun lc hlc=>?_⟩
  have T1:=Same.new (o:=.lst VB) hlc
  have f1:upd H9 lc (.lst VB) lc=some (.lst VB):=Z7
  generalize upd H9 lc (.lst VB)=G1 at *
  refine⟨_,rfl,_,rfl,lc,ag,.ref to_,c,OB,some fun k=>!p k,rs,_,_,rfl,⟨VB,f1,Y7 hPB (Ext.same T1)⟩,bu,⟨to_,rfl,Zo T1 hto⟩,R5.same T1,l5,r6,by omega,⟨ws,ww⟩,c2,by omega,fun t au av Ta Tb H10 S10 ht su sv ma mb gu gv=>?_,fun d3 q3 xs3 T3 gs3 H' S' fq nt rg e1 e2 r3=>hEX _ _ _ ⟨T3,gs3,nt⟩⟩
  have S910:=T1.trans S10
  obtain⟨xw,hxw,hws⟩:=hw.same S910
  obtain⟨zr,hzr,hrr⟩:=R5.same S910
  refine⟨_,rfl,_,rfl,aw,ag,xw,zr,ws,rs,10,24,_,_,_,_,rfl,.inr hxw,hws,.inr hzr,hrr,by omega,by omega,wt.rep,r6,by decide,fun cm H11 S11 e11=>?_⟩
  replace e11:SqT K H11 cm [.int (mn ws rs).1,.int (mn ws rs).2]:=e11
  have gm:Good 44 (mn ws rs):=(wt.rep.mul r6 (by omega)).sumGood (k:=10) (by rw[List.length_zipWith];omega)
  have hi:=ma.over bu.rep l5 r6 gv.low ww sh1 mc
  have rrN:RowR c (tn rs):=⟨by unfold tn;rw[List.length_map];exact l5,_,_,_,Va r6⟩
  have mN:=Lr ww rr rrN (IsNeg.map rr)
  have lo0:=mb.over bu.rep rrN.1 (Va r6) gu.low ww sh1 (Lu ww rrN out0)
  rw[mN] at lo0
  have lo1:=negR.le lo0
  rw[negR.neg] at lo1
  have gu':Good 1540 (negR (valueR c (gainsP OB OB.length).length (cutR (some fun k=>!p k) (tn rs)) Tb)):=⟨gu.b1.neg,gu.b2,gu.pos,(negR.low gu.low).cop⟩
  generalize negR (valueR c (gainsP OB OB.length).length (cutR (some fun k=>!p k) (tn rs)) Tb)=u at *
  generalize valueR c (gainsP OB OB.length).length (cutR (some fun k=>!p k) rs) Ta=v at *
  unfold leR at hi lo1
  generalize mn ws rs=M at *
  refine⟨_,rfl,_,rfl,t,_,_,_,rfl,rfl,Zo S11 ht,Zd (j:=0) rfl,cm,au,M,u,1540,rfl,e11,Zo S11 su,gm.mono (by decide),gu',by decide,?_⟩
  have lo2:¬ M.1*u.2<u.1*M.2:=by omega
  have hi2:¬ v.1*M.2<M.1*v.2:=by omega
  rw[decide_eq_false lo2]
  refine⟨_,rfl,_,rfl,Rx ?_⟩
  refine⟨_,rfl,t,_,_,_,rfl,rfl,Zo S11 ht,Zd (j:=1) rfl,_,rfl,av,cm,v,M,1540,rfl,Zo S11 sv,e11,gv,gm.mono (by decide),by decide,?_⟩
  rw[decide_eq_false hi2]
  exact⟨_,rfl,k _⟩
end
end Sb
theorem Sb.len1 {us:List PySem.Value}(h:us.length=1):∃ a0,us=[a0]:=by
 match us,h with
 | [a0],_=>exact⟨a0,rfl⟩
theorem Sb.len2 {us:List PySem.Value}(h:us.length=2):∃ a0 a1,us=[a0,a1]:=by
 match us,h with
 | [a0,a1],_=>exact⟨a0,a1,rfl⟩
theorem Sb.len3 {us:List PySem.Value}(h:us.length=3):∃ a0 a1 a2,us=[a0,a1,a2]:=by
 match us,h with
 | [a0,a1,a2],_=>exact⟨a0,a1,a2,rfl⟩
theorem Sb.len4 {us:List PySem.Value}(h:us.length=4):∃ a0 a1 a2 a3,us=[a0,a1,a2,a3]:=by
 match us,h with
 | [a0,a1,a2,a3],_=>exact⟨a0,a1,a2,a3,rfl⟩
theorem Sb.len5 {us:List PySem.Value}(h:us.length=5):∃ a0 a1 a2 a3 a4,us=[a0,a1,a2,a3,a4]:=by
 match us,h with
 | [a0,a1,a2,a3,a4],_=>exact⟨a0,a1,a2,a3,a4,rfl⟩
theorem Sb.len6 {us:List PySem.Value}(h:us.length=6):∃ a0 a1 a2 a3 a4 a5,us=[a0,a1,a2,a3,a4,a5]:=by
 match us,h with
 | [a0,a1,a2,a3,a4,a5],_=>exact⟨a0,a1,a2,a3,a4,a5,rfl⟩
namespace PySem.W.Fast
theorem tw2554657952318668682:True:=⟨⟩
theorem te3097931182683100243:True:=⟨⟩
theorem tw3097931182683100243:True:=⟨⟩
theorem tw5549664291494914840:True:=⟨⟩
theorem tw12805206019313458181:True:=⟨⟩
theorem tw9685583010319892910:True:=⟨⟩
theorem tw18268395293192949011:True:=⟨⟩
theorem tw13409444313037105030:True:=⟨⟩
theorem tw15534952857878715846:True:=⟨⟩
theorem tw1759593608682127503:True:=⟨⟩
theorem tw16929307399515345632:True:=⟨⟩
theorem tw8307276347337147186:True:=⟨⟩
theorem tw6969971907305111982:True:=⟨⟩
theorem tw13747503165839492380:True:=⟨⟩
theorem tw17845404569427028620:True:=⟨⟩
theorem tw1765637615365372515:True:=⟨⟩
theorem tw12826651948244577325:True:=⟨⟩
theorem tw17624352047675604599:True:=⟨⟩
theorem tw15307415314406002747:True:=⟨⟩
theorem tw17082163174316469501:True:=⟨⟩
theorem tw1315793373730761723:True:=⟨⟩
theorem tw5383401178849302124:True:=⟨⟩
theorem tw10460972604783230616:True:=⟨⟩
theorem tw4613551249545433442:True:=⟨⟩
theorem tw11076691321629302248:True:=⟨⟩
theorem tw6438426550902721852:True:=⟨⟩
theorem tw13302641358196902869:True:=⟨⟩
theorem tw2208494285583332034:True:=⟨⟩
theorem tw10400982054612818360:True:=⟨⟩
theorem tw119998489847330048:True:=⟨⟩
theorem tw12214396943550628908:True:=⟨⟩
theorem tw12288573030414629090:True:=⟨⟩
theorem tw12504030611234350662:True:=⟨⟩
theorem tw17671942738677571102:True:=⟨⟩
theorem tw4966482993966642090:True:=⟨⟩
theorem tw15847788731837639396:True:=⟨⟩
theorem tw13707558231976685515:True:=⟨⟩
theorem tw9813816582634013177:True:=⟨⟩
theorem tw10261282376721495167:True:=⟨⟩
theorem tw8254498834153155385:True:=⟨⟩
theorem tw5534614518666232855:True:=⟨⟩
theorem tw16408201745511241603:True:=⟨⟩
theorem tw4008623845739210769:True:=⟨⟩
theorem tw714452994703653901:True:=⟨⟩
theorem tw13311988629637150491:True:=⟨⟩
theorem tw1387023036771279899:True:=⟨⟩
theorem tw2278158360893753619:True:=⟨⟩
theorem tw7463997797561618169:True:=⟨⟩
theorem tw9144332383851092886:True:=⟨⟩
theorem tw7272421865572255199:True:=⟨⟩
theorem tw12784789903133249177:True:=⟨⟩
theorem tw16518927965946736445:True:=⟨⟩
theorem tw14433418857195012942:True:=⟨⟩
theorem tw9679814270561368082:True:=⟨⟩
theorem tw819634899039072663:True:=⟨⟩
theorem tw13768680696366889891:True:=⟨⟩
theorem tw857586139194648293:True:=⟨⟩
theorem tw4583222034903135420:True:=⟨⟩
theorem tw4718330964246674009:True:=⟨⟩
theorem tw7692676126729482332:True:=⟨⟩
theorem tw11134515969163709139:True:=⟨⟩
theorem tw6567128751449427668:True:=⟨⟩
theorem tw10964787589571690087:True:=⟨⟩
theorem tw16353893988391552107:True:=⟨⟩
theorem tw17190235651896637357:True:=⟨⟩
theorem tw11222787039005807950:True:=⟨⟩
theorem tw13088541429230499791:True:=⟨⟩
theorem tw9415794501804615923:True:=⟨⟩
theorem tw607553841346757734:True:=⟨⟩
theorem tw4268127796772961991:True:=⟨⟩
theorem tw8528730854782267431:True:=⟨⟩
theorem tw8479955923020910704:True:=⟨⟩
theorem tw3969617394639247670:True:=⟨⟩
theorem tw18330926181734061712:True:=⟨⟩
theorem tw8423565730681961036:True:=⟨⟩
theorem tw10005839082253697912:True:=⟨⟩
theorem tw5338514651825381045:True:=⟨⟩
theorem tw14080558883613102944:True:=⟨⟩
theorem tw6004991641853894097:True:=⟨⟩
theorem tw16118462069005626430:True:=⟨⟩
theorem tw12969738017573658088:True:=⟨⟩
theorem tw14672924006833529398:True:=⟨⟩
theorem tw5983669768885230068:True:=⟨⟩
theorem tw7650355407199200963:True:=⟨⟩
theorem tw5340517869737659803:True:=⟨⟩
theorem tw18343875745879379554:True:=⟨⟩
theorem tw7307824839929583666:True:=⟨⟩
theorem tw1928971996849990066:True:=⟨⟩
theorem tw11388930490881500906:True:=⟨⟩
theorem tw7452877785138256273:True:=⟨⟩
theorem tw3781555730876625312:True:=⟨⟩
theorem tw1636930158796213308:True:=⟨⟩
theorem tw15272766587962750771:True:=⟨⟩
theorem tw12793268978422619407:True:=⟨⟩
theorem tw3401140241590695508:True:=⟨⟩
theorem tw1353610445262573236:True:=⟨⟩
theorem tw15314345648405331242:True:=⟨⟩
theorem tw16377797552761721984:True:=⟨⟩
theorem tw596408258770925503:True:=⟨⟩
theorem tw12241742611192527800:True:=⟨⟩
theorem tw13502701193232853497:True:=⟨⟩
theorem tw8148462637872376215:True:=⟨⟩
theorem tw5600065438700827845:True:=⟨⟩
theorem tw6061409369025080118:True:=⟨⟩
theorem tw13126927296367598653:True:=⟨⟩
theorem tw10352870289691820984:True:=⟨⟩
theorem tw5860510523869165505:True:=⟨⟩
theorem tw12708020113263176134:True:=⟨⟩
theorem tw15444398990367662660:True:=⟨⟩
theorem tw273058295112580169:True:=⟨⟩
theorem tw15599101605206344266:True:=⟨⟩
theorem tw115760396320153161:True:=⟨⟩
theorem tw14430860124267207026:True:=⟨⟩
theorem tw1022391650518676599:True:=⟨⟩
theorem tw9679979851481864391:True:=⟨⟩
theorem tw9802664271211636560:True:=⟨⟩
theorem tw9319628090598977393:True:=⟨⟩
theorem tw9968497201893274096:True:=⟨⟩
theorem tw11246827744429052422:True:=⟨⟩
theorem tw16300688204275255631:True:=⟨⟩
theorem tw12125601668747576250:True:=⟨⟩
theorem tw9957356857609181336:True:=⟨⟩
theorem tw11998900528793683374:True:=⟨⟩
theorem tw8314164872555728412:True:=⟨⟩
theorem tw14859342175014788461:True:=⟨⟩
theorem tw18429377338615598288:True:=⟨⟩
theorem tw8109020192410815795:True:=⟨⟩
theorem tw9046421674370862703:True:=⟨⟩
theorem tw2323145761469639773:True:=⟨⟩
theorem tw18213033975845552411:True:=⟨⟩
theorem tw6644926471655436935:True:=⟨⟩
theorem tw2406288897667423025:True:=⟨⟩
theorem tw6014640008303253904:True:=⟨⟩
theorem tw16763537906965328979:True:=⟨⟩
theorem tw18054545365773166532:True:=⟨⟩
theorem tw2607574903793976015:True:=⟨⟩
theorem tw12987397089924856464:True:=⟨⟩
theorem tw9850158376717125333:True:=⟨⟩
theorem tw8438634956213304406:True:=⟨⟩
theorem tw9332303630568663499:True:=⟨⟩
theorem tw17695454192423962831:True:=⟨⟩
theorem tw13244493085714020772:True:=⟨⟩
theorem tw8695792880270179620:True:=⟨⟩
theorem tw11898216984157923814:True:=⟨⟩
theorem tw9871430118306428611:True:=⟨⟩
theorem tw1712794492806365076:True:=⟨⟩
theorem tw1956597267739256283:True:=⟨⟩
theorem tw11998414690879329765:True:=⟨⟩
theorem tw13715635373441651496:True:=⟨⟩
theorem tw9770099942052884447:True:=⟨⟩
theorem tw13559750922595621549:True:=⟨⟩
theorem tw10151957743246035349:True:=⟨⟩
theorem tw1947405994392838899:True:=⟨⟩
theorem tw8875127240418786655:True:=⟨⟩
theorem tw18225980008732186701:True:=⟨⟩
theorem tw2409767920807276249:True:=⟨⟩
theorem tw4664597965119230659:True:=⟨⟩
theorem tw13786345352571539008:True:=⟨⟩
theorem tw8036699797678192744:True:=⟨⟩
theorem tw13230421478141436676:True:=⟨⟩
theorem tw12023155720839683674:True:=⟨⟩
theorem tw3516481852445407056:True:=⟨⟩
theorem tw15383721599874351689:True:=⟨⟩
theorem tw1763889667165039433:True:=⟨⟩
theorem tw11390800334754486604:True:=⟨⟩
theorem tw6797723447791229432:True:=⟨⟩
theorem tw7487166642221677383:True:=⟨⟩
theorem tw13904769364243558299:True:=⟨⟩
theorem tw643294505828931810:True:=⟨⟩
theorem tw16480496739867765711:True:=⟨⟩
theorem tw16434746510066048390:True:=⟨⟩
theorem tw13968826217758318785:True:=⟨⟩
theorem tw3728639265019295108:True:=⟨⟩
theorem tw1962196576118208031:True:=⟨⟩
theorem tw15441255786814733524:True:=⟨⟩
theorem tw5980036999224276089:True:=⟨⟩
theorem tw17141727019295129386:True:=⟨⟩
theorem tw391164739626750362:True:=⟨⟩
theorem tw15522241367591163705:True:=⟨⟩
theorem tw899463460774747965:True:=⟨⟩
theorem tw8992888687888608730:True:=⟨⟩
theorem tw8591799434096329966:True:=⟨⟩
theorem tw11443375966512439262:True:=⟨⟩
theorem tw9448020960384189719:True:=⟨⟩
theorem tw11411078161410578723:True:=⟨⟩
theorem tw5900864897525513265:True:=⟨⟩
theorem tw1458076419665072955:True:=⟨⟩
theorem tw13601285607663359045:True:=⟨⟩
theorem tw3871410207400069640:True:=⟨⟩
theorem tw7202156857096945360:True:=⟨⟩
theorem tw5853814821231190815:True:=⟨⟩
theorem tw16563713844226838009:True:=⟨⟩
theorem tw3064730968369381286:True:=⟨⟩
theorem tw12865457251630484351:True:=⟨⟩
theorem tw8276943982384178550:True:=⟨⟩
theorem tw4498301948098137060:True:=⟨⟩
theorem tw10748584200806440478:True:=⟨⟩
theorem tw17170372975803458310:True:=⟨⟩
theorem tw5986216904922573965:True:=⟨⟩
theorem tw17924404814595861273:True:=⟨⟩
theorem tw15890442601279300026:True:=⟨⟩
theorem tw6538635950911431971:True:=⟨⟩
theorem tw10068535000340059728:True:=⟨⟩
theorem tw14291512434690620246:True:=⟨⟩
theorem tw13871953202132828096:True:=⟨⟩
theorem tw9646818626038507232:True:=⟨⟩
theorem tw8607169983369916779:True:=⟨⟩
theorem tw7058146178733870187:True:=⟨⟩
theorem tw10508649427585675576:True:=⟨⟩
theorem tw987774377921667673:True:=⟨⟩
theorem tw3247030986192153575:True:=⟨⟩
theorem tw3501381780846673612:True:=⟨⟩
theorem tw4453988525643269154:True:=⟨⟩
theorem tw16667262142358870202:True:=⟨⟩
theorem tw11304584387685807118:True:=⟨⟩
theorem tw74371456492148319:True:=⟨⟩
theorem tw521676348480724987:True:=⟨⟩
theorem tw17590442795635029760:True:=⟨⟩
theorem tw4076980317139787901:True:=⟨⟩
theorem tw12892246217967575297:True:=⟨⟩
theorem tw6048311848182328850:True:=⟨⟩
theorem tw16544561257051623495:True:=⟨⟩
theorem tw6084721973026555407:True:=⟨⟩
theorem tw18059399808516473371:True:=⟨⟩
theorem tw4092739052820509940:True:=⟨⟩
theorem tw7840352310768444932:True:=⟨⟩
theorem tw179333559923766915:True:=⟨⟩
theorem tw1604652649059989612:True:=⟨⟩
theorem tw13743372357581507393:True:=⟨⟩
theorem tw11199887808853106026:True:=⟨⟩
theorem tw8090208120869182182:True:=⟨⟩
theorem tw7404313867060628765:True:=⟨⟩
theorem tw8505113111031264089:True:=⟨⟩
theorem tw17207925701912792837:True:=⟨⟩
theorem tw13185200728813804282:True:=⟨⟩
theorem tw17387111294307823787:True:=⟨⟩
theorem tw11694410782948204847:True:=⟨⟩
theorem tw18016885685579936945:True:=⟨⟩
theorem tw2167825573125304155:True:=⟨⟩
theorem tw6580999625700164192:True:=⟨⟩
theorem tw13182665336754599166:True:=⟨⟩
theorem tw15138842531626646176:True:=⟨⟩
theorem tw16953159111462462506:True:=⟨⟩
theorem tw8376924754363913359:True:=⟨⟩
theorem tw17392540923922372075:True:=⟨⟩
theorem tw10094437078775429662:True:=⟨⟩
theorem tw11894674949087882907:True:=⟨⟩
theorem tw13933982467651040898:True:=⟨⟩
theorem tw4555474170353710540:True:=⟨⟩
theorem tw11556676482672455622:True:=⟨⟩
theorem tw17631899865796381013:True:=⟨⟩
theorem tw13566805502572312141:True:=⟨⟩
theorem tw9114778183818919872:True:=⟨⟩
theorem tw14967666175636013610:True:=⟨⟩
theorem tw17480454183021351491:True:=⟨⟩
theorem tw12162688409722699043:True:=⟨⟩
theorem tw9912341891818641377:True:=⟨⟩
theorem tw14535899863238470003:True:=⟨⟩
theorem tw13923212400348528941:True:=⟨⟩
theorem tw8494719146343737282:True:=⟨⟩
theorem tw2993446272737822118:True:=⟨⟩
theorem tw9631221959624855428:True:=⟨⟩
theorem tw4755289008164381989:True:=⟨⟩
theorem tw12188051163440482646:True:=⟨⟩
theorem tw10567711401691579756:True:=⟨⟩
theorem tw14244660839988756607:True:=⟨⟩
theorem tw8847018115108060519:True:=⟨⟩
theorem tw801104564760346542:True:=⟨⟩
theorem tw11944405529033288889:True:=⟨⟩
theorem tw13349116346480428732:True:=⟨⟩
theorem tw17239472565169516414:True:=⟨⟩
theorem tw4812524584192294018:True:=⟨⟩
theorem tw2045871054793884714:True:=⟨⟩
theorem tw7372592172887763659:True:=⟨⟩
theorem tw1298872421940913875:True:=⟨⟩
theorem tw3277919552802382415:True:=⟨⟩
theorem tw12577009451441975444:True:=⟨⟩
theorem tw8869078556535291956:True:=⟨⟩
theorem tw5821661899884209084:True:=⟨⟩
theorem tw9272777231363241555:True:=⟨⟩
theorem tw11504662417947238880:True:=⟨⟩
theorem tw5455725192958130611:True:=⟨⟩
theorem tw10923921279791201261:True:=⟨⟩
theorem tw5044913372264537397:True:=⟨⟩
theorem tw9492901898160528838:True:=⟨⟩
theorem tw13971566034269290605:True:=⟨⟩
theorem tw7523669269613517535:True:=⟨⟩
theorem tw6355599874365030449:True:=⟨⟩
theorem tw5101349930863243173:True:=⟨⟩
theorem tw4966404116647000876:True:=⟨⟩
theorem tw13482306153418989326:True:=⟨⟩
theorem tw5301303596088881856:True:=⟨⟩
theorem tw3797765039659068916:True:=⟨⟩
theorem tw5684777439025998022:True:=⟨⟩
theorem tw1122806211828514005:True:=⟨⟩
theorem tw9054427877690488545:True:=⟨⟩
theorem tw7089449862114486612:True:=⟨⟩
theorem tw15601800484034816822:True:=⟨⟩
theorem tw12970354167157435090:True:=⟨⟩
theorem tw3530283740577939381:True:=⟨⟩
theorem tw14242062212353645876:True:=⟨⟩
theorem tw9087346522251905931:True:=⟨⟩
theorem tw3896492560696439441:True:=⟨⟩
theorem tw5727988705720511247:True:=⟨⟩
theorem tw5720104070787914480:True:=⟨⟩
theorem tw15917773360182806227:True:=⟨⟩
theorem tw3864894119789889676:True:=⟨⟩
theorem tw12728529829616065586:True:=⟨⟩
theorem tw17981049717388409516:True:=⟨⟩
theorem tw3465227120571547308:True:=⟨⟩
theorem tw4260697550477552364:True:=⟨⟩
theorem tw12665550295007713436:True:=⟨⟩
theorem tw9572663335803958884:True:=⟨⟩
theorem tw8792172784282567894:True:=⟨⟩
theorem tw12780132446463895390:True:=⟨⟩
theorem tw3396234726688755622:True:=⟨⟩
theorem tw459863992237384220:True:=⟨⟩
theorem tw12509857641464135266:True:=⟨⟩
theorem tw1244760522120857767:True:=⟨⟩
theorem tw11659017279381211427:True:=⟨⟩
theorem tw5285080709475347685:True:=⟨⟩
theorem tw8930035949572749695:True:=⟨⟩
theorem tw5011134628124903581:True:=⟨⟩
theorem tw5572209641872214909:True:=⟨⟩
theorem tw13804764668169319020:True:=⟨⟩
theorem tw2318911565325586748:True:=⟨⟩
theorem tw3959418462892097188:True:=⟨⟩
theorem tw17775478972819744078:True:=⟨⟩
theorem tw8751358994885119656:True:=⟨⟩
theorem tw8000484311261725336:True:=⟨⟩
theorem tw5151718164861960313:True:=⟨⟩
theorem tw3305223263957244777:True:=⟨⟩
theorem tw9913384384187499275:True:=⟨⟩
theorem tw12721475739947968564:True:=⟨⟩
theorem tw10563841244787703427:True:=⟨⟩
theorem tw13170659347616907193:True:=⟨⟩
theorem tw12460762118661207181:True:=⟨⟩
theorem tw13850951410543189272:True:=⟨⟩
theorem tw5350908830204184522:True:=⟨⟩
theorem tw9828717657028516921:True:=⟨⟩
theorem tw12487604290742371941:True:=⟨⟩
theorem tw5482223219166026751:True:=⟨⟩
theorem tw6109693392496206311:True:=⟨⟩
theorem tw3152969250381412276:True:=⟨⟩
theorem tw11892610414951483137:True:=⟨⟩
theorem tw8552616954684693621:True:=⟨⟩
theorem tw9224621815163381278:True:=⟨⟩
theorem tw11726475757019236723:True:=⟨⟩
theorem tw14301546680170424979:True:=⟨⟩
theorem tw11115287704269182155:True:=⟨⟩
theorem tw3589563910425818801:True:=⟨⟩
theorem tw5584874952801351057:True:=⟨⟩
theorem tw173002003982984081:True:=⟨⟩
theorem tw1396669159286764707:True:=⟨⟩
theorem tw13335056180473588151:True:=⟨⟩
theorem tw10985240651480546806:True:=⟨⟩
theorem tw16729118604542211198:True:=⟨⟩
theorem tw4976490700539477516:True:=⟨⟩
theorem tw7626363474356235509:True:=⟨⟩
theorem tw8041191438178882665:True:=⟨⟩
theorem tw13444114718600255818:True:=⟨⟩
theorem tw4461910685294675267:True:=⟨⟩
theorem tw12075184349233617835:True:=⟨⟩
theorem tw9484848072036103555:True:=⟨⟩
theorem tw3765657255843193427:True:=⟨⟩
theorem tw2000724559951422226:True:=⟨⟩
theorem tw13216240194241822706:True:=⟨⟩
theorem tw6458742419166631177:True:=⟨⟩
theorem tw11143761252000054646:True:=⟨⟩
theorem tw4649112477737257659:True:=⟨⟩
theorem tw14161952455892533138:True:=⟨⟩
end PySem.W.Fast
abbrev Sb.pk:PySem.Program:=PySem.Challenge.rw_surebook_k31_no_chance.prog
theorem Sb.bn1 {C:List PySem.Value->Prop}{us:List PySem.Value}(h:us.length=1)(k:∀ a0,C [a0]):C us:=by
 obtain⟨a0,rfl⟩:=Sb.len1 h
 exact k _
theorem Sb.bn2 {C:List PySem.Value->Prop}{us:List PySem.Value}(h:us.length=2)(k:∀ a0 a1,C [a0,a1]):C us:=by
 obtain⟨a0,a1,rfl⟩:=Sb.len2 h
 exact k _ _
theorem Sb.bn3 {C:List PySem.Value->Prop}{us:List PySem.Value}(h:us.length=3)(k:∀ a0 a1 a2,C [a0,a1,a2]):C us:=by
 obtain⟨a0,a1,a2,rfl⟩:=Sb.len3 h
 exact k _ _ _
theorem Sb.bn4 {C:List PySem.Value->Prop}{us:List PySem.Value}(h:us.length=4)(k:∀ a0 a1 a2 a3,C [a0,a1,a2,a3]):C us:=by
 obtain⟨a0,a1,a2,a3,rfl⟩:=Sb.len4 h
 exact k _ _ _ _
theorem Sb.bn5 {C:List PySem.Value->Prop}{us:List PySem.Value}(h:us.length=5)(k:∀ a0 a1 a2 a3 a4,C [a0,a1,a2,a3,a4]):C us:=by
 obtain⟨a0,a1,a2,a3,a4,rfl⟩:=Sb.len5 h
 exact k _ _ _ _ _
open PySem PySem.W PyProof.Rows
set_option maxRecDepth 100000 in
set_option maxHeartbeats 0 in
theorem PySem.Challenge.cw_surebook_k31_no_chance_holds : PySem.Challenge.rw_surebook_k31_no_chance.Holds := by
 w_on; o_law; k_head; (case hw=>w_witness2)
 k_fill
 refine L2.Fz (l:=PySem.Challenge.rw_surebook_k31_no_chance) (n:=63) (k:=11) (x:="_law_script") (CX:=L2.CX0) (sp:=Sb.spLaw) (sr:=true) rfl (by decide) rfl ⟨fun _=>rfl,by decide,by decide⟩ (fun w h Y=>PySem.W.kIn_of Y) ?F (fun K H a ns hl hO hS=>⟨a,ns,rfl,hS,fun _=>rfl⟩) (fun _ _ _ _ z=>z)
 case F =>
  intro w mg fa h KX G hmg
  have n_len:mg "len"=none:=by
   refine' PySem.W.mg_none_of KX G ?z
   (case z=>k_is)
  have n_abs:mg "abs"=none:=by
   refine' PySem.W.mg_none_of KX G ?z
   (case z=>k_is)
  have n_isinstance:mg "isinstance"=none:=by
   refine' PySem.W.mg_none_of KX G ?z
   (case z=>k_is)
  have n_int:mg "int"=none:=by
   refine' PySem.W.mg_none_of KX G ?z
   (case z=>k_is)
  have n_bool:mg "bool"=none:=by
   refine' PySem.W.mg_none_of KX G ?z
   (case z=>k_is)
  have n_tuple:mg "tuple"=none:=by
   refine' PySem.W.mg_none_of KX G ?z
   (case z=>k_is)
  have n_range:mg "range"=none:=by
   refine' PySem.W.mg_none_of KX G ?z
   (case z=>k_is)
  have n_zip:mg "zip"=none:=by
   refine' PySem.W.mg_none_of KX G ?z
   (case z=>k_is)
  have n_enumerate:mg "enumerate"=none:=by
   refine' PySem.W.mg_none_of KX G ?z
   (case z=>k_is)
  have n_any:mg "any"=none:=by
   refine' PySem.W.mg_none_of KX G ?z
   (case z=>k_is)
  have n_sum:mg "sum"=none:=by
   refine' PySem.W.mg_none_of KX G ?z
   (case z=>k_is)
  have n_list:mg "list"=none:=by
   refine' PySem.W.mg_none_of KX G ?z
   (case z=>k_is)
  have n_min:mg "min"=none:=by
   refine' PySem.W.mg_none_of KX G ?z
   (case z=>k_is)
  have T:Sb.Blt mg:=⟨n_len,n_abs,n_isinstance,n_int,n_bool,n_tuple,n_range,n_zip,n_enumerate,n_any,n_sum,n_list,n_min⟩
  have oH:Sb.Def (L2.KOf KX) mg "is_whole" Sb.kR ["value"]:=by
   dsimp only [L2.KOf]
   refine' Sb.Zm KX G ?a ?l ?c ?k (fun _ _ _ _ _ _ _ h=>by obtain⟨a0,rfl⟩:=Sb.len1 h;rfl)
   case a|l|c|k=>k_is
  have mL:Sb.Def (L2.KOf KX) mg "common_divisor" Sb.j1 ["one","other"]:=by
   dsimp only [L2.KOf]
   refine' Sb.Zm KX G ?a ?l ?c ?k (fun _ _ _ _ _ _ _ h=>by obtain⟨a0,a1,rfl⟩:=Sb.len2 h;rfl)
   case a|l|c|k=>k_is
  have o6:Sb.Def (L2.KOf KX) mg "lowest" Sb.k4 ["top","bottom"]:=by
   dsimp only [L2.KOf]
   refine' Sb.Zm KX G ?a ?l ?c ?k (fun _ _ _ _ _ _ _ h=>by obtain⟨a0,a1,rfl⟩:=Sb.len2 h;rfl)
   case a|l|c|k=>k_is
  have pY:Sb.Def (L2.KOf KX) mg "ratio" Sb.kY ["top","bottom"]:=by
   dsimp only [L2.KOf]
   refine' Sb.Zm KX G ?a ?l ?c ?k (fun _ _ _ _ _ _ _ h=>by obtain⟨a0,a1,rfl⟩:=Sb.len2 h;rfl)
   case a|l|c|k=>k_is
  have pZ:Sb.Def (L2.KOf KX) mg "minus" Sb.lM ["one","other"]:=by
   dsimp only [L2.KOf]
   refine' Sb.Zm KX G ?a ?l ?c ?k (fun _ _ _ _ _ _ _ h=>by obtain⟨a0,a1,rfl⟩:=Sb.len2 h;rfl)
   case a|l|c|k=>k_is
  have mS:Sb.Def (L2.KOf KX) mg "common_bottom" Sb.j5 ["several"]:=by
   dsimp only [L2.KOf]
   refine' Sb.Zm KX G ?a ?l ?c ?k (fun _ _ _ _ _ _ _ h=>by obtain⟨a0,rfl⟩:=Sb.len1 h;rfl)
   case a|l|c|k=>k_is
  have oE:Sb.Def (L2.KOf KX) mg "whole_by" Sb.kJ ["several","bottom"]:=by
   dsimp only [L2.KOf]
   refine' Sb.Zm KX G ?a ?l ?c ?k (fun _ _ _ _ _ _ _ h=>by obtain⟨a0,a1,rfl⟩:=Sb.len2 h;rfl)
   case a|l|c|k=>k_is
  have p7:Sb.Def (L2.KOf KX) mg "is_in" Sb.l8 ["world","event"]:=by
   dsimp only [L2.KOf]
   refine' Sb.Zm KX G ?a ?l ?c ?k (fun _ _ _ _ _ _ _ h=>by obtain⟨a0,a1,rfl⟩:=Sb.len2 h;rfl)
   case a|l|c|k=>k_is
  have rP:Sb.Def (L2.KOf KX) mg "cut" Sb.mH ["row","event"]:=by
   dsimp only [L2.KOf]
   refine' Sb.Zm KX G ?a ?l ?c ?k (fun _ _ _ _ _ _ _ h=>by obtain⟨a0,a1,rfl⟩:=Sb.len2 h;rfl)
   case a|l|c|k=>k_is
  have oG:Sb.Def (L2.KOf KX) mg "paper_of" Sb.kO ["count","event"]:=by
   dsimp only [L2.KOf]
   refine' Sb.Zm KX G ?a ?l ?c ?k (fun _ _ _ _ _ _ _ h=>by obtain⟨a0,a1,rfl⟩:=Sb.len2 h;rfl)
   case a|l|c|k=>k_is
  have rA:Sb.Def (L2.KOf KX) mg "gain" Sb.l9 ["offer","word"]:=by
   dsimp only [L2.KOf]
   refine' Sb.Zm KX G ?a ?l ?c ?k (fun _ _ _ _ _ _ _ h=>by obtain⟨a0,a1,rfl⟩:=Sb.len2 h;rfl)
   case a|l|c|k=>k_is
  have oC:Sb.Def (L2.KOf KX) mg "words_of" Sb.kI ["offer"]:=by
   dsimp only [L2.KOf]
   refine' Sb.Zm KX G ?a ?l ?c ?k (fun _ _ _ _ _ _ _ h=>by obtain⟨a0,rfl⟩:=Sb.len1 h;rfl)
   case a|l|c|k=>k_is
  have pX:Sb.Def (L2.KOf KX) mg "sides" Sb.lJ ["offers"]:=by
   dsimp only [L2.KOf]
   refine' Sb.Zm KX G ?a ?l ?c ?k (fun _ _ _ _ _ _ _ h=>by obtain⟨a0,rfl⟩:=Sb.len1 h;rfl)
   case a|l|c|k=>k_is
  have p8:Sb.Def (L2.KOf KX) mg "gains" Sb.lQ ["offers"]:=by
   dsimp only [L2.KOf]
   refine' Sb.Zm KX G ?a ?l ?c ?k (fun _ _ _ _ _ _ _ h=>by obtain⟨a0,rfl⟩:=Sb.len1 h;rfl)
   case a|l|c|k=>k_is
  have mZ:Sb.Def (L2.KOf KX) mg "first_table" Sb.j7 ["lines"]:=by
   dsimp only [L2.KOf]
   refine' Sb.Zm KX G ?a ?l ?c ?k (fun _ _ _ _ _ _ _ h=>by obtain⟨a0,rfl⟩:=Sb.len1 h;rfl)
   case a|l|c|k=>k_is
  have oU:Sb.Def (L2.KOf KX) mg "line_of" Sb.k6 ["table","owner"]:=by
   dsimp only [L2.KOf]
   refine' Sb.Zm KX G ?a ?l ?c ?k (fun _ _ _ _ _ _ _ h=>by obtain⟨a0,a1,rfl⟩:=Sb.len2 h;rfl)
   case a|l|c|k=>k_is
  have o8:Sb.Def (L2.KOf KX) mg "end_of" Sb.lV ["table","thing"]:=by
   dsimp only [L2.KOf]
   refine' Sb.Zm KX G ?a ?l ?c ?k (fun _ _ _ _ _ _ _ h=>by obtain⟨a0,a1,rfl⟩:=Sb.len2 h;rfl)
   case a|l|c|k=>k_is
  have nV:Sb.Def (L2.KOf KX) mg "number_at" Sb.kF ["table","owner","thing"]:=by
   dsimp only [L2.KOf]
   refine' Sb.Zm KX G ?a ?l ?c ?k (fun _ _ _ _ _ _ _ h=>by obtain⟨a0,a1,a2,rfl⟩:=Sb.len3 h;rfl)
   case a|l|c|k=>k_is
  have oW:Sb.Def (L2.KOf KX) mg "helping" Sb.kT ["table","owner"]:=by
   dsimp only [L2.KOf]
   refine' Sb.Zm KX G ?a ?l ?c ?k (fun _ _ _ _ _ _ _ h=>by obtain⟨a0,a1,rfl⟩:=Sb.len2 h;rfl)
   case a|l|c|k=>k_is
  have m9:Sb.Def (L2.KOf KX) mg "goes_ahead" Sb.kA ["table","column","one","other"]:=by
   dsimp only [L2.KOf]
   refine' Sb.Zm KX G ?a ?l ?c ?k (fun _ _ _ _ _ _ _ h=>by obtain⟨a0,a1,a2,a3,rfl⟩:=Sb.len4 h;rfl)
   case a|l|c|k=>k_is
  have nW:Sb.Def (L2.KOf KX) mg "going_out" Sb.kG ["table","column"]:=by
   dsimp only [L2.KOf]
   refine' Sb.Zm KX G ?a ?l ?c ?k (fun _ _ _ _ _ _ _ h=>by obtain⟨a0,a1,rfl⟩:=Sb.len2 h;rfl)
   case a|l|c|k=>k_is
  have oF:Sb.Def (L2.KOf KX) mg "replaced" Sb.kD ["numbers","place","number"]:=by
   dsimp only [L2.KOf]
   refine' Sb.Zm KX G ?a ?l ?c ?k (fun _ _ _ _ _ _ _ h=>by obtain⟨a0,a1,a2,rfl⟩:=Sb.len3 h;rfl)
   case a|l|c|k=>k_is
  have p9:Sb.Def (L2.KOf KX) mg "freed" Sb.lS ["line","key_line","column","bottom"]:=by
   dsimp only [L2.KOf]
   refine' Sb.Zm KX G ?a ?l ?c ?k (fun _ _ _ _ _ _ _ h=>by obtain⟨a0,a1,a2,a3,rfl⟩:=Sb.len4 h;rfl)
   case a|l|c|k=>k_is
  have nX:Sb.Def (L2.KOf KX) mg "exchanged" Sb.kB ["table","place","column"]:=by
   dsimp only [L2.KOf]
   refine' Sb.Zm KX G ?a ?l ?c ?k (fun _ _ _ _ _ _ _ h=>by obtain⟨a0,a1,a2,rfl⟩:=Sb.len3 h;rfl)
   case a|l|c|k=>k_is
  have o9:Sb.Def (L2.KOf KX) mg "driven" Sb.lB ["table","owner"]:=by
   dsimp only [L2.KOf]
   refine' Sb.Zm KX G ?a ?l ?c ?k (fun _ _ _ _ _ _ _ h=>by obtain⟨a0,a1,rfl⟩:=Sb.len2 h;rfl)
   case a|l|c|k=>k_is
  have m7:Sb.Def (L2.KOf KX) mg "whole_line" Sb.j8 ["row","end"]:=by
   dsimp only [L2.KOf]
   refine' Sb.Zm KX G ?a ?l ?c ?k (fun _ _ _ _ _ _ _ h=>by obtain⟨a0,a1,rfl⟩:=Sb.len2 h;rfl)
   case a|l|c|k=>k_is
  have pV:Sb.Def (L2.KOf KX) mg "start" Sb.lG ["count","rows","event","goal"]:=by
   dsimp only [L2.KOf]
   refine' Sb.Zm KX G ?a ?l ?c ?k (fun _ _ _ _ _ _ _ h=>by obtain⟨a0,a1,a2,a3,rfl⟩:=Sb.len4 h;rfl)
   case a|l|c|k=>k_is
  have mK:Sb.Def (L2.KOf KX) mg "shown_multiples" Sb.j0 ["count","rows","table","owner","bottom"]:=by
   dsimp only [L2.KOf]
   refine' Sb.Zm KX G ?a ?l ?c ?k (fun _ _ _ _ _ _ _ h=>by obtain⟨a0,a1,a2,a3,a4,rfl⟩:=Sb.len5 h;rfl)
   case a|l|c|k=>k_is
  have pW:Sb.Def (L2.KOf KX) mg "solve" Sb.lH ["count","rows","event","aim"]:=by
   dsimp only [L2.KOf]
   refine' Sb.Zm KX G ?a ?l ?c ?k (fun _ _ _ _ _ _ _ h=>by obtain⟨a0,a1,a2,a3,rfl⟩:=Sb.len4 h;rfl)
   case a|l|c|k=>k_is
  have pU:Sb.Def (L2.KOf KX) mg "times" Sb.lF ["one","other"]:=by
   dsimp only [L2.KOf]
   refine' Sb.Zm KX G ?a ?l ?c ?k (fun _ _ _ _ _ _ _ h=>by obtain⟨a0,a1,rfl⟩:=Sb.len2 h;rfl)
   case a|l|c|k=>k_is
  have m8:Sb.Def (L2.KOf KX) mg "multiplied" Sb.j6 ["row","by"]:=by
   dsimp only [L2.KOf]
   refine' Sb.Zm KX G ?a ?l ?c ?k (fun _ _ _ _ _ _ _ h=>by obtain⟨a0,a1,rfl⟩:=Sb.len2 h;rfl)
   case a|l|c|k=>k_is
  have o4:Sb.Def (L2.KOf KX) mg "turned" Sb.kW ["row"]:=by
   dsimp only [L2.KOf]
   refine' Sb.Zm KX G ?a ?l ?c ?k (fun _ _ _ _ _ _ _ h=>by obtain⟨a0,rfl⟩:=Sb.len1 h;rfl)
   case a|l|c|k=>k_is
  have pT:Sb.Def (L2.KOf KX) mg "upper" Sb.lD ["count","offers","row"]:=by
   dsimp only [L2.KOf]
   refine' Sb.Zm KX G ?a ?l ?c ?k (fun _ _ _ _ _ _ _ h=>by obtain⟨a0,a1,a2,rfl⟩:=Sb.len3 h;rfl)
   case a|l|c|k=>k_is
  have p0:Sb.Def (L2.KOf KX) mg "lower" Sb.lN ["count","offers","row"]:=by
   dsimp only [L2.KOf]
   refine' Sb.Zm KX G ?a ?l ?c ?k (fun _ _ _ _ _ _ _ h=>by obtain⟨a0,a1,a2,rfl⟩:=Sb.len3 h;rfl)
   case a|l|c|k=>k_is
  have o7:Sb.Def (L2.KOf KX) mg "judged" Sb.lA ["count","offers"]:=by
   dsimp only [L2.KOf]
   refine' Sb.Zm KX G ?a ?l ?c ?k (fun _ _ _ _ _ _ _ h=>by obtain⟨a0,a1,rfl⟩:=Sb.len2 h;rfl)
   case a|l|c|k=>k_is
  have mQ:Sb.Def (L2.KOf KX) mg "refuse_beaten" Sb.j2 ["count","offers"]:=by
   dsimp only [L2.KOf]
   refine' Sb.Zm KX G ?a ?l ?c ?k (fun _ _ _ _ _ _ _ h=>by obtain⟨a0,a1,rfl⟩:=Sb.len2 h;rfl)
   case a|l|c|k=>k_is
  have o5:Sb.Def (L2.KOf KX) mg "shares" Sb.kX ["count","offers","event"]:=by
   dsimp only [L2.KOf]
   refine' Sb.Zm KX G ?a ?l ?c ?k (fun _ _ _ _ _ _ _ h=>by obtain⟨a0,a1,a2,rfl⟩:=Sb.len3 h;rfl)
   case a|l|c|k=>k_is
  have mR:Sb.Def (L2.KOf KX) mg "greatest_left" Sb.j4 ["count","offers","event","row"]:=by
   dsimp only [L2.KOf]
   refine' Sb.Zm KX G ?a ?l ?c ?k (fun _ _ _ _ _ _ _ h=>by obtain⟨a0,a1,a2,a3,rfl⟩:=Sb.len4 h;rfl)
   case a|l|c|k=>k_is
  have oV:Sb.Def (L2.KOf KX) mg "learned" Sb.kP ["count","offers","event","row"]:=by
   dsimp only [L2.KOf]
   refine' Sb.Zm KX G ?a ?l ?c ?k (fun _ _ _ _ _ _ _ h=>by obtain⟨a0,a1,a2,a3,rfl⟩:=Sb.len4 h;rfl)
   case a|l|c|k=>k_is
  have nA:Sb.Def (L2.KOf KX) mg "called_off" Sb.kC ["count","offers","event","row"]:=by
   dsimp only [L2.KOf]
   refine' Sb.Zm KX G ?a ?l ?c ?k (fun _ _ _ _ _ _ _ h=>by obtain⟨a0,a1,a2,a3,rfl⟩:=Sb.len4 h;rfl)
   case a|l|c|k=>k_is
  have n6:Sb.Def (L2.KOf KX) mg "_law_cell" Sb.mC ["_law_script","_law_k"]:=by
   dsimp only [L2.KOf]
   refine' Sb.Zm KX G ?a ?l ?c ?k (fun _ _ _ _ _ _ _ h=>by obtain⟨a0,a1,rfl⟩:=Sb.len2 h;rfl)
   case a|l|c|k=>k_is
  have nC:Sb.Def (L2.KOf KX) mg "_law_whole" Sb.lC ["_law_found"]:=by
   dsimp only [L2.KOf]
   refine' Sb.Zm KX G ?a ?l ?c ?k (fun _ _ _ _ _ _ _ h=>by obtain⟨a0,rfl⟩:=Sb.len1 h;rfl)
   case a|l|c|k=>k_is
  have oM:Sb.Def (L2.KOf KX) mg "_law_low" Sb.mF ["_law_top","_law_bottom"]:=by
   dsimp only [L2.KOf]
   refine' Sb.Zm KX G ?a ?l ?c ?k (fun _ _ _ _ _ _ _ h=>by obtain⟨a0,a1,rfl⟩:=Sb.len2 h;rfl)
   case a|l|c|k=>k_is
  have oO:Sb.Def (L2.KOf KX) mg "_law_bag" Sb.mI ["_law_script","_law_at"]:=by
   dsimp only [L2.KOf]
   refine' Sb.Zm KX G ?a ?l ?c ?k (fun _ _ _ _ _ _ _ h=>by obtain⟨a0,a1,rfl⟩:=Sb.len2 h;rfl)
   case a|l|c|k=>k_is
  have nY:Sb.Def (L2.KOf KX) mg "_law_take" Sb.lX ["_law_bag_here","_law_many"]:=by
   dsimp only [L2.KOf]
   refine' Sb.Zm KX G ?a ?l ?c ?k (fun _ _ _ _ _ _ _ h=>by obtain⟨a0,a1,rfl⟩:=Sb.len2 h;rfl)
   case a|l|c|k=>k_is
  have n0:Sb.Def (L2.KOf KX) mg "_law_plus" Sb.lO ["_law_one","_law_other"]:=by
   dsimp only [L2.KOf]
   refine' Sb.Zm KX G ?a ?l ?c ?k (fun _ _ _ _ _ _ _ h=>by obtain⟨a0,a1,rfl⟩:=Sb.len2 h;rfl)
   case a|l|c|k=>k_is
  have nJ:Sb.Def (L2.KOf KX) mg "_law_minus" Sb.k8 ["_law_one","_law_other"]:=by
   dsimp only [L2.KOf]
   refine' Sb.Zm KX G ?a ?l ?c ?k (fun _ _ _ _ _ _ _ h=>by obtain⟨a0,a1,rfl⟩:=Sb.len2 h;rfl)
   case a|l|c|k=>k_is
  have nE:Sb.Def (L2.KOf KX) mg "_law_times" Sb.k7 ["_law_one","_law_other"]:=by
   dsimp only [L2.KOf]
   refine' Sb.Zm KX G ?a ?l ?c ?k (fun _ _ _ _ _ _ _ h=>by obtain⟨a0,a1,rfl⟩:=Sb.len2 h;rfl)
   case a|l|c|k=>k_is
  have mT:Sb.Def (L2.KOf KX) mg "_law_is_ratio" Sb.kS ["_law_found"]:=by
   dsimp only [L2.KOf]
   refine' Sb.Zm KX G ?a ?l ?c ?k (fun _ _ _ _ _ _ _ h=>by obtain⟨a0,rfl⟩:=Sb.len1 h;rfl)
   case a|l|c|k=>k_is
  have nD:Sb.Def (L2.KOf KX) mg "_law_under" Sb.lE ["_law_one","_law_other"]:=by
   dsimp only [L2.KOf]
   refine' Sb.Zm KX G ?a ?l ?c ?k (fun _ _ _ _ _ _ _ h=>by obtain⟨a0,a1,rfl⟩:=Sb.len2 h;rfl)
   case a|l|c|k=>k_is
  have m6:Sb.Def (L2.KOf KX) mg "_law_parted" Sb.kZ ["_law_one","_law_other"]:=by
   dsimp only [L2.KOf]
   refine' Sb.Zm KX G ?a ?l ?c ?k (fun _ _ _ _ _ _ _ h=>by obtain⟨a0,a1,rfl⟩:=Sb.len2 h;rfl)
   case a|l|c|k=>k_is
  have n4:Sb.Def (L2.KOf KX) mg "_law_mean" Sb.lP ["_law_weights_here","_law_row_here"]:=by
   dsimp only [L2.KOf]
   refine' Sb.Zm KX G ?a ?l ?c ?k (fun _ _ _ _ _ _ _ h=>by obtain⟨a0,a1,rfl⟩:=Sb.len2 h;rfl)
   case a|l|c|k=>k_is
  have oN:Sb.Def (L2.KOf KX) mg "_law_cut" Sb.lY ["_law_row_here","_law_event_here"]:=by
   dsimp only [L2.KOf]
   refine' Sb.Zm KX G ?a ?l ?c ?k (fun _ _ _ _ _ _ _ h=>by obtain⟨a0,a1,rfl⟩:=Sb.len2 h;rfl)
   case a|l|c|k=>k_is
  have nG:Sb.Def (L2.KOf KX) mg "_law_small" Sb.lI ["_law_bag_here"]:=by
   dsimp only [L2.KOf]
   refine' Sb.Zm KX G ?a ?l ?c ?k (fun _ _ _ _ _ _ _ h=>by obtain⟨a0,rfl⟩:=Sb.len1 h;rfl)
   case a|l|c|k=>k_is
  have oJ:Sb.Def (L2.KOf KX) mg "_law_row" Sb.mD ["_law_bag_here","_law_count"]:=by
   dsimp only [L2.KOf]
   refine' Sb.Zm KX G ?a ?l ?c ?k (fun _ _ _ _ _ _ _ h=>by obtain⟨a0,a1,rfl⟩:=Sb.len2 h;rfl)
   case a|l|c|k=>k_is
  have mU:Sb.Def (L2.KOf KX) mg "_law_weights" Sb.kK ["_law_bag_here","_law_count"]:=by
   dsimp only [L2.KOf]
   refine' Sb.Zm KX G ?a ?l ?c ?k (fun _ _ _ _ _ _ _ h=>by obtain⟨a0,a1,rfl⟩:=Sb.len2 h;rfl)
   case a|l|c|k=>k_is
  have nN:Sb.Def (L2.KOf KX) mg "_law_event" Sb.lT ["_law_bag_here","_law_count"]:=by
   dsimp only [L2.KOf]
   refine' Sb.Zm KX G ?a ?l ?c ?k (fun _ _ _ _ _ _ _ h=>by obtain⟨a0,a1,rfl⟩:=Sb.len2 h;rfl)
   case a|l|c|k=>k_is
  have oK:Sb.Def (L2.KOf KX) mg "_law_mid" Sb.mE ["_law_weights_here","_law_row_here","_law_event_here"]:=by
   dsimp only [L2.KOf]
   refine' Sb.Zm KX G ?a ?l ?c ?k (fun _ _ _ _ _ _ _ h=>by obtain⟨a0,a1,a2,rfl⟩:=Sb.len3 h;rfl)
   case a|l|c|k=>k_is
  have nI:Sb.Def (L2.KOf KX) mg "_law_offer" Sb.lK ["_law_bag_here","_law_weights_here","_law_loose"]:=by
   dsimp only [L2.KOf]
   refine' Sb.Zm KX G ?a ?l ?c ?k (fun _ _ _ _ _ _ _ h=>by obtain⟨a0,a1,a2,rfl⟩:=Sb.len3 h;rfl)
   case a|l|c|k=>k_is
  have mO:Sb.Def (L2.KOf KX) mg "_law_fair_book" Sb.kH ["_law_script","_law_count"]:=by
   dsimp only [L2.KOf]
   refine' Sb.Zm KX G ?a ?l ?c ?k (fun _ _ _ _ _ _ _ h=>by obtain⟨a0,a1,rfl⟩:=Sb.len2 h;rfl)
   case a|l|c|k=>k_is
  have nM:Sb.Def (L2.KOf KX) mg "_law_gains" Sb.k9 ["_law_offers"]:=by
   dsimp only [L2.KOf]
   refine' Sb.Zm KX G ?a ?l ?c ?k (fun _ _ _ _ _ _ _ h=>by obtain⟨a0,rfl⟩:=Sb.len1 h;rfl)
   case a|l|c|k=>k_is
  have n5:Sb.Def (L2.KOf KX) mg "_law_come" Sb.mB ["_law_count","_law_rows","_law_multiples_here"]:=by
   dsimp only [L2.KOf]
   refine' Sb.Zm KX G ?a ?l ?c ?k (fun _ _ _ _ _ _ _ h=>by obtain⟨a0,a1,a2,rfl⟩:=Sb.len3 h;rfl)
   case a|l|c|k=>k_is
  have mM:Sb.Def (L2.KOf KX) mg "_law_multiples" Sb.j9 ["_law_found","_law_many"]:=by
   dsimp only [L2.KOf]
   refine' Sb.Zm KX G ?a ?l ?c ?k (fun _ _ _ _ _ _ _ h=>by obtain⟨a0,a1,rfl⟩:=Sb.len2 h;rfl)
   case a|l|c|k=>k_is
  have mW:Sb.Def (L2.KOf KX) mg "_law_chances" Sb.kU ["_law_script","_law_weights_here"]:=by
   dsimp only [L2.KOf]
   refine' Sb.Zm KX G ?a ?l ?c ?k (fun _ _ _ _ _ _ _ h=>by obtain⟨a0,a1,rfl⟩:=Sb.len2 h;rfl)
   case a|l|c|k=>k_is
  have mV:Sb.Def (L2.KOf KX) mg "_law_refused" Sb.kL ["_law_count","_law_offers","_law_event_here","_law_row_here"]:=by
   dsimp only [L2.KOf]
   refine' Sb.Zm KX G ?a ?l ?c ?k (fun _ _ _ _ _ _ _ h=>by obtain⟨a0,a1,a2,a3,rfl⟩:=Sb.len4 h;rfl)
   case a|l|c|k=>k_is
  have mJ:Sb.Con (L2.KOf KX) mg "NOUGHT" (0,1):=by
   dsimp only [L2.KOf]
   refine' Sb.Z02 KX G ?a ?l
   case a|l=>k_is
  have rO:Sb.Con (L2.KOf KX) mg "ONE" (1,1):=by
   dsimp only [L2.KOf]
   refine' Sb.Z02 KX G ?a ?l
   case a|l=>k_is
  have rN:Sb.ConI mg "ROW" 0:=by
   refine' Sb.Su KX G ?a
   (case a=>k_is)
  have qW:Sb.ConI mg "ASK" 1:=by
   refine' Sb.Su KX G ?a
   (case a=>k_is)
  have qV:Sb.ConI mg "BID" 2:=by
   refine' Sb.Su KX G ?a
   (case a=>k_is)
  have pS:Sb.ConI mg "EVENT" 3:=by
   refine' Sb.Su KX G ?a
   (case a=>k_is)
  have y_Table:Sb.TabHere (L2.KOf KX) mg:=by
   dsimp only [L2.KOf]
   refine' Sb.Z2a KX G ?xaC ?xa1 ?xi1 ?xl1 ?xc1 ?xk1 ?xpg ?xhd ?xpo ?xsa ?xmk ?xkc ?xnL ?xnO ?xnH ?xnB ?xnK
   case xaC|xa1|xi1|xl1|xc1|xk1|xpg|xhd|xpo|xsa|xmk|xkc|xnL|xnO|xnH|xnB|xnK=>k_is
  obtain ⟨C_T,f_T,fd_T,tc,mk_T,F_T,b_T⟩:=y_Table
  have y_NC:Sb.ErrHere (L2.KOf KX) mg "NoChance" "NoChance.__init__" Sb.j3:=by
   dsimp only [L2.KOf]
   refine' Sb.Z33 KX G ?zNCeC ?zNCe1 ?zNCei ?zNCel ?zNCec ?zNCek ?zNCes ?zNCen ?zNCeg ?zNCeh ?zNCex ?zNCet ?zNCeu ?zNCem ?zNCeb ?zNCeo ?zNCebd
   case zNCeC|zNCe1|zNCei|zNCel|zNCec|zNCek|zNCes|zNCen|zNCeg|zNCeh|zNCex|zNCet|zNCeu|zNCem|zNCeb=>k_is
   (case zNCeo=>kernel_rfl); (case zNCebd=>exact fun us hl=>by obtain ⟨a0,a1,rfl⟩:=Sb.len2 hl; rfl)
  obtain ⟨C_NC,f_NC,fd_NC,x_NC,F_NC,b_NC,s_NC,r_NC⟩:=y_NC
  have y_base:Sb.BaseHere (L2.KOf KX) mg "SureError":=by
   dsimp only [L2.KOf]
   refine' Sb.Z1s KX G ?ba ?br ?bt ?bf
   case ba|br|bt|bf=>k_is
  obtain ⟨D_SE,B_SE⟩:=y_base
  have y_cSE:Sb.CatchHere (L2.KOf KX) mg "NoChance" "SureError":=by
   dsimp only [L2.KOf]
   refine' Sb.Mw KX G ?xcSEa ?xcSEb ?xcSEn ?xcSEe ?xcSEi ?xcSEk
   (case xcSEa=>k_is); (case xcSEb=>k_is); (case xcSEn=>k_is); (case xcSEe=>k_is); (case xcSEi=>kit_is); (case xcSEk=>k_is)
  obtain ⟨Cq_cSE,D_cSE,k_cSE,m_cSE,n_cSE⟩:=y_cSE
  obtain rfl:=Sb.N2 m_cSE x_NC.bd
  have y_cNC:Sb.CatchHere (L2.KOf KX) mg "NoChance" "NoChance":=by
   dsimp only [L2.KOf]
   refine' Sb.Mw KX G ?xcNCa ?xcNCb ?xcNCn ?xcNCe ?xcNCi ?xcNCk
   (case xcNCa=>k_is); (case xcNCb=>k_is); (case xcNCn=>k_is); (case xcNCe=>k_is); (case xcNCi=>kit_is); (case xcNCk=>k_is)
  obtain ⟨Cq_cNC,D_cNC,k_cNC,m_cNC,n_cNC⟩:=y_cNC
  obtain rfl:=Sb.N2 m_cNC x_NC.bd
  obtain rfl:=Sb.N2 n_cNC x_NC.bd
  have y_ks:Sb.KindsHere (L2.KOf KX) mg:=by
   dsimp only [L2.KOf]
   refine' Sb.Ba KX G ?ka0 ?ka1 ?ka2 ?ka3 ?ka4 ?ka5 ?kav ?kka ?kk0 ?kkv
   (case ka0=>k_is); (case ka1=>k_is); (case ka2=>k_is); (case ka3=>k_is); (case ka4=>k_is); (case ka5=>k_is); (case kav=>k_is); (case kka=>kit_is); (case kk0=>kit_is); (case kkv=>kit_is)
  obtain ⟨Ck,ck1,ck2,ck3,ck4,ck5,ks⟩:=y_ks
  obtain rfl:=Sb.N2 ks.m0 x_NC.bd
  refine' Sb.Z2v (st:=Sb.mG) KX G hmg ?a ?l ?c ?k ?b ?ok
  case a|l|c|k=>k_is
  (case b=>exact fun s v=>.of_eq rfl)
  case ok =>
   intro fd base F
   have qZ:=Sb.Z3j (P:=Sb.pk) (w:=w) (base:=base) mL T
   have pJ:=Sb.Ch o6 qZ
   have rR:=Sb.Gp (P:=Sb.pk) (w:=w) (base:=base) oH T
   have qY:=Sb.Ce pY rR pJ
   have rM:=Sb.Cp mS qZ
   have rV:=Sb.Gk (P:=Sb.pk) (w:=w) (base:=base) oE
   have rE:=Sb.Z2n (P:=Sb.pk) (w:=w) (base:=base) p7
   have pO:=Sb.Z3l rP T rE mJ
   have pI:=Sb.Z0u oG pO rO
   have c_T:Sb.HasT _ w (L2.KOf KX) mg base C_T:=⟨f_T,fd_T,mk_T,Sb.Z0p (P:=Sb.pk) (w:=w) (base:=base) F_T tc,b_T⟩
   have qR:=Sb.Z12 mZ T tc c_T
   have mX:=Sb.Ci (P:=Sb.pk) (w:=w) (base:=base) oU tc
   have qU:=Sb.Z15 o8 tc mX
   have qL:=Sb.Z0v nV tc mX
   have rF:=Sb.Gq oW T tc mX
   have rG:=Sb.Z2o (P:=Sb.pk) (w:=w) (base:=base) m9 tc
   have qP:=Sb.Z10 nW T tc rG
   have pG:=Sb.Ln (P:=Sb.pk) (w:=w) (base:=base) oF T
   have qQ:=Sb.Z11 p9 T pG
   have rJ:=Sb.Z2q nX tc c_T qQ pG
   have pM:=Sb.Co o9 tc rF rJ qP
   have rT:=Sb.M8 m7 rM rV
   have qD:=Sb.Z0q pV rT pI qR
   have qJ:=Sb.Z0t mK T tc qL rM qY
   have pE:=Sb.Cb pW T tc pO qD pM qJ rM qY qU
   have nP:=Sb.Z0r pE
   have nQ:=Sb.Z0x pZ pJ
   have rH:=Sb.Z2p rA T nQ pO rN qW qV pS
   have qA:=Sb.Z0l (P:=Sb.pk) (w:=w) (base:=base) oC qW qV
   have qH:=Sb.Z0s pX T qA
   have nU:=Sb.Cn p8 qH rH
   have qC:=Sb.Z0o pU pJ
   have rC:=Sb.Px m8 T qC
   have n9:=Sb.Ca o4 rC
   have oP:=Sb.Z0n pT nP nU
   have oR:=Sb.Z0y p0 oP n9 nQ mJ
   have pP:=Sb.Z2r (P:=Sb.pk) (w:=w) (base:=base) n6 T
   have qB:=Sb.Z0m (P:=Sb.pk) (w:=w) (base:=base) nC T
   have nS:=Sb.Z3h (P:=Sb.pk) (w:=w) (base:=base) oM T
   have pR:=Sb.Z2s oO pP
   have mP:=Sb.Z2i (P:=Sb.pk) (w:=w) (base:=base) nY
   have nR:=Sb.Z0z n0 nS
   have oB:=Sb.Cl nJ nS
   have oA:=Sb.Cj nE nS
   have rD:=Sb.Z2m mT T qB nS
   have oQ:=Sb.C9 (P:=Sb.pk) (w:=w) (base:=base) nD
   have pH:=Sb.Cf m6 nS
   have oS:=Sb.Cm n4 T nR oA
   have pL:=Sb.Z2l (P:=Sb.pk) (w:=w) (base:=base) oN T
   have qF:=Sb.Cd nG mP nS
   have qX:=Sb.Z2j oJ T qF
   have oX:=Sb.Lm mU T mP nS
   have qT:=Sb.Z14 nN T mP
   have rQ:=Sb.Z3g oK T oS pL pH
   have qK:=Sb.Cg nI T mP qT qX rQ nS nR oB
   have qS:=Sb.Z13 mO T pR mP oX qK
   have pF:=Sb.Gm o5 pI oP oR
   have pQ:=Sb.Gu nA pI oR mJ
   have qN:=Sb.Rn (P:=Sb.pk) (w:=w) (base:=base) F_NC T x_NC B_SE s_NC
   have oZ:=Sb.Go o7 nP nU mJ
   have rB:=Sb.Z2k mQ oZ
   have rS:=Sb.Z3k mR x_NC qN b_NC nP nU rB
   have mY:=Sb.Lo oV rS n9 nQ mJ
   have pK:=Sb.Gr nM oB pL
   have rK:=Sb.Z16 n5 T nR oA
   have qM:=Sb.Z0w mM T rD
   have o0:=Sb.Gs mW T pR mP nS
   have oY:=Sb.Gn mV T ks k_cSE n_cSE x_NC r_NC s_NC pK mY qM rK oQ
   exact Sb.Z3i F T k_cNC n_cNC pP pR qS o0 qX oY pF pQ mY oS oQ
#print axioms PySem.Challenge.cw_surebook_k31_no_chance_holds
