import PyProof.Rows.All
import Wide.All
import OpenK.AllK
import Wide.FinOn
import Lean
import PyProof.EqAt
import PyProof.EqKinds
import PyProof.TupleCall
import PySem.Challenge.RW_surebook_k32_learned_twice
set_option Elab.async false
set_option linter.all false
set_option maxRecDepth 100000
set_option maxHeartbeats 3200000
abbrev YA:=@PySem.Heap.get?_push_of_some
abbrev YB:=@PySem.wpAny_bind
abbrev YC:=@List.length_map
abbrev YD:=@List.getElem?_map
abbrev YE:=@Nat.le_refl
abbrev YF:=@if_neg
abbrev YG:=@List.getElem?_eq_some_iff
abbrev YH:=@PySem.Heap.lt_size
abbrev YI:=@List.getD_eq_getElem?_getD
abbrev YJ:=@List.mem_append_left
abbrev YK:=@Option.some.inj
abbrev YL:=@List.mem_of_getElem?
abbrev YM:=@if_pos
abbrev YN:=@List.take_of_length_le
abbrev YO:=@PySem.Heap.get?_push_size
abbrev YQ:=@PySem.wpAny_pure
abbrev YR:=@List.size_toArray
abbrev YS:=@List.mem_cons
abbrev YT:=@Bool.false_ne_true
abbrev YU:=@Classical.byContradiction
abbrev YV:=@List.mem_cons_of_mem
abbrev YW:=@Nat.lt_of_lt_of_le
abbrev YX:=@PyProof.Rows.boot_tuple
abbrev YY:=@Int.mul_pos
abbrev YZ:=@List.getElem_mem
abbrev XA:=@Nat.ne_of_lt
abbrev XB:=@List.getElem?_of_mem
abbrev XC:=@List.mem_cons_self
abbrev XD:=@List.length_append
abbrev XE:=@List.mem_map
abbrev XF:=@Int.mul_comm
abbrev XG:=@List.not_mem_nil
abbrev XH:=@PySem.wpAny_field
abbrev XI:=@of_decide_eq_true
abbrev XJ:=@List.mem_append_right
abbrev XL:=@PySem.Heap.size_push
abbrev XM:=@List.getElem?_eq_getElem
abbrev XN:=@Ne.symm
abbrev XO:=@Nat.lt_irrefl
abbrev XQ:=@Nat.le_trans
abbrev XR:=@PyProof.Rows.callWith_type1
abbrev XS:=@PySem.Heap.get?_update_other
abbrev XT:=@PyProof.Rows.boot_isinstance
abbrev XU:=@List.length_replicate
abbrev XV:=@PyProof.Rows.boot_list
abbrev XW:=@List.getElem?_append_right
abbrev XX:=@decide_eq_true
abbrev XY:=@List.length_cons
abbrev XZ:=@List.lookup_cons
abbrev JA:=@PySem.F.plainAttrs_list
abbrev JB:=@PySem.wpAny_loadPart'
abbrev JC:=@PySem.W.mg_none_of
abbrev JD:=@List.getElem?_append_left
abbrev JE:=@beq_eq_false_iff_ne
abbrev JF:=@List.length_zipWith
abbrev JG:=@List.map_append
abbrev JH:=@PySem.Heap.get?_update_self
abbrev JI:=@Nat.le_of_lt
abbrev JJ:=@PySem.wpAny_callSpecial?_slot
abbrev JK:=@PySem.Paired.length
abbrev JL:=@Int.mul_assoc
abbrev JM:=@Int.eq_of_mul_eq_mul_left
abbrev JN:=@Bool.and_eq_true
abbrev JO:=@List.getElem?_set_self
abbrev JP:=@List.mem_singleton
abbrev JQ:=@decide_eq_false
abbrev JR:=@PySem.PassesOwn.never
abbrev JS:=@Int.mul_le_mul_of_nonneg_right
abbrev JT:=@List.getElem?_set_ne
abbrev JU:=@List.mem_append
abbrev JV:=@PySem.F.store_ValueError
abbrev JW:=@PySem.wpAny_newObj_type
abbrev JX:=@PySem.F.slot_tuple_iterator_next
abbrev JY:=@Nat.zero_le
abbrev JZ:=@Nat.lt_of_le_of_lt
abbrev GA:=@PySem.wpAny_holding
abbrev GB:=@Nat.le_add_right
abbrev GC:=@PySem.wpAny_pyIter_list
abbrev GD:=@PySem.wpAny_seqItems
abbrev GE:=@PySem.F.slot_list_append
abbrev GF:=@PySem.F.type_list_append
abbrev GG:=@Int.mul_nonpos_of_nonpos_of_nonneg
abbrev GH:=@PySem.wpAny_call_entry
abbrev GI:=@List.length_take
abbrev GJ:=@Nat.mul_le_mul_right
abbrev GK:=@List.mem_range
abbrev GL:=@PySem.wpAny_mono
abbrev GM:=@or_false
abbrev GN:=@Int.mul_zero
abbrev GO:=@PySem.wpAny_loadPart_at
abbrev GP:=@PySem.F.excBase_ValueError
abbrev GQ:=@PySem.Heap.SameBut.update
abbrev GR:=@Int.one_mul
abbrev GS:=@Bool.eq_iff_iff
abbrev GT:=@Option.map_some
abbrev GU:=@List.getElem?_toArray
abbrev GV:=@Int.natAbs_dvd_natAbs
abbrev GW:=@List.getElem?_zipWith
abbrev GX:=@Bool.false_eq_true
abbrev GY:=@PySem.wpAny_pyIter_tuple
abbrev GZ:=@PySem.wpAny_Call_Name_kw
abbrev qa:=@beq_self_eq_true
abbrev qc:=@List.eq_of_mem_replicate
abbrev qd:=@PySem.wpAny_setField
abbrev qe:=@Int.mul_one
abbrev qf:=@Nat.pow_le_pow_right
abbrev qg:=@Int.natAbs_mul
abbrev qh:=@beq_iff_eq
abbrev qi:=@List.append_nil
abbrev qj:=@List.length_set
abbrev qk:=@Array.length_toList
abbrev qm:=@List.replicate_succ
abbrev qo:=@Nat.ne_of_gt
abbrev qp:=@PySem.Obj.data_mapFields
abbrev qq:=@List.filter_append
abbrev qu:=@Int.mul_nonneg
abbrev qz:=@Array.getElem?_eq_some_iff
abbrev z9:=@Int.lt_of_mul_lt_mul_left
abbrev zc:=@PySem.wpAny_passesOwn
abbrev zd:=@Int.toNat_natCast
abbrev ze:=@PySem.wpAny_truthy_bool
abbrev zf:=@Nat.le_succ
abbrev zg:=@PyProof.Rows.slot_tuple_getitem
abbrev zh:=@PySem.mem_of_lookup
abbrev zj:=@PySem.W.kia_one
abbrev zk:=@PySem.SeqAt.EqAt.int_int
abbrev zl:=@Int.gcd_comm
abbrev zm:=@PySem.wpAny_setField_rec
abbrev zo:=@Int.zero_mul
abbrev zq:=@PySem.F.args_tuple_iterator_next_1
abbrev zt:=@List.range_succ
abbrev zu:=@PySem.boot_len
abbrev zv:=@PySem.wpAny_standAt
abbrev zw:=@List.sum_cons
abbrev zx:=@PySem.Obj.isFreed_of_fields
abbrev zy:=@Nat.lt_of_succ_lt
abbrev zz:=@PySem.F.entry_tuple_iterator_next
abbrev zA:=@decide_eq_true_eq
abbrev zB:=@Int.mul_lt_mul_of_pos_right
abbrev zC:=@Int.eq_of_mul_eq_mul_right
abbrev zD:=@List.getElem?_range
abbrev zE:=@Option.isSome_iff_exists
abbrev zF:=@PySem.F.args_tuple_add_2
abbrev zG:=@PySem.wpAny_comprehension_free
abbrev zH:=@PySem.AutoSeq1.sub_tuple_tuple
abbrev zI:=@List.mem_filter
abbrev zJ:=@PySem.wpAny_execs_nil
abbrev zK:=@if_true
abbrev zL:=@PySem.SeqAt.EqAt.same
abbrev zM:=@List.forIn_cons
abbrev zN:=@Int.emod_nonneg
abbrev zO:=@PySem.slot_listiter_next
abbrev zP:=@PySem.wpAny_rule
abbrev zQ:=@Int.emod_lt_of_pos
abbrev zR:=@PySem.F.entry_tuple_add
abbrev zS:=@Nat.le_mul_of_pos_right
abbrev zT:=@List.filter_cons_of_pos
abbrev zU:=@List.filter_cons_of_neg
abbrev zV:=@PySem.F.slot_list_index
abbrev zW:=@PySem.F.type_list_index
abbrev zX:=@PySem.codeAny_mono
abbrev zY:=@PySem.F.slot_tuple_add
abbrev zZ:=@List.flatten_cons
abbrev ja:=@Nat.add_comm
abbrev jb:=@Int.gcd_dvd_right
abbrev jc:=@PySem.wpAny_pyIter_enum
abbrev jd:=@PyProof.Rows.boot_bool
abbrev je:=@List.map_set
abbrev jf:=@PySem.plainObj_wpAny_Assign_Attribute
abbrev jg:=@PyProof.Rows.boot_int
abbrev jh:=@PyProof.Rows.boot_sum
abbrev ji:=@List.getElem?_eq_none
abbrev jj:=@PySem.wpAny_isInstance
abbrev jk:=@PyProof.Rows.callWith_builtin1
abbrev jm:=@PySem.call_meets
abbrev jn:=@Nat.not_lt
abbrev jo:=@PySem.F.slot_tuple_mul
abbrev jp:=@PySem.wpAny_pyIter_zip
abbrev jq:=@PySem.wpAny_attempt
abbrev jr:=@List.getElem?_mapIdx
abbrev js:=@List.eq_nil_of_length_eq_zero
abbrev jt:=@List.replicate_succ'
abbrev ju:=@List.nodup_cons
abbrev jv:=@PySem.F.slot_zip_next
abbrev jw:=@PySem.wpAny_ite_false
abbrev jx:=@PySem.F.slot_int_rmul
abbrev jy:=@List.length_nil
abbrev jz:=@Nat.two_pow_pos
abbrev Y00:=@List.filterMap_cons
abbrev Y01:=@Int.mul_fdiv_cancel
abbrev Y02:=@PySem.wpAny_isSubtype_exc
abbrev Y03:=@List.flatMap_append
abbrev Y04:=@Nat.mul_comm
abbrev Y05:=@Int.gcd_pos_of_ne_zero_left
abbrev Y06:=@PySem.isSubtype_stop
abbrev Y07:=@PySem.F.slot_range_iterator_next
abbrev Y08:=@if_false
abbrev Y09:=@PySem.Calls.Name_function_global
abbrev Y0a:=@List.mem_filterMap
abbrev Y0b:=@PySem.W.looks_findIn
abbrev Y0c:=@PySem.Calls.spliced_cons
abbrev Y0d:=@PySem.wpAny_call
abbrev Y0e:=@Nat.eq_zero_or_pos
abbrev Y0f:=@Nat.eq_of_mul_eq_mul_right
abbrev Y0g:=@List.getElem?_drop
abbrev Y0h:=@List.forIn_nil
abbrev Y0i:=@PySem.wpAny_letOwnedTupleGo_enum
abbrev Y0j:=@Int.gcd_sub_mul_left_left
abbrev Y0k:=@Array.getElem?_eq_getElem
abbrev Y0l:=@PySem.wpAny_binaryOp_repeat_ref
abbrev Y0m:=@PySem.wpAny_letOwnedTupleGo_zip
abbrev Y0n:=@Int.le_of_mul_le_mul_left
abbrev Y0o:=@List.mem_or_eq_of_mem_set
abbrev Y0p:=@PySem.Obj.cls_mapFields
abbrev Y0q:=@PySem.sizeLine_eq
abbrev Y0r:=@PySem.Calls.spliced_nil
abbrev Y0s:=@PySem.W.mg_of
abbrev Y0t:=@PySem.Paired.snoc
abbrev Y0u:=@List.ext_getElem?
abbrev Y0v:=@Int.neg_mul
abbrev Y0w:=@PySem.W.hideAll_get
abbrev Y0x:=@List.map_cons
abbrev Y0y:=@Nat.add_assoc
abbrev Y0z:=@List.getElem?_replicate
abbrev Y0A:=@PySem.noFill_tuple_add
abbrev Y0B:=@Nat.le_of_not_lt
abbrev Y0C:=@Int.gcd_dvd_left
abbrev Y0D:=@PySem.AutoSeq1.idx_int
abbrev Y0E:=@List.mem_flatMap
abbrev Y0F:=@Int.pos_of_mul_pos_left
abbrev Y0G:=@PySem.typeIs_int
abbrev Y0H:=@Nat.succ_mul
abbrev Y0I:=@Int.fmod_nonneg_of_pos
abbrev Y0J:=@PySem.callType_new
abbrev Y0K:=@Nat.mul_succ
abbrev Y0L:=@PySem.wpAny_updateSeq
abbrev Y0M:=@List.of_mem_zip
abbrev Y0N:=@PyProof.Rows.boot_abs
abbrev Y0O:=@List.length_filter_le
abbrev Y0P:=@PySem.wpAny_letGo
abbrev Y0Q:=@Nat.pow_add
abbrev Y0R:=@Nat.log2_lt
abbrev Y0S:=@Int.natAbs_neg
abbrev Y0T:=@List.mem_of_mem_drop
abbrev Y0U:=@Nat.mul_le_mul_left
abbrev Y0V:=@Nat.lt_two_pow_self
abbrev Y0W:=@List.getElem_of_mem
abbrev Y0X:=@PySem.seq_tuple_add
abbrev Y0Y:=@PySem.wpAny_onRaise
abbrev Y0Z:=@Int.dvd_trans
abbrev Y10:=@Bool.and_true
abbrev Y11:=@Array.append_assoc
abbrev Y12:=@Array.find?_toList
abbrev Y13:=@Int.fmod_lt_of_pos
abbrev Y14:=@not_or
abbrev Y15:=@List.getElem?_take
abbrev Y16:=@List.contains_cons
abbrev Y17:=@of_decide_eq_false
abbrev Y18:=@Nat.pow_succ
abbrev Y19:=@Int.mul_add
abbrev Y1a:=@Int.le_refl
abbrev Y1b:=@Nat.pow_pos
theorem Sb.sz0:0<=PySem.sizeLine:=by decide
theorem Sb.sz1:1<=PySem.sizeLine:=by decide
theorem Sb.sz2:2<=PySem.sizeLine:=by decide
theorem Sb.sz3:3<=PySem.sizeLine:=by decide
theorem Sb.sz4:4<=PySem.sizeLine:=by decide
theorem Sb.sz8:8<=PySem.sizeLine:=by decide
namespace Sb
open PySem PySem.Spec PyProof.Rows
def NoCtx (o:Obj):Prop:=∃ vs,o.data=.fields vs/\vs[2]?=some .none
def Qt (A:Around)(h:Heap):Prop:=A.handled=none \/ ∃ a o,A.handled=some (.ref a)/\h.get? a=some o/\NoCtx o
def QtP (A:Around)(pn:List (Addr × Obj)):Prop:=A.handled=none \/ ∃ p∈pn,A.handled=some (.ref p.1)/\NoCtx p.2
theorem QtP.at {A:Around}{pn:List (Addr × Obj)}{h:Heap}(q:QtP A pn)(k:∀ p∈pn,h.get? p.1=some p.2):Qt A h :=
 q.imp id fun ⟨p,hp,e,n⟩=>⟨p.1,p.2,e,k p hp,n⟩
theorem QtP.sub {A:Around}{pn pm:List (Addr × Obj)}(q:QtP A pn)(k:∀ p∈pn,p∈pm):QtP A pm:=q.imp id fun ⟨p,hp,e,n⟩=>⟨p,k p hp,e,n⟩
theorem Qt.keeps {A:Around}{h h':Heap}(q:Qt A h)(k:∀ b o,h.get? b=some o->NoCtx o->h'.get? b=some o):Qt A h':=q.imp id fun ⟨a,o,e,g,n⟩=>⟨a,o,e,k a o g n,n⟩
theorem Qt.but {A:Around}{h:Heap}{a:Addr}{o:Obj}{f:Obj->Obj}(q:Qt A h)(ha:h.get? a=some o)(n:¬ NoCtx o):Qt A (h.update a f) :=
 q.imp id fun ⟨b,u,e,g,m⟩=>⟨b,u,e,(GQ ..).extBut b u (fun z=>n (by rw[z,ha] at g;cases g;exact m)) g,m⟩
theorem Po:entryFor table "proto.unchain"=some Builtin.«proto.unchain»:=entryFor_of_tree (by kernel_rfl)
section
variable {prog:Program}{w:World}{A:Around}{E:Value->Shared->Prop}{s:Shared}
theorem Kz {α:Type}{e:Addr}{oe:Obj}{vs:Array Value}{Q:α->Shared->Prop}(hq:Qt A s.heap)(he:s.heap.get? e=some oe)(hd:oe.data=.fields vs)(hz:2<vs.size)(hn:∀ a,A.handled=some (.ref a)->a≠e)
  (h:∀ h':Heap,Heap.SameBut e s.heap h'->(∃ o',h'.get? e=some o'/\o'.cls=oe.cls)->E (.ref e) { s with heap:=h' }):wpAny (model prog w) A (raiseNew (.ref e):Sem α) Q E s:=by
 unfold raiseNew
 refine YB (wpAny_handled ?_)
 rcases hq with hh | ⟨a,o,hh,ha,xs,hx,h2⟩
 ·rw[hh]
  first
   | exact wpAny_throw (h s.heap (Heap.SameBut.refl ..) ⟨_,he,rfl⟩)
   | exact YB (YQ (wpAny_throw (h s.heap (Heap.SameBut.refl ..) ⟨_,he,rfl⟩)))
 ·have ne:=hn a hh
  rw[hh]
  dsimp only
  have nb:(Value.ref a != Value.ref e)=true:=by simpa using ne
  rw[YM nb]
  refine YB (GA (wpAny_runValue (codeAny_builtin Po ?_)))
  show wpAny _ _ (field (.ref a) 2 >>= _) _ _ s
  refine YB (XH ha hx (x:=.none) h2 ?_)
  refine YQ ?_
  simp only [updateField]
  refine YB (YB (wpAny_load he ?_))
  rw[hd]
  show wpAny _ _ (if 2<vs.size then _ else _) _ _ _
  rw[YM hz]
  refine wpAny_update he ?_
  refine wpAny_throw (h _ (GQ ..) ⟨_,JH _ he ?_,?_⟩)
  ·exact zx (qp hd _)
  ·exact Y0p ..
theorem Q7 {α:Type}{Q:α->Shared->Prop}(hq:Qt A s.heap)
  (h:∀ (h':Heap) (e:Addr),(∀ b o,s.heap.get? b=some o->h'.get? b=some o)->(∃ o,h'.get? e=some o/\o.cls=.type "StopIteration")->E (.ref e) { s with heap:=h' }) :
  wpAny (model prog w) A (newExc (.type "StopIteration") [] >>= fun e=>(raiseNew e:Sem α)) Q E s:=by
 refine YB ?_
 simp only [newExc,newTuple]
 refine YB (JW ?_ (by size_fits))
 refine YB (m:=firstArgMember _ _) (wpAny_of_eq (a:=Value.none) (by first | rfl | (simp only [firstArgMember];rfl)) ?_)
 refine JW ?_ (by size_fits)
 have sz:∀ (o:Obj),(s.heap.push o).objs.size=s.heap.objs.size+1:=fun o=>XL ..
 refine Kz (hq.keeps fun b o hb _=>YA _ (YA _ hb)) (YO _ rfl) rfl (by simp[ownMembersOf]) (fun a ha z=>?_) fun h' sb ho=>?_
 ·rcases hq with q | ⟨b,o,q,hb,_⟩
  ·rw[q] at ha;cases ha
  ·rw[q] at ha
   cases ha
   have:=YH hb
   rw[z,sz] at this
   exact XO _ (zy this)
 ·refine h h' _ (fun b o hb=>?_) ho
  refine sb.extBut b o (fun z=>?_) (YA _ (YA _ hb))
  have:=YH hb
  rw[z,sz] at this
  exact XO _ (zy this)
theorem Qx {it l:Addr}{i:Nat}{items}{Q:Option Value->Shared->Prop}(hq:Qt A s.heap)
  (hit:s.heap.IsListIter it l i) (hl:s.heap.IsList l items) (hx:items[i]?=none)
  (hQ:∀ h',Heap.ExtBut it s.heap h'->Q none { s with heap:=h' }):wpAny (model prog w) A (pyNext (.ref it)) Q E s:=by
 obtain⟨o,ho,hc,hd⟩:=id hit
 obtain⟨ol,hol,_,nl,hdl⟩:=hl
 unfold pyNext
 refine YB (jq (JJ (name:=Str.ofString "__next__") hit.typeIs zO
  (GH zO hit.typeIs entry_listiter_next ?_ (args_listiter_next _))))
 show wpAny _ _ (field (.ref it) 0 >>= _) _ _ s
 refine YB (XH ho hd (x:=.ref l) rfl ?_)
 show wpAny _ _ (if (Value.ref l == Value.none)=true then _ else _) _ _ s
 rw[YF (show ¬ ((Value.ref l == Value.none)=true) from YT)]
 show wpAny _ _ (field (.ref it) 1 >>= _) _ _ s
 refine YB (XH ho hd (x:=.int i 0) rfl ?_)
 show wpAny _ _ (seqItems? (.ref l) >>= _) _ _ s
 refine YB (GD hol hdl ?_)
 simp only [zd,hx]
 refine YB (zP (YB (qd ho hd (by simp) ?_)))
 refine Q7 (hq:=(hq.but ho fun n=>?_)) fun h' e k he=>?_
 ·obtain⟨vs,e1,e2⟩:=n
  rw[hd] at e1
  cases e1
  simp at e2
 obtain⟨oe,h1,h2⟩:=he
 refine YB (jj (T:="StopIteration") (b:=true) ⟨_,h1,h2⟩ Y06 ?_)
 exact YQ (hQ _ fun b o hb e=>k b o ((GQ ..).extBut b o hb e))
theorem Su {it t:Addr}{i:Nat}{items}{Q:Option Value->Shared->Prop}(hq:Qt A s.heap)
  (hit:s.heap.IsTupleIter it t i) (ht:s.heap.IsTuple t items) (hx:items[i]?=none)
  (hQ:∀ h',Heap.ExtBut it s.heap h'->Q none { s with heap:=h' }):wpAny (model prog w) A (pyNext (.ref it)) Q E s:=by
 obtain⟨o,ho,hc,hd⟩:=id hit
 obtain⟨ol,hol,_,nl,hdl⟩:=ht
 unfold pyNext
 refine YB (jq (JJ (name:=Str.ofString "__next__") hit.typeIs JX
  (GH JX hit.typeIs zz ?_ (zq _))))
 show wpAny _ _ (field (.ref it) 0 >>= _) _ _ s
 refine YB (XH ho hd (x:=.ref t) rfl ?_)
 show wpAny _ _ (if (Value.ref t == Value.none)=true then _ else _) _ _ s
 rw[YF (show ¬ ((Value.ref t == Value.none)=true) from YT)]
 show wpAny _ _ (field (.ref it) 1 >>= _) _ _ s
 refine YB (XH ho hd (x:=.int i 0) rfl ?_)
 show wpAny _ _ (seqItems? (.ref t) >>= _) _ _ s
 refine YB (GD hol hdl ?_)
 simp only [zd,hx]
 refine YB (zP (YB (qd ho hd (by simp) ?_)))
 refine Q7 (hq:=(hq.but ho fun n=>?_)) fun h' e k he=>?_
 ·obtain⟨vs,e1,e2⟩:=n
  rw[hd] at e1
  cases e1
  simp at e2
 obtain⟨oe,h1,h2⟩:=he
 refine YB (jj (T:="StopIteration") (b:=true) ⟨_,h1,h2⟩ Y06 ?_)
 exact YQ (hQ _ fun b o hb e=>k b o ((GQ ..).extBut b o hb e))
theorem Sy {it:Addr}{x left step:Int}{Q:Option Value->Shared->Prop}(hq:Qt A s.heap)(hit:IsRangeIter s.heap it x left step)(hleft:left<=0)
  (hQ:∀ h',Heap.ExtBut it s.heap h'->Q none { s with heap:=h' }):wpAny (model prog w) A (pyNext (.ref it)) Q E s:=by
 have hT:s.TypeIs (.ref it) "range_iterator":=⟨_,hit,rfl⟩
 unfold pyNext
 refine YB (jq (JJ (name:=Str.ofString "__next__") hT Y07
  (GH Y07 hT F.entry_range_iterator_next ?_ (F.args_range_iterator_next_1 _))))
 show wpAny _ _ (field (.ref it) 0 >>= _) _ _ s
 refine YB (XH hit rfl (x:=rawInt x) rfl ?_)
 show wpAny _ _ (field (.ref it) 1 >>= _) _ _ s
 refine YB (XH hit rfl (x:=rawInt left) rfl ?_)
 show wpAny _ _ (field (.ref it) 2 >>= _) _ _ s
 refine YB (XH hit rfl (x:=rawInt step) rfl ?_)
 show wpAny _ _ (if left<=0 then _ else _) _ _ s
 rw[YM hleft]
 refine YB (zP ?_)
 refine YB ?_
 refine Q7 (hq:=hq) fun h' e k he=>?_
 obtain⟨oe,h1,h2⟩:=he
 refine YB (jj (T:="StopIteration") (b:=true) ⟨_,h1,h2⟩ Y06 ?_)
 exact YQ (hQ _ fun b o hb e=>k b o e)
theorem Pm {t:Addr}{items:Array Value}{Q:List Value->Shared->Prop}(hq:Qt A s.heap)(ht:IsTup s.heap t items)
  (hQ:∀ h',Heap.ExtBut s.heap.objs.size s.heap h'->Q items.toList { s with heap:=h' }):wpAny (model prog w) A (unpackItems (.ref t) items.size none) Q E s:=by
 have hlt:t≠s.heap.objs.size:=by obtain⟨o,ho,_⟩:=ht;exact XA (YH ho)
 unfold unpackItems
 refine YB ?_
 ·unfold notIterableAtAll
  refine YB (wpAny_specialOf ht.typeIs slot_tuple_iter.lookup ?_)
  refine YQ ?_
  simp only [GX,Y08]
  refine YB (GA (iter_tuple ht ?_))
  refine YB (GA (draw_tuple hlt items.size 0 _ _ ⟨_,YO _ rfl,rfl,rfl⟩ (ht.push _) (by omega) fun h₁ hit₁ hs₁=>?_))
  have hall:List.take items.size (List.drop 0 items.toList)=items.toList:=by
   rw[List.drop_zero];exact YN (by simp)
  rw[hall]
  rw[YF (by simp)]
  have ht₁:IsTup h₁ t items:=(ht.push _).extBut hs₁.extBut hlt
  have kp:∀ b o,s.heap.get? b=some o->h₁.get? b=some o:=fun b o e=>hs₁.extBut b o (fun z=>by have:=YH e;rw[z] at this;exact XO _ this) (YA _ e)
  refine YB (GA (Su (hq.keeps fun b o e _=>kp b o e) hit₁ ht₁ (by simp) fun h₂ he₂=>?_))
  simp only [Option.isSome_none,GX,Y08]
  refine YQ (hQ h₂ fun b o hb e=>he₂ b o hb (kp b o e))
theorem Pl {env:Env}{elts:List Expr}{x1}{pos:Pos}{t:Addr}{items:Array Value}{Q:Unit->Shared->Prop}(hq:Qt A s.heap)(ht:IsTup s.heap t items)
  (hn:(assignEach elts env).length=items.size) (hstar:(assignEach elts env).findIdx? (·.1)=none)
  (h:∀ h',Heap.ExtBut s.heap.objs.size s.heap h'->wpAny (model prog w) A (assignInOrder ((assignEach elts env).map (·.2)) items.toList) Q E { s with heap:=h' }) :
  wpAny (model prog w) A (assign (.Tuple elts x1 pos) env (.ref t)) Q E s:=by
 rw[assign_Tuple]
 refine YB (zv ?_)
 unfold unpack
 rw[hn,hstar]
 exact YB (GA (Pm hq ht h))
end
theorem Walks.listQ {prog:Program}{w:World}{A:Around}{qs:List (Addr × Obj)}(hq:QtP A qs)(I ax:Addr)(hne:ax≠I)(hqs:∀ p∈qs,p.1≠I)(items:Array Value) :
  Walks prog w A I (I::ax::qs.map Prod.fst) [I] items.size (fun i v=>items[i]?=some v) (fun i h=>h.IsListIter I ax i/\h.IsList ax items/\∀ p∈qs,h.get? p.1=some p.2) where
 sub:=fun b hb=>by simp at hb;simp[hb]
 frame:=fun _ _ _ st hk=>⟨st.1.at fun o e=>hk I (by simp) o e,st.2.1.at fun o e=>hk ax (by simp) o e,fun p hp=>hk p.1 (by simp;exact .inr (.inr ⟨p.2,hp⟩)) p.2 (st.2.2 p hp)⟩
 item:=fun i s Q E hi st hQ=>by
  refine wpAny_pyNext_list_item st.1 st.2.1 (x:=items[i]) (by simp[hi]) fun h' hit' hs'=>?_
  exact hQ _ h' s.toks (by simp[hi]) ⟨hit',st.2.1.extBut hs'.extBut hne,fun p hp=>hs'.extBut p.1 p.2 (hqs p hp) (st.2.2 p hp)⟩ fun b o hb e=>hs'.extBut b o (fun h=>hb (by simp[h])) e
 done:=fun s Q E st hQ=>Qx (hq.at st.2.2) st.1 st.2.1 (by simp) fun h' he'=>hQ h' s.toks fun b o hb e=>he' b o (fun h=>hb (by simp[h])) e
 self:=fun _ _ _ _ st hQ=>wpAny_pyIter_listiter st.1 hQ
theorem Qj {prog:Program}{w:World}{A:Around}{I:Addr}{a c:Int}{n:Nat}(i:Nat)(s:Shared)(Q:Option Value->Shared->Prop)(E:Value->Shared->Prop)(hi:i<n)(st:IsRangeIter s.heap I (a+(i:Nat)*c) ((n:Int) - (i:Nat)) c)
  (hQ:∀ v h' tk,(∃ t,v=Value.int (a+i*c) t)->IsRangeIter h' I (a+((i+1:Nat):Int)*c) ((n:Int) - ((i+1:Nat):Int)) c->(∀ b o,b ∉ [I]->s.heap.get? b=some o->h'.get? b=some o)->Q (some v) { s with heap:=h',toks:=tk }) :
  wpAny (model prog w) A (pyNext (.ref I)) Q E s:=by
 refine wpAny_pyNext_range_item st (by omega) fun h' hit' hs'=>?_
 refine hQ _ h' _ ⟨_,rfl⟩ ?_ fun b o hb e=>hs'.extBut b o (fun h=>hb (by simp[h])) e
 have e1:a+((i+1:Nat):Int)*c=a+(i:Int)*c+c:=by push_cast;rw[Int.add_mul,GR,Int.add_assoc]
 have e2:(n:Int) - ((i+1:Nat):Int)=(n:Int) - (i:Int) - 1:=by push_cast;omega
 rw[e1,e2];exact hit'
def QtE (A:Around)(h:Heap)(H:Addr->Option α)(fs:List Addr):Prop:=A.handled=none \/ ∃ a o,A.handled=some (.ref a)/\h.get? a=some o/\NoCtx o/\H a=none/\a ∉ fs/\∀ v,o.data≠.cell v
def qpin (A:Around)(h:Heap):List (Addr × Obj):=match A.handled with
 | some (.ref a)=>match h.get? a with
  | some o=>[(a,o)]
  | none=>[]
 | _=>[]
theorem QtE.pin {A:Around}{h:Heap}{H:Addr->Option α}{fs:List Addr}(q:QtE A h H fs):QtP A (qpin A h):=by
 rcases q with q | ⟨a,o,e,g,n,_⟩
 ·exact .inl q
 ·refine .inr ⟨(a,o),?_,e,n⟩
  unfold qpin
  rw[e]
  dsimp only
  rw[g]
  simp
theorem QtE.mem {A:Around}{h:Heap}{H:Addr->Option α}{fs:List Addr}(q:QtE A h H fs)(p:Addr × Obj)(hp:p∈qpin A h):h.get? p.1=some p.2/\H p.1=none/\p.1 ∉ fs/\∀ v,p.2.data≠.cell v:=by
 rcases q with q | ⟨a,o,e,g,n,h1,h2,h3⟩
 ·unfold qpin at hp
  rw[q] at hp
  cases hp
 ·unfold qpin at hp
  rw[e] at hp
  dsimp only at hp
  rw[g] at hp
  obtain rfl:p=(a,o):=by simpa using hp
  exact⟨g,h1,h2,h3⟩
section
variable {prog:Program}{w:World}{A:Around}{E:Value->Shared->Prop}{s:Shared}
theorem Tm {it l:Addr}{i:Nat}{items}{Q:Value->Shared->Prop}(hq:Qt A s.heap)
  (hit:s.heap.IsListIter it l i) (hl:s.heap.IsList l items) (hx:items[i]?=none)
  (hE:∀ h' e,Heap.ExtBut it s.heap h'->(∃ o,h'.get? e=some o/\o.cls=.type "StopIteration")->E (.ref e) { s with heap:=h' }) :
  wpAny (model prog w) A (Builtin.SmallTypes.nextOf (.ref it)) Q E s:=by
 obtain⟨o,ho,hc,hd⟩:=id hit
 obtain⟨ol,hol,_,nl,hdl⟩:=hl
 unfold Builtin.SmallTypes.nextOf
 refine YB (JJ (name:=Str.ofString "__next__") hit.typeIs zO
  (GH zO hit.typeIs entry_listiter_next ?_ (args_listiter_next _)))
 show wpAny _ _ (field (.ref it) 0 >>= _) _ _ s
 refine YB (XH ho hd (x:=.ref l) rfl ?_)
 show wpAny _ _ (if (Value.ref l == Value.none)=true then _ else _) _ _ s
 rw[YF (show ¬ ((Value.ref l == Value.none)=true) from YT)]
 show wpAny _ _ (field (.ref it) 1 >>= _) _ _ s
 refine YB (XH ho hd (x:=.int i 0) rfl ?_)
 show wpAny _ _ (seqItems? (.ref l) >>= _) _ _ s
 refine YB (GD hol hdl ?_)
 simp only [zd,hx]
 refine YB (zP (YB (qd ho hd (by simp) ?_)))
 refine Q7 (hq:=(hq.but ho fun n=>?_)) fun h' e k he=>?_
 ·obtain⟨vs,e1,e2⟩:=n
  rw[hd] at e1
  cases e1
  simp at e2
 exact hE _ _ (fun b o hb e=>k b o ((GQ ..).extBut b o hb e)) he
end
theorem Draws.listQ {prog:Program}{w:World}{A:Around}{qs:List (Addr × Obj)}(hq:QtP A qs)(it l:Addr)(hne:l≠it)(hqs:∀ p∈qs,p.1≠it)(items:Array Value) :
  Draws prog w A it (it::l::qs.map Prod.fst) items.size (fun i v=>items[i]?=some v) (fun i h=>h.IsListIter it l i/\h.IsList l items/\∀ p∈qs,h.get? p.1=some p.2) where
 live:=fun _ _ st=>let ⟨o,ho,_⟩:=st.1;⟨o,ho⟩
 frame:=fun _ _ _ st hk=>⟨st.1.at fun o e=>hk it (by simp) o e,st.2.1.at fun o e=>hk l (by simp) o e,fun p hp=>hk p.1 (by simp;exact .inr (.inr ⟨p.2,hp⟩)) p.2 (st.2.2 p hp)⟩
 item:=fun i s Q E hi st hQ=>by
  refine wpAny_nextOf_list_item st.1 st.2.1 (x:=items[i]) (by simp[hi]) fun h' hit' hs'=>?_
  exact hQ _ h' s.toks (by simp[hi]) ⟨hit',st.2.1.extBut hs'.extBut hne,fun p hp=>hs'.extBut p.1 p.2 (hqs p hp) (st.2.2 p hp)⟩ hs'
 done:=fun s Q E st hE=>Tm (hq.at st.2.2) st.1 st.2.1 (by simp) hE
section
variable {prog:Program}{w:World}{A:Around}{E:Value->Shared->Prop}{s:Shared}{l:Addr}{xs:Array (Int × Tok)}{qs:List (Addr × Obj)}
theorem Z1s {Q:Value->Shared->Prop}(hp:∀ p∈qs,s.heap.get? p.1=some p.2)(hl:s.heap.IsList l (intItems xs))
  (h:∀ s₂:Shared,s₂={ s with heap:=s.heap.push { cls:=.type "list_iterator",data:=.fields #[.ref l,.int 0 0] } } →
   (s₂.heap.IsListIter s.heap.objs.size l 0/\s₂.heap.IsList l (intItems xs)/\∀ p∈qs,s₂.heap.get? p.1=some p.2)->(∀ b∈s.heap.objs.size::l::qs.map Prod.fst,b<s₂.heap.objs.size)->l≠s.heap.objs.size->(∀ p∈qs,p.1≠s.heap.objs.size)->Q (.ref s.heap.objs.size) s₂) :
  wpAny (model prog w) A (pyIter (.ref l)) Q E s:=by
 refine iter_intList hl fun s₂ e st hb hne=>h s₂ e ⟨st.1,st.2,fun p q=>?_⟩ (fun b m=>?_) hne fun p q=>XA (YH (hp p q))
 ·rw[e]
  exact YA _ (hp p q)
 ·rcases YS.mp m with m | m
  ·exact hb b (by simp[m])
  ·rcases YS.mp m with m | m
   ·exact hb b (by simp[m])
   ·obtain⟨p,q,rfl⟩:=XE.mp m
    rw[e]
    show _<(s.heap.push _).objs.size
    rw[XL]
    exact Nat.lt_succ_of_lt (YH (hp p q))
theorem Z6x {Q:Value->Shared->Prop}(hq:QtP A qs)(hp:∀ p∈qs,s.heap.get? p.1=some p.2)(hl:s.heap.IsList l (intItems xs))(hne:0<xs.size)
  (h:∀ v h' tk,(intItems xs)[argBest (fun i j=>decide (numAt xs i<numAt xs j)) (xs.size - 1)]?=some v->(∀ b o,s.heap.get? b=some o->h'.get? b=some o)->Q v { s with heap:=h',toks:=tk }) :
  wpAny (model prog w) A (call (.builtin "min") [.ref l]) Q E s:=by
 refine call_min_walk (Z1s hp hl fun s₂ e st hfp hlI hqI=>?_)
 subst e
 refine⟨_,_,_,_,_,_,_,rfl,Walks.listQ (A:=A.in1) hq _ l hlI hqI (intItems xs),st,hfp,by simpa [intItems] using hne,CmpOf.ints_lt (numAt xs) (fun _ _=>intItems_at),fun v h' tk hP hk=>?_⟩
 exact h v h' tk (by simpa [intItems] using hP) (old_kept hk)
theorem Z6j {Q:Value->Shared->Prop}(hq:QtP A qs)(hp:∀ p∈qs,s.heap.get? p.1=some p.2)(hl:s.heap.IsList l (intItems xs))
  (h:∀ h' tk t',(∀ b o,s.heap.get? b=some o->h'.get? b=some o)->Q (.int (preSum (numAt xs) xs.size) t') { s with heap:=h',toks:=tk }) :
  wpAny (model prog w) A (call (.builtin "sum") [.ref l]) Q E s:=by
 refine call_sum_walkG (Z1s hp hl fun s₂ e st hfp hlI hqI=>?_)
 subst e
 refine⟨_,_,_,_,_,_,numAt xs,rfl,Walks.listQ (A:=A.in1) hq _ l hlI hqI (intItems xs),st,hfp,(fun _ _=>intItems_at),fun h' tk t' hk=>?_⟩
 have:=h h' tk t' (old_kept hk)
 simpa [intItems] using this
end
theorem Walks.rangeQ {prog:Program}{w:World}{A:Around}{qs:List (Addr × Obj)}(hq:QtP A qs)(I:Addr)(hqs:∀ p∈qs,p.1≠I)(a c:Int)(n:Nat) :
  Walks prog w A I (I::qs.map Prod.fst) [I] n (fun i v=>∃ t,v=.int (a+i*c) t) (fun i h=>IsRangeIter h I (a+(i:Nat)*c) ((n:Int) - (i:Nat)) c/\∀ p∈qs,h.get? p.1=some p.2) where
 sub:=fun b hb=>by simp at hb;simp[hb]
 frame:=fun _ _ _ st hk=>⟨hk I (by simp) _ st.1,fun p hp=>hk p.1 (by simp;exact .inr ⟨p.2,hp⟩) p.2 (st.2 p hp)⟩
 item:=fun i s Q E hi st hQ=>by
  refine Qj i s _ _ hi st.1 fun v h' tk hv st' hk=>hQ v h' tk hv ⟨st',fun p hp=>hk p.1 p.2 (by simp[hqs p hp]) (st.2 p hp)⟩ fun b o hb e=>hk b o hb e
 done:=fun s Q E st hQ=>Sy (hq.at st.2) st.1 (by omega) fun h' he'=>hQ h' s.toks fun b o hb e=>he' b o (fun h=>hb (by simp[h])) e
 self:=fun _ _ _ _ st hQ=>wpAny_pyIter_rangeiter st.1 hQ
section
variable {prog:Program}{w:World}{A:Around}{s:Shared}
theorem Pc {R:Result->Shared->Prop}{r:Addr}{a b c:Int}{t u v:Tok}{n:Nat}{qs:List (Addr × Obj)}(hq:QtP A qs)(hp:∀ p∈qs,s.heap.get? p.1=some p.2)(hr:IsRange s.heap r a b c t u v)(hsmall:Builtin.Range.small a b c=true)
  (hn:Builtin.Range.rangeSize a b c=n) (hlen:n<=2 ^ 24) (S:Addr) (res:Value) (c₀:Nat) (hS:s.heap.get? S=some { cls:=.type "list",data:=.seq #[] c₀ }) (hSq:∀ p∈qs,p.1≠S)
  (hR:∀ h' tk acc' c',(∀ b o,b≠S->s.heap.get? b=some o->h'.get? b=some o)->h'.get? S=some { cls:=.type "list",dict:=none,data:=.seq acc' c',slots:=#[] } →
   ItemsOf (fun i v=>∃ t,v=.int (a+i*c) t) acc' n->R (.ok (.ret res)) { s with heap:=h',toks:=tk }) :
  wpAny (model prog w) A.in1 (Builtin.List.listExtendWith (.ref S) (.ref r) res)
   (fun fin s'=>match fin with | .done f=>R (.ok f) s' | .again c'=>c'.quiet=true/\codeAny (model prog w) A c' R s') (fun e s'=>R (.error e) s') s:=by
 have hSr:S≠r:=fun e=>by rw[e,hr] at hS;simp at hS
 have hSlt:S<s.heap.objs.size:=YH hS
 have hSI:S≠s.heap.objs.size:=XA hSlt
 have hSf:S ∉ s.heap.objs.size::qs.map Prod.fst:=fun hm=>(YS.mp hm).elim hSI fun hm=>by
  obtain⟨p,q,e⟩:=XE.mp hm
  exact hSq p q e
 have W:=(Walks.rangeQ (prog:=prog) (w:=w) (A:=A.in1) hq s.heap.objs.size (fun p q=>XA (YH (hp p q))) a c n).toS
 have key:∀ (h:Heap) (c₁ tk:Nat),IsRangeIter h s.heap.objs.size (a+((0:Nat):Int)*c) ((n:Int) - ((0:Nat):Int)) c->(∀ b o,b≠S->s.heap.get? b=some o->h.get? b=some o) →
   h.get? S=some { cls:=.type "list",data:=.seq #[] c₁ }->codeAny (model prog w) A (.builtin "list.extend.loop" ⟨[.ref S,.ref s.heap.objs.size,res],[]⟩) R { s with heap:=h,toks:=tk }:=by
  intro h c₁ tk hit hk hS₁
  refine codeAny_extend_loopS W (by rw[Y0q];omega) S hSf res n 0 _ #[] c₁ rfl (JY _) ⟨hit,fun p q=>hk p.1 p.2 (hSq p q) (hp p q)⟩ hS₁ (ItemsOf.nil _) fun s' acc' c' hm hS' hacc=>?_
  rw[Moved.eq_with hm]
  refine hR s'.heap s'.toks acc' c' (fun b o hb e=>hm.heap b o (fun hmem=>?_) (hk b o hb e)) hS' hacc
  rcases YS.mp hmem with e' | hmem
  ·exact hb e'
  ·exact absurd (YH e) (by rw[JP.mp hmem];exact XO _)
 unfold Builtin.List.listExtendWith
 refine YB (wpAny_typeOf (T:="range") ⟨_,hr,rfl⟩ ?_)
 have h1:Builtin.List.listSameRef (.ref S) (.ref r)=false:=by simp[Builtin.List.listSameRef,hSr]
 have h2:(Value.type "range" == Value.type "list")=false:=by decide
 have h3:(Value.type "range" == Value.type "tuple")=false:=by decide
 simp only [h1,h2,h3,Bool.or_false,GX,Y08]
 refine YB (wpAny_pyIter_range hr hsmall ?_)
 refine YB (GA (wpAny_hint_range (n:=n) (YA _ hr) hn hlen ?_))
 have hit₁:IsRangeIter (s.heap.push { cls:=.type "range_iterator",data:=.fields #[rawInt a,rawInt (Builtin.Range.rangeSize a b c),rawInt c] }) s.heap.objs.size (a+((0:Nat):Int)*c) ((n:Int) - ((0:Nat):Int)) c:=by
  show IsRangeIter _ _ _ _ _;rw[hn];simpa using YO _ rfl
 have hS₁:=YA { cls:=.type "range_iterator",data:=.fields #[rawInt a,rawInt (Builtin.Range.rangeSize a b c),rawInt c] } hS
 refine wpAny_ite_split (fun _=>?_) (fun _=>YQ ⟨plainId_quiet F.plain_extend_loop _,key _ c₀ _ hit₁ (fun b o _ e=>YA _ e) hS₁⟩)
 refine YB (zP ?_)
 refine YB ?_
 show wpAny _ _ (updateSeq S (·.push .none) >>= fun _=>updateSeq S (·.pop)) _ _ _
 refine YB (Y0L hS₁ rfl ?_)
 have hS₂:=JH (Obj.mapSeq (·.push Value.none)) hS₁ rfl
 refine Y0L (hz:=by seq_fits) hS₂ rfl ?_
 have hS₃:=JH (Obj.mapSeq (·.pop)) hS₂ rfl
 refine YQ ⟨plainId_quiet F.plain_extend_loop _,key _ _ _ ?_ (fun b o hb e=>?_) hS₃⟩
 ·exact (XS _ _ hSI).trans ((XS _ _ hSI).trans hit₁)
 ·exact (XS _ _ (XN hb)).trans ((XS _ _ (XN hb)).trans (YA _ e))
theorem Tq {R:Result->Shared->Prop}{r:Addr}{a b c:Int}{t u v:Tok}{n:Nat}{qs:List (Addr × Obj)}(hq:QtP A qs)(hp:∀ p∈qs,s.heap.get? p.1=some p.2)(hr:IsRange s.heap r a b c t u v)(hsmall:Builtin.Range.small a b c=true)
  (hn:Builtin.Range.rangeSize a b c=n) (hlen:n<=2 ^ 24) (S:Addr) (hS:s.heap.get? S=some { cls:=.type "list",data:=.seq #[] }) (hSq:∀ p∈qs,p.1≠S)
  (hR:∀ h' tk acc' c',(∀ b o,b≠S->s.heap.get? b=some o->h'.get? b=some o)->h'.get? S=some { cls:=.type "list",dict:=none,data:=.seq acc' c',slots:=#[] } →
   ItemsOf (fun i v=>∃ t,v=.int (a+i*c) t) acc' n->R (.ok (.ret .none)) { s with heap:=h',toks:=tk }) :
  wpAny (model prog w) A.in1 (Builtin.«list.__init__» ⟨[.ref S,.ref r],[]⟩)
   (fun fin s'=>match fin with | .done f=>R (.ok f) s' | .again c'=>c'.quiet=true/\codeAny (model prog w) A c' R s') (fun e s'=>R (.error e) s') s:=by
 have hSr:S≠r:=fun e=>by rw[e,hr] at hS;simp at hS
 show wpAny _ _ (do let old <-Builtin.List.listItems (.ref S);Builtin.List.listUpdate (.ref S) (fun _=>#[]);letGo old.toList.reverse;Builtin.List.listExtendWith (.ref S) (.ref r) .none) _ _ s
 refine YB ?_
 unfold Builtin.List.listItems
 refine YB (GD hS rfl (YQ ?_))
 show wpAny _ _ (updateSeq S (fun _=>#[]) >>= fun _=>letGo (#[]:Array Value).toList.reverse >>= fun _=>Builtin.List.listExtendWith (.ref S) (.ref r) .none) _ _ s
 refine YB (Y0L hS rfl ?_)
 have hS₂:=JH (Obj.mapSeq (fun _=>(#[]:Array Value))) hS rfl
 have oth:∀ b o,b≠S->s.heap.get? b=some o->(s.heap.update S (Obj.mapSeq (fun _=>(#[]:Array Value)))).get? b=some o :=
  fun b o hb e=>(XS _ _ (XN hb)).trans e
 refine YB (Y0P ?_)
 refine Pc hq (fun p q=>oth p.1 p.2 (hSq p q) (hp p q)) (oth r _ (XN hSr) hr) hsmall hn hlen S .none _ hS₂ hSq fun h' tk acc' c' hk hS' hacc=>?_
 exact hR h' tk acc' c' (fun b o hb e=>hk b o hb (oth b o hb e)) hS' hacc
end
section
variable {prog:Program}{w:World}{A:Around}{E:Value->Shared->Prop}{s:Shared}
theorem M7 {Q:Value->Shared->Prop}{r:Addr}{a b c:Int}{t u v:Tok}{n:Nat}{qs:List (Addr × Obj)}(hq:QtP A qs)(hp:∀ p∈qs,s.heap.get? p.1=some p.2)(hr:IsRange s.heap r a b c t u v)(hsmall:Builtin.Range.small a b c=true)
  (hn:Builtin.Range.rangeSize a b c=n) (hlen:n<=2 ^ 24)
  (hQ:∀ h' tk acc' c',(∀ b o,s.heap.get? b=some o->h'.get? b=some o) →
   h'.get? s.heap.objs.size=some { cls:=.type "list",dict:=none,data:=.seq acc' c',slots:=#[] }->ItemsOf (fun i v=>∃ t,v=.int (a+i*c) t) acc' n->Q (.ref s.heap.objs.size) { s with heap:=h',toks:=tk }) :
  wpAny (model prog w) A (call (.type "list") [.ref r]) Q E s:=by
 refine callType_codes (Q₁:=fun obj s₁=>obj=.ref s.heap.objs.size/\s₁={ s with heap:=s.heap.push { cls:=.type "list",data:=.seq #[] } }) F.called_list (F.typeCall_list_1 _) F.entry_list_init
  (code_list_new _ ⟨rfl,rfl⟩) fun obj s₁ h₁=>?_
 obtain⟨rfl,rfl⟩:=h₁
 have hS:(s.heap.push { cls:=.type "list",data:=.seq #[] }).get? s.heap.objs.size=some { cls:=.type "list",data:=.seq #[] }:=YO _ rfl
 refine⟨⟨_,hS,rfl⟩,F.args_list_init_2 _ _,Tq (A:=A.in1) hq (fun p q=>YA _ (hp p q)) (YA _ hr) hsmall hn hlen _ hS (fun p q=>XA (YH (hp p q))) fun h' tk acc' c' hk hS' hacc=>?_⟩
 exact⟨rfl,hQ h' tk acc' c' (fun b o e=>hk b o (XA (YH e)) (YA _ e)) hS' hacc⟩
end
end Sb
namespace L2
open PySem PySem.Spec PyProof.Rows
abbrev Key:=Sum Int Str
def keyIs:Key->Value->Bool
 | .inl k,v=>Value.isInt k v
 | .inr x,v=>Value.isStrOf x v
def keyH (w:World):Key->Int
 | .inl k=>hashInt k
 | .inr x=>hashStr w x
theorem Yv:∀ {k:Key} {v:Value},keyIs k v=true->(∃ i t,k=Sum.inl i/\v=Value.int i t) \/ (∃ x t,k=Sum.inr x/\v=Value.str x t)
 | .inl i,v,h=>by
  obtain⟨t,e⟩:=Value.isInt_shape (k:=i) (v:=v) h
  exact .inl ⟨i,t,rfl,e⟩
 | .inr x,v,h=>by
  obtain⟨t,e⟩:=Value.isStrOf_shape (x:=x) (v:=v) h
  exact .inr ⟨x,t,rfl,e⟩
theorem Z66 (a b:Int):decide ((Sum.inl a:Key)=Sum.inl b)=(a == b):=by
 by_cases e:a=b
 ·subst e;simp
 ·have h:¬ (Sum.inl a:Key)=Sum.inl b:=fun q=>e (Sum.inl.inj q)
  rw[JQ h]
  exact (JE.mpr e).symm
theorem Z63 (a b:Str):decide ((Sum.inr a:Key)=Sum.inr b)=decide (a=b):=by
 by_cases e:a=b
 ·subst e;simp
 ·have h:¬ (Sum.inr a:Key)=Sum.inr b:=fun q=>e (Sum.inr.inj q)
  rw[JQ h,JQ e]
theorem Z65 (a:Int)(b:Str):decide ((Sum.inl a:Key)=Sum.inr b)=false:=JQ (fun q=>nomatch q)
theorem Z64 (a:Str)(b:Int):decide ((Sum.inr a:Key)=Sum.inl b)=false:=JQ (fun q=>nomatch q)
def mixKind (prog:Program)(w:World):PySem.KeyKind prog w Key where
 is:=keyIs
 hash:=keyH w
 inj:=fun v a b ha hb=>by
  rcases Yv ha with ⟨i,t,rfl,rfl⟩ | ⟨x,t,rfl,rfl⟩
  ·rcases Yv hb with ⟨j,u,rfl,e⟩ | ⟨y,u,rfl,e⟩
   ·injection e with e1 _;rw[e1]
   ·exact nomatch e
  ·rcases Yv hb with ⟨j,u,rfl,e⟩ | ⟨y,u,rfl,e⟩
   ·exact nomatch e
   ·injection e with e1 _;rw[e1]
 byValue:=fun k v h=>by
  rcases Yv h with ⟨i,t,rfl,rfl⟩ | ⟨x,t,rfl,rfl⟩ <;> rfl
 pyHash:=fun hv h=>by
  rcases Yv hv with ⟨i,t,rfl,rfl⟩ | ⟨x,t,rfl,rfl⟩
  ·exact wpAny_pyHash_int h
  ·exact wpAny_pyHash_str h
 eqBool:=fun hu hv h=>by
  rcases Yv hu with ⟨i,t,rfl,rfl⟩ | ⟨x,t,rfl,rfl⟩
  ·rcases Yv hv with ⟨j,u,rfl,rfl⟩ | ⟨y,u,rfl,rfl⟩
   ·rw[Z66] at h;exact wpAny_eqBool_int h
   ·rw[Z65] at h;exact SeqAt.EqAt.int_str i t y u _ _ _ _ h
  ·rcases Yv hv with ⟨j,u,rfl,rfl⟩ | ⟨y,u,rfl,rfl⟩
   ·rw[Z64] at h;exact SeqAt.EqAt.str_int x t j u _ _ _ _ h
   ·rw[Z63] at h;exact wpAny_eqBool_str h
 «strs»:=fun k x t v h=>by
  rcases Yv h with ⟨i,u,rfl,e⟩ | ⟨y,u,rfl,e⟩
  ·exact nomatch e
  ·injection e with e1 _
   subst e1
   cases v <;> rfl
end L2
namespace L2
open PySem PySem.Spec PyProof.Rows
inductive V where
 | non | bl (b:Bool) | int (i:Int) | str (x:Str) | byt (b:Array UInt8) | flt (b:UInt64) | ref (a:Addr) | ty (n:String)
 deriving DecidableEq
def RelV:V->Value->Prop
 | .non,u=>u=Value.none
 | .bl b,u=>u=Value.bool b
 | .int i,u=>∃ t,u=Value.int i t
 | .str x,u=>∃ t,u=Value.str x t
 | .byt b,u=>∃ t,u=Value.bytes b t
 | .flt b,u=>∃ t,u=Value.float b t
 | .ref a,u=>u=Value.ref a
 | .ty n,u=>u=Value.type n
abbrev Vals:List V->List Value->Prop:=Paired RelV
theorem Vals.length {xs:List V}{us:List Value}(r:Vals xs us):xs.length=us.length:=JK r
theorem Vals.get:∀ {xs:List V} {us:List Value} {i:Nat} {x:V},Vals xs us->xs[i]?=some x->∃ u,us[i]?=some u/\RelV x u
 | _,_,_,_,.nil,e=>by simp at e
 | _,_,0,_,.cons r _,e=>by simp at e;subst e;exact⟨_,rfl,r⟩
 | _,_,i+1,x,.cons _ t,e=>by
  obtain⟨u,h1,h2⟩:=Vals.get (i:=i) (x:=x) t (by simpa using e)
  exact⟨u,by simpa using h1,h2⟩
theorem Vals.set {x:V}{u:Value}(r:RelV x u):∀ {xs:List V} {us:List Value} (i:Nat),Vals xs us->Vals (xs.set i x) (us.set i u)
 | _,_,_,.nil=>.nil
 | _,_,0,.cons _ t=>.cons r t
 | _,_,i+1,.cons q t=>.cons q (Vals.set r i t)
theorem Vals.append:∀ {xs ys:List V} {us ws:List Value},Vals xs us->Vals ys ws->Vals (xs++ys) (us++ws)
 | _,_,_,_,.nil,s=>s
 | _,_,_,_,.cons r t,s=>.cons r (Vals.append t s)
theorem Vals.take:∀ {xs:List V} {us:List Value} (n:Nat),Vals xs us->Vals (xs.take n) (us.take n)
 | _,_,0,_=>.nil
 | _,_,_+1,.nil=>.nil
 | _,_,n+1,.cons r t=>.cons r (Vals.take n t)
theorem Vals.drop:∀ {xs:List V} {us:List Value} (n:Nat),Vals xs us->Vals (xs.drop n) (us.drop n)
 | _,_,0,r=>r
 | _,_,_+1,.nil=>.nil
 | _,_,n+1,.cons _ t=>Vals.drop n t
def RelO:Option V->Option Value->Prop
 | some v,some u=>RelV v u
 | none,none=>True
 | _,_=>False
def KV {κ:Type}:List (κ × V)->List (κ × Value)->Prop:=Paired fun (p:κ × V) (q:κ × Value)=>p.1=q.1/\RelV p.2 q.2
def kV:Key->V
 | .inl i=>.int i
 | .inr x=>.str x
inductive HO where
 | lst (xs:List V)
 | tup (xs:List V)
 | dK (kvs:List (Key × V)) | dT (kvs:List (List Key × V))
 | set (S:Int->Bool) (n:Nat)
 | ins (C dx:Addr) (fs:List (Str × V))
 | own (x:Addr)
 | xd (fs:List (Str × V))
 | met (f x:Addr)
 | rng (lo hi:Int)
 | frz (o:Obj) (u:HO)
 | tbl (ps:Array Value)
 | ext (φ:Heap->Prop)
abbrev Hp:=Addr->Option HO
def upd (H:Hp)(a:Addr)(o:HO):Hp:=fun b=>if b=a then some o else H b
theorem Zc {H:Hp}{a:Addr}{o:HO}:upd H a o a=some o:=by unfold upd;rw[YM rfl]
theorem Zf {H:Hp}{a b:Addr}{o:HO}(h:b≠a):upd H a o b=H b:=by unfold upd;rw[YF h]
theorem Z4u {H:Hp}{a b:Addr}{o u:HO}(h:H a=some o)(h':H b=some u)(d:o≠u):a≠b:=by
 intro e;subst e;rw[h] at h';exact d (YK h')
theorem Ze {H:Hp}{a b:Addr}{o:HO}(h:H a=some o)(h':H b=none):a≠b:=by
 intro e;subst e;rw[h] at h';cases h'
section
variable (P:Program)(w:World)
def ObjOk (H:Hp)(h:Heap)(a:Addr):HO->Prop
 | .lst xs=>xs.length<=sizeLine/\∃ (its:List Value) (n:Nat),Vals xs its/\h.get? a=some { cls:=.type "list",data:=.seq its.toArray n }
 | .tup xs=>xs.length<=sizeLine/\∃ its:List Value,Vals xs its/\IsTup h a its.toArray
 | .dK kvs=>kvs.length<=sizeLine/\(a == sysModules)=false/\∃ vs,KV kvs vs/\h.DictOf (mixKind P w) a vs
 | .dT kvs=>kvs.length<=sizeLine/\(a == sysModules)=false/\∃ xs:List (List Key × Addr × Value),
   Paired (fun (p:List Key × V) (q:List Key × Addr × Value)=>p.1=q.1/\H q.2.1=some (.tup (p.1.map kV))/\RelV p.2 q.2.2) kvs xs ∧
   ∃ o es ep,h.get? a=some o/\o.ExactDict/\o.data=.dict es ep/\es.toList=xs.map (entryOfKey (tupleKind (mixKind P w)))/\(xs.map (·.1)).Nodup
 | .set S n=>h.SetOf (intKind P w) a S n
 | .ins C dx fs=>H dx=some (.own a)/\fs.length<=1000/\dx≠a/\h.get? a=some (W.instObj C dx) ∧
   ∃ mA,h.Ns1 dx mA/\(∀ f,RelO (fs.lookup f) (mA f))/\PySem.Within mA (fs.map (·.1))
 | .own _=>∃ o,h.get? a=some o
 | .xd fs=>∃ mA,h.Ns1 a mA/\∀ f,RelO (fs.lookup f) (mA f)
 | .rng lo hi=>∃ t u v,h.get? a=some { cls:=.type "range",data:=.fields #[.int lo t,.int hi u,.int 1 v] }
 | .frz o u=>h.get? a=some o/\ObjOk H h a u
 | .tbl ps=>h.get? a=some { cls:=.none,data:=.fields ps }
 | .met f x=>h.get? a=some (W.methodObj (.ref f) (.ref x))
 | .ext φ=>φ h/\(∃ o,h.get? a=some o)/\∀ h1 h2:Heap,φ h1->(∀ o,h1.get? a=some o->h2.get? a=some o)->φ h2
def HOk (H:Hp)(h:Heap):Prop:=∀ a o,H a=some o->ObjOk P w H h a o
end
section
variable {P:Program}{w:World}{H H':Hp}{h h':Heap}{a:Addr}{o:HO}
theorem ObjOk.lt (x:ObjOk P w H h a o):a<h.objs.size:=by
 cases o with
 | lst xs=>obtain⟨_,_,_,_,e⟩:=x;exact YH e
 | tup xs=>obtain⟨_,_,_,p⟩:=x;exact p.lt
 | dK kvs=>obtain⟨_,_,_,_,o,_,_,e,_⟩:=x;exact YH e
 | dT kvs=>obtain⟨_,_,_,_,o,_,_,e,_⟩:=x;exact YH e
 | set S n=>obtain⟨o,_,_,_,e,_⟩:=x;exact YH e
 | ins C dx fs=>obtain⟨_,_,_,e,_⟩:=x;exact YH e
 | own y=>obtain⟨_,e⟩:=x;exact YH e
 | xd fs=>obtain⟨_,⟨_,_,_,e,_⟩,_⟩:=x;exact YH e
 | rng lo hi=>obtain⟨_,_,_,e⟩:=x;exact YH e
 | frz ob u=>obtain⟨e,_⟩:=x;exact YH e
 | tbl ps=>exact YH (show h.get? a=some _ from x)
 | met f y=>exact YH (show h.get? a=some _ from x)
 | ext φ=>obtain⟨_,⟨_,e⟩,_⟩:=x;exact YH e
theorem Paired.mapP {α β:Type}{F G:α->β->Prop}:∀ {l₁:List α} {l₂:List β},Paired F l₁ l₂->(∀ a b,F a b->G a b)->Paired G l₁ l₂
 | _,_,.nil,_=>.nil
 | _,_,.cons r t,f=>.cons (f _ _ r) (Paired.mapP t f)
theorem ObjOk.stay (x:ObjOk P w H h a o)(k:∀ b u,(b=a \/ H b=some (.own a))->h.get? b=some u->h'.get? b=some u)
  (ho:∀ b,H b=some (.own a)->H' b=some (.own a)) (ht:∀ b xs,H b=some (.tup xs)->H' b=some (.tup xs)):ObjOk P w H' h' a o:=by
 induction o with
 | lst xs=>obtain⟨z,its,n,r,e⟩:=x;exact⟨z,its,n,r,k _ _ (.inl rfl) e⟩
 | tup xs=>obtain⟨z,its,r,ob,e,c⟩:=x;exact⟨z,its,r,ob,k _ _ (.inl rfl) e,c⟩
 | dK kvs=>obtain⟨z,y,vs,r,ob,es,ep,e,c⟩:=x;exact⟨z,y,vs,r,ob,es,ep,k _ _ (.inl rfl) e,c⟩
 | dT kvs =>
  obtain⟨z,y,xs,r,ob,es,ep,e,c⟩:=x
  exact⟨z,y,xs,Paired.mapP r fun p q z=>⟨z.1,ht _ _ z.2.1,z.2.2⟩,ob,es,ep,k _ _ (.inl rfl) e,c⟩
 | set S n=>obtain⟨ob,es,ep,t,e,c⟩:=x;exact⟨ob,es,ep,t,k _ _ (.inl rfl) e,c⟩
 | ins C dx fs =>
  obtain⟨d,z,ne,e,mA,⟨od,es,ep,e2,c⟩,r⟩:=x
  exact⟨ho _ d,z,ne,k _ _ (.inl rfl) e,mA,⟨od,es,ep,k _ _ (.inr d) e2,c⟩,r⟩
 | own y=>obtain⟨ob,e⟩:=x;exact⟨ob,k _ _ (.inl rfl) e⟩
 | xd fs=>obtain⟨mA,⟨od,es,ep,e,c⟩,r⟩:=x;exact⟨mA,⟨od,es,ep,k _ _ (.inl rfl) e,c⟩,r⟩
 | rng lo hi=>obtain⟨t,u,v,e⟩:=x;exact⟨t,u,v,k _ _ (.inl rfl) e⟩
 | frz ob u ih=>obtain⟨e,q⟩:=x;exact⟨k _ _ (.inl rfl) e,ih q⟩
 | tbl ps =>
  have e:h.get? a=some { cls:=.none,data:=.fields ps }:=x
  show h'.get? a=some { cls:=.none,data:=.fields ps }
  exact k a _ (.inl rfl) e
 | met f y =>
  have e:h.get? a=some (W.methodObj (.ref f) (.ref y)):=x
  show h'.get? a=some (W.methodObj (.ref f) (.ref y))
  exact k a _ (.inl rfl) e
 | ext φ=>obtain⟨p,⟨o,e⟩,st⟩:=x;exact⟨st _ _ p fun o q=>k _ _ (.inl rfl) q,⟨o,k _ _ (.inl rfl) e⟩,st⟩
theorem HOk.lt (x:HOk P w H h)(e:H a=some o):a<h.objs.size:=(x a o e).lt
theorem HOk.fresh (x:HOk P w H h)(e:h.objs.size<=a):H a=none:=by
 cases q:H a with
 | none=>rfl
 | some u=>exact absurd (YW (x.lt q) e) (XO _)
theorem HOk.kept (x:HOk P w H h)(k:∀ b u,h.get? b=some u->h'.get? b=some u):HOk P w H h':=fun a o e =>
 (x a o e).stay (fun b u _ q=>k b u q) (fun _ q=>q) fun _ _ q=>q
theorem HOk.laid (x:HOk P w H h)(k:∀ b u,h.get? b=some u->h'.get? b=some u)(hp:h.objs.size<=a)(new:ObjOk P w (upd H a o) h' a o):HOk P w (upd H a o) h':=fun b u e=>by
 have hn:=x.fresh hp
 by_cases hb:b=a
 ·subst hb;rw[Zc] at e;cases e;exact new
 ·rw[Zf hb] at e
  exact (x b u e).stay (fun c v _ q=>k c v q) (fun c q=>by rw[Zf (Ze q hn)];exact q) fun c xs q=>by rw[Zf (Ze q hn)];exact q
end
def Rd (H:Hp)(a:Addr)(u:HO):Prop:=H a=some u \/ ∃ o,H a=some (.frz o u)
theorem Rd.ok {P:Program}{w:World}{H:Hp}{h:Heap}{a:Addr}{u:HO}(r:Rd H a u)(x:HOk P w H h):ObjOk P w H h a u:=by
 rcases r with r | ⟨o,r⟩
 ·exact x a u r
 ·obtain⟨_,q⟩:=x a _ r
  exact q
def Mut:Option HO->Prop
 | some (.lst _)=>True
 | some (.dK _)=>True
 | some (.dT _)=>True
 | some (.set _ _)=>True
 | some (.ins _ _ _)=>True
 | some (.ext _)=>True
 | _=>False
section
variable {P:Program}{w:World}{H:Hp}{h h':Heap}{x e:Addr}{o':HO}
theorem HOk.write (ok:HOk P w H h)(mu:Mut (H x))(he:e=x \/ H e=some (.own x))(k:∀ b u,b≠e->h.get? b=some u->h'.get? b=some u)(heo:∃ u,h'.get? e=some u)
  (new:ObjOk P w (upd H x o') h' x o'):HOk P w (upd H x o') h':=fun b u q=>by
 have nown:∀ c y,H c=some (.own y)->c≠x:=fun c y r z=>by subst z;rw[r] at mu;exact mu
 have ntup:∀ c xs,H c=some (.tup xs)->c≠x:=fun c xs r z=>by subst z;rw[r] at mu;exact mu
 by_cases hb:b=x
 ·subst hb;rw[Zc] at q;cases q;exact new
 ·rw[Zf hb] at q
  by_cases hbe:b=e
  ·have q':H b=some (.own x):=by
    rcases he with z | z
    ·exact absurd (hbe.trans z) hb
    ·rw[hbe];exact z
   rw[q] at q';cases q'
   obtain⟨v,hv⟩:=heo
   exact⟨v,by rw[hbe];exact hv⟩
  ·refine (ok b u q).stay (fun c v hc r=>k c v ?_ r) (fun c r=>by rw[Zf (nown c b r)];exact r) fun c xs r=>by rw[Zf (ntup c xs r)];exact r
   rcases hc with rfl | hc
   ·exact hbe
   ·rintro rfl
    rcases he with z | z
    ·exact nown c b hc z
    ·rw[hc] at z;cases z;exact hb rfl
end
structure Un (fs ex:List Addr)(H H':Hp)(h h':Heap):Prop where
 keep:∀ b o,h.get? b=some o->H b=none->b ∉ fs->b ∉ ex->h'.get? b=some o
 slot:∀ b o,h.get? b=some o->H b=none->b∈fs->b ∉ ex->∃ sl,h'.get? b=some { o with slots:=sl }
 free:∀ b o,h.get? b=some o->H b=none->b ∉ ex->H' b=none
 there:∀ b o,h.get? b=some o->b ∉ ex->∃ o',h'.get? b=some o'
 tups:∀ b xs,H b=some (.tup xs)->H' b=some (.tup xs)
 frzs:∀ b o u,H b=some (.frz o u)->H' b=some (.frz o u)
 tbls:∀ b ps,H b=some (.tbl ps)->∃ more,H' b=some (.tbl (ps++more))
section
variable {fs fs' ex ex':List Addr}{H H1 H2:Hp}{h h1 h2 h':Heap}{a x e:Addr}{o:HO}
theorem Un.any (u:Un fs ex H H1 h h1){b:Addr}{ob:Obj}(q:h.get? b=some ob)(n:H b=none)(hx:b ∉ ex):∃ sl,h1.get? b=some { ob with slots:=sl }:=by
 by_cases hb:b∈fs
 ·exact u.slot b ob q n hb hx
 ·exact⟨ob.slots,u.keep b ob q n hb hx⟩
theorem Un.kept (k:∀ b u,h.get? b=some u->h'.get? b=some u):Un fs ex H H h h' :=
 ⟨fun b ob q _ _ _=>k b ob q,fun b ob q _ _ _=>⟨ob.slots,k b ob q⟩,fun _ _ _ n _=>n,fun b ob q _=>⟨ob,k b ob q⟩,fun _ _ q=>q,fun _ _ _ q=>q,fun _ ps q=>⟨#[],by rw[q];simp⟩⟩
theorem Un.refl:Un fs ex H H h h:=Un.kept fun _ _ q=>q
theorem Un.laid (k:∀ b u,h.get? b=some u->h'.get? b=some u)(hp:h.objs.size<=a)(hn:H a=none):Un fs ex H (upd H a o) h h' where
 keep:=fun b u q _ _ _=>k b u q
 slot:=fun b u q _ _ _=>⟨u.slots,k b u q⟩
 free:=fun b u q n _=>by rw[Zf (XA (YW (YH q) hp))];exact n
 there:=fun b u q _=>⟨u,k b u q⟩
 tups:=fun b xs q=>by rw[Zf (Ze q hn)];exact q
 frzs:=fun b u xs q=>by rw[Zf (Ze q hn)];exact q
 tbls:=fun b ps q=>⟨#[],by rw[Zf (Ze q hn),q];simp⟩
theorem Un.write (mu:Mut (H x))(he:e=x \/ H e=some (.own x))(k:∀ b u,b≠e->h.get? b=some u->h'.get? b=some u)(heo:∃ u,h'.get? e=some u):Un fs ex H (upd H x o) h h':=by
 have hx:∀ b,H b=none->b≠x:=fun b n z=>by subst z;rw[n] at mu;exact mu
 have hb:∀ b,H b=none->b≠e:=fun b n z=>by
  subst z
  rcases he with r | r
  ·exact hx b n r
  ·rw[n] at r;cases r
 have hm:∀ b u,H b=some u->¬ Mut (some u)->b≠x:=fun b u q nm z=>by subst z;rw[q] at mu;exact nm mu
 refine⟨fun b u q n _ _=>k b u (hb b n) q,fun b u q n _ _=>⟨u.slots,k b u (hb b n) q⟩,fun b u q n _=>by rw[Zf (hx b n)];exact n,fun b u q _=>?_,
  fun b xs q=>by rw[Zf (hm b _ q fun z=>z)];exact q,fun b u xs q=>by rw[Zf (hm b _ q fun z=>z)];exact q,fun b ps q=>⟨#[],by rw[Zf (hm b _ q fun z=>z),q];simp⟩⟩
 by_cases hbe:b=e
 ·subst hbe;exact heo
 ·exact⟨u,k b u hbe q⟩
end
def trk (h:Heap)(H:Hp):List Addr:=(List.range h.objs.size).filter fun a=>(H a).isSome
def hidT (h:Heap)(H:Hp):Heap:=W.hideAll h (trk h H)
theorem Cm (h:Heap)(H:Hp):(hidT h H).objs.size=h.objs.size:=W.hideAll_size _ _
theorem Z1w {h:Heap}{H:Hp}{b:Addr}{o:Obj}(e:h.get? b=some o)(n:H b=none):(hidT h H).get? b=some o :=
 Y0w _ e fun hm=>by
  have q:(H b).isSome=true:=(zI.mp hm).2
  rw[n] at q;simp at q
theorem Z3y {h:Heap}{H:Hp}{b:Addr}{o:Obj}(e:(hidT h H).get? b=some o):h.get? b=some o/\H b=none:=by
 have e':h.get? b=some o:=W.of_hideAll (trk h H) e
 refine⟨e',?_⟩
 cases q:H b with
 | none=>rfl
 | some x =>
  have hm:b∈trk h H:=zI.mpr ⟨GK.mpr (YH e'),by simp[q]⟩
  have z:(hidT h H).get? b=none:=W.hideAll_none (trk h H) hm
  rw[z] at e;cases e
def allNews (g h:Heap)(L:Addr):List (Addr × Obj):=(List.range h.objs.size).filterMap fun a=>if a=L \/ (g.get? a).isSome=true then none else (h.get? a).map fun o=>(a,o)
def rest (g h:Heap)(L d:Addr):List (Addr × Obj):=(allNews g h L).filter fun p=>decide (p.1≠d)
end L2
namespace L2
open PySem PySem.Spec PyProof.Rows
structure Mod (K:W.Frag)(mg:Str->Option Value)(base:Heap):Prop where
 kin:K.In base
 glob:base.Ns mainGlobals mg
 blt:∃ mb,base.Ns builtinsNs mb/\∀ x:Str,x≠"__name__"->mb x=bootBuiltins x
 nolimit:base.NoLimit
structure Cx where
 prog:Program
 w:World
 K:W.Frag
 mg:Str->Option Value
 base:Heap
 A:Around
 N:List Str
 s₀:Shared
 H₀:Hp
 env:Env
 outer:List Env
 stack:List Env
 ex:List Addr
 fn:Str->Bool
 calm:Bool
 pn:List (Addr × Obj)
 xe:Value->Shared->Prop
def frs (l:List Env):List Addr:=l.filterMap (·.frame)
abbrev Cx.fs (X:Cx):List Addr:=frs X.outer
def Vis (sc:Scope)(x:Str):Prop:=sc.names.lookup x=some .local \/ sc.names.lookup x=some .cell \/ sc.names.lookup x=some .free
def Loc (sc:Scope)(x:Str):Prop:=sc.names.lookup x=some .local \/ sc.names.lookup x=some .cell
def Look (env:Env)(h:Heap)(m:Str->Option Value)(x:Str)(u:Value):Prop :=
 (env.kindOf x=some .local/\m x=some u) \/ ((env.kindOf x=some .cell \/ env.kindOf x=some .free)/\∃ c,env.cells.lookup x=some c/\h.IsCell c (some u))
structure Cx.Ok (X:Cx):Prop where
 mod:Mod X.K X.mg X.base
 kind:X.env.scope.kind=.function
 glob:X.env.globals=mainGlobals
 blt:X.env.builtins=builtinsNs
 above:X.s₀.heap.objs.size<=X.env.locals
 inj:∀ x y c,X.env.cells.lookup x=some c->X.env.cells.lookup y=some c->x=y
 has:∀ x,(X.env.kindOf x=some .cell \/ X.env.kindOf x=some .free)->∃ c,X.env.cells.lookup x=some c
 cab:∀ x c,X.fn x=true->X.env.cells.lookup x=some c->X.s₀.heap.objs.size<=c
 hd:X.calm=true->Sb.QtP X.A X.pn
 frames:X.A.frames=some X.stack
 stk:X.stack=X.outer \/ (X.stack=X.env::X.outer/\X.env.frame=some X.env.locals)
 exf:∀ b∈X.ex,b≠X.env.locals/\∀ x c,X.env.cells.lookup x=some c->c≠b
 bs:∀ b o,X.base.get? b=some o->X.s₀.heap.get? b=some o/\X.H₀ b=none
 bsz:X.base.objs.size<=X.s₀.heap.objs.size
 noex:∀ b o,X.base.get? b=some o->b ∉ X.ex
 exfs:∀ b∈X.ex,b ∉ X.fs
 funs:X.s₀.heap.FunFrames X.base X.outer
 frf:∀ b∈X.fs,X.H₀ b=none
structure Inv (X:Cx)(pins:List (Addr × Obj))(σ:List (Option V))(H:Hp)(s:Shared):Prop where
 ok:X.Ok
 os:s.os=X.s₀.os
 bare:AllBare s.gens
 base:Un X.fs X.ex X.H₀ H X.s₀.heap s.heap
 loc:∃ m,s.heap.Ns X.env.locals m/\∀ (i:Nat) (x:Str) (v:V),X.N[i]?=some x->σ[i]?=some (some v)->Vis X.env.scope x->∃ u,RelV v u/\Look X.env s.heap m x u
 cell:∀ x c,X.env.cells.lookup x=some c->∃ v,s.heap.IsCell c v
 free:H X.env.locals=none
 freeC:∀ x c,X.env.cells.lookup x=some c->H c=none
 pin:∀ p∈X.pn++pins,s.heap.get? p.1=some p.2/\H p.1=none/\p.1≠X.env.locals/\p.1 ∉ X.fs/\∀ v,p.2.data≠.cell v
 hok:HOk X.prog X.w H s.heap
 len:σ.length=X.N.length
theorem Inv.qt {X:Cx}{pins:List (Addr × Obj)}{σ:List (Option V)}{H:Hp}{s:Shared}(I:Inv X pins σ H s)(hc:X.calm=true):Sb.Qt X.A s.heap:=(I.ok.hd hc).at fun p hp=>(I.pin p (YJ _ hp)).1
section
variable {X:Cx}{pins:List (Addr × Obj)}{σ:List (Option V)}{H H':Hp}{s:Shared}{h':Heap}
theorem Cx.Ok.nofr (ok:X.Ok){b:Addr}{o:Obj}(e:X.base.get? b=some o):b ∉ X.fs:=fun hb=>by
 have:=(ok.funs.mem hb).1
 rw[e] at this;cases this
theorem Inv.bs (I:Inv X pins σ H s):∀ b o,X.base.get? b=some o->s.heap.get? b=some o/\H b=none:=fun b o e =>
 ⟨I.base.keep b o (I.ok.bs b o e).1 (I.ok.bs b o e).2 (I.ok.nofr e) (I.ok.noex b o e),I.base.free b o (I.ok.bs b o e).1 (I.ok.bs b o e).2 (I.ok.noex b o e)⟩
theorem Inv.bk (I:Inv X pins σ H s):∀ b o,X.base.get? b=some o->s.heap.get? b=some o:=fun b o e=>(I.bs b o e).1
theorem Inv.mod (I:Inv X pins σ H s):Mod X.K X.mg X.base:=I.ok.mod
theorem Inv.kIn (I:Inv X pins σ H s):X.K.In s.heap:=I.ok.mod.kin.keeps I.bk
theorem Inv.lt (I:Inv X pins σ H s):X.env.locals<s.heap.objs.size:=let ⟨_,hn,_⟩:=I.loc;hn.lt
theorem Inv.sz (I:Inv X pins σ H s):X.s₀.heap.objs.size<=s.heap.objs.size:=XQ I.ok.above (JI I.lt)
theorem Inv.nofs (I:Inv X pins σ H s){a:Addr}(h:s.heap.objs.size<=a):a ∉ X.fs:=fun hb=>by
 obtain⟨_,o,ho,_⟩:=I.ok.funs.mem hb
 exact absurd (YW (YH ho) (XQ I.sz h)) (XO _)
theorem Inv.cne (I:Inv X pins σ H s):∀ x c,X.env.cells.lookup x=some c->c≠X.env.locals:=fun x c e z=>by
 obtain⟨v,o,ho,hd⟩:=I.cell x c e
 obtain⟨m,⟨o',es,ep,ho',hd',_⟩,_⟩:=I.loc
 rw[z,ho'] at ho;cases ho;rw[hd'] at hd;cases hd
theorem Inv.funs (I:Inv X pins σ H s):s.heap.FunFrames X.base X.outer:=by
 have all:∀ (l:List Env),(∀ b∈frs l,b∈X.fs)->X.s₀.heap.FunFrames X.base l->s.heap.FunFrames X.base l:=by
  intro l
  induction l with
  | nil=>intro _ _;trivial
  | cons env r ih =>
   intro hs hl
   obtain⟨hk,⟨L,o,hf,hn,ho,hd⟩,hr⟩:=hl
   have hL:L∈X.fs:=hs L (by unfold frs;rw[Y00,hf];exact XC)
   obtain⟨sl,e⟩:=I.base.slot L o ho (I.ok.frf L hL) hL fun z=>I.ok.exfs L z hL
   exact⟨hk,⟨L,_,hf,hn,e,hd⟩,ih (fun b hb=>hs b (by unfold frs;rw[Y00,hf];exact YV _ hb)) hr⟩
 exact all X.outer (fun _ hb=>hb) I.ok.funs
theorem Inv.stack (I:Inv X pins σ H s):s.heap.FunFrames X.base X.stack:=by
 rcases I.ok.stk with e | ⟨e,hf⟩
 ·rw[e];exact I.funs
 ·rw[e]
  obtain⟨m,hn,_⟩:=I.loc
  refine .cons (by rw[I.ok.kind];decide) hf hn ?_ I.funs
  exact Heap.get?_none_of_le (XQ I.ok.bsz I.ok.above)
theorem Inv.stkSub (I:Inv X pins σ H s):∀ b∈frs X.stack,b∈X.env.locals::X.fs:=fun b hb=>by
 rcases I.ok.stk with e | ⟨e,hf⟩
 ·rw[e] at hb;exact YV _ hb
 ·rw[e] at hb
  unfold frs at hb
  rw[Y00,hf] at hb
  exact hb
theorem Inv.stkFree (I:Inv X pins σ H s):∀ b∈frs X.stack,H b=none:=fun b hb=>by
 rcases YS.mp (I.stkSub b hb) with e | hb
 ·rw[e];exact I.free
 ·obtain⟨_,o,ho,_⟩:=I.ok.funs.mem hb
  exact I.base.free b o ho (I.ok.frf b hb) fun z=>I.ok.exfs b z hb
theorem Inv.step {g':Array GenState}{t':Nat}{d':Drawn}{ch:List Addr}(I:Inv X pins σ H s)
  (hch:∀ b∈ch,(b∈X.ex \/ X.s₀.heap.objs.size<=b)/\b≠X.env.locals/\(∀ x c,X.env.cells.lookup x=some c->c≠b)/\∀ p∈X.pn++pins,p.1≠b)
  (keep:∀ b o,b≠X.env.locals->b ∉ X.fs->b ∉ ch->s.heap.get? b=some o->H b=none->h'.get? b=some o)
  (slot:∀ b o,b≠X.env.locals->b∈X.fs->b ∉ ch->s.heap.get? b=some o->H b=none->∃ sl,h'.get? b=some { o with slots:=sl }) (free:∀ b o,b ∉ ch->s.heap.get? b=some o->H b=none->H' b=none)
  (there:∀ b o,b ∉ ch->s.heap.get? b=some o->∃ o',h'.get? b=some o')
  (tups:∀ b xs,H b=some (.tup xs)->H' b=some (.tup xs)) (frzs:∀ b o u,H b=some (.frz o u)->H' b=some (.frz o u)) (tbls:∀ b ps,H b=some (.tbl ps)->∃ more,H' b=some (.tbl (ps++more)))
  (ns:∀ m,s.heap.Ns X.env.locals m->h'.Ns X.env.locals m) (hok:HOk X.prog X.w H' h') (hg:AllBare g') :
  Inv X pins σ H' { s with heap:=h',gens:=g',drawn:=d',toks:=t' }:=by
 have neL:∀ b o,X.s₀.heap.get? b=some o->b≠X.env.locals:=fun b o e=>XA (YW (YH e) I.ok.above)
 have neC:∀ b o,X.s₀.heap.get? b=some o->b ∉ X.ex->b ∉ ch:=fun b o e hx hb=>by
  rcases (hch b hb).1 with z | z
  ·exact hx z
  ·exact absurd (YW (YH e) z) (XO _)
 have cellK:∀ x c,X.env.cells.lookup x=some c->∀ v,s.heap.IsCell c v->h'.IsCell c v:=fun x c e v ⟨o,ho,hd⟩=>by
  have nch:c ∉ ch:=fun z=>(hch c z).2.2.1 x c e rfl
  by_cases hc:c∈X.fs
  ·obtain⟨sl,q⟩:=slot c o (I.cne x c e) hc nch ho (I.freeC x c e)
   exact⟨_,q,hd⟩
  ·exact⟨o,keep c o (I.cne x c e) hc nch ho (I.freeC x c e),hd⟩
 refine⟨I.ok,I.os,hg,⟨fun b o e n hb hx=>?_,fun b o e n hb hx=>?_,fun b o e n hx=>?_,fun b o e hx=>?_,fun b xs e=>tups b xs (I.base.tups b xs e),fun b o xs e=>frzs b o xs (I.base.frzs b o xs e),fun b ps e=>?_⟩,?_,fun x c e=>?_,?_,fun x c e=>?_,fun p hp=>?_,hok,I.len⟩
 ·exact keep b o (neL b o e) hb (neC b o e hx) (I.base.keep b o e n hb hx) (I.base.free b o e n hx)
 ·obtain⟨sl,e1⟩:=I.base.slot b o e n hb hx
  obtain⟨sl',e2⟩:=slot b _ (neL b o e) hb (neC b o e hx) e1 (I.base.free b o e n hx)
  exact⟨sl',e2⟩
 ·obtain⟨o',e1⟩:=I.base.there b o e hx
  exact free b o' (neC b o e hx) e1 (I.base.free b o e n hx)
 ·obtain⟨o',e1⟩:=I.base.there b o e hx
  exact there b o' (neC b o e hx) e1
 ·obtain⟨m1,e1⟩:=I.base.tbls b ps e
  obtain⟨m2,e2⟩:=tbls b _ e1
  exact⟨m1++m2,by rw[e2,Y11]⟩
 ·obtain⟨m,hn,hl⟩:=I.loc
  refine⟨m,ns m hn,fun i x v e1 e2 e3=>?_⟩
  obtain⟨u,r,l⟩:=hl i x v e1 e2 e3
  refine⟨u,r,?_⟩
  rcases l with l | ⟨k,c,e,z⟩
  ·exact .inl l
  ·exact .inr ⟨k,c,e,cellK x c e _ z⟩
 ·obtain⟨v,z⟩:=I.cell x c e
  exact⟨v,cellK x c e v z⟩
 ·obtain⟨m,⟨o,_,_,ho,_⟩,_⟩:=I.loc
  exact free _ o (fun z=>(hch _ z).2.1 rfl) ho I.free
 ·obtain⟨v,o,ho,hd⟩:=I.cell x c e
  exact free c o (fun z=>(hch c z).2.2.1 x c e rfl) ho (I.freeC x c e)
 ·obtain⟨e,n,ne,nf,d⟩:=I.pin p hp
  have nch:p.1 ∉ ch:=fun z=>(hch p.1 z).2.2.2 p hp rfl
  exact⟨keep p.1 p.2 ne nf nch e n,free p.1 p.2 nch e n,ne,nf,d⟩
theorem Inv.un {t':Nat}(I:Inv X pins σ H s)(u:Un X.fs [] H H' s.heap h')(hok:HOk X.prog X.w H' h'):Inv X pins σ H' { s with heap:=h',toks:=t' }:=by
 obtain⟨m,⟨o,es,ep,ho,r⟩,_⟩:=id I.loc
 obtain⟨sl,hL⟩:=u.any ho I.free (by simp)
 exact I.step (g':=s.gens) (d':=s.drawn) (ch:=[]) (fun _ z=>nomatch z) (fun b o _ hb _ e n=>u.keep b o e n hb (by simp)) (fun b o _ hb _ e n=>u.slot b o e n hb (by simp)) (fun b o _ e n=>u.free b o e n (by simp)) (fun b o _ e=>u.there b o e (by simp)) u.tups u.frzs u.tbls (fun m' hm=>by
  obtain⟨o',es',ep',ho',r'⟩:=hm
  rw[ho] at ho';cases ho'
  exact⟨_,es',ep',hL,r'⟩) hok I.bare
theorem Inv.call {g':Array GenState}{t':Nat}{d':Drawn}{ch:List Addr}(I:Inv X pins σ H s)(u:Un (frs X.stack) ch H H' s.heap h')(hok:HOk X.prog X.w H' h')(hg:AllBare g')
  (hch:∀ b∈ch,(b∈X.ex \/ X.s₀.heap.objs.size<=b)/\b≠X.env.locals/\(∀ x c,X.env.cells.lookup x=some c->c≠b)/\∀ p∈X.pn++pins,p.1≠b) :
  Inv X pins σ H' { s with heap:=h',gens:=g',drawn:=d',toks:=t' }:=by
 obtain⟨m,⟨o,es,ep,ho,r⟩,_⟩:=id I.loc
 obtain⟨sl,hL⟩:=u.any ho I.free fun z=>(hch _ z).2.1 rfl
 exact I.step (ch:=ch) hch (fun b o hL hb hc e n=>u.keep b o e n (fun z=>(YS.mp (I.stkSub b z)).elim hL hb) hc) (fun b o _ _ hc e n=>u.any e n hc) (fun b o hc e n=>u.free b o e n hc) (fun b o hc e=>u.there b o e hc) u.tups u.frzs u.tbls (fun m' hm=>by
  obtain⟨o',es',ep',ho',r'⟩:=hm
  rw[ho] at ho';cases ho'
  exact⟨_,es',ep',hL,r'⟩) hok hg
theorem Inv.turned {t':Nat}{it:Addr}(I:Inv X pins σ H s)(k:∀ b o,b≠it->s.heap.get? b=some o->h'.get? b=some o)(hn:H it=none)(hL:it≠X.env.locals)
  (h1:it∈X.ex \/ X.s₀.heap.objs.size<=it) (h2:∀ x c,X.env.cells.lookup x=some c->c≠it) (h3:∀ p∈X.pn++pins,p.1≠it):Inv X pins σ H { s with heap:=h',toks:=t' }:=by
 have nit:∀ b u,H b=some u->b≠it:=fun b u e z=>by rw[z,hn] at e;cases e
 refine I.step (g':=s.gens) (d':=s.drawn) (ch:=[it]) (fun b hb=>?_) (fun b o _ _ hc e _=>k b o (fun z=>hc (by simp[z])) e) (fun b o _ _ hc e _=>⟨o.slots,k b o (fun z=>hc (by simp[z])) e⟩) (fun _ _ _ _ n=>n)
  (fun b o hc e=>⟨o,k b o (fun z=>hc (by simp[z])) e⟩) (fun _ _ e=>e) (fun _ _ _ e=>e) (fun b ps e=>⟨#[],by rw[e];simp⟩) (fun m hm=>?_) (fun b u e=>?_) I.bare
 ·have e:b=it:=by simpa using hb
  subst e
  exact⟨h1,hL,h2,h3⟩
 ·obtain⟨o,es,ep,ho,r⟩:=hm
  exact⟨o,es,ep,k _ o (XN hL) ho,r⟩
 ·refine (I.hok b u e).stay (fun c v hc q=>k c v ?_ q) (fun _ q=>q) fun _ _ q=>q
  rcases hc with z | z
  ·rw[z];exact nit b u e
  ·exact nit c _ z
theorem Inv.tok (I:Inv X pins σ H s)(t:Nat):Inv X pins σ H { s with toks:=t }:=I.un (h':=s.heap) (t':=t) Un.refl I.hok
theorem Inv.kept {t':Nat}(I:Inv X pins σ H s)(k:∀ b u,s.heap.get? b=some u->h'.get? b=some u):Inv X pins σ H { s with heap:=h',toks:=t' }:=I.un (Un.kept k) (I.hok.kept k)
theorem Inv.laid {a:Addr}{o:HO}{t':Nat}(I:Inv X pins σ H s)(k:∀ b u,s.heap.get? b=some u->h'.get? b=some u)(hp:s.heap.objs.size<=a)(new:ObjOk X.prog X.w (upd H a o) h' a o) :
  Inv X pins σ (upd H a o) { s with heap:=h',toks:=t' }:=I.un (Un.laid k hp (I.hok.fresh hp)) (I.hok.laid k hp new)
theorem Inv.write {x e:Addr}{o:HO}{t':Nat}(I:Inv X pins σ H s)(mu:Mut (H x))(he:e=x \/ H e=some (.own x))(k:∀ b u,b≠e->s.heap.get? b=some u->h'.get? b=some u)(heo:∃ u,h'.get? e=some u)
  (new:ObjOk X.prog X.w (upd H x o) h' x o):Inv X pins σ (upd H x o) { s with heap:=h',toks:=t' }:=I.un (Un.write mu he k heo) (I.hok.write mu he k heo new)
theorem Inv.weak {σ':List (Option V)}(I:Inv X pins σ H s)(hl:σ'.length=σ.length)(w:∀ (i:Nat) v,σ'[i]?=some (some v)->σ[i]?=some (some v)):Inv X pins σ' H s :=
 ⟨I.ok,I.os,I.bare,I.base,let ⟨m,hn,hl'⟩:=I.loc;⟨m,hn,fun i x v e1 e2 e3=>hl' i x v e1 (w i v e2) e3⟩,I.cell,I.free,I.freeC,I.pin,I.hok,hl.trans I.len⟩
theorem Inv.pins_of {pins':List (Addr × Obj)}(I:Inv X pins σ H s)(h:∀ p∈pins',s.heap.get? p.1=some p.2/\H p.1=none/\p.1≠X.env.locals/\p.1 ∉ X.fs/\∀ v,p.2.data≠.cell v):Inv X pins' σ H s :=
 ⟨I.ok,I.os,I.bare,I.base,I.loc,I.cell,I.free,I.freeC,fun p hp=>(JU.mp hp).elim (fun z=>I.pin p (YJ _ z)) (h p),I.hok,I.len⟩
theorem Lu {N:List Str}(hN:N.Nodup){i j:Nat}{x:Str}(a:N[i]?=some x)(b:N[j]?=some x):i=j:=by
 obtain⟨h1,e1⟩:=YG.mp a
 obtain⟨h2,e2⟩:=YG.mp b
 exact (List.getElem_inj hN).mp (e1.trans e2.symm)
theorem Pt {M:Model}{A:Around}{E:Value->Shared->Prop}{i:Nat}{x:Str}{v:V}{u:Value}{Q:Unit->Shared->Prop}(I:Inv X pins σ H s)(hN:X.N.Nodup)(hi:X.N[i]?=some x)(hx:Loc X.env.scope x)(r:RelV v u)
  (h:∀ s',Inv X pins (σ.set i (some v)) H s'->(∃ a,Heap.SameBut a s.heap s'.heap/\(a=X.env.locals \/ X.env.cells.lookup x=some a))->Q () s') (hf:X.fn x=true \/ X.env.scope.names.lookup x=some .local:=by first | exact .inl rfl | exact .inr rfl | assumption):wpAny M A (storeName X.env x u) Q E s:=by
 obtain⟨m,hn,hl⟩:=id I.loc
 have hcls:(X.env.scope.kind == .class || (X.env.scope.kind == .module && X.env.locals != X.env.globals))=false:=by rw[I.ok.kind];rfl
 have hiσ:i<σ.length:=by rw[I.len];exact (YG.mp hi).1
 have cne:=I.cne
 have tracked:∀ {a:Addr} {h':Heap},(∃ o,s.heap.get? a=some o/\H a=none)->Heap.SameBut a s.heap h'->HOk X.prog X.w H h':=fun {a h'} ha hs b ob e=>by
  obtain⟨_,_,hfree⟩:=ha
  refine (I.hok b ob e).stay (fun c w' hc q=>(hs.2 c ?_).trans q) (fun _ q=>q) fun _ _ q=>q
  rintro rfl
  rcases hc with rfl | hc
  ·rw[hfree] at e;cases e
  ·rw[hfree] at hc;cases hc
 rcases hx with hk | hk
 ·refine wpAny_storeName_local hk hn (fun h' hn' hs=>?_) hcls
  obtain⟨oL,_,_,hoL,_⟩:=id hn
  refine h _ ⟨I.ok,I.os,I.bare,⟨fun b o e n hb hx=>?_,fun b o e n hb hx=>?_,I.base.free,fun b o e hx=>?_,I.base.tups,I.base.frzs,I.base.tbls⟩,⟨_,hn',fun j y v' e1 e2 e3=>?_⟩,fun y c e=>?_,I.free,I.freeC,fun p hp=>?_,tracked ⟨oL,hoL,I.free⟩ hs,by simpa using I.len⟩ ⟨_,hs,.inl rfl⟩
  ·exact (hs.2 b (XA (YW (YH e) I.ok.above))).trans (I.base.keep b o e n hb hx)
  ·obtain⟨sl,e1⟩:=I.base.slot b o e n hb hx
   exact⟨sl,(hs.2 b (XA (YW (YH e) I.ok.above))).trans e1⟩
  ·obtain⟨o',e1⟩:=I.base.there b o e hx
   exact⟨o',(hs.2 b (XA (YW (YH e) I.ok.above))).trans e1⟩
  ·by_cases hj:j=i
   ·subst hj
    rw[hi] at e1;cases e1
    rw[JO hiσ] at e2
    cases e2
    exact⟨u,r,.inl ⟨hk,by simp⟩⟩
   ·rw[JT (XN hj)] at e2
    obtain⟨u',r',q⟩:=hl j y v' e1 e2 e3
    refine⟨u',r',?_⟩
    rcases q with ⟨k,e⟩ | ⟨k,c,e,z⟩
    ·refine .inl ⟨k,?_⟩
     have:y≠x:=fun e=>hj (Lu hN e1 (e ▸ hi))
     simp[this,e]
    ·exact .inr ⟨k,c,e,z.sameBut hs (cne y c e)⟩
  ·obtain⟨w',z⟩:=I.cell y c e
   exact⟨w',z.sameBut hs (cne y c e)⟩
  ·obtain⟨e,n,ne,nf,d⟩:=I.pin p hp
   exact⟨(hs.2 p.1 ne).trans e,n,ne,nf,d⟩
 ·have hfn:X.fn x=true:=by
   rcases hf with z | z
   ·exact z
   ·rw[z] at hk;cases hk
  obtain⟨c,hc⟩:=I.ok.has x (.inl hk)
  obtain⟨w',z⟩:=I.cell x c hc
  refine wpAny_storeName_cell I.ok.kind hk hc z (fun h' hc' hs=>?_)
  obtain⟨oc,hoc,hocd⟩:=id z
  refine h { s with heap:=h' } ⟨I.ok,I.os,I.bare,⟨fun b o e n hb hx=>?_,fun b o e n hb hx=>?_,I.base.free,fun b o e hx=>?_,I.base.tups,I.base.frzs,I.base.tbls⟩,⟨m,hn.sameBut hs (XN (cne x c hc)),fun j y v' e1 e2 e3=>?_⟩,fun y c' e=>?_,I.free,I.freeC,fun p hp=>?_,tracked ⟨oc,hoc,I.freeC x c hc⟩ hs,by simpa using I.len⟩ ⟨c,hs,.inr hc⟩
  ·exact (hs.2 b (XA (YW (YH e) (I.ok.cab x c hfn hc)))).trans (I.base.keep b o e n hb hx)
  ·obtain⟨sl,e1⟩:=I.base.slot b o e n hb hx
   exact⟨sl,(hs.2 b (XA (YW (YH e) (I.ok.cab x c hfn hc)))).trans e1⟩
  ·obtain⟨o',e1⟩:=I.base.there b o e hx
   exact⟨o',(hs.2 b (XA (YW (YH e) (I.ok.cab x c hfn hc)))).trans e1⟩
  ·by_cases hj:j=i
   ·subst hj
    rw[hi] at e1;cases e1
    rw[JO hiσ] at e2
    cases e2
    exact⟨u,r,.inr ⟨.inl hk,c,hc,hc'⟩⟩
   ·rw[JT (XN hj)] at e2
    obtain⟨u',r',q⟩:=hl j y v' e1 e2 e3
    refine⟨u',r',?_⟩
    rcases q with q | ⟨k,c',e,z'⟩
    ·exact .inl q
    ·refine .inr ⟨k,c',e,z'.sameBut hs ?_⟩
     rintro rfl
     exact hj (Lu hN e1 (I.ok.inj _ _ _ e hc ▸ hi))
  ·by_cases hcc:c'=c
   ·subst hcc;exact⟨_,hc'⟩
   ·obtain⟨w2,z2⟩:=I.cell y c' e
    exact⟨w2,z2.sameBut hs hcc⟩
  ·obtain⟨e,n,ne,nf,d⟩:=I.pin p hp
   refine⟨(hs.2 p.1 ?_).trans e,n,ne,nf,d⟩
   intro q
   rw[q,hoc] at e
   have q':oc=p.2:=YK e
   exact d w' (by rw[<-q'];exact hocd)
theorem Mv {M:Model}{A:Around}{E:Value->Shared->Prop}{i:Nat}{x:Str}{v:V}{u:Value}{Q:Unit->Shared->Prop}(I:Inv X pins σ H s)(hN:X.N.Nodup)(hi:X.N[i]?=some x)(hx:Loc X.env.scope x)(r:RelV v u)
  (h:∀ s',Inv X pins (σ.set i (some v)) H s'->Q () s') (hf:X.fn x=true \/ X.env.scope.names.lookup x=some .local:=by first | exact .inl rfl | exact .inr rfl | assumption):wpAny M A (storeName X.env x u) Q E s :=
 Pt I hN hi hx r (fun s' I' _=>h s' I') hf
theorem Inv.call' {s':Shared}{ch:List Addr}(I:Inv X pins σ H s)(ho:s'.os=s.os)(u:Un (frs X.stack) ch H H' s.heap s'.heap)(hok:HOk X.prog X.w H' s'.heap)(hg:AllBare s'.gens)
  (hch:∀ b∈ch,(b∈X.ex \/ X.s₀.heap.objs.size<=b)/\b≠X.env.locals/\(∀ x c,X.env.cells.lookup x=some c->c≠b)/\∀ p∈X.pn++pins,p.1≠b):Inv X pins σ H' s':=by
 obtain⟨h',g',d',t',o'⟩:=s'
 have e:o'=s.os:=ho
 subst e
 exact I.call (g':=g') (t':=t') (d':=d') u hok hg hch
end
abbrev XK:=Value->Option Addr->Hp->Prop
abbrev St:=List (Option V)
abbrev VK:=V->Hp->Prop
abbrev TE:=St->Hp->VK->Prop
abbrev TT:=St->Hp->(Bool->Hp->Prop)->Prop
abbrev TA:=St->Hp->(List V->Hp->Prop)->Prop
structure Ends where
 nx:St->Hp->Prop
 rt:VK
 bk:St->Hp->Prop:=fun _ _=>False
 ct:St->Hp->Prop:=fun _ _=>False
abbrev TS:=Ends->St->Hp->Prop
def EP (X:Cx)(pins:List (Addr × Obj))(σ:St)(Q:VK)(u:Value)(s':Shared):Prop:=∃ v H',Inv X pins σ H' s'/\RelV v u/\Q v H'
def TP (X:Cx)(pins:List (Addr × Obj))(σ:St)(Q:Bool->Hp->Prop)(b:Bool)(s':Shared):Prop:=∃ H',Inv X pins σ H' s'/\Q b H'
def AP (X:Cx)(pins:List (Addr × Obj))(σ:St)(Q:List V->Hp->Prop)(us:List Value)(s':Shared):Prop:=∃ vs H',Inv X pins σ H' s'/\Vals vs us/\Q vs H'
def SP (X:Cx)(pins:List (Addr × Obj))(D:Ends)(f:Flow)(s':Shared):Prop :=
 match f with
 | .next=>∃ σ' H',Inv X pins σ' H' s'/\D.nx σ' H'
 | .brk=>∃ σ' H',Inv X pins σ' H' s'/\D.bk σ' H'
 | .cont=>∃ σ' H',Inv X pins σ' H' s'/\D.ct σ' H'
 | .ret u=>∃ v σ' H',Inv X pins σ' H' s'/\RelV v u/\D.rt v H'
def PE (X:Cx)(e:Expr)(t:TE):Prop :=
 ∀ (pins:List (Addr × Obj)) (s:Shared) (σ:St) (H:Hp) (Q:VK),Inv X pins σ H s->t σ H Q->wpAny (model X.prog X.w) X.A (eval e X.env) (EP X pins σ Q) X.xe s
def PT (X:Cx)(e:Expr)(t:TT):Prop :=
 ∀ (pins:List (Addr × Obj)) (s:Shared) (σ:St) (H:Hp) (Q:Bool->Hp->Prop),Inv X pins σ H s->t σ H Q->wpAny (model X.prog X.w) X.A (isTrue e X.env (eval e X.env)) (TP X pins σ Q) X.xe s
def PW (X:Cx)(e:Expr)(t:TT):Prop :=
 ∀ (whole:Sem Value) (pins:List (Addr × Obj)) (s:Shared) (σ:St) (H:Hp) (Q:Bool->Hp->Prop),Inv X pins σ H s->t σ H Q->wpAny (model X.prog X.w) X.A (isTrue e X.env whole) (TP X pins σ Q) X.xe s
theorem PW.pt {X:Cx}{e:Expr}{t:TT}(h:PW X e t):PT X e t:=h _
def PA (X:Cx)(es:List Expr)(t:TA):Prop :=
 ∀ (pos:Pos) (pins:List (Addr × Obj)) (s:Shared) (σ:St) (H:Hp) (Q:List V->Hp->Prop),Inv X pins σ H s->t σ H Q->wpAny (model X.prog X.w) X.A (spliced (backTo pos (starEach es X.env))) (AP X pins σ Q) X.xe s
def PS (X:Cx)(st:Stmt)(t:TS):Prop :=
 ∀ (pins:List (Addr × Obj)) (s:Shared) (σ:St) (H:Hp) (D:Ends),Inv X pins σ H s->t D σ H->wpAny (model X.prog X.w) X.A (exec st X.env) (SP X pins D) X.xe s
def PSs (X:Cx)(st:List Stmt)(t:TS):Prop :=
 ∀ (pins:List (Addr × Obj)) (s:Shared) (σ:St) (H:Hp) (D:Ends),Inv X pins σ H s->t D σ H->wpAny (model X.prog X.w) X.A (execs st X.env) (SP X pins D) X.xe s
theorem thn {α:Type}{t:Sem α}{Q Q':α->Shared->Prop}{M:Model}{A:Around}{E:Value->Shared->Prop}{s:Shared}(h:wpAny M A t Q E s)(hQ:∀ a s,Q a s->Q' a s):wpAny M A t Q' E s:=GL h hQ fun _ _ x=>x
end L2
namespace L2
open PySem PySem.Spec PyProof.Rows
section
variable {X:Cx}
def tVar (i:Nat):TE:=fun σ H Q=>∃ v,σ[i]?=some (some v)/\Q v H
def tC (v:V):TE:=fun _ H Q=>Q v H
theorem Z5d {i:Nat}{x:Str}{pos:Pos}(hN:X.N[i]?=some x)(hv:Vis X.env.scope x)(hd:(x == ("__debug__":Str))=false:=by decide)(hcd:(x == ("__classdict__":Str))=false:=by decide):PE X (.Name x pos) (tVar i):=by
 intro pins s σ H Q I h
 obtain⟨v,e,h⟩:=h
 obtain⟨m,hn,hl⟩:=I.loc
 obtain⟨u,r,l⟩:=hl i x v hN e hv
 have fin:EP X pins σ Q u s:=⟨v,H,I,r,h⟩
 rcases l with ⟨hk,hm⟩ | ⟨hk,c,hc,hcell⟩
 ·exact wpAny_Name (wpAny_loadName_local I.ok.kind hk hn hm fin) hd
 ·rcases hk with hk | hk
  ·exact wpAny_Name (wpAny_loadName_cell I.ok.kind hk hc hcell fin) hd
  ·exact wpAny_Name (wpAny_loadName_free I.ok.kind hk hc hcell fin hcd) hd
theorem Za {i j pos}:PE X (.Constant (.int i) j pos) (tC (.int i)):=fun _ _ _ H _ I h=>wpAny_Constant_int ⟨.int i,H,I.tok _,⟨_,rfl⟩,h⟩
theorem Vz {b j pos}:PE X (.Constant (.bool b) j pos) (tC (.bl b)):=fun _ _ _ H _ I h=>Constant_bool ⟨.bl b,H,I,rfl,h⟩
theorem Yn {j pos}:PE X (.Constant .none j pos) (tC .non):=fun _ _ _ H _ I h=>Constant_none ⟨.non,H,I,rfl,h⟩
theorem X7 {x j pos}:PE X (.Constant (.str x) j pos) (tC (.str x)):=fun _ _ _ H _ I h=>Calls.Constant_str ⟨.str x,H,I.tok _,⟨_,rfl⟩,h⟩
def Gl (X:Cx)(x:Str):Prop:=X.env.kindOf x=some .globalImplicit
theorem Vv {E:Value->Shared->Prop}{pins:List (Addr × Obj)}{s:Shared}{σ:St}{H:Hp}{x:Str}{u:Value}{pos:Pos}{Q:Value->Shared->Prop}(I:Inv X pins σ H s)(hg:Gl X x)(hm:X.mg x=some u)(h:Q u s)
  (hd:(x == ("__debug__":Str))=false:=by decide):wpAny (model X.prog X.w) X.A (eval (.Name x pos) X.env) Q E s :=
 Y09 I.ok.kind hg (Calls.loadGlobal_global (by rw[I.ok.glob];exact I.mod.glob.keeps I.bk) hm h) hd
theorem W3 {E:Value->Shared->Prop}{pins:List (Addr × Obj)}{s:Shared}{σ:St}{H:Hp}{x:Str}{u:Value}{pos:Pos}{Q:Value->Shared->Prop}(I:Inv X pins σ H s)(hg:Gl X x)(hm:X.mg x=none)(hv:bootBuiltins x=some u)(h:Q u s)
  (hn:x≠"__name__":=by decide) (hd:(x == ("__debug__":Str))=false:=by decide):wpAny (model X.prog X.w) X.A (eval (.Name x pos) X.env) Q E s:=by
 obtain⟨mb,h1,h2⟩:=I.mod.blt
 exact Y09 I.ok.kind hg (Calls.loadGlobal_builtin (by rw[I.ok.glob];exact I.mod.glob.keeps I.bk) hm (by rw[I.ok.blt];exact h1.keeps I.bk) ((h2 x hn).trans hv) h) hd
theorem Yx {x:Str}{v:V}{u:Value}{pos:Pos}(hg:Gl X x)(hm:X.mg x=some u)(r:RelV v u)(hd:(x == ("__debug__":Str))=false:=by decide):PE X (.Name x pos) (tC v) :=
 fun _ _ _ H _ I h=>Vv I hg hm ⟨v,H,I,r,h⟩ hd
theorem Z32 {x:Str}{v:V}{u:Value}{pos:Pos}(hg:Gl X x)(hm:X.mg x=none)(hv:bootBuiltins x=some u)(r:RelV v u)(hn:x≠"__name__":=by decide)(hd:(x == ("__debug__":Str))=false:=by decide):PE X (.Name x pos) (tC v) :=
 fun _ _ _ H _ I h=>W3 I hg hm hv ⟨v,H,I,r,h⟩ hn hd
variable {a b:Expr}{ta tb:TE}{pos:Pos}
def tB (t:TE):TT:=fun σ H Q=>t σ H fun x H1=>∃ c,x=.bl c/\Q c H1
theorem Xz {e:Expr}{t:TE}(h:PE X e t)(he:∀ whole,isTrue e X.env whole=(do let v <-whole;standAt e.pos;holding [v] (truthy v)):=by intro _;rfl):PT X e (tB t):=by
 intro pins s σ H Q I hw
 refine isTrue_plain (thn (h pins s σ H _ I hw) fun v s1 ⟨x,H1,I1,r1,q1⟩=>?_) (he _)
 obtain⟨d,rfl,q⟩:=q1
 cases r1
 exact ze ⟨H1,I1,q⟩
variable {tA tB':TT}{rest:List Expr}
def tAnd (t u:TT):TT:=fun σ H Q=>t σ H fun c H1=>if c=true then u σ H1 Q else Q false H1
def tOr (t u:TT):TT:=fun σ H Q=>t σ H fun c H1=>if c=true then Q true H1 else u σ H1 Q
def tNot (t:TT):TT:=fun σ H Q=>t σ H fun c H1=>Q (!c) H1
theorem F4 (ha:PT X a tA):PW X (.BoolOp .And [a] pos) tA:=by
 intro wh pins s σ H Q I h
 refine isTrue_and (thn (ha pins s σ H Q I h) fun c s1 e=>?_)
 cases c with
 | true=>exact isTrue_and_nil e
 | false=>exact e
theorem U5 (ha:PT X a tA):PW X (.BoolOp .Or [a] pos) tA:=by
 intro wh pins s σ H Q I h
 refine isTrue_or (thn (ha pins s σ H Q I h) fun c s1 e=>?_)
 cases c with
 | false=>exact isTrue_or_nil e
 | true=>exact e
theorem Z0b (ha:PT X a tA)(hb:PW X (.BoolOp .And (b::rest) pos) tB'):PW X (.BoolOp .And (a::b::rest) pos) (tAnd tA tB'):=by
 intro wh pins s σ H Q I h
 refine isTrue_and (thn (ha pins s σ H _ I h) fun c s1 ⟨H1,I1,q1⟩=>?_)
 cases c with
 | true=>exact hb wh pins s1 σ H1 Q I1 q1
 | false=>exact⟨H1,I1,q1⟩
theorem Th (ha:PT X a tA)(hb:PW X (.BoolOp .Or (b::rest) pos) tB'):PW X (.BoolOp .Or (a::b::rest) pos) (tOr tA tB'):=by
 intro wh pins s σ H Q I h
 refine isTrue_or (thn (ha pins s σ H _ I h) fun c s1 ⟨H1,I1,q1⟩=>?_)
 cases c with
 | true=>exact⟨H1,I1,q1⟩
 | false=>exact hb wh pins s1 σ H1 Q I1 q1
theorem Vp (ha:PT X a tA):PT X (.UnaryOp .Not a pos) (tNot tA):=by
 intro pins s σ H Q I h
 exact isTrue_not (ha pins s σ H (fun c H1=>Q (!c) H1) I h)
def tAndV (ta tb:TE):TE:=fun σ H Q=>ta σ H fun x H1=>∃ c,x=.bl c/\if c=true then tb σ H1 Q else Q (.bl false) H1
def tOrV (ta tb:TE):TE:=fun σ H Q=>ta σ H fun x H1=>∃ c,x=.bl c/\if c=true then Q (.bl true) H1 else tb σ H1 Q
def tNotV (ta:TE):TE:=fun σ H Q=>ta σ H fun x H1=>∃ c,x=.bl c/\Q (.bl (!c)) H1
theorem Se {op}{t:TE}(h:PE X a t):PE X (.BoolOp op [a] pos) t:=fun pins s σ H Q I hw=>BoolOp_one (h pins s σ H Q I hw)
theorem Ux (ha:PE X a ta)(hb:PE X (.BoolOp .And (b::rest) pos) tb):PE X (.BoolOp .And (a::b::rest) pos) (tAndV ta tb):=by
 intro pins s σ H Q I h
 refine BoolOp_and (thn (ha pins s σ H _ I h) fun v s1 ⟨x,H1,I1,r1,q1⟩=>?_)
 obtain⟨c,rfl,q1⟩:=q1
 cases r1
 refine ze ?_
 cases c with
 | true=>exact hb pins s1 σ H1 Q I1 q1
 | false=>exact⟨.bl false,H1,I1,rfl,q1⟩
theorem Z6l (ha:PE X a ta)(hb:PE X (.BoolOp .Or (b::rest) pos) tb):PE X (.BoolOp .Or (a::b::rest) pos) (tOrV ta tb):=by
 intro pins s σ H Q I h
 refine BoolOp_or (thn (ha pins s σ H _ I h) fun v s1 ⟨x,H1,I1,r1,q1⟩=>?_)
 obtain⟨c,rfl,q1⟩:=q1
 cases r1
 refine ze ?_
 cases c with
 | false=>exact hb pins s1 σ H1 Q I1 q1
 | true=>exact⟨.bl true,H1,I1,rfl,q1⟩
theorem J7 (ha:PE X a ta):PE X (.UnaryOp .Not a pos) (tNotV ta):=by
 intro pins s σ H Q I h
 refine UnaryOp_ (thn (ha pins s σ H _ I h) fun v s1 ⟨x,H1,I1,r1,q1⟩=>?_)
 obtain⟨c,rfl,q1⟩:=q1
 cases r1
 exact not_of (ze ⟨.bl (!c),H1,I1,rfl,q1⟩)
def tIf (t:TT)(ta tb:TE):TE:=fun σ H Q=>t σ H fun c H1=>if c=true then ta σ H1 Q else tb σ H1 Q
theorem Vc {c:Expr}(hc:PT X c tA)(ha:PE X a ta)(hb:PE X b tb):PE X (.IfExp c a b pos) (tIf tA ta tb):=by
 intro pins s σ H Q I h
 refine wpAny_IfExp (thn (hc pins s σ H _ I h) fun d s1 ⟨H1,I1,q1⟩=>?_)
 cases d with
 | true=>exact ha pins s1 σ H1 Q I1 q1
 | false=>exact hb pins s1 σ H1 Q I1 q1
end
end L2
namespace L2
open PySem PySem.Spec PyProof.Rows
def SqL (K:W.Frag)(H:Hp)(a:Addr)(xs:List V):Prop :=
 Rd H a (.lst xs) ∨
  ∃ (o:Obj) (its:Array Value) (n:Nat),K.lookup a=some o/\o.cls=.type "list"/\o.dict=none/\o.data=.seq its n/\its.size<=sizeLine/\Vals xs its.toList
def SqT (K:W.Frag)(H:Hp)(a:Addr)(xs:List V):Prop :=
 Rd H a (.tup xs) ∨
  ∃ (o:Obj) (its:Array Value) (n:Nat),K.lookup a=some o/\o.cls=.type "tuple"/\o.data=.seq its n/\its.size<=sizeLine/\Vals xs its.toList
def absV:Value->Option V
 | .none=>some .non
 | .bool b=>some (.bl b)
 | .int i _=>some (.int i)
 | .str x _=>some (.str x)
 | .bytes b _=>some (.byt b)
 | .float b _=>some (.flt b)
 | .ref a=>some (.ref a)
 | .type n=>some (.ty n)
 | _=>none
theorem RelV.abs {x:V}{u:Value}(r:RelV x u):absV u=some x:=by
 cases x with
 | non=>cases r;rfl
 | bl _=>cases r;rfl
 | int _=>obtain⟨t,rfl⟩:=r;rfl
 | str _=>obtain⟨t,rfl⟩:=r;rfl
 | byt _=>obtain⟨t,rfl⟩:=r;rfl
 | flt _=>obtain⟨t,rfl⟩:=r;rfl
 | ref _=>cases r;rfl
 | ty _=>cases r;rfl
theorem RelV.inj {x y:V}{u:Value}(r:RelV x u)(q:RelV y u):x=y:=YK (r.abs.symm.trans q.abs)
theorem Vals.inj:∀ {xs ys:List V} {us:List Value},Vals xs us->Vals ys us->xs=ys
 | _,_,_,.nil,.nil=>rfl
 | _,_,_,.cons r t,.cons r' t'=>by rw[r.inj r',Vals.inj t t']
section
variable {X:Cx}{pins:List (Addr × Obj)}{σ:St}{H:Hp}{s:Shared}{a:Addr}{xs ys:List V}
theorem SqL.of {K:W.Frag}(h:H a=some (.lst xs)):SqL K H a xs:=.inl (.inl h)
theorem SqT.of {K:W.Frag}(h:H a=some (.tup xs)):SqT K H a xs:=.inl (.inl h)
theorem Inv.list (I:Inv X pins σ H s)(h:SqL X.K H a xs):∃ its:List Value,Vals xs its/\PlainL s.heap a its.toArray/\xs.length<=sizeLine:=by
 rcases h with h | ⟨o,its,n,hk,hc,hd,hs,hz,r⟩
 ·obtain⟨z,its,n,r,e⟩:=h.ok I.hok
  exact⟨its,r,⟨_,n,e,rfl,rfl,rfl⟩,z⟩
 ·refine⟨its.toList,r,⟨o,n,I.kIn a o hk,hc,hd,by simpa using hs⟩,?_⟩
  have e:=r.length
  simp only [qk] at e
  omega
theorem Inv.tuple (I:Inv X pins σ H s)(h:SqT X.K H a xs):∃ its:List Value,Vals xs its/\IsTup s.heap a its.toArray/\xs.length<=sizeLine:=by
 rcases h with h | ⟨o,its,n,hk,hc,hs,hz,r⟩
 ·obtain⟨z,its,r,p⟩:=h.ok I.hok
  exact⟨its,r,p,z⟩
 ·refine⟨its.toList,r,⟨o,I.kIn a o hk,hc,n,by simpa using hs⟩,?_⟩
  have e:=r.length
  simp only [qk] at e
  omega
theorem Inv.list_inj (I:Inv X pins σ H s)(h:SqL X.K H a xs)(h':SqL X.K H a ys):xs=ys:=by
 obtain⟨its,r,⟨o,n,e,_,_,d⟩,_⟩:=I.list h
 obtain⟨its',r',⟨o',n',e',_,_,d'⟩,_⟩:=I.list h'
 rw[e] at e';cases e'
 rw[d] at d'
 injection d' with d1 _
 have:its=its':=by simpa using congrArg Array.toList d1
 subst this
 exact r.inj r'
theorem Inv.tuple_inj (I:Inv X pins σ H s)(h:SqT X.K H a xs)(h':SqT X.K H a ys):xs=ys:=by
 obtain⟨its,r,⟨o,e,_,n,d⟩,_⟩:=I.tuple h
 obtain⟨its',r',⟨o',e',_,n',d'⟩,_⟩:=I.tuple h'
 rw[e] at e';cases e'
 rw[d] at d'
 injection d' with d1 _
 have:its=its':=by simpa using congrArg Array.toList d1
 subst this
 exact r.inj r'
end
abbrev Cx.wish (X:Cx)(E:Value->Shared->Prop):Cx:={ X with xe:=E }
abbrev Cx.nox (X:Cx):Cx:=X.wish fun _ _=>False
theorem Cx.Ok.wish {X:Cx}(ok:X.Ok)(E:Value->Shared->Prop):(X.wish E).Ok :=
 ⟨ok.mod,ok.kind,ok.glob,ok.blt,ok.above,ok.inj,ok.has,ok.cab,ok.hd,ok.frames,ok.stk,ok.exf,ok.bs,ok.bsz,ok.noex,ok.exfs,ok.funs,ok.frf⟩
theorem Cx.Ok.unwish {X:Cx}{E:Value->Shared->Prop}(ok:(X.wish E).Ok):X.Ok :=
 ⟨ok.mod,ok.kind,ok.glob,ok.blt,ok.above,ok.inj,ok.has,ok.cab,ok.hd,ok.frames,ok.stk,ok.exf,ok.bs,ok.bsz,ok.noex,ok.exfs,ok.funs,ok.frf⟩
section
variable {X:Cx}{pins:List (Addr × Obj)}{σ:St}{H:Hp}{s:Shared}{E:Value->Shared->Prop}
theorem Inv.wish (I:Inv X pins σ H s)(E:Value->Shared->Prop):Inv (X.wish E) pins σ H s:=⟨I.ok.wish E,I.os,I.bare,I.base,I.loc,I.cell,I.free,I.freeC,I.pin,I.hok,I.len⟩
theorem Inv.unwish (I:Inv (X.wish E) pins σ H s):Inv X pins σ H s:=⟨I.ok.unwish,I.os,I.bare,I.base,I.loc,I.cell,I.free,I.freeC,I.pin,I.hok,I.len⟩
theorem SP.unwish {D:Ends}{f:Flow}{s':Shared}(h:SP (X.wish E) pins D f s'):SP X pins D f s':=by
 cases f with
 | next=>obtain⟨σ',H',I,q⟩:=h;exact⟨σ',H',I.unwish,q⟩
 | brk=>obtain⟨σ',H',I,q⟩:=h;exact⟨σ',H',I.unwish,q⟩
 | cont=>obtain⟨σ',H',I,q⟩:=h;exact⟨σ',H',I.unwish,q⟩
 | ret u=>obtain⟨v,σ',H',I,r,q⟩:=h;exact⟨v,σ',H',I.unwish,r,q⟩
theorem PSs.nox {st:List Stmt}{t:TS}(h:PSs X.nox st t):PSs X st t:=fun pins s σ H D I hw =>
 GL (h pins s σ H D (I.wish _) hw) (fun _ _ q=>q.unwish) fun _ _ z=>False.elim z
end
section
variable {X:Cx}{st:Stmt}{rest:List Stmt}{t u:TS}{e:Expr}{te:TE}{pos:Pos}
def tNext:TS:=fun D σ H=>D.nx σ H
def tSeq (t u:TS):TS:=fun D σ H=>t { D with nx:=u D } σ H
theorem Zu:PSs X [] tNext:=fun _ _ σ H _ I h=>zJ ⟨σ,H,I,h⟩
theorem Z9 (h1:PS X st t)(h2:PSs X rest u):PSs X (st::rest) (tSeq t u):=by
 intro pins s σ H D I h
 refine wpAny_execs_cons (thn (h1 pins s σ H { D with nx:=u D } I h) fun f s1 q=>?_)
 cases f with
 | next =>
  obtain⟨σ',H',I',q⟩:=q
  exact h2 pins s1 σ' H' D I' q
 | ret v=>exact q
 | brk=>exact q
 | cont=>exact q
theorem Zd (h1:PS X st t):PSs X [st] t:=by
 intro pins s σ H D I h
 refine wpAny_execs_cons (thn (h1 pins s σ H D I h) fun f s1 q=>?_)
 cases f with
 | next=>exact zJ q
 | ret v=>exact q
 | brk=>exact q
 | cont=>exact q
theorem Inv.quiet {pins:List (Addr × Obj)}{σ:St}{H:Hp}{s:Shared}(I:Inv X pins σ H s):interactive X.env=false:=by simp[interactive,I.ok.kind]
def tDrop (te:TE):TS:=fun D σ H=>te σ H fun _ H1=>D.nx σ H1
theorem W8 (he:PE X e te)(hs:swapsWith e none pos.line X.env=pure false:=by rfl):PS X (.Expr e pos) (tDrop te):=by
 intro pins s σ H D I h
 exact wpAny_Expr_any (thn (he pins s σ H _ I h) fun v s1 ⟨x,H1,I1,r1,q1⟩=>⟨σ,H1,I1,q1⟩) I.quiet hs
def tRet (te:TE):TS:=fun D σ H=>te σ H D.rt
theorem Zi (he:PE X e te):PS X (.Return (some e) pos) (tRet te):=by
 intro pins s σ H D I h
 exact wpAny_Return_some (thn (he pins s σ H _ I h) fun v s1 ⟨x,H1,I1,r1,q1⟩=>⟨x,σ,H1,I1,r1,q1⟩)
def tIfS (c:TT)(t u:TS):TS:=fun D σ H=>c σ H fun b H1=>if b=true then t D σ H1 else u D σ H1
theorem Yc {c:Expr}{a b:List Stmt}{tc:TT}(hc:PT X c tc)(ha:PSs X a t)(hb:PSs X b u):PS X (.If c a b pos) (tIfS tc t u):=by
 intro pins s σ H D I h
 refine wpAny_If (thn (hc pins s σ H _ I h) fun d s1 ⟨H1,I1,q1⟩=>?_)
 cases d with
 | true=>exact ha pins s1 σ H1 D I1 q1
 | false=>exact hb pins s1 σ H1 D I1 q1
def tNever:TS:=fun _ _ _=>False
theorem Vb:PS X st tNever:=fun _ _ _ _ _ _ h=>h.elim
end
abbrev TG:=V->St->Hp->(St->Hp->Prop)->Prop
abbrev TGs:=List V->St->Hp->(St->Hp->Prop)->Prop
def PG (X:Cx)(target:Expr)(t:TG):Prop :=
 ∀ (pins:List (Addr × Obj)) (s:Shared) (σ:St) (H:Hp) (v:V) (u:Value) (Q:St->Hp->Prop),Inv X pins σ H s->RelV v u->t v σ H Q →
  wpAny (model X.prog X.w) X.A (assign target X.env u) (fun _ s'=>∃ σ' H',Inv X pins σ' H' s'/\Q σ' H') X.xe s
def PGs (X:Cx)(ts:List Expr)(t:TGs):Prop :=
 ∀ (pins:List (Addr × Obj)) (s:Shared) (σ:St) (H:Hp) (vs:List V) (us:List Value) (Q:St->Hp->Prop),Inv X pins σ H s->Vals vs us->t vs σ H Q →
  wpAny (model X.prog X.w) X.A (assignInOrder ((assignEach ts X.env).map (·.2)) us) (fun _ s'=>∃ σ' H',Inv X pins σ' H' s'/\Q σ' H') X.xe s
abbrev TSet:=V->V->V->Hp->(Hp->Prop)->Prop
def PSet (X:Cx)(t:TSet):Prop :=
 ∀ (pins:List (Addr × Obj)) (s:Shared) (σ:St) (H:Hp) (o i v:V) (ov iv u:Value) (Q:Hp->Prop),Inv X pins σ H s->RelV o ov->RelV i iv->RelV v u->t o i v H Q →
  wpAny (model X.prog X.w) X.A (setItem ov iv u) (fun _ s'=>∃ H',Inv X pins σ H' s'/\Q H') X.xe s
section
variable {X:Cx}{pos:Pos}
def gName (i:Nat):TG:=fun v σ H Q=>Q (σ.set i (some v)) H
theorem Zq {i:Nat}{x:Str}(hN:X.N.Nodup)(hi:X.N[i]?=some x)(hx:Loc X.env.scope x)(hf:X.fn x=true \/ X.env.scope.names.lookup x=some .local:=by first | exact .inl rfl | exact .inr rfl | assumption):PG X (.Name x pos) (gName i):=by
 intro pins s σ H v u Q I r h
 exact wpAny_assign_Name (Mv I hN hi hx r (fun s' I'=>⟨_,H,I',h⟩) hf)
def gNil:TGs:=fun vs σ H Q=>vs=[]/\Q σ H
def gCons (t:TG)(u:TGs):TGs:=fun vs σ H Q=>∃ v r,vs=v::r/\t v σ H fun σ' H'=>u r σ' H' Q
theorem Xr:PGs X [] gNil:=by
 intro pins s σ H vs us Q I r h
 obtain⟨e,h⟩:=h
 subst e
 cases r
 exact assignInOrder_nil ⟨σ,H,I,h⟩
theorem Yh {e:Expr}{es:List Expr}{t:TG}{u:TGs}(h1:PG X e t)(h2:PGs X es u)
  (hs:(assignEach (e::es) X.env).map (·.2)=assign e X.env::(assignEach es X.env).map (·.2):=by rfl):PGs X (e::es) (gCons t u):=by
 intro pins s σ H vs us Q I r h
 obtain⟨v,vr,e1,h⟩:=h
 subst e1
 cases r with
 | cons r rr =>
  rw[hs]
  refine assignInOrder_cons (thn (h1 pins s σ H _ _ _ I r h) fun _ s1 ⟨σ1,H1,I1,q1⟩=>?_)
  exact h2 pins s1 σ1 H1 _ _ Q I1 rr q1
def gTup (K:W.Frag)(n:Nat)(t:TGs):TG:=fun v σ H Q=>∃ a xs,v=.ref a/\SqT K H a xs/\xs.length=n/\t xs σ H Q
theorem V4 {es:List Expr}{k:Nat}{t:TGs}{n:Nat}(hc:X.calm=true)(h:PGs X es t)
  (hn:(assignEach es X.env).length=n:=by rfl) (hst:(assignEach es X.env).findIdx? (·.1)=none:=by rfl):PG X (.Tuple es k pos) (gTup X.K n t):=by
 intro pins s σ H v u Q I r hw
 obtain⟨a,xs,e1,hq,hl,hw⟩:=hw
 subst e1
 cases r
 obtain⟨its,rv,ht,hz⟩:=I.tuple hq
 refine Sb.Pl (I.qt hc) ht (by simp[hn,<-hl,rv.length]) hst fun h' hx=>?_
 have I1:Inv X pins σ H { s with heap:=h' }:=I.kept (t':=s.toks) fun b o e=>hx b o (XA (YH e)) e
 exact h pins _ σ H xs _ Q I1 (by simpa using rv) hw
def gSub (to ti:TE)(t:TSet):TG:=fun v σ H Q=>to σ H fun o H1=>ti σ H1 fun i H2=>t o i v H2 fun H3=>Q σ H3
theorem Sd {o i:Expr}{to ti:TE}{t:TSet}(ho:PE X o to)(hi:PE X i ti)(hs:PSet X t)
  (ha:∀ v,assign (.Subscript o i pos) X.env v=(do
   let ov <-holding [v] (eval o X.env)
   let iv <-holding [v,ov] (eval i X.env)
   standAt pos
   holding [v,ov,iv] (setItem ov iv v)
   release [v,ov,iv] []):=by intro _;rfl):PG X (.Subscript o i pos) (gSub to ti t):=by
 intro pins s σ H v u Q I r h
 rw[ha]
 refine YB (GA (thn (ho pins s σ H _ I h) fun ov s1 ⟨x,H1,I1,r1,q1⟩=>?_))
 refine YB (GA (thn (hi pins s1 σ H1 _ I1 q1) fun iv s2 ⟨y,H2,I2,r2,q2⟩=>?_))
 refine YB (zv (YB (GA (thn (hs pins s2 σ H2 x y v ov iv u _ I2 r1 r2 r q2) fun _ s3 ⟨H3,I3,q3⟩=>?_))))
 exact wpAny_release ⟨σ,H3,I3,q3⟩
def tAsg (te:TE)(g:TG):TS:=fun D σ H=>te σ H fun x H1=>g x σ H1 D.nx
theorem Uw {tg e:Expr}{te:TE}{g:TG}(he:PE X e te)(hg:PG X tg g)(hs:swapsWithSole [tg] e pos.line X.env=pure false:=by rfl)(hw:swappedStores [tg] e X.env=pure none:=by rfl)
  (h1:(assignEach [tg] X.env).map (·.2)=[assign tg X.env]:=by rfl):PS X (.Assign [tg] e pos) (tAsg te g):=by
 intro pins s σ H D I h
 refine wpAny_Assign_stores (thn (he pins s σ H _ I h) fun v s1 ⟨x,H1,I1,r1,q1⟩=>?_) hs hw
 rw[h1]
 exact thn (hg pins s1 σ H1 x v _ I1 r1 q1) fun _ s2 q=>q
theorem Zk {i:Nat}{x:Str}{e:Expr}{te:TE}{pos':Pos}(hN:X.N.Nodup)(hi:X.N[i]?=some x)(hx:Loc X.env.scope x)(he:PE X e te)(hs:swapsWith e (some (.Name x pos')) pos.line X.env=pure false:=by rfl)(hf:X.fn x=true \/ X.env.scope.names.lookup x=some .local:=by first | exact .inl rfl | exact .inr rfl | assumption) :
  PS X (.Assign [.Name x pos'] e pos) (tAsg te (gName i)):=by
 intro pins s σ H D I h
 refine wpAny_Assign_Name (thn (he pins s σ H _ I h) fun v s1 ⟨y,H1,I1,r1,q1⟩=>?_) hs
 exact Mv I1 hN hi hx r1 (fun s2 I2=>⟨_,H1,I2,q1⟩) hf
end
section
variable {X:Cx}{pos:Pos}
def tWhile (c:TT)(tb:TS):TS:=fun D σ H=>∃ W:Nat->St->Hp->Prop,(∃ m,W m σ H)/\∀ m σ H,W m σ H →
 c σ H fun b H1=>if b=true then ∃ N:St->Hp->Prop,(∀ σ' H',N σ' H'->∃ m',m'<m/\W m' σ' H')/\tb { D with nx:=N,ct:=N,bk:=D.nx } σ H1 else D.nx σ H1
theorem Ql {c:Expr}{body:List Stmt}{tc:TT}{tb:TS}(hp:PassesOwn (model X.prog X.w) X.A X.env X.xe)(hc:PT X c tc)(hb:PSs X body tb):PS X (.While c body [] pos) (tWhile tc tb):=by
 intro pins s σ H D I h
 obtain⟨W,⟨m0,w0⟩,turn⟩:=h
 refine wpAny_While (codeAny_whileLoop (fun n s'=>∃ σ' H',Inv X pins σ' H' s'/\W n σ' H') ?_ m0 ⟨σ,H,I,w0⟩)
 rintro n s1 ⟨σ1,H1,I1,w1⟩
 refine zc hp (thn (hc pins s1 σ1 H1 _ I1 (turn n σ1 H1 w1)) fun b s2 ⟨H2,I2,q2⟩=>?_)
 cases b with
 | true =>
  obtain⟨N,hN,q2⟩:=q2
  rw[YM rfl]
  refine zc hp (thn (hb pins s2 σ1 H2 _ I2 q2) fun f s3 q3=>?_)
  cases f with
  | next =>
   obtain⟨σ3,H3,I3,n3⟩:=q3
   obtain⟨m',hm,w3⟩:=hN σ3 H3 n3
   exact⟨m',hm,σ3,H3,I3,w3⟩
  | cont =>
   obtain⟨σ3,H3,I3,n3⟩:=q3
   obtain⟨m',hm,w3⟩:=hN σ3 H3 n3
   exact⟨m',hm,σ3,H3,I3,w3⟩
  | brk=>exact q3
  | ret v=>exact q3
 | false =>
  rw[YF YT]
  exact zJ ⟨σ1,H2,I2,q2⟩
end
structure It where
 go:Nat->Hp->Prop
 yld:Nat->Hp->V->Hp->Prop
 stop:Nat->Hp->Prop
def FpOk (X:Cx)(pins:List (Addr × Obj))(H:Hp)(b:Addr):Prop :=
 H b=none/\b≠X.env.locals/\b ∉ X.fs/\(b∈X.ex \/ X.s₀.heap.objs.size<=b)/\(∀ x c,X.env.cells.lookup x=some c->c≠b)/\∀ p∈X.pn++pins,p.1≠b
theorem Inv.fpOk {X:Cx}{pins:List (Addr × Obj)}{σ:St}{H H':Hp}{s:Shared}{b:Addr}(I:Inv X pins σ H s)(hb:s.heap.objs.size<=b)(hn:H' b=none):FpOk X pins H' b:=by
 refine⟨hn,qo (YW I.lt hb),I.nofs hb,.inr (XQ I.sz hb),fun x c e z=>?_,fun p hp z=>?_⟩
 ·obtain⟨v,q⟩:=I.cell x c e
  exact absurd (YW q.lt (by rw[z];exact hb)) (XO _)
 ·exact absurd (YW (YH (I.pin p hp).1) (by rw[z];exact hb)) (XO _)
structure Turn (P:Program)(w:World)(K:W.Frag)(tg:Expr)(J:It)(fp:List Addr)(it:Addr)(tn:Nat->Heap->Prop):Prop where
 mem:it∈fp
 obj:∀ i h,tn i h->∀ b∈fp,∃ o,h.get? b=some o/\∀ v,o.data≠.cell v
 keep:∀ i h h',tn i h->(∀ b∈fp,∀ o,h.get? b=some o->h'.get? b=some o)->tn i h'
 item:∀ (X:Cx),X.prog=P->X.w=w->X.K=K->X.calm=true->∀ (i:Nat) (pins:List (Addr × Obj)) (s:Shared) (σ:St) (H:Hp) (E:Value->Shared->Prop),Inv X pins σ H s->(∀ b∈fp,FpOk X pins H b)->tn i s.heap->J.go i H →
  wpAny (model P w) X.A (pyNext (.ref it)) (fun r s1=>∃ u,r=some u ∧
   wpAny (model P w) X.A (letOwnedTupleGo tg (.ref it) u) (fun _ s2=>∃ x H',Inv X pins σ H' s2/\RelV x u/\J.yld i H x H'/\tn (i+1) s2.heap/\∀ b∈fp,H' b=none) E s1) E s
 done:∀ (X:Cx),X.prog=P->X.w=w->X.K=K->X.calm=true->∀ (i:Nat) (pins:List (Addr × Obj)) (s:Shared) (σ:St) (H:Hp) (E:Value->Shared->Prop),Inv X pins σ H s->(∀ b∈fp,FpOk X pins H b)->tn i s.heap->J.stop i H →
  wpAny (model P w) X.A (pyNext (.ref it)) (fun r s1=>r=none/\Inv X pins σ H s1) E s
 self:∀ (A:Around) (i:Nat) (s:Shared) (Q:Value->Shared->Prop) (E:Value->Shared->Prop),tn i s.heap->Q (.ref it) s->wpAny (model P w) A (pyIter (.ref it)) Q E s
abbrev TI:=St->Hp->(It->Hp->Prop)->Prop
def PIE (X:Cx)(pins:List (Addr × Obj))(σ:St)(tg:Expr)(R:It->Hp->Prop)(itv:Value)(s2:Shared):Prop :=
 ∃ (it:Addr) (fp:List Addr) (tn:Nat->Heap->Prop) (J:It) (H':Hp),itv=.ref it/\Inv X pins σ H' s2/\Turn X.prog X.w X.K tg J fp it tn/\tn 0 s2.heap/\(∀ b∈fp,FpOk X pins H' b)/\R J H'
def PI (X:Cx)(tg iter:Expr)(wi:TI):Prop :=
 ∀ (pins:List (Addr × Obj)) (s:Shared) (σ:St) (H:Hp) (R:It->Hp->Prop),Inv X pins σ H s->wi σ H R →
  wpAny (model X.prog X.w) X.A (eval iter X.env) (fun v s1=>wpAny (model X.prog X.w) X.A (pyIter v) (PIE X pins σ tg R) X.xe s1) X.xe s
theorem Z1x {M:Model}{A:Around}{E:Value->Shared->Prop}{s:Shared}{tg:Expr}{it:Addr}{u:Value}{o:Obj}{n:String}{vs:Array Value}{Q:Unit->Shared->Prop}(ho:s.heap.get? it=some o)(hc:o.cls=.type n)(hd:o.data=.fields vs)
  (hn:["enumerate","zip","dict_itemiterator","dict_reverseitemiterator","odict_iterator","itertools.zip_longest","itertools.pairwise"].contains n=false) (hQ:Q () s):wpAny M A (letOwnedTupleGo tg (.ref it) u) Q E s:=by
 unfold letOwnedTupleGo
 cases tg <;> first
  | exact YQ hQ
  | (cases u <;> first
    | exact YQ hQ
    | (refine YB (wpAny_load ho ?_)
       rw[hc,hd]
       show wpAny M A (if (["enumerate","zip","dict_itemiterator","dict_reverseitemiterator","odict_iterator","itertools.zip_longest","itertools.pairwise"].contains n && vs[0]? == some (rawInt _))=true then _ else _) Q E s
       rw[YF (by intro h;rw[hn,Bool.false_and] at h;cases h)]
       exact YQ hQ))
def Itl (K:W.Frag)(a:Addr):It :=
 ⟨fun i H=>∃ xs x,SqL K H a xs/\xs[i]?=some x,fun i H x H'=>H'=H/\∀ xs,SqL K H a xs->xs[i]?=some x,fun i H=>∃ xs,SqL K H a xs/\xs.length<=i⟩
def Itt (K:W.Frag)(a:Addr):It :=
 ⟨fun i H=>∃ xs x,SqT K H a xs/\xs[i]?=some x,fun i H x H'=>H'=H/\∀ xs,SqT K H a xs->xs[i]?=some x,fun i H=>∃ xs,SqT K H a xs/\xs.length<=i⟩
def Itr (lo:Int)(n:Nat):It:=⟨fun i _=>i<n,fun i H x H'=>H'=H/\x=.int (lo+i),fun i _=>n<=i⟩
theorem Ty {P:Program}{w:World}{K:W.Frag}{tg:Expr}(a it:Addr):Turn P w K tg (Itl K a) [it] it (fun i h=>h.IsListIter it a i) where
 mem:=by simp
 obj:=fun i h st b hb=>by
  have e:b=it:=by simpa using hb
  subst e
  obtain⟨o,e,c,d⟩:=st
  exact⟨o,e,fun v z=>by rw[d] at z;cases z⟩
 keep:=fun i h h' st k=>st.at fun o e=>k it (by simp) o e
 item:=by
  intro X hP hw hK hc i pins s σ H E I hf st hg
  subst hP hw hK
  obtain⟨xs,x,hq,hx⟩:=hg
  obtain⟨its,rv,p,hz⟩:=I.list hq
  obtain⟨u,hu,ru⟩:=rv.get hx
  obtain⟨f0,f1,f2,f3,f4,f5⟩:=hf it (by simp)
  refine wpAny_pyNext_list_item st p.isList (x:=u) (by simpa using hu) fun h' st' sb=>?_
  have I1:Inv X pins σ H { s with heap:=h' }:=I.turned (t':=s.toks) (fun b o hb e=>(sb.2 b hb).trans e) f0 f1 f3 f4 f5
  obtain⟨o,e,c,d⟩:=id st'
  exact⟨u,rfl,Z1x (s:={ s with heap:=h' }) e c d (by decide) ⟨x,H,I1,ru,⟨rfl,fun ys hy=>by rw[I.list_inj hy hq];exact hx⟩,st',fun b hb=>(hf b hb).1⟩⟩
 done:=by
  intro X hP hw hK hc i pins s σ H E I hf st hg
  subst hP hw hK
  obtain⟨xs,hq,hx⟩:=hg
  obtain⟨its,rv,p,hz⟩:=I.list hq
  obtain⟨f0,f1,f2,f3,f4,f5⟩:=hf it (by simp)
  have hl:=rv.length
  exact Sb.Qx (I.qt hc) st p.isList (by simp;omega) fun h' eb=>⟨rfl,I.turned (t':=s.toks) (fun b o hb e=>eb b o hb e) f0 f1 f3 f4 f5⟩
 self:=fun _ _ _ _ _ st h=>wpAny_pyIter_listiter st h
theorem Ut {P:Program}{w:World}{K:W.Frag}{tg:Expr}(a it:Addr):Turn P w K tg (Itt K a) [it] it (fun i h=>h.IsTupleIter it a i) where
 mem:=by simp
 obj:=fun i h st b hb=>by
  have e:b=it:=by simpa using hb
  subst e
  obtain⟨o,e,c,d⟩:=st
  exact⟨o,e,fun v z=>by rw[d] at z;cases z⟩
 keep:=fun i h h' st k=>st.at fun o e=>k it (by simp) o e
 item:=by
  intro X hP hw hK hc i pins s σ H E I hf st hg
  subst hP hw hK
  obtain⟨xs,x,hq,hx⟩:=hg
  obtain⟨its,rv,p,hz⟩:=I.tuple hq
  obtain⟨u,hu,ru⟩:=rv.get hx
  obtain⟨f0,f1,f2,f3,f4,f5⟩:=hf it (by simp)
  refine wpAny_pyNext_tuple_item st (show s.heap.IsTuple a its.toArray from p) (x:=u) (by simpa using hu) fun h' st' sb=>?_
  have I1:Inv X pins σ H { s with heap:=h' }:=I.turned (t':=s.toks) (fun b o hb e=>(sb.2 b hb).trans e) f0 f1 f3 f4 f5
  obtain⟨o,e,c,d⟩:=id st'
  exact⟨u,rfl,Z1x (s:={ s with heap:=h' }) e c d (by decide) ⟨x,H,I1,ru,⟨rfl,fun ys hy=>by rw[I.tuple_inj hy hq];exact hx⟩,st',fun b hb=>(hf b hb).1⟩⟩
 done:=by
  intro X hP hw hK hc i pins s σ H E I hf st hg
  subst hP hw hK
  obtain⟨xs,hq,hx⟩:=hg
  obtain⟨its,rv,p,hz⟩:=I.tuple hq
  obtain⟨f0,f1,f2,f3,f4,f5⟩:=hf it (by simp)
  have hl:=rv.length
  exact Sb.Su (I.qt hc) st (show s.heap.IsTuple a its.toArray from p) (by simp;omega) fun h' eb=>⟨rfl,I.turned (t':=s.toks) (fun b o hb e=>eb b o hb e) f0 f1 f3 f4 f5⟩
 self:=fun _ _ _ _ _ st h=>wpAny_pyIter_tupleiter st h
theorem Ko {P:Program}{w:World}{K:W.Frag}{tg:Expr}(it:Addr)(lo:Int)(n:Nat):Turn P w K tg (Itr lo n) [it] it (fun i h=>IsRangeIter h it (lo+(i:Nat)*1) ((n:Int) - (i:Nat)) 1) where
 mem:=by simp
 obj:=fun i h st b hb=>by
  have e:b=it:=by simpa using hb
  subst e
  exact⟨_,st,fun v z=>by
   have z':Data.fields _=Data.cell v:=z
   cases z'⟩
 keep:=fun i h h' st k=>k it (by simp) _ st
 item:=by
  intro X hP hw hK hc i pins s σ H E I hf st hg
  subst hP hw hK
  obtain⟨f0,f1,f2,f3,f4,f5⟩:=hf it (by simp)
  refine Sb.Qj i s _ _ hg st fun v h' tk hv st' kk=>?_
  obtain⟨t,rfl⟩:=hv
  have I1:Inv X pins σ H { s with heap:=h',toks:=tk }:=I.turned (fun b o hb e=>kk b o (by simpa using hb) e) f0 f1 f3 f4 f5
  refine⟨_,rfl,Z1x (s:={ s with heap:=h',toks:=tk }) (n:="range_iterator") st' rfl rfl (by decide) ⟨.int (lo+i),H,I1,⟨t,?_⟩,⟨rfl,rfl⟩,st',fun b hb=>(hf b hb).1⟩⟩
  rw[qe]
 done:=by
  intro X hP hw hK hc i pins s σ H E I hf st hg
  subst hP hw hK
  obtain⟨f0,f1,f2,f3,f4,f5⟩:=hf it (by simp)
  exact Sb.Sy (I.qt hc) st (by have:n<=i:=hg;omega) fun h' eb=>⟨rfl,I.turned (t':=s.toks) (fun b o hb e=>eb b o hb e) f0 f1 f3 f4 f5⟩
 self:=fun _ _ _ _ _ st h=>wpAny_pyIter_rangeiter st h
end L2
namespace L2
open PySem PySem.Spec PyProof.Rows
section
variable {X:Cx}{tg:Expr}
def iList (K:W.Frag)(tl:TE):TI:=fun σ H R=>tl σ H fun x H1=>∃ a,x=.ref a/\(∃ xs,SqL K H1 a xs)/\R (Itl K a) H1
def iTup (K:W.Frag)(tl:TE):TI:=fun σ H R=>tl σ H fun x H1=>∃ a,x=.ref a/\(∃ xs,SqT K H1 a xs)/\R (Itt K a) H1
theorem Xq {l:Expr}{tl:TE}(hl:PE X l tl):PI X tg l (iList X.K tl):=by
 intro pins s σ H R I h
 refine thn (hl pins s σ H _ I h) fun v s1 ⟨x,H1,I1,r1,q1⟩=>?_
 obtain⟨a,e,⟨xs,hq⟩,q⟩:=q1
 subst e
 cases r1
 obtain⟨its,rv,p,hz⟩:=I1.list hq
 refine GC p.isList ?_
 refine⟨s1.heap.objs.size,[s1.heap.objs.size],_,_,H1,rfl,I1.kept (t':=s1.toks) fun b o e=>YA _ e,Ty a _,⟨_,YO _ rfl,rfl,rfl⟩,fun b hb=>?_,q⟩
 have e:b=s1.heap.objs.size:=by simpa using hb
 subst e
 exact I1.fpOk (YE _) (I1.hok.fresh (YE _))
theorem Vq {l:Expr}{tl:TE}(hl:PE X l tl):PI X tg l (iTup X.K tl):=by
 intro pins s σ H R I h
 refine thn (hl pins s σ H _ I h) fun v s1 ⟨x,H1,I1,r1,q1⟩=>?_
 obtain⟨a,e,⟨xs,hq⟩,q⟩:=q1
 subst e
 cases r1
 obtain⟨its,rv,p,hz⟩:=I1.tuple hq
 refine GY (show s1.heap.IsTuple a its.toArray from p) ?_
 refine⟨s1.heap.objs.size,[s1.heap.objs.size],_,_,H1,rfl,I1.kept (t':=s1.toks) fun b o e=>YA _ e,Ut a _,⟨_,YO _ rfl,rfl,rfl⟩,fun b hb=>?_,q⟩
 have e:b=s1.heap.objs.size:=by simpa using hb
 subst e
 exact I1.fpOk (YE _) (I1.hok.fresh (YE _))
theorem Z07 {pins:List (Addr × Obj)}{σ:St}{H:Hp}{s:Shared}{R:It->Hp->Prop}{E:Value->Shared->Prop}{lo hi:Int}{t u v:Tok}{tk:Nat}(I:Inv X pins σ H s)(h1:-(2 ^ 62)<=lo)(h2:lo<2 ^ 62)(h3:-(2 ^ 62)<=hi)(h4:hi<2 ^ 62)
  (q:R (Itr lo (hi - lo).toNat) H):wpAny (model X.prog X.w) X.A (pyIter (.ref s.heap.objs.size)) (PIE X pins σ tg R) E { s with heap:=s.heap.push { cls:=.type "range",data:=.fields #[.int lo t,.int hi u,.int 1 v] },toks:=tk }:=by
 refine wpAny_pyIter_range (IsRange.new ..) (small_one h1 h2 h3 h4) ?_
 have I1:Inv X pins σ H { s with heap:=s.heap.push { cls:=.type "range",data:=.fields #[.int lo t,.int hi u,.int 1 v] },toks:=tk }:=I.kept fun b o e=>YA _ e
 refine⟨(s.heap.push { cls:=.type "range",data:=.fields #[.int lo t,.int hi u,.int 1 v] }).objs.size,[(s.heap.push { cls:=.type "range",data:=.fields #[.int lo t,.int hi u,.int 1 v] }).objs.size],_,_,H,rfl,
  I1.kept (t':=tk) fun b o e=>YA _ e,Ko _ lo (hi - lo).toNat,?_,fun b hb=>?_,q⟩
 ·have e1:lo+((0:Nat):Int)*1=lo:=by simp
  have e2:(((hi - lo).toNat:Nat):Int) - ((0:Nat):Int)=Builtin.Range.rangeSize lo hi 1:=by rw[rangeSize_one];split <;> omega
  show IsRangeIter _ _ (lo+((0:Nat):Int)*1) ((((hi - lo).toNat:Nat):Int) - ((0:Nat):Int)) 1
  rw[e1,e2]
  exact YO _ rfl
 ·have e:b=(s.heap.push { cls:=.type "range",data:=.fields #[.int lo t,.int hi u,.int 1 v] }).objs.size:=by simpa using hb
  subst e
  exact I1.fpOk (YE _) (I1.hok.fresh (YE _))
def iRng1 (ta:TA):TI:=fun σ H R=>ta σ H fun vs H1=>∃ j:Int,vs=[.int j]/\-(2 ^ 62)<=j/\j<2 ^ 62/\R (Itr 0 j.toNat) H1
theorem Yz {a:Expr}{ta:TA}{p pos:Pos}(hg:Gl X "range")(hm:X.mg "range"=none)(ha:PA X [a] ta)(hs:starEach [a] X.env=[(false,eval a X.env)]:=by rfl):PI X tg (.Call (.Name "range" p) [a] [] pos) (iRng1 ta):=by
 intro pins s σ H R I h
 refine Call_ (W3 I hg hm boot_range (XR (thn (ha pos pins s σ H _ I h) fun us s1 ⟨vs,H1,I1,r1,q1⟩=>?_) hs rfl))
 obtain⟨j,e,q1,q2,q⟩:=q1
 subst e
 cases r1 with
 | cons r rr =>
  cases rr
  obtain⟨t,rfl⟩:=r
  exact call_range_1 (Z07 I1 (by omega) (by omega) q1 q2 (by simpa using q))
def tFor (wi:TI)(g:TG)(tb:TS):TS:=fun D σ H=>wi σ H fun J H1=>∃ W:Nat->Nat->St->Hp->Prop,(∃ m,W 0 m σ H1)/\∀ i m σ H,W i m σ H →
 (J.stop i H/\D.nx σ H) \/ (J.go i H/\∃ N:St->Hp->Prop,(∀ σ' H',N σ' H'->∃ m',m'<m/\W (i+1) m' σ' H')/\∀ x H',J.yld i H x H'->g x σ H' fun σ2 H2=>tb { D with nx:=N,ct:=N,bk:=D.nx } σ2 H2)
def pinsAt (fp:List Addr)(h:Heap):List (Addr × Obj):=fp.filterMap fun b=>(h.get? b).map fun o=>(b,o)
theorem Xo {fp:List Addr}{h:Heap}{b:Addr}{o:Obj}(hb:b∈fp)(e:h.get? b=some o):(b,o)∈pinsAt fp h:=Y0a.mpr ⟨b,hb,by rw[e];rfl⟩
theorem C5 {fp:List Addr}{h:Heap}{p:Addr × Obj}(hp:p∈pinsAt fp h):p.1∈fp/\h.get? p.1=some p.2:=by
 obtain⟨b,hb,e⟩:=Y0a.mp hp
 cases q:h.get? b with
 | none=>rw[q] at e;cases e
 | some o =>
  rw[q] at e
  have e':(b,o)=p:=YK e
  subst e'
  exact⟨hb,q⟩
theorem Inv.pinned {pins:List (Addr × Obj)}{σ:St}{H:Hp}{s:Shared}{fp:List Addr}(I:Inv X pins σ H s)(hf:∀ b∈fp,FpOk X pins H b)(ho:∀ b∈fp,∃ o,s.heap.get? b=some o/\∀ v,o.data≠.cell v):Inv X (pins++pinsAt fp s.heap) σ H s :=
 I.pins_of fun p hp=>(JU.mp hp).elim (fun z=>I.pin p (XJ _ z)) fun z=>by
  obtain⟨hb,e⟩:=C5 z
  obtain⟨f0,f1,f2,_⟩:=hf p.1 hb
  obtain⟨o,e',d⟩:=ho p.1 hb
  rw[e] at e';cases e'
  exact⟨e,f0,f1,f2,d⟩
theorem Inv.unpinned {pins pl:List (Addr × Obj)}{σ:St}{H:Hp}{s:Shared}(I:Inv X (pins++pl) σ H s):Inv X pins σ H s:=I.pins_of fun p hp=>I.pin p (XJ _ (YJ _ hp))
theorem V3 {iter:Expr}{body:List Stmt}{wi:TI}{g:TG}{tb:TS}{pos:Pos}(hp:PassesOwn (model X.prog X.w) X.A X.env X.xe)(hc:X.calm=true)(hi:PI X tg iter wi)(hg:PG X tg g)(hb:PSs X body tb)
  (hs:∀ x,foldedSetIterable iter X.env x=pure x:=by intro _;rfl):PS X (.For tg iter body [] pos) (tFor wi g tb):=by
 intro pins s σ H D I h
 refine wpAny_For (thn (hi pins s σ H _ I h) fun v s1 h1=>thn h1 fun itv s2 h2=>?_) hs
 obtain⟨it,fp,tn,J,H2,e,I2,T,st2,f2,W,⟨m0,w0⟩,turn⟩:=h2
 subst e
 have stat:∀ {H':Hp},(∀ b∈fp,H' b=none)->∀ b∈fp,FpOk X pins H' b:=fun hn b hb=>⟨hn b hb,(f2 b hb).2⟩
 refine codeAny_forLoop_any (fun n s'=>∃ i σ' H',Inv X pins σ' H' s'/\tn i s'.heap/\(∀ b∈fp,H' b=none)/\W i n σ' H') ?_ m0 ⟨0,σ,H2,I2,st2,fun b hb=>(f2 b hb).1,w0⟩
 rintro n s3 ⟨i,σ3,H3,I3,st3,fr3,w3⟩
 rcases turn i n σ3 H3 w3 with ⟨stop,qn⟩ | ⟨go,N,hN,step⟩
 ·refine zc hp (thn (T.done X rfl rfl rfl hc i pins s3 σ3 H3 X.xe I3 (stat fr3) st3 stop) fun r s4 ⟨hr,I4⟩=>?_)
  subst hr
  exact zJ ⟨σ3,H3,I4,qn⟩
 ·refine zc hp (thn (T.item X rfl rfl rfl hc i pins s3 σ3 H3 X.xe I3 (stat fr3) st3 go) fun r s4 ⟨u,hr,h4⟩=>?_)
  subst hr
  refine zc hp (thn h4 fun _ s5 ⟨x,H5,I5,r5,y5,st5,fr5⟩=>?_)
  have I5':=I5.pinned (stat fr5) (T.obj _ _ st5)
  refine zc hp (thn (hg _ s5 σ3 H5 x u _ I5' r5 (step x H5 y5)) fun _ s6 ⟨σ6,H6,I6,q6⟩=>?_)
  refine zc hp (thn (hb _ s6 σ6 H6 _ I6 q6) fun f s7 q7=>?_)
  have again:∀ {σ7:St} {H7:Hp},Inv X (pins++pinsAt fp s5.heap) σ7 H7 s7->N σ7 H7->∃ m,m<n/\∃ i σ' H',Inv X pins σ' H' s7/\tn i s7.heap/\(∀ b∈fp,H' b=none)/\W i m σ' H':=fun {σ7 H7} I7 n7=>by
   obtain⟨m',hm,w7⟩:=hN σ7 H7 n7
   refine⟨m',hm,i+1,σ7,H7,I7.unpinned,T.keep _ _ _ st5 fun b hb o e=>(I7.pin (b,o) (XJ _ (XJ _ (Xo hb e)))).1,fun b hb=>?_,w7⟩
   obtain⟨o,e,d⟩:=T.obj _ _ st5 b hb
   exact (I7.pin (b,o) (XJ _ (XJ _ (Xo hb e)))).2.1
  cases f with
  | next=>obtain⟨σ7,H7,I7,n7⟩:=q7;exact again I7 n7
  | cont=>obtain⟨σ7,H7,I7,n7⟩:=q7;exact again I7 n7
  | brk=>obtain⟨σ7,H7,I7,q7⟩:=q7;exact⟨σ7,H7,I7.unpinned,q7⟩
  | ret v=>obtain⟨x7,σ7,H7,I7,r7,q7⟩:=q7;exact⟨x7,σ7,H7,I7.unpinned,r7,q7⟩
end
theorem K7 {K:W.Frag}{a:Addr}{xs:List V}{g:TG}{tb:TS}{D:Ends}{σ:St}{H:Hp}(Pv:Nat->St->Hp->Prop)(h0:Pv 0 σ H)(hl:∀ i σ H,i<=xs.length->Pv i σ H->SqL K H a xs)
  (hs:∀ i x σ H,xs[i]?=some x->Pv i σ H->g x σ H fun σ2 H2=>tb { D with nx:=Pv (i+1),ct:=Pv (i+1),bk:=D.nx } σ2 H2) (hd:∀ σ H,Pv xs.length σ H->D.nx σ H) :
  ∃ W:Nat->Nat->St->Hp->Prop,(∃ m,W 0 m σ H)/\∀ i m σ H,W i m σ H →
   ((Itl K a).stop i H/\D.nx σ H) \/ ((Itl K a).go i H/\∃ N:St->Hp->Prop,(∀ σ' H',N σ' H'->∃ m',m'<m/\W (i+1) m' σ' H')/\∀ x H',(Itl K a).yld i H x H'->g x σ H' fun σ2 H2=>tb { D with nx:=N,ct:=N,bk:=D.nx } σ2 H2):=by
 refine⟨fun i m σ H=>m=xs.length - i/\i<=xs.length/\Pv i σ H,⟨xs.length,by simp,JY _,h0⟩,?_⟩
 rintro i m σ H ⟨rfl,hi,p⟩
 have q:=hl i σ H hi p
 by_cases hlt:i<xs.length
 ·refine .inr ⟨⟨xs,xs[i],q,by simp[hlt]⟩,Pv (i+1),fun σ' H' p'=>⟨xs.length - (i+1),by omega,rfl,hlt,p'⟩,fun x H' y=>?_⟩
  obtain⟨e,y⟩:=y
  subst e
  exact hs i x σ _ (y xs q) p
 ·have e:i=xs.length:=by omega
  subst e
  exact .inl ⟨⟨xs,q,YE _⟩,hd σ H p⟩
theorem Fs {K:W.Frag}{a:Addr}{xs:List V}{g:TG}{tb:TS}{D:Ends}{σ:St}{H:Hp}(Pv:Nat->St->Hp->Prop)(h0:Pv 0 σ H)(hl:∀ i σ H,i<=xs.length->Pv i σ H->SqT K H a xs)
  (hs:∀ i x σ H,xs[i]?=some x->Pv i σ H->g x σ H fun σ2 H2=>tb { D with nx:=Pv (i+1),ct:=Pv (i+1),bk:=D.nx } σ2 H2) (hd:∀ σ H,Pv xs.length σ H->D.nx σ H) :
  ∃ W:Nat->Nat->St->Hp->Prop,(∃ m,W 0 m σ H)/\∀ i m σ H,W i m σ H →
   ((Itt K a).stop i H/\D.nx σ H) \/ ((Itt K a).go i H/\∃ N:St->Hp->Prop,(∀ σ' H',N σ' H'->∃ m',m'<m/\W (i+1) m' σ' H')/\∀ x H',(Itt K a).yld i H x H'->g x σ H' fun σ2 H2=>tb { D with nx:=N,ct:=N,bk:=D.nx } σ2 H2):=by
 refine⟨fun i m σ H=>m=xs.length - i/\i<=xs.length/\Pv i σ H,⟨xs.length,by simp,JY _,h0⟩,?_⟩
 rintro i m σ H ⟨rfl,hi,p⟩
 have q:=hl i σ H hi p
 by_cases hlt:i<xs.length
 ·refine .inr ⟨⟨xs,xs[i],q,by simp[hlt]⟩,Pv (i+1),fun σ' H' p'=>⟨xs.length - (i+1),by omega,rfl,hlt,p'⟩,fun x H' y=>?_⟩
  obtain⟨e,y⟩:=y
  subst e
  exact hs i x σ _ (y xs q) p
 ·have e:i=xs.length:=by omega
  subst e
  exact .inl ⟨⟨xs,q,YE _⟩,hd σ H p⟩
theorem Nb {lo:Int}{n:Nat}{g:TG}{tb:TS}{D:Ends}{σ:St}{H:Hp}(Pv:Nat->St->Hp->Prop)(h0:Pv 0 σ H)
  (hs:∀ i σ H,i<n->Pv i σ H->g (.int (lo+i)) σ H fun σ2 H2=>tb { D with nx:=Pv (i+1),ct:=Pv (i+1),bk:=D.nx } σ2 H2) (hd:∀ σ H,Pv n σ H->D.nx σ H) :
  ∃ W:Nat->Nat->St->Hp->Prop,(∃ m,W 0 m σ H)/\∀ i m σ H,W i m σ H →
   ((Itr lo n).stop i H/\D.nx σ H) \/ ((Itr lo n).go i H/\∃ N:St->Hp->Prop,(∀ σ' H',N σ' H'->∃ m',m'<m/\W (i+1) m' σ' H')/\∀ x H',(Itr lo n).yld i H x H'->g x σ H' fun σ2 H2=>tb { D with nx:=N,ct:=N,bk:=D.nx } σ2 H2):=by
 refine⟨fun i m σ H=>m=n - i/\i<=n/\Pv i σ H,⟨n,by simp,JY _,h0⟩,?_⟩
 rintro i m σ H ⟨rfl,hi,p⟩
 by_cases hlt:i<n
 ·refine .inr ⟨hlt,Pv (i+1),fun σ' H' p'=>⟨n - (i+1),by omega,rfl,hlt,p'⟩,fun x H' y=>?_⟩
  obtain⟨e,y⟩:=y
  subst e y
  exact hs i σ _ hlt p
 ·have e:i=n:=by omega
  subst e
  exact .inl ⟨YE _,hd σ H p⟩
theorem Ms {c:TT}{tb:TS}{D:Ends}{σ:St}{H:Hp}(Pv:St->Hp->Prop)(μ:St->Hp->Nat)(h0:Pv σ H)
  (hs:∀ σ H,Pv σ H->c σ H fun b H1=>if b=true then tb { D with nx:=fun σ' H'=>Pv σ' H'/\μ σ' H'<μ σ H,ct:=fun σ' H'=>Pv σ' H'/\μ σ' H'<μ σ H,bk:=D.nx } σ H1 else D.nx σ H1)
  (mono:∀ σ H Q Q',(∀ b H1,Q b H1->Q' b H1)->c σ H Q->c σ H Q'):tWhile c tb D σ H:=by
 refine⟨fun m σ H=>m=μ σ H/\Pv σ H,⟨_,rfl,h0⟩,?_⟩
 rintro m σ H ⟨rfl,p⟩
 refine mono σ H _ _ (fun b H1 q=>?_) (hs σ H p)
 cases b with
 | true=>exact⟨_,fun σ' H' ⟨p',l⟩=>⟨_,l,rfl,p'⟩,q⟩
 | false=>exact q
end L2
namespace L2
open PySem PySem.Spec PyProof.Rows
abbrev R2:=V->V->Hp->VK->Prop
def OpR (X:Cx)(f:Value->Value->Sem Value)(r:R2):Prop :=
 ∀ (pins:List (Addr × Obj)) (s:Shared) (σ:St) (H:Hp) (x y:V) (v u:Value) (Q:VK),Inv X pins σ H s->RelV x v->RelV y u->r x y H Q →
  wpAny (model X.prog X.w) X.A (f v u) (EP X pins σ Q) X.xe s
def UnR (X:Cx)(f:Value->Sem Value)(r:V->Hp->VK->Prop):Prop :=
 ∀ (pins:List (Addr × Obj)) (s:Shared) (σ:St) (H:Hp) (x:V) (v:Value) (Q:VK),Inv X pins σ H s->RelV x v->r x H Q →
  wpAny (model X.prog X.w) X.A (f v) (EP X pins σ Q) X.xe s
def CallR (X:Cx)(f:Value)(r:List V->Hp->VK->Prop):Prop :=
 ∀ (pins:List (Addr × Obj)) (s:Shared) (σ:St) (H:Hp) (xs:List V) (us:List Value) (Q:VK),Inv X pins σ H s->Vals xs us->r xs H Q →
  wpAny (model X.prog X.w) X.A (call f us) (EP X pins σ Q) X.xe s
def TruR (X:Cx)(r:V->Hp->(Bool->Hp->Prop)->Prop):Prop :=
 ∀ (pins:List (Addr × Obj)) (s:Shared) (σ:St) (H:Hp) (x:V) (v:Value) (Q:Bool->Hp->Prop),Inv X pins σ H s->RelV x v->r x H Q →
  wpAny (model X.prog X.w) X.A (truthy v) (TP X pins σ Q) X.xe s
def tOp (r:R2)(ta tb:TE):TE:=fun σ H Q=>ta σ H fun x H1=>tb σ H1 fun y H2=>r x y H2 Q
def tUn (r:V->Hp->VK->Prop)(ta:TE):TE:=fun σ H Q=>ta σ H fun x H1=>r x H1 Q
def rI (C:Int->Int->Prop)(g:Int->Int->V):R2:=fun x y H Q=>∃ i j,x=.int i/\y=.int j/\C i j/\Q (g i j) H
def rI0 (g:Int->Int->V):R2:=fun x y H Q=>∃ i j,x=.int i/\y=.int j/\Q (g i j) H
def rU (g:Int->V):V->Hp->VK->Prop:=fun x H Q=>∃ i,x=.int i/\Q (g i) H
section
variable {X:Cx}{a b c:Expr}{ta tb tc:TE}{pos:Pos}
theorem Z6g (ha:PE X a ta)(hb:PE X b tb){pins:List (Addr × Obj)}{s:Shared}{σ:St}{H:Hp}{R:V->V->Hp->Prop}(I:Inv X pins σ H s)
  (h:ta σ H fun x H1=>tb σ H1 fun y H2=>R x y H2) {Q:Value->Shared->Prop} {f:Value->Value->Sem Value}
  (hf:∀ v u s2 x y H2,Inv X pins σ H2 s2->RelV x v->RelV y u->R x y H2->wpAny (model X.prog X.w) X.A (f v u) Q X.xe s2) :
  wpAny (model X.prog X.w) X.A (eval a X.env) (fun v s₁=>wpAny (model X.prog X.w) X.A (eval b X.env) (fun u s₂=>wpAny (model X.prog X.w) X.A (f v u) Q X.xe s₂) X.xe s₁) X.xe s:=by
 refine thn (ha pins s σ H _ I h) fun v s1 ⟨x,H1,I1,r1,q1⟩=>?_
 refine thn (hb pins s1 σ H1 _ I1 q1) fun u s2 ⟨y,H2,I2,r2,q2⟩=>?_
 exact hf v u s2 x y H2 I2 r1 r2 q2
theorem Zn {op:Operator}{r:R2}(ho:OpR X (binaryOp op) r)(ha:PE X a ta)(hb:PE X b tb):PE X (.BinOp a op b pos) (tOp r ta tb):=by
 intro pins s σ H Q I h
 exact wpAny_BinOp (Z6g ha hb I h fun v u s2 x y H2 I2 rx ry q=>ho pins s2 σ H2 x y v u Q I2 rx ry q)
theorem Vy {op:UnaryOp}{r:V->Hp->VK->Prop}(ho:UnR X (unaryOp op) r)(ha:PE X a ta):PE X (.UnaryOp op a pos) (tUn r ta):=by
 intro pins s σ H Q I h
 exact UnaryOp_ (thn (ha pins s σ H _ I h) fun v s1 ⟨x,H1,I1,r1,q1⟩=>ho pins s1 σ H1 x v Q I1 r1 q1)
theorem opI {f:Value->Value->Sem Value}{C:Int->Int->Prop}{g:Int->Int->Int}
  (rule:∀ (i j:Int) (t u:Tok) (s:Shared) (Q:Value->Shared->Prop) (E:Value->Shared->Prop),C i j->Q (.int (g i j) s.toks) { s with toks:=s.toks+1 }->wpAny (model X.prog X.w) X.A (f (.int i t) (.int j u)) Q E s) :
  OpR X f (rI C fun i j=>.int (g i j)):=by
 intro pins s σ H x y v u Q I rx ry h
 obtain⟨i,j,rfl,rfl,hc,q⟩:=h
 obtain⟨t,rfl⟩:=rx
 obtain⟨t',rfl⟩:=ry
 exact rule i j t t' s _ _ hc ⟨.int (g i j),H,I.tok _,⟨_,rfl⟩,q⟩
theorem Z6n {f:Value->Value->Sem Value}{g:Int->Int->Int}
  (rule:∀ (i j:Int) (t u:Tok) (s:Shared) (Q:Value->Shared->Prop) (E:Value->Shared->Prop),Q (.int (g i j) s.toks) { s with toks:=s.toks+1 }->wpAny (model X.prog X.w) X.A (f (.int i t) (.int j u)) Q E s) :
  OpR X f (rI0 fun i j=>.int (g i j)):=by
 intro pins s σ H x y v u Q I rx ry h
 obtain⟨i,j,rfl,rfl,q⟩:=h
 obtain⟨t,rfl⟩:=rx
 obtain⟨t',rfl⟩:=ry
 exact rule i j t t' s _ _ ⟨.int (g i j),H,I.tok _,⟨_,rfl⟩,q⟩
theorem Z39 {f:Value->Value->Sem Value}{g:Int->Int->Bool}
  (rule:∀ (i j:Int) (t u:Tok) (s:Shared) (Q:Value->Shared->Prop) (E:Value->Shared->Prop),Q (.bool (g i j)) s->wpAny (model X.prog X.w) X.A (f (.int i t) (.int j u)) Q E s) :
  OpR X f (rI0 fun i j=>.bl (g i j)):=by
 intro pins s σ H x y v u Q I rx ry h
 obtain⟨i,j,rfl,rfl,q⟩:=h
 obtain⟨t,rfl⟩:=rx
 obtain⟨t',rfl⟩:=ry
 exact rule i j t t' s _ _ ⟨.bl (g i j),H,I,rfl,q⟩
def CPow (i j:Int):Prop:=0<=j/\j<=1000000/\i.natAbs<2 ^ 64
def CMul (i j:Int):Prop:=(-(2 ^ 64)<i/\i<2 ^ 64) \/ (-(2 ^ 64)<j/\j<2 ^ 64)
theorem X1:OpR X (binaryOp .Add) (rI0 fun i j=>.int (i+j)):=Z6n fun _ _ _ _ _ _ _ q=>add_int q
theorem U8:OpR X (binaryOp .Sub) (rI0 fun i j=>.int (i - j)):=Z6n fun _ _ _ _ _ _ _ q=>sub_int q
theorem Wn:OpR X (binaryOp .Mod) (rI (fun _ j=>0<j) fun i j=>.int (i % j)):=opI fun i j _ _ _ _ _ hc q=>by
 have h1:(0:Int)<j:=hc
 exact mod_int' (by omega) (by rw[Int.fmod_eq_emod_of_nonneg i (by omega)];exact q)
theorem Z36:OpR X (binaryOp .Mod) (rI (fun _ j=>j≠0) fun i j=>.int (i.fmod j)):=opI fun _ _ _ _ _ _ _ hc q=>mod_int' hc q
theorem M0:OpR X (binaryOp .Pow) (rI CPow fun i j=>.int (i ^ j.toNat)):=opI fun _ _ _ _ _ _ _ hc q=>pow_int_small hc.1 hc.2.1 hc.2.2 q
theorem unI {f:Value->Sem Value}{g:Int->Int}
  (rule:∀ (i:Int) (t:Tok) (s:Shared) (Q:Value->Shared->Prop) (E:Value->Shared->Prop),Q (.int (g i) s.toks) { s with toks:=s.toks+1 }->wpAny (model X.prog X.w) X.A (f (.int i t)) Q E s) :
  UnR X f (rU fun i=>.int (g i)):=by
 intro pins s σ H x v Q I rx h
 obtain⟨i,rfl,q⟩:=h
 obtain⟨t,rfl⟩:=rx
 exact rule i t s _ _ ⟨.int (g i),H,I.tok _,⟨_,rfl⟩,q⟩
theorem Xx:UnR X (unaryOp .USub) (rU fun i=>.int (-i)):=unI fun _ _ _ _ _ q=>neg_int q
end
def scal:V->V->Bool
 | .non,.non=>true | .non,.int _=>true | .int _,.non=>true | .non,.bl _=>true | .bl _,.non=>true | .non,.str _=>true | .str _,.non=>true
 | .int _,.int _=>true | .bl _,.bl _=>true | .str _,.str _=>true | .byt _,.byt _=>true
 | .int _,.str _=>true | .str _,.int _=>true | .bl _,.str _=>true | .str _,.bl _=>true
 | _,_=>false
def rEq:R2:=fun x y H Q=>scal x y=true/\Q (.bl (decide (x=y))) H
def rNe:R2:=fun x y H Q=>scal x y=true/\Q (.bl (!decide (x=y))) H
theorem Fw {i j:Int}:decide (V.int i=V.int j)=(i == j):=by
 rw[GS]
 simp
theorem Z2g {i j:Bool}:decide (V.bl i=V.bl j)=(i == j):=by
 rw[GS]
 simp
theorem Fv {i j:Str}:decide (V.str i=V.str j)=(i == j):=by
 rw[GS]
 simp
theorem Fx {i j:Array UInt8}:decide (V.byt i=V.byt j)=(i.toList == j.toList):=by
 rw[GS]
 cases i
 cases j
 simp
section
variable {X:Cx}{a b c:Expr}{ta tb tc:TE}{pos:Pos}
theorem Yg {pins:List (Addr × Obj)}{σ:St}{H:Hp}{s:Shared}{Q:VK}{k k':Bool}(I:Inv X pins σ H s)(q:Q (.bl k) H)(e:k=k'):EP X pins σ Q (.bool k') s:=by
 subst e
 exact⟨.bl k,H,I,rfl,q⟩
theorem Xk:OpR X (compareOp .Eq) rEq:=by
 intro pins s σ H x y v u Q I rx ry h
 obtain⟨hs,q⟩:=h
 cases x with
 | non =>
  cases rx
  cases y with
  | non=>cases ry;exact PySem.EqNone.eq_none_none (Yg I q (by simp))
  | bl j=>cases ry;exact PySem.EqNone.eq_none_bool (Yg I q (by simp))
  | int j=>obtain⟨t',rfl⟩:=ry;exact PySem.EqNone.eq_none_int (Yg I q (by simp))
  | str j=>obtain⟨t',rfl⟩:=ry;exact PySem.EqNone.eq_none_str (Yg I q (by simp))
  | _=>exact absurd (show false=true from hs) YT
 | bl i =>
  cases rx
  cases y with
  | non=>cases ry;exact PySem.EqNone.eq_bool_none (Yg I q (by simp))
  | bl j=>cases ry;exact eq_bool (Yg I q Z2g)
  | str j=>obtain⟨t',rfl⟩:=ry;exact PySem.EqMixed.eq_bool_str (Yg I q (by simp))
  | _=>exact absurd (show false=true from hs) YT
 | int i =>
  obtain⟨t,rfl⟩:=rx
  cases y with
  | non=>cases ry;exact PySem.EqNone.eq_int_none (Yg I q (by simp))
  | int j=>obtain⟨t',rfl⟩:=ry;exact eq_int (Yg I q Fw)
  | str j=>obtain⟨t',rfl⟩:=ry;exact PySem.EqMixed.eq_int_str (Yg I q (by simp))
  | _=>exact absurd (show false=true from hs) YT
 | str i =>
  obtain⟨t,rfl⟩:=rx
  cases y with
  | non=>cases ry;exact PySem.EqNone.eq_str_none (Yg I q (by simp))
  | bl j=>cases ry;exact PySem.EqMixed.eq_str_bool (Yg I q (by simp))
  | int j=>obtain⟨t',rfl⟩:=ry;exact PySem.EqMixed.eq_str_int (Yg I q (by simp))
  | str j=>obtain⟨t',rfl⟩:=ry;exact eq_str (Yg I q Fv)
  | _=>exact absurd (show false=true from hs) YT
 | byt i =>
  obtain⟨t,rfl⟩:=rx
  cases y with
  | byt j=>obtain⟨t',rfl⟩:=ry;exact W.eq_bytes (Yg I q Fx)
  | _=>exact absurd (show false=true from hs) YT
 | _=>cases y <;> exact absurd (show false=true from hs) YT
theorem Lq:OpR X (compareOp .NotEq) rNe:=by
 intro pins s σ H x y v u Q I rx ry h
 obtain⟨hs,q⟩:=h
 cases x with
 | non =>
  cases rx
  cases y with
  | non=>cases ry;exact PySem.EqNone.ne_none_none (Yg I q (by simp))
  | bl j=>cases ry;exact PySem.EqNone.ne_none_bool (Yg I q (by simp))
  | int j=>obtain⟨t',rfl⟩:=ry;exact PySem.EqNone.ne_none_int (Yg I q (by simp))
  | str j=>obtain⟨t',rfl⟩:=ry;exact PySem.EqNone.ne_none_str (Yg I q (by simp))
  | _=>exact absurd (show false=true from hs) YT
 | bl i =>
  cases rx
  cases y with
  | non=>cases ry;exact PySem.EqNone.ne_bool_none (Yg I q (by simp))
  | bl j=>cases ry;exact ne_bool (Yg I q (congrArg not Z2g))
  | str j=>obtain⟨t',rfl⟩:=ry;exact PySem.EqMixed.ne_bool_str (Yg I q (by simp))
  | _=>exact absurd (show false=true from hs) YT
 | int i =>
  obtain⟨t,rfl⟩:=rx
  cases y with
  | non=>cases ry;exact PySem.EqNone.ne_int_none (Yg I q (by simp))
  | int j=>obtain⟨t',rfl⟩:=ry;exact ne_int (Yg I q (congrArg not Fw))
  | str j=>obtain⟨t',rfl⟩:=ry;exact PySem.EqMixed.ne_int_str (Yg I q (by simp))
  | _=>exact absurd (show false=true from hs) YT
 | str i =>
  obtain⟨t,rfl⟩:=rx
  cases y with
  | non=>cases ry;exact PySem.EqNone.ne_str_none (Yg I q (by simp))
  | bl j=>cases ry;exact PySem.EqMixed.ne_str_bool (Yg I q (by simp))
  | int j=>obtain⟨t',rfl⟩:=ry;exact PySem.EqMixed.ne_str_int (Yg I q (by simp))
  | str j=>obtain⟨t',rfl⟩:=ry;exact ne_str (Yg I q (congrArg not Fv))
  | _=>exact absurd (show false=true from hs) YT
 | byt i =>
  obtain⟨t,rfl⟩:=rx
  cases y with
  | byt j=>obtain⟨t',rfl⟩:=ry;exact W.ne_bytes (Yg I q (congrArg not Fx))
  | _=>exact absurd (show false=true from hs) YT
 | _=>cases y <;> exact absurd (show false=true from hs) YT
theorem N6:OpR X (compareOp .Lt) (rI0 fun i j=>.bl (decide (i<j))):=Z39 fun _ _ _ _ _ _ _ q=>lt_int q
theorem Z4t:OpR X (compareOp .LtE) (rI0 fun i j=>.bl (decide (i<=j))):=Z39 fun _ _ _ _ _ _ _ q=>le_int q
theorem Fe:OpR X (compareOp .Gt) (rI0 fun i j=>.bl (decide (j<i))):=Z39 fun _ _ _ _ _ _ _ q=>gt_int q
theorem Z6m:OpR X (compareOp .GtE) (rI0 fun i j=>.bl (decide (j<=i))):=Z39 fun _ _ _ _ _ _ _ q=>ge_int q
theorem Xn:OpR X (compareOp .Is) (fun x y H Q=>y=.non/\Q (.bl (decide (x=.non))) H):=by
 intro pins s σ H x y v u Q I rx ry h
 obtain⟨rfl,q⟩:=h
 cases ry
 refine is_none_gen (Yg I q ?_)
 cases x <;> first
  | (cases rx;rfl)
  | (obtain⟨t,rfl⟩:=rx;rfl)
theorem Fd:OpR X (compareOp .IsNot) (fun x y H Q=>y=.non/\Q (.bl (!decide (x=.non))) H):=by
 intro pins s σ H x y v u Q I rx ry h
 obtain⟨rfl,q⟩:=h
 cases ry
 refine isnot_none_gen (Yg I q ?_)
 cases x <;> first
  | (cases rx;rfl)
  | (obtain⟨t,rfl⟩:=rx;rfl)
theorem Zt (b:Expr){op:CmpOp}(h:op≠.In:=by decide)(h2:op≠.NotIn:=by decide):behindInMarks op b=false:=by
 have e1:(op == CmpOp.In)=false:=by cases op <;> first | rfl | exact absurd rfl h
 have e2:(op == CmpOp.NotIn)=false:=by cases op <;> first | rfl | exact absurd rfl h2
 cases b <;> simp[behindInMarks,e1,e2]
theorem Xs {op:CmpOp}{r:R2}(ho:OpR X (compareOp op) r)(ha:PE X a ta)(hb:PE X b tb)(hm:behindInMarks op b=false):PE X (.Compare a [op] [b] pos) (tOp r ta tb):=by
 intro pins s σ H Q I h
 exact wpAny_Compare1 (Z6g ha hb I h fun v u s2 x y H2 I2 rx ry q=>ho pins s2 σ H2 x y v u Q I2 rx ry q) hm
def tTest (t:TE):TT:=fun σ H Q=>t σ H fun x H'=>∃ k,x=.bl k/\Q k H'
theorem Zo {op:CmpOp}{r:R2}(ho:OpR X (compareOp op) r)(ha:PE X a ta)(hb:PE X b tb)(hm:behindInMarks op b=false):PT X (.Compare a [op] [b] pos) (tTest (tOp r ta tb)):=by
 intro pins s σ H Q I h
 refine wpAny_isTrue_Compare1 (thn (ha pins s σ H _ I h) fun v s1 ⟨x,H1,I1,r1,q1⟩=>thn (hb pins s1 σ H1 _ I1 q1) fun u s2 ⟨y,H2,I2,r2,q2⟩ =>
  thn (ho pins s2 σ H2 x y v u _ I2 r1 r2 q2) fun c s3 ⟨z,H3,I3,r3,k,e,q3⟩=>?_) hm
 subst e
 cases r3
 exact ze ⟨H3,I3,q3⟩
def TruV (K:W.Frag)(x:V)(H:Hp)(k:Bool):Prop :=
 match x with
 | .non=>k=false
 | .bl b=>k=b
 | .int i=>k=(i != 0)
 | .str y=>y.length<=sizeLine/\k=((y.length:Int) != 0)
 | .byt y=>y.size<=sizeLine/\k=((y.size:Int) != 0)
 | .ref p=>(∃ xs,SqL K H p xs/\k=!xs.isEmpty) \/ (∃ xs,SqT K H p xs/\k=!xs.isEmpty) \/ ∃ kvs,H p=some (.dK kvs)/\k=!kvs.isEmpty
 | _=>False
theorem Jq {κ:Type}{kvs:List (κ × V)}{vs:List (κ × Value)}(r:KV kvs vs):(!vs.isEmpty)=!kvs.isEmpty:=by
 cases r <;> rfl
theorem P5 {xs:List V}{its:List Value}(r:Vals xs its):(!its.toArray.isEmpty)=!xs.isEmpty:=by
 cases r <;> simp
theorem Qy:(sizeLine:Nat)<2 ^ 63:=by rw[Y0q];decide
theorem Z50:TruR X (fun x H Q=>∃ k,TruV X.K x H k/\Q k H):=by
 intro pins s σ H x v Q I rx h
 obtain⟨k,e,q⟩:=h
 have hl:=Qy
 have hs:sizeLine=16777216:=Y0q
 cases x with
 | non =>
  cases rx
  have e':k=false:=e
  subst e'
  exact truthy_none ⟨H,I,q⟩
 | bl b =>
  cases rx
  have e':k=b:=e
  subst e'
  exact ze ⟨H,I,q⟩
 | int i =>
  obtain⟨t,rfl⟩:=rx
  have e':k=(i != 0):=e
  subst e'
  exact PySem.P.truthy_int ⟨H,I,q⟩
 | str y =>
  obtain⟨t,rfl⟩:=rx
  obtain⟨hy,e'⟩:y.length<=sizeLine/\k=((y.length:Int) != 0):=e
  subst e'
  exact PySem.P.truthy_str (by omega) ⟨H,I.tok _,q⟩
 | byt y =>
  obtain⟨t,rfl⟩:=rx
  obtain⟨hy,e'⟩:y.size<=sizeLine/\k=((y.size:Int) != 0):=e
  subst e'
  exact W.truthy_bytes (by omega) ⟨H,I.tok _,q⟩
 | ref p =>
  cases rx
  have e':(∃ xs,SqL X.K H p xs/\k=!xs.isEmpty) \/ (∃ xs,SqT X.K H p xs/\k=!xs.isEmpty) \/ ∃ kvs,H p=some (.dK kvs)/\k=!kvs.isEmpty:=e
  rcases e' with ⟨xs,hx,e'⟩ | ⟨xs,hx,e'⟩ | ⟨kvs,hx,e'⟩
  ·subst e'
   obtain⟨its,r,pl,hz⟩:=I.list hx
   have hlen:=r.length
   exact wpAny_truthy_list pl.isList (by simp only [YR];omega) ⟨H,I.tok _,by rw[P5 r];exact q⟩
  ·subst e'
   obtain⟨its,r,pl,hz⟩:=I.tuple hx
   have hlen:=r.length
   exact truthy_tuple pl (by simp only [YR];omega) ⟨H,I.tok _,by rw[P5 r];exact q⟩
  ·subst e'
   obtain⟨hz,hS,vs,r,m⟩:kvs.length<=sizeLine/\(p == sysModules)=false/\∃ vs,KV kvs vs/\s.heap.DictOf (mixKind X.prog X.w) p vs:=I.hok p _ hx
   have hlen:kvs.length=vs.length:=JK r
   exact wpAny_truthy_dict hS m (by omega) ⟨H,I.tok _,by rw[Jq r];exact q⟩
 | _=>exact (show False from e).elim
theorem Z0c (ha:PE X a ta)(he:∀ whole,isTrue a X.env whole=(do let v <-whole;standAt a.pos;holding [v] (truthy v))) :
  PT X a (fun σ H Q=>ta σ H fun x H'=>∃ k,TruV X.K x H' k/\Q k H'):=by
 intro pins s σ H Q I h
 exact isTrue_plain (thn (ha pins s σ H _ I h) fun v s1 ⟨x,H1,I1,r1,q1⟩=>Z50 pins s1 σ H1 x v Q I1 r1 q1) (he _)
theorem Ta {x:V}{us:List Value}(r:Vals [x] us):∃ u,us=[u]/\RelV x u:=by
 cases r with
 | cons r1 r2=>cases r2;exact⟨_,rfl,r1⟩
theorem Mt {x y:V}{us:List Value}(r:Vals [x,y] us):∃ u w',us=[u,w']/\RelV x u/\RelV y w':=by
 cases r with
 | cons r1 r2 =>
  cases r2 with
  | cons r3 r4=>cases r4;exact⟨_,_,rfl,r1,r3⟩
theorem Km:CallR X (.builtin "abs") (fun xs H Q=>∃ i,xs=[.int i]/\Q (.int (if i<0 then -i else i)) H):=by
 intro pins s σ H xs us Q I r h
 obtain⟨i,rfl,q⟩:=h
 obtain⟨u,rfl,t,rfl⟩:=Ta r
 exact call_abs_int fun u tk=>⟨.int (if i<0 then -i else i),H,I.tok _,⟨_,rfl⟩,q⟩
end
end L2
namespace L2
open PySem PySem.Spec PyProof.Rows
structure ObjM (h:Heap)(x dx C:Addr)(mA:Str->Option Value):Prop where
 obj:h.get? x=some (W.instObj C dx)
 ns:h.Ns1 dx mA
 ne:dx≠x
theorem Ce {h:Heap}{dx:Addr}{mA:Str->Option Value}(n:h.Ns1 dx mA):∃ od,h.get? dx=some od/\∀ name,W.lookIn name od=some (mA name):=by
 obtain⟨o,es,ep,ho,hd,hk,_,hm⟩:=n
 refine⟨o,ho,fun name=>?_⟩
 have e:=hm name
 unfold nsFind findBy at e
 rw[<-Y12] at e
 unfold W.lookIn
 rw[hd]
 dsimp only
 split
 ·rename_i y q
  rw[q] at e
  exact congrArg some e
 ·rename_i q
  rw[q] at e
  have a:es.toList.any (·.refKey)=false:=by
   rw[List.any_eq_false]
   intro y hy
   obtain⟨z,t,hkey⟩:=hk y (Array.mem_toList_iff.mp hy)
   simp[DictEntry.refKey,hkey]
  have a':¬ es.toList.any (·.refKey)=true:=by rw[a];exact YT
  rw[YF a']
  exact congrArg some e
theorem ObjM.look {h:Heap}{x dx C:Addr}{mA:Str->Option Value}(I:ObjM h x dx C mA):∃ od,W.InstAt h x (W.instObj C dx) C (some od)/\∀ name,W.lookIn name od=some (mA name) :=
 let ⟨od,ho,hl⟩:=Ce I.ns
 ⟨od,⟨I.obj,rfl,rfl,ho⟩,hl⟩
section
variable {prog:Program}{w:World}{A:Around}{E:Value->Shared->Prop}{s:Shared}{K:W.Frag}{x dx C f:Addr}{mA:Str->Option Value}{name:Str}{v:Value}
theorem Z48 {expr:Bool}{Q:Value->Shared->Prop}(X:K.In s.heap)(I:ObjM s.heap x dx C mA)(hg:W.plainGet K C name=true)(hh:W.hasDictIn K C=true)
  (ha:W.findIn K (.ref C) name=some none) (hv:mA name=some v) (hv':W.handedIn v=true) (h:Q v { s with toks:=s.toks+1 }) :
  wpAny (model prog w) A (getAttr (.ref x) name expr) Q E s:=by
 obtain⟨od,J,hl⟩:=I.look
 exact W.get_value X J (W.plainGet_of hg).1 (W.findObj_own hh ha rfl (by rw[hl,hv])) hv' h
theorem Z2t {ns:List Str}{Q:Unit->Shared->Prop}(X:K.In s.heap)(I:ObjM s.heap x dx C mA)
  (hs:W.findIn K (.ref C) "__setattr__"=some (some (.builtin "object.__setattr__"))) (hp:W.plainOver K C=true) (ht:W.takerIn K C name=some none) (hh:W.hasDictIn K C=true)
  (hw:PySem.Within mA ns) (hsz:ns.length<=sizeLine)
  (h:∀ h',ObjM h' x dx C (fun y=>if y=name then some v else mA y)->Heap.SameBut dx s.heap h'->Q () { s with heap:=h',toks:=s.toks+2 }) :
  wpAny (model prog w) A (setAttr (.ref x) name v) Q E s:=by
 obtain⟨od,J,hl⟩:=I.look
 refine W.set_plain X J hs (W.osa_open (s:={ s with toks:=s.toks+1 }) (r:=none) X J hp ht fun b=>?_)
 obtain⟨cd,hc,hd'⟩:=W.any_some hh
 have hx:s.heap.get? x=some ⟨.ref C,some dx,.plain,#[]⟩:=I.obj
 refine YB (YQ (YB (YB (wpAny_loadPart hx (YB (W.Looks.here (s:={ s with toks:=s.toks+1 }) (W.looks_clsIn X hc) ?_))))))
 rw[hd']
 refine YQ (a:=some dx) (YB (YQ (YB ?_)))
 refine wpAny_nsSet1 (s:={ s with toks:=s.toks+1 }) I.ns fun h' hn2 hs2=>?_
 obtain⟨oD,esD,epD,hoD,hdD,hcD⟩:=hn2.count (PySem.Within.cons name v hw)
 refine YB (wpAny_lookBehind hoD (by rw[hdD];exact pastItsLine_dict (XQ hcD (by rw[XY];omega))) ?_)
 exact YQ (h _ ⟨(hs2.2 _ (XN I.ne)).trans I.obj,hn2,I.ne⟩ hs2)
theorem Z1n {R:Result->Shared->Prop}{vs:List Value}{kw:List (Str × Value)}(X:K.In s.heap)(hm:W.makesIn K C=true)
  (hi:W.findIn K (.ref C) "__init__"=some (some (.ref f))) (hf:W.typeIn K (.ref f)=some (.type "function"))
  (h:codeAny (model prog w) (A.under (.builtin "type.__call__" ⟨.ref C::vs,kw⟩)) (.call (.ref f) ⟨.ref (s.heap.objs.size+1)::vs,kw⟩) (W.InitBack (s.heap.objs.size+1) R)
   { s with heap:=(s.heap.push W.emptyDict).push (W.instObj C s.heap.objs.size) }) :
  codeAny (model prog w) A (.call (.ref C) ⟨vs,kw⟩) R s:=by
 obtain⟨hh,g,d,t,os⟩:=s
 exact W.make_core (W.makes_of X hm) (Y0b X hi) (fun self=>W.bind_fn X self hf) (.inl rfl) h
end
def putF (f:Str)(v:V):List (Str × V)->List (Str × V)
 | []=>[(f,v)]
 | (g,x)::r=>if g=f then (g,v)::r else (g,x)::putF f v r
theorem Y7 (f g:Str)(v:V):∀ fs:List (Str × V),(putF f v fs).lookup g=if g=f then some v else fs.lookup g
 | []=>by
  show List.lookup g [(f,v)]=_
  by_cases h:g=f
  ·have hb:(g == f)=true:=qh.mpr h
   simp only [List.lookup,hb,YM h]
  ·have hb:(g == f)=false:=JE.mpr h
   simp only [List.lookup,hb,YF h]
 | (k,x)::r=>by
  have ih:=Y7 f g v r
  rw[show putF f v ((k,x)::r)=(if k=f then (k,v)::r else (k,x)::putF f v r) from rfl]
  by_cases hk:k=f
  ·rw[YM hk]
   by_cases h:g=k
   ·have hb:(g == k)=true:=qh.mpr h
    simp only [List.lookup,hb,YM (h.trans hk)]
   ·have hb:(g == k)=false:=JE.mpr h
    simp only [List.lookup,hb,YF (fun e:g=f=>h (e.trans hk.symm))]
  ·rw[YF hk]
   by_cases h:g=k
   ·have hb:(g == k)=true:=qh.mpr h
    simp only [List.lookup,hb,YF (fun e:g=f=>hk (h.symm.trans e))]
   ·have hb:(g == k)=false:=JE.mpr h
    simp only [List.lookup,hb]
    exact ih
theorem Sk (f:Str)(v:V):∀ fs:List (Str × V),f∈(putF f v fs).map (·.1)/\∀ g,g∈fs.map (·.1)->g∈(putF f v fs).map (·.1)
 | []=>⟨by simp[putF],fun g h=>by simp at h⟩
 | (k,x)::r=>by
  obtain⟨i1,i2⟩:=Sk f v r
  rw[show putF f v ((k,x)::r)=(if k=f then (k,v)::r else (k,x)::putF f v r) from rfl]
  by_cases hk:k=f
  ·rw[YM hk]
   subst hk
   exact⟨by simp,fun g h=>by simpa using h⟩
  ·rw[YF hk]
   refine⟨?_,fun g h=>?_⟩
   ·rw[Y0x]
    exact YV _ i1
   ·rw[Y0x] at h ⊢
    rcases YS.mp h with e | e
    ·exact YS.mpr (.inl e)
    ·exact YV _ (i2 g e)
theorem Rb (f:Str)(v:V):∀ fs:List (Str × V),(putF f v fs).length<=fs.length+1
 | []=>by simp[putF]
 | (k,x)::r=>by
  have ih:=Rb f v r
  rw[show putF f v ((k,x)::r)=(if k=f then (k,v)::r else (k,x)::putF f v r) from rfl]
  by_cases hk:k=f
  ·rw[YM hk,XY,XY];omega
  ·rw[YF hk,XY,XY];omega
theorem RelO.some_of {v:V}{o:Option Value}(r:RelO (some v) o):∃ u,o=some u/\RelV v u:=by
 cases o with
 | none=>exact (show False from r).elim
 | some u=>exact⟨u,rfl,r⟩
theorem Cn {v:V}{u:Value}(r:RelV v u):W.handedIn u=true:=by
 cases v with
 | non=>cases (show u=Value.none from r);rfl
 | bl b=>cases (show u=Value.bool b from r);rfl
 | int i=>obtain⟨t,e⟩:=(show ∃ t,u=Value.int i t from r);cases e;rfl
 | str x=>obtain⟨t,e⟩:=(show ∃ t,u=Value.str x t from r);cases e;rfl
 | byt b=>obtain⟨t,e⟩:=(show ∃ t,u=Value.bytes b t from r);cases e;rfl
 | flt b=>obtain⟨t,e⟩:=(show ∃ t,u=Value.float b t from r);cases e;rfl
 | ref a=>cases (show u=Value.ref a from r);rfl
 | ty n=>cases (show u=Value.type n from r);rfl
section
variable {P:Program}{w:World}{H H':Hp}{h h':Heap}{a C dx:Addr}{fs fs':List (Str × V)}
theorem M8 (hok:HOk P w H h)(e:H a=some (.ins C dx fs)):∃ mA,ObjM h a dx C mA/\(∀ f,RelO (fs.lookup f) (mA f))/\PySem.Within mA (fs.map (·.1))/\fs.length<=1000/\H dx=some (.own a):=by
 obtain⟨d,z,ne,ob,mA,n,r,q⟩:=(show ObjOk P w H h a (.ins C dx fs) from hok a _ e)
 exact⟨mA,⟨ob,n,ne⟩,r,q,z,d⟩
end
structure Cls (K:W.Frag)(C:Addr):Prop where
 pg:W.plainGet K C Str.empty=true
 hd:W.hasDictIn K C=true
 po:W.plainOver K C=true
 sa:W.findIn K (.ref C) "__setattr__"=some (some (.builtin "object.__setattr__"))
theorem Cls.get {K:W.Frag}{C:Addr}(c:Cls K C)(f:Str):W.plainGet K C f=true:=c.pg
def NoAttr (K:W.Frag)(C:Addr)(f:Str):Prop:=W.findIn K (.ref C) f=some none
theorem NoAttr.taker {K:W.Frag}{C:Addr}{f:Str}(n:NoAttr K C f):W.takerIn K C f=some none:=by
 unfold W.takerIn
 rw[show W.findIn K (.ref C) f=some none from n]
 rfl
structure Con (K:W.Frag)(C:Addr)(f:Str)(v:V)(u:Value):Prop where
 at_:W.findIn K (.ref C) f=some (some u)
 rel:RelV v u
 get:W.specialIn K u "__get__"=some none
 cp:W.copiedNames.contains f=false
section
variable {X:Cx}{pins:List (Addr × Obj)}{σ:St}{H:Hp}{s:Shared}{a C dx:Addr}{fs:List (Str × V)}{f:Str}{v:V}{A:Around}{E:Value->Shared->Prop}
theorem Jr {b:Bool}{Q:Value->Shared->Prop}(I:Inv X pins σ H s)(e:H a=some (.ins C dx fs))(c:Cls X.K C)(n:NoAttr X.K C f)(l:fs.lookup f=some v)
  (h:∀ u s',Inv X pins σ H s'->RelV v u->Q u s'):wpAny (model X.prog X.w) A (getAttr (.ref a) f b) Q E s:=by
 obtain⟨mA,O,r,_,_,_⟩:=M8 I.hok e
 obtain⟨u,hu,ru⟩:=RelO.some_of (v:=v) (o:=mA f) (by rw[<-l];exact r f)
 exact Z48 I.kIn O (c.get f) c.hd n hu (Cn ru) (h u _ (I.tok _) ru)
theorem Ky {y:V}{u:Value}{Q:Unit->Shared->Prop}(I:Inv X pins σ H s)(e:H a=some (.ins C dx fs))(c:Cls X.K C)(n:NoAttr X.K C f)(hl:fs.length<1000)(ry:RelV y u)
  (h:∀ s',Inv X pins σ (upd H a (.ins C dx (putF f y fs))) s'->Q () s'):wpAny (model X.prog X.w) A (setAttr (.ref a) f u) Q E s:=by
 obtain⟨mA,O,r,wi,_,ho⟩:=M8 I.hok e
 have hz:(fs.map (·.1)).length<=sizeLine:=by rw[YC,Y0q];omega
 refine Z2t I.kIn O c.sa c.po n.taker c.hd wi hz fun h' O' sb=>h _ ?_
 have hd:∃ o,h'.get? dx=some o:=let ⟨o,_,_,e',_⟩:=O'.ns;⟨o,e'⟩
 refine I.write (x:=a) (e:=dx) (by rw[e];exact True.intro) (.inr ho) (fun b q hb z=>(sb.2 b hb).trans z) hd ?_
 refine⟨by rw[Zf O.ne];exact ho,?_,O.ne,O'.obj,_,O'.ns,fun g=>?_,fun g hg=>?_⟩
 ·have:=Rb f y fs;omega
 ·show RelO ((putF f y fs).lookup g) (if g=f then some u else mA g)
  rw[Y7]
  by_cases q:g=f
  ·rw[YM q,YM q];exact ry
  ·rw[YF q,YF q];exact r g
 ·by_cases q:g=f
  ·rw[q];exact (Sk f y fs).1
  ·refine (Sk f y fs).2 g (wi g fun z=>hg ?_)
   show (if g=f then some u else mA g)=none
   rw[YF q];exact z
theorem Inv.made (I:Inv X pins σ H s):Inv X pins σ (upd (upd H s.heap.objs.size (.own (s.heap.objs.size+1))) (s.heap.objs.size+1) (.ins C s.heap.objs.size []))
  { s with heap:=(s.heap.push W.emptyDict).push (W.instObj C s.heap.objs.size) }:=by
 have e1:(s.heap.push W.emptyDict).get? s.heap.objs.size=some W.emptyDict:=YO s.heap rfl
 have e2:((s.heap.push W.emptyDict).push (W.instObj C s.heap.objs.size)).get? (s.heap.objs.size+1)=some (W.instObj C s.heap.objs.size):=by
  have:=YO (s.heap.push W.emptyDict) (o:=W.instObj C s.heap.objs.size) rfl
  rwa [XL] at this
 have e3:(s.heap.push W.emptyDict).Ns s.heap.objs.size (fun _=>none):=⟨W.emptyDict,#[],_,e1,rfl,(fun e he=>absurd he (by simp)),fun _=>rfl⟩
 have I1:=I.laid (a:=s.heap.objs.size) (o:=.own (s.heap.objs.size+1)) (h':=s.heap.push W.emptyDict) (t':=s.toks) (fun b u q=>YA _ q) (YE _) ⟨_,e1⟩
 refine I1.laid (a:=s.heap.objs.size+1) (o:=.ins C s.heap.objs.size []) (t':=s.toks) (fun b u q=>YA _ q) (Nat.le_of_eq (XL _ _)) ?_
 have ne:s.heap.objs.size≠s.heap.objs.size+1:=XA (Nat.lt_succ_self _)
 refine⟨by rw[Zf ne,Zc],JY _,ne,e2,fun _=>none,(Heap.Ns1.of_empty e3).at fun o q=>YA _ q,fun _=>True.intro,fun y hy=>absurd rfl hy⟩
theorem Z4f {prog:Program}{w:World}{env:Env}{e:Expr}{f:Str}{pos:Pos}{s:Shared}{Q:Value->Shared->Prop}(hb:attributeBase e f env (eval e env)=eval e env)
  (h:wpAny (model prog w) A (eval e env) (fun o s₁=>wpAny (model prog w) A (getAttr o f true) Q E s₁) E s):wpAny (model prog w) A (eval (.Attribute e f pos) env) Q E s :=
 Attribute_any_ h (by rw[arm_eval_Attribute,hb])
end
def tFld (K:W.Frag)(ta:TE)(f:Str):TE:=fun σ H Q=>ta σ H fun x H1=>∃ a C dx fs v,x=.ref a/\H1 a=some (.ins C dx fs)/\Cls K C/\NoAttr K C f/\fs.lookup f=some v/\Q v H1
def sFld (K:W.Frag)(ta tv:TE)(f:Str):TS:=fun D σ H=>tv σ H fun y H1=>ta σ H1 fun x H2=>∃ a C dx fs,x=.ref a/\H2 a=some (.ins C dx fs)/\Cls K C/\NoAttr K C f/\fs.length<1000 ∧
 D.nx σ (upd H2 a (.ins C dx (putF f y fs)))
section
variable {X:Cx}{o e value:Expr}{f:Str}{pos pos' tpos:Pos}{ta tv:TE}
theorem Yj (he:PE X e ta)(hb:attributeBase e f X.env (eval e X.env)=eval e X.env):PE X (.Attribute e f pos) (tFld X.K ta f):=by
 intro pins s σ H Q I h
 refine Z4f hb (thn (he pins s σ H _ I h) fun u s1 ⟨x,H1,I1,rx,a,C,dx,fs,v,ex,ea,c,n,l,q⟩=>?_)
 subst ex
 obtain rfl:u=Value.ref a:=rx
 exact Jr I1 ea c n l fun u' s2 I2 ru=>⟨v,H1,I2,ru,q⟩
theorem Qm (ha:PE X o ta)(hv:PE X value tv)(hs:swapsWith value (some (.Attribute o f pos')) pos.line X.env=pure false):PS X (.Assign [.Attribute o f pos'] value pos) (sFld X.K ta tv f):=by
 intro pins s σ H D I h
 refine jf (thn (hv pins s σ H _ I h) fun u s1 ⟨y,H1,I1,ry,q⟩=>thn (ha pins s1 σ H1 _ I1 q) fun ov s2 ⟨x,H2,I2,rx,a,C,dx,fs,ex,ea,c,n,l,q2⟩=>?_) hs
 subst ex
 obtain rfl:ov=Value.ref a:=rx
 exact Ky I2 ea c n l ry fun s3 I3=>⟨σ,_,I3,q2⟩
end
section
variable {X:Cx}{pins:List (Addr × Obj)}{σ:St}{H:Hp}{s:Shared}{A:Around}{E:Value->Shared->Prop}{Q:Value->Shared->Prop}{c:Value}{b:Bool}
inductive TyOf (K:W.Frag) (H:Hp):V->Value->Prop where
 | non:TyOf K H .non (.type "NoneType")
 | bl (x:Bool):TyOf K H (.bl x) (.type "bool")
 | int (i:Int):TyOf K H (.int i) (.type "int")
 | str (x:Str):TyOf K H (.str x) (.type "str")
 | flt (x:UInt64):TyOf K H (.flt x) (.type "float")
 | lst {a:Addr} {xs:List V} (e:H a=some (.lst xs)):TyOf K H (.ref a) (.type "list")
 | frz {a:Addr} {o:Obj} {xs:List V} (e:H a=some (.frz o (.lst xs))):TyOf K H (.ref a) (.type "list")
 | tup {a:Addr} {xs:List V} (e:H a=some (.tup xs)):TyOf K H (.ref a) (.type "tuple")
 | dK {a:Addr} {kvs:List (Key × V)} (e:H a=some (.dK kvs)):TyOf K H (.ref a) (.type "dict")
 | dT {a:Addr} {kvs:List (List Key × V)} (e:H a=some (.dT kvs)):TyOf K H (.ref a) (.type "dict")
 | ins {a C dx:Addr} {fs:List (Str × V)} (e:H a=some (.ins C dx fs)) (cl:Cls K C) (ha:W.findIn K (.ref C) "__class__"=some (some (.builtin "object.__class__")))
   (hn:W.specialIn K (.builtin "object.__class__") "__get__"=some (some (.builtin "getset_descriptor.__get__"))) (htk:W.takesIn K (.builtin "object.__class__")=some true)
   (hm:W.mroIn K C (.type "object")=some true):TyOf K H (.ref a) (.ref C)
theorem Ci {x:V}{u t:Value}(I:Inv X pins σ H s)(rx:RelV x u)(ty:TyOf X.K H x t)(e:W.kitOne X.K t c=some b)(h:∀ tk,Q (.bool b) { s with toks:=tk }) :
  wpAny (model X.prog X.w) A (call (.builtin "isinstance") [u,c]) Q E s:=by
 cases ty with
 | non=>cases (show u=Value.none from rx);exact zj W.kitx_none I.kIn True.intro e (fun z=>nomatch z) h
 | bl y=>cases (show u=Value.bool y from rx);exact zj W.kitx_bool I.kIn True.intro e (fun z=>nomatch z) h
 | int i=>obtain⟨t,q⟩:=(show ∃ t,u=Value.int i t from rx);cases q;exact zj W.kitx_int I.kIn True.intro e (fun z=>nomatch z) h
 | str y=>obtain⟨t,q⟩:=(show ∃ t,u=Value.str y t from rx);cases q;exact zj W.kitx_str I.kIn True.intro e (fun z=>nomatch z) h
 | flt y=>obtain⟨t,q⟩:=(show ∃ t,u=Value.float y t from rx);cases q;exact zj W.kitx_float I.kIn True.intro e (fun z=>nomatch z) h
 | @lst a xs ea =>
  cases (show u=Value.ref a from rx)
  obtain⟨_,_,n,_,h1⟩:=(show ObjOk X.prog X.w H s.heap a (.lst xs) from I.hok a _ ea)
  exact zj W.kitx_list I.kIn ⟨_,h1,rfl⟩ e (fun z=>nomatch z) h
 | @frz a ob xs ea =>
  cases (show u=Value.ref a from rx)
  obtain⟨_,_,_,n,_,h1⟩:=(show ObjOk X.prog X.w H s.heap a (.frz ob (.lst xs)) from I.hok a _ ea)
  exact zj W.kitx_list I.kIn ⟨_,h1,rfl⟩ e (fun z=>nomatch z) h
 | @tup a xs ea =>
  cases (show u=Value.ref a from rx)
  obtain⟨_,_,_,p⟩:=(show ObjOk X.prog X.w H s.heap a (.tup xs) from I.hok a _ ea)
  obtain⟨o,h1,h2,_⟩:=p
  exact zj W.kitx_tuple I.kIn ⟨o,h1,h2⟩ e (fun z=>nomatch z) h
 | @dK a kvs ea =>
  cases (show u=Value.ref a from rx)
  obtain⟨_,_,vs,_,p⟩:=(show ObjOk X.prog X.w H s.heap a (.dK kvs) from I.hok a _ ea)
  obtain⟨o,es,ep,h1,h2,_⟩:=p
  exact zj W.kitx_dict I.kIn ⟨o,h1,h2.1⟩ e (fun z=>nomatch z) h
 | @dT a kvs ea =>
  cases (show u=Value.ref a from rx)
  obtain⟨_,_,xs,_,o,es,ep,h1,h2,_⟩:=(show ObjOk X.prog X.w H s.heap a (.dT kvs) from I.hok a _ ea)
  exact zj W.kitx_dict I.kIn ⟨o,h1,h2.1⟩ e (fun z=>nomatch z) h
 | @ins a C dx fs ea cl ha hn htk hm =>
  cases (show u=Value.ref a from rx)
  obtain⟨mA,O,_⟩:=M8 I.hok ea
  obtain⟨od,J,_⟩:=O.look
  exact zj (W.kitx_own (cl.get _) cl.hd ha hn htk hm) I.kIn J e (fun z=>nomatch z) h
end
end L2
namespace L2
open PySem PySem.Spec PyProof.Rows
structure Room (k:Nat)(A:Around)(sr:Bool:=false):Prop where
 hd:sr=true->A.handled=none
 dp:A.depth+3*k+5<recursionLimit
 un:A.units+16*k+200<cLine
theorem Room.mono {j k:Nat}{A:Around}{sr:Bool}(r:Room k A sr)(h:j<=k):Room j A sr:=⟨r.hd,by have:=r.dp;omega,by have:=r.un;omega⟩
theorem Room.deeper {k:Nat}{A:Around}{sr:Bool}(r:Room (k+1) A sr)(env:Env):Room k (A.deeper env) sr :=
 ⟨r.hd,by have:=r.dp;show A.depth+1+3*k+5<_;omega,by have:=r.un;show A.units+3+16*k+200<_;omega⟩
theorem Jl {A:Around}{C:Addr}{us:List Value}{kw:List (Str × Value)}:(A.under (.builtin "type.__call__" ⟨.ref C::us,kw⟩)).depth=A.depth+1:=by
 first | rfl | simp[Around.under,Code.weight,Code.isCreation,Code.isGuard,Code.isCaller,Code.frames,Code.isFrame,guardIds]
theorem Jk {A:Around}{C:Addr}{us:List Value}{kw:List (Str × Value)}:(A.under (.builtin "type.__call__" ⟨.ref C::us,kw⟩)).units=A.units+1:=by
 first | rfl | simp[Around.under,Code.cUnits,Code.frames,Code.isFrame]
theorem Room.make {k:Nat}{A:Around}{sr:Bool}(r:Room (k+1) A sr)(C:Addr)(us:List Value)(kw:List (Str × Value)):Room k (A.under (.builtin "type.__call__" ⟨.ref C::us,kw⟩)) sr :=
 ⟨r.hd,by have:=r.dp;rw[Jl];omega,by have:=r.un;rw[Jk];omega⟩
theorem Room.depth {k:Nat}{A:Around}{sr:Bool}(r:Room k A sr):A.depth<recursionLimit:=by have:=r.dp;omega
theorem Room.units {k:Nat}{A:Around}{sr:Bool}(r:Room k A sr):A.units+64<cLine:=by have:=r.un;omega
theorem Room.loose {k:Nat}{A:Around}{sr:Bool}(r:Room k A sr):Room k A:=⟨(fun z=>nomatch z),r.dp,r.un⟩
def tNil:TA:=fun _ H Q=>Q [] H
def tCons (ta:TE)(tr:TA):TA:=fun σ H Q=>ta σ H fun x H1=>tr σ H1 fun xs H2=>Q (x::xs) H2
section
variable {X:Cx}{e:Expr}{es:List Expr}{te:TE}{t:TA}{pos:Pos}
theorem Z8:PA X [] tNil:=fun _ _ _ _ H Q I h=>Y0r ⟨[],H,I,.nil,h⟩
theorem Z0 (ha:PE X e te)(hr:PA X es t)(hs:starEach (e::es) X.env=(false,eval e X.env)::starEach es X.env:=by rfl):PA X (e::es) (tCons te t):=by
 intro pos pins s σ H Q I h
 rw[hs]
 show wpAny _ _ (spliced ((false,eval e X.env)::backTo pos (starEach es X.env))) _ _ s
 refine Y0c (thn (ha pins s σ H _ I h) fun u s1 ⟨x,H1,I1,r1,q1⟩=>?_)
 exact thn (hr pos pins s1 σ H1 _ I1 q1) fun us s2 ⟨xs,H2,I2,r2,q2⟩=>⟨x::xs,H2,I2,.cons r1 r2,q2⟩
def tTup (t:TA):TE:=fun σ H Q=>t σ H fun xs H1=>xs.length<=sizeLine/\∀ p,H1 p=none->Q (.ref p) (upd H1 p (.tup xs))
def tLst (t:TA):TE:=fun σ H Q=>t σ H fun xs H1=>xs.length<=sizeLine/\∀ p,H1 p=none->Q (.ref p) (upd H1 p (.lst xs))
theorem Y9 {x1}(h:PA X es t):PE X (.Tuple es x1 pos) (tTup t):=by
 intro pins s σ H Q I hq
 refine wpAny_Tuple_spliced (thn (h pos pins s σ H _ I hq) fun us s1 ⟨xs,H1,I1,r,z,q⟩=>⟨by rw[<-r.length];exact z,?_⟩)
 have hf:H1 s1.heap.objs.size=none:=I1.hok.fresh (YE _)
 refine⟨.ref s1.heap.objs.size,upd H1 s1.heap.objs.size (.tup xs),I1.laid (t':=s1.toks) (fun b u e=>YA _ e) (YE _) ?_,rfl,q _ hf⟩
 exact⟨z,us,r,⟨_,YO _ rfl,rfl,_,rfl⟩⟩
theorem Wl (h:PA X es t):PE X (.List es pos) (tLst t):=by
 intro pins s σ H Q I hq
 refine wpAny_List_spliced (thn (h pos pins s σ H _ I hq) fun us s1 ⟨xs,H1,I1,r,z,q⟩=>⟨by rw[<-r.length];exact z,?_⟩)
 have hf:H1 s1.heap.objs.size=none:=I1.hok.fresh (YE _)
 refine⟨.ref s1.heap.objs.size,upd H1 s1.heap.objs.size (.lst xs),I1.laid (t':=s1.toks) (fun b u e=>YA _ e) (YE _) ?_,rfl,q _ hf⟩
 exact⟨z,us,0,r,YO _ rfl⟩
end
abbrev Sp:=List V->Hp->VK->XK->Prop
abbrev CXT:=List Env->Hp->Shared->XK->Value->Shared->Prop
structure Env0 (P:Program)(w:World)(K:W.Frag)(mg:Str->Option Value)(base:Heap)(A:Around)(outer:List Env)(s:Shared)(H:Hp):Prop where
 frames:A.frames=some outer
 mod:Mod K mg base
 bs:∀ b o,base.get? b=some o->s.heap.get? b=some o/\H b=none
 bsz:base.objs.size<=s.heap.objs.size
 funs:s.heap.FunFrames base outer
 frf:∀ b∈frs outer,H b=none
 hok:HOk P w H s.heap
 bare:AllBare s.gens
 qt:Sb.QtE A s.heap H (frs outer)
def CE (outer:List Env)(P:Program)(w:World)(H:Hp)(s:Shared)(Q:VK)(u:Value)(s':Shared):Prop :=
 ∃ v H',s'.os=s.os/\AllBare s'.gens/\Un (frs outer) [] H H' s.heap s'.heap/\HOk P w H' s'.heap/\RelV v u/\Q v H'
def CR (CX:CXT)(outer:List Env)(P:Program)(w:World)(H:Hp)(s:Shared)(Q:VK)(E:XK)(r:Result)(s':Shared):Prop :=
 match r with
 | .ok (.ret u)=>CE outer P w H s Q u s'
 | .ok _=>False
 | .error e=>CX outer H s E e s'
structure FnOk (P:Program)(w:World)(K:W.Frag)(mg:Str->Option Value)(base:Heap)(CX:CXT)(k:Nat)(f:Addr)(fd:FuncData)(ps:List Str)(sp:Sp)(sr:Bool:=false):Prop where
 len:∀ vs H Q E,sp vs H Q E->vs.length=ps.length
 run:∀ (A:Around) (outer:List Env) (s:Shared) (H:Hp) (args:Args) (us:List Value) (vs:List V) (Q:VK) (E:XK),Room k A sr->Env0 P w K mg base A outer s H->BindsTo s fd args (ps.zip us)->Vals vs us->sp vs H Q E →
  codeAny (model P w) A (.call (.ref f) args) (CR CX outer P w H s Q E) s
theorem Env0.make {P:Program}{w:World}{K:W.Frag}{mg:Str->Option Value}{base:Heap}{A:Around}{outer:List Env}{s:Shared}{H:Hp}(e:Env0 P w K mg base A outer s H)(C:Addr)(us:List Value)(kw:List (Str × Value)) :
  Env0 P w K mg base (A.under (.builtin "type.__call__" ⟨.ref C::us,kw⟩)) outer s H:=⟨by first | exact e.frames | (simpa [Around.under,Code.envs,Code.isFrame,pushEnvs] using e.frames),e.mod,e.bs,e.bsz,e.funs,e.frf,e.hok,e.bare,e.qt⟩
section
variable {X:Cx}{pins:List (Addr × Obj)}{σ:St}{H:Hp}{s s':Shared}
theorem Inv.env0 (I:Inv X pins σ H s)(hc:X.calm=true):Env0 X.prog X.w X.K X.mg X.base X.A X.stack s H :=
 ⟨I.ok.frames,I.ok.mod,I.bs,XQ I.ok.bsz I.sz,I.stack,I.stkFree,I.hok,I.bare,(I.ok.hd hc).imp id fun ⟨p,hp,e,n⟩=>by
  obtain⟨a1,a2,a3,a4,a5⟩:=I.pin p (YJ _ hp)
  exact⟨p.1,p.2,e,a1,n,a2,fun z=>(YS.mp (I.stkSub p.1 z)).elim a3 a4,a5⟩⟩
theorem Inv.after {Q:VK}{u:Value}(I:Inv X pins σ H s)(h:CE X.stack X.prog X.w H s Q u s'):EP X pins σ Q u s':=by
 obtain⟨v,H',os,bare,un,hok,r,q⟩:=h
 obtain⟨hh,g,d,t,os'⟩:=s'
 obtain rfl:os'=s.os:=os
 exact⟨v,H',I.call (h':=hh) (g':=g) (d':=d) (t':=t) (ch:=[]) un hok bare (fun b z=>absurd z (by simp)),r,q⟩
end
def tCall (sp:Sp)(dvs:List V)(E:XK)(t:TA):TE:=fun σ H Q=>t σ H fun vs H1=>sp (vs++dvs) H1 Q E
def tMake (C:Addr)(sp:Sp)(dvs:List V)(E:XK)(t:TA):TE:=fun σ H Q=>t σ H fun vs H1=>∀ x dx,H1 x=none->H1 dx=none->dx≠x →
 sp (.ref x::(vs++dvs)) (upd (upd H1 dx (.own x)) x (.ins C dx [])) (fun v H2=>v=.non/\Q (.ref x) H2) E
def Binds (K:W.Frag)(fd:FuncData)(ps:List Str)(ds:List Value):Prop :=
 ∀ (s:Shared) (us:List Value),K.In s.heap->(us++ds).length=ps.length->BindsTo s fd ⟨us,[]⟩ (ps.zip (us++ds))
theorem Binds.all {K:W.Frag}{fd:FuncData}{ps:List Str}(h:∀ us:List Value,us.length=ps.length->bindArgs fd ⟨us,[]⟩=pure (ps.zip us)):Binds K fd ps []:=fun s us _ hl=>by
 rw[qi] at hl ⊢
 exact .of_eq (h us hl)
def Passes (CX:CXT)(X:Cx)(E:XK):Prop:=∀ (pins:List (Addr × Obj)) (σ:St) (H:Hp) (s:Shared) (e:Value) (s':Shared),Inv X pins σ H s->CX X.stack H s E e s'->X.xe e s'
section
variable {X:Cx}{CX:CXT}{k:Nat}{f C:Addr}{fd:FuncData}{ps:List Str}{sp:Sp}{dvs:List V}{ds:List Value}{E:XK}{x m:Str}{p pos apos:Pos}{e o:Expr}{es:List Expr}{ta:TE}{t:TA}
theorem Z54 {pins:List (Addr × Obj)}{σ:St}{H:Hp}{s:Shared}{Q:VK}{us:List Value}{vs:List V}{sr:Bool}(F:FnOk X.prog X.w X.K X.mg X.base CX k f fd ps sp sr)(hr:Room k X.A sr)(hb:Binds X.K fd ps ds)(hd:Vals dvs ds)(hx:Passes CX X E)(hc:X.calm=true)
  (I:Inv X pins σ H s) (r:Vals vs us) (h:sp (vs++dvs) H Q E):wpAny (model X.prog X.w) X.A (call (.ref f) us) (EP X pins σ Q) X.xe s:=by
 have r2:Vals (vs++dvs) (us++ds):=r.append hd
 have hl:(us++ds).length=ps.length:=by rw[<-r2.length];exact F.len _ _ _ _ h
 refine Y0d (zX (F.run X.A X.stack s H ⟨us,[]⟩ (us++ds) (vs++dvs) Q E hr (I.env0 hc) (hb s us I.kIn hl) r2 h) fun r s' hq=>?_)
 cases r with
 | error e=>exact hx pins σ H s e s' I hq
 | ok fl =>
  cases fl with
  | ret u=>exact I.after hq
  | next=>exact False.elim hq
  | brk=>exact False.elim hq
  | cont=>exact False.elim hq
theorem F7 {sr:Bool}(F:FnOk X.prog X.w X.K X.mg X.base CX k f fd ps sp sr)(hr:Room k X.A sr)(hg:Gl X x)(hm:X.mg x=some (.ref f))(hk:W.keepIn X.K (.ref f)=true)(hb:Binds X.K fd ps ds)(hd:Vals dvs ds)(hx:Passes CX X E)
  (ha:PA X (e::es) t) (hdb:(x == ("__debug__":Str))=false:=by decide) (he:starEach (e::es) X.env=(false,eval e X.env)::starEach es X.env:=by rfl) (hpl:(backTo pos (starEach es X.env)).any (·.1)=false:=by rfl) (hc:X.calm=true:=by rfl) :
  PE X (.Call (.Name x p) (e::es) [] pos) (tCall sp dvs E t):=by
 intro pins s σ H Q I h
 refine GZ (Vv I hg hm ?_ hdb)
 refine W.callWith_K (h₀:=X.base) I.ok.mod.kin hk (thn (ha pos pins s σ H _ I h) fun us s1 ⟨vs,H1,I1,r,q⟩=>⟨I1.kIn,?_⟩) he hpl
 exact Z54 F hr hb hd hx hc I1 r q
structure Mk (K:W.Frag)(C f:Addr):Prop where
 makes:W.makesIn K C=true
 init:W.findIn K (.ref C) "__init__"=some (some (.ref f))
 fn:W.isFn K (.ref f)=true
 kp:W.keepIn K (.ref C)=true
theorem Z04 {pins:List (Addr × Obj)}{σ:St}{H:Hp}{s:Shared}{Q:VK}{us:List Value}{vs:List V}(M:Mk X.K C f){sr:Bool}(F:FnOk X.prog X.w X.K X.mg X.base CX k f fd ps sp sr)(hr:Room (k+1) X.A sr)(hb:Binds X.K fd ps ds)(hd:Vals dvs ds)
  (hx:Passes CX X E) (hc:X.calm=true) (I:Inv X pins σ H s) (r:Vals vs us)
  (h:∀ x dx,H x=none->H dx=none->dx≠x->sp (.ref x::(vs++dvs)) (upd (upd H dx (.own x)) x (.ins C dx [])) (fun v H2=>v=.non/\Q (.ref x) H2) E) :
  wpAny (model X.prog X.w) X.A (call (.ref C) us) (EP X pins σ Q) X.xe s:=by
 have hq:=h (s.heap.objs.size+1) s.heap.objs.size (I.hok.fresh (zf _)) (I.hok.fresh (YE _)) (XA (Nat.lt_succ_self _))
 have I2:=Inv.made (C:=C) I
 have r2:Vals (V.ref (s.heap.objs.size+1)::(vs++dvs)) (Value.ref (s.heap.objs.size+1)::(us++ds)):=.cons rfl (r.append hd)
 have hl:(Value.ref (s.heap.objs.size+1)::us++ds).length=ps.length:=by
  have e:=r2.length
  rw[F.len _ _ _ _ hq] at e
  exact e.symm
 refine Y0d (Z1n (f:=f) I.kIn M.makes M.init (qh.mp M.fn) (zX (F.run _ X.stack _ _ ⟨Value.ref (s.heap.objs.size+1)::us,[]⟩ (Value.ref (s.heap.objs.size+1)::(us++ds)) _ _ E (hr.make C us [])
  ((I2.env0 hc).make C us []) (hb _ (Value.ref (s.heap.objs.size+1)::us) I2.kIn hl) r2 hq) fun r s' hq'=>?_))
 cases r with
 | error e=>exact hx pins σ _ _ e s' I2 hq'
 | ok fl =>
  cases fl with
  | ret u =>
   obtain⟨v,H',I3,rv,ev,q3⟩:=I2.after hq'
   subst ev
   exact⟨rv,⟨V.ref (s.heap.objs.size+1),H',I3,rfl,q3⟩⟩
  | next=>exact False.elim hq'
  | brk=>exact False.elim hq'
  | cont=>exact False.elim hq'
theorem F6 (M:Mk X.K C f){sr:Bool}(F:FnOk X.prog X.w X.K X.mg X.base CX k f fd ps sp sr)(hr:Room (k+1) X.A sr)(hg:Gl X x)(hm:X.mg x=some (.ref C))(hb:Binds X.K fd ps ds)(hd:Vals dvs ds)(hx:Passes CX X E)
  (ha:PA X (e::es) t) (hdb:(x == ("__debug__":Str))=false:=by decide) (he:starEach (e::es) X.env=(false,eval e X.env)::starEach es X.env:=by rfl) (hpl:(backTo pos (starEach es X.env)).any (·.1)=false:=by rfl) (hc:X.calm=true:=by rfl) :
  PE X (.Call (.Name x p) (e::es) [] pos) (tMake C sp dvs E t):=by
 intro pins s σ H Q I h
 refine GZ (Vv I hg hm ?_ hdb)
 refine W.callWith_K (h₀:=X.base) I.ok.mod.kin M.kp (thn (ha pos pins s σ H _ I h) fun us s1 ⟨vs,H1,I1,r,q⟩=>⟨I1.kIn,?_⟩) he hpl
 exact Z04 M F hr hb hd hx hc I1 r q
end
section
variable {X:Cx}{CX:CXT}{k:Nat}{f C:Addr}{fd:FuncData}{ps ks:List Str}{sp:Sp}{E:XK}{x m:Str}{p pos apos kpos:Pos}{e o:Expr}{es:List Expr}{kws:List Keyword}{te ta:TE}{t tk:TA}{nm:Option Str}
variable {g:List Value->List Value->List Value}{gV:List V->List V->List V}
end
structure FnScope (N P:List Str)(sc:Scope):Prop where
 kind:sc.kind=.function
 co:sc.isCoroutine=false
 gen:sc.isGenerator=false
 nd:N.Nodup
 pre:N.take P.length=P
 par:∀ x∈P,sc.names.lookup x=some .local \/ sc.names.lookup x=some .cell
 nofree:∀ y∈sc.names,y.2≠.free
theorem fsc {N P:List Str}{sc:Scope}(a:sc.kind=.function:=by rfl)(b:sc.isCoroutine=false:=by rfl)(c:sc.isGenerator=false:=by rfl)(d:N.Nodup:=by decide +kernel)(e:N.take P.length=P:=by rfl)(f:∀ x∈P,sc.names.lookup x=some .local ∨ sc.names.lookup x=some .cell:=by decide +kernel)(g:∀ y∈sc.names,y.2≠.free:=by decide +kernel):FnScope N P sc:=⟨a,b,c,d,e,f,g⟩
theorem Ni {kindOf:Str->Option NameKind}{x:Str}:∀ {binds:List (Str × Value)} {m:Str->Option Value},(∀ v,(x,v) ∉ binds)->bindL kindOf binds m x=m x
 | [],_,_=>rfl
 | (n,v)::r,m,h=>by
  unfold bindL
  rw[Ni fun w hw=>h w (YV _ hw)]
  split
  ·have:x≠n:=by rintro rfl;exact h v XC
   simp[this]
  ·rfl
theorem Nk {kindOf:Str->Option NameKind}{x:Str}:∀ {binds:List (Str × Value)} {m:Str->Option Value},(∀ v,(x,v) ∉ binds)->bindC kindOf binds m x=m x
 | [],_,_=>rfl
 | (n,v)::r,m,h=>by
  unfold bindC
  rw[Nk fun w hw=>h w (YV _ hw)]
  split
  ·rfl
  ·have:x≠n:=by rintro rfl;exact h v XC
   simp[this]
theorem Nj {kindOf:Str->Option NameKind}{x:Str}{v:Value}:∀ {P:List Str} {vs:List Value} {i:Nat} {m:Str->Option Value},P.Nodup->P[i]?=some x->vs[i]?=some v->kindOf x=some .local →
  bindL kindOf (P.zip vs) m x=some v
 | [],_,_,_,_,h,_,_=>by simp at h
 | _::_,[],_,_,_,_,h,_=>by simp at h
 | p::P,w::vs,0,m,nd,h1,h2,hk=>by
  simp at h1 h2;subst h1;subst h2
  show bindL kindOf ((p,w)::P.zip vs) m p=_
  unfold bindL
  rw[Ni fun v hv=>(ju.mp nd).1 (Y0M hv).1,YM hk]
  simp
 | p::P,w::vs,i+1,m,nd,h1,h2,hk=>by
  show bindL kindOf ((p,w)::P.zip vs) m x=_
  unfold bindL
  exact Nj (i:=i) (ju.mp nd).2 (by simpa using h1) (by simpa using h2) hk
theorem Nl {kindOf:Str->Option NameKind}{x:Str}{v:Value}:∀ {P:List Str} {vs:List Value} {i:Nat} {m:Str->Option Value},P.Nodup->P[i]?=some x->vs[i]?=some v->kindOf x≠some .local →
  bindC kindOf (P.zip vs) m x=some v
 | [],_,_,_,_,h,_,_=>by simp at h
 | _::_,[],_,_,_,_,h,_=>by simp at h
 | p::P,w::vs,0,m,nd,h1,h2,hk=>by
  simp at h1 h2;subst h1;subst h2
  show bindC kindOf ((p,w)::P.zip vs) m p=_
  unfold bindC
  rw[Nk fun v hv=>(ju.mp nd).1 (Y0M hv).1,YF hk]
  simp
 | p::P,w::vs,i+1,m,nd,h1,h2,hk=>by
  show bindC kindOf ((p,w)::P.zip vs) m x=_
  unfold bindC
  exact Nl (i:=i) (ju.mp nd).2 (by simpa using h1) (by simpa using h2) hk
def start (N:List Str)(vs:List V):St:=vs.map some++List.replicate (N.length - vs.length) none
def cxOf (CX:CXT)(P:Program)(w:World)(K:W.Frag)(mg:Str->Option Value)(base:Heap)(N:List Str)(qual:Str)(scope:Scope)(f:Addr)(cd:Value)(A:Around)(outer:List Env)(s:Shared)(H:Hp)(E:XK):Cx where
 prog:=P
 w:=w
 K:=K
 mg:=mg
 base:=base
 A:=A.deeper (envOfC qual scope s.heap.objs.size f cd)
 N:=N
 s₀:=s
 H₀:=H
 env:=envOfC qual scope s.heap.objs.size f cd
 outer:=outer
 stack:=envOfC qual scope s.heap.objs.size f cd::outer
 ex:=[]
 calm:=true
 fn:=fun _=>true
 pn:=Sb.qpin A s.heap
 xe:=fun e s'=>wpAny (model P w) (A.deeper (envOfC qual scope s.heap.objs.size f cd)) (leaving (envOfC qual scope s.heap.objs.size f cd) e) (fun _ s''=>CX outer H s E e s'') (fun e' s''=>CX outer H s E e' s'') s'
theorem Kl {sc:Scope}{n:Nat}{x:Str}(h:sc.names.lookup x=some .cell):∃ c,(cellsFrom n sc.names []).lookup x=some c:=by
 have q:=W.cellsFrom_some sc.names n [] (.inl h)
 exact zE.mp q
theorem Cl {CX:CXT}{P:Program}{w:World}{K:W.Frag}{mg:Str->Option Value}{base:Heap}{N ps:List Str}{qual:Str}{scope:Scope}{f:Addr}{cd:Value}{A:Around}{outer:List Env}{s s1:Shared}{H:Hp}{E:XK}{us:List Value}{vs:List V}
  (S:FnScope N ps scope) (e0:Env0 P w K mg base A outer s H) (hl:vs.length=ps.length) (r:Vals vs us)
  (x:InCallC s s.heap.objs.size (bindL (envOfC qual scope s.heap.objs.size f cd).kindOf (ps.zip us) fun _=>none) (cellsFrom (s.heap.objs.size+1) scope.names []) (bindC (envOfC qual scope s.heap.objs.size f cd).kindOf (ps.zip us) fun _=>none) s1) :
  Inv (cxOf CX P w K mg base N qual scope f cd A outer s H E) [] (start N vs) H s1:=by
 have hpl:ps.length<=N.length:=by have:=congrArg List.length S.pre;rw[GI] at this;omega
 obtain⟨h1,tk,rfl,hk⟩:=x.done
 have noA:∀ b:Addr,b ∉ (cxOf CX P w K mg base N qual scope f cd A outer s H E).ex:=fun b z=>absurd (show b∈([]:List Addr) from z) (by simp)
 refine⟨⟨e0.mod,S.kind,rfl,rfl,YE _,fun y z c h1 h2=>?_,fun y hy=>?_,fun y c _ h=>?_,fun _=>e0.qt.pin,Around.frames_deeper e0.frames,.inr ⟨rfl,rfl⟩,fun b z=>absurd z (noA b),e0.bs,e0.bsz,fun b _ _=>noA b,fun b z=>absurd z (noA b),e0.funs,e0.frf⟩,
  rfl,e0.bare,Un.kept hk,⟨_,x.toInCall.ns,fun i y v h1 h2 h3=>?_⟩,fun y c h=>⟨_,x.cell y c h⟩,e0.hok.fresh (YE _),fun y c h=>?_,fun p hp=>?_,e0.hok.kept hk,?_⟩
 rotate_right 2
 ·obtain⟨a1,a2,a3,a4⟩:=e0.qt.mem p ((JU.mp hp).elim id fun z=>absurd z (by simp))
  exact⟨hk _ _ a1,a2,XA (YH a1),a3,a4⟩
 rotate_left 1
 ·exact name_of_addr x.apart (zh h1) (zh h2)
 ·have hy:scope.names.lookup y=some .cell \/ scope.names.lookup y=some .free:=hy
  rcases hy with hy | hy
  ·exact Kl hy
  ·exact absurd rfl (S.nofree _ (zh hy))
 ·exact JI (x.above y c (zh h))
 ·have hi:i<vs.length:=by
   unfold start at h2
   by_cases hi:i<vs.length
   ·exact hi
   ·rw[XW (by simpa using hi)] at h2
    rw[Y0z] at h2
    split at h2 <;> cases h2
  have ha:vs[i]?=some v:=by
   unfold start at h2
   rw[JD (by simpa using hi),YD] at h2
   cases e:vs[i]? with
   | none=>rw[e] at h2;cases h2
   | some a=>rw[e] at h2;cases h2;rfl
  obtain⟨u,hu,rv⟩:=r.get ha
  have hp:ps[i]?=some y:=by
   rw[<-S.pre,List.getElem?_take_of_lt (by omega)];exact h1
  have ndP:ps.Nodup:=by rw[<-S.pre];exact S.nd.sublist (List.take_sublist _ _)
  refine⟨u,rv,?_⟩
  rcases S.par y (YL hp) with k | k
  ·exact .inl ⟨k,Nj ndP hp hu k⟩
  ·obtain⟨c,e⟩:=Kl (n:=s.heap.objs.size+1) k
   refine .inr ⟨.inl k,c,e,?_⟩
   have q:=x.cell y c e
   rw[Nl ndP hp hu (by show scope.names.lookup y≠_;rw[k];decide)] at q
   exact q
 ·exact e0.hok.fresh (JI (x.above y c (zh h)))
 ·unfold start
  show _=N.length
  rw[XD,YC,XU]
  omega
theorem Z4x {CX:CXT}{P:Program}{w:World}{K:W.Frag}{mg:Str->Option Value}{base:Heap}{k:Nat}{f:Addr}{name qual:Str}{params:Arguments}{body:List Stmt}{scope:Scope}{dV kV doc pm cdv ct oc:Value}{an od:Option Addr}
  {osl:Array (Option Value)} {N ps:List Str} {sp:Sp} {sr:Bool} (lk:K.lookup f=some ⟨oc,od,.func (W.fnOf name qual params body scope dV kV doc pm an cdv ct),osl⟩) (hcd:W.codeIn K cdv qual=true) (S:FnScope N ps scope)
  (len:∀ vs H Q E,sp vs H Q E->vs.length=ps.length)
  (hbody:∀ (A:Around) (outer:List Env) (s:Shared) (H:Hp) (vs:List V) (Q:VK) (E:XK),Room k (A.deeper (envOfC qual scope s.heap.objs.size f cdv)) sr->sp vs H Q E →
   ∃ t,PSs (cxOf CX P w K mg base N qual scope f cdv A outer s H E) body t/\t { nx:=fun _ H'=>Q .non H',rt:=Q } (start N vs) H) :
  FnOk P w K mg base CX (k+1) f (W.fnOf name qual params body scope dV kV doc pm an cdv ct) ps sp sr:=by
 refine⟨len,fun A outer s H args us vs Q E hr e0 hb r hsp=>?_⟩
 have hl:=len _ _ _ _ hsp
 have KX:K.In s.heap:=e0.mod.kin.keeps fun b o e=>(e0.bs b o e).1
 have lim:s.heap.NoLimit:=e0.mod.nolimit.keeps fun b o e=>(e0.bs b o e).1
 have hkind:∀ y∈ps.zip us,scope.names.lookup y.1=some .local \/ (scope.names.lookup y.1=some .cell/\((cellsFrom (s.heap.objs.size+1) scope.names []).lookup y.1).isSome=true):=fun ⟨n,v⟩ hy=>by
  rcases S.par n (Y0M hy).1 with q | q
  ·exact .inl q
  ·exact .inr ⟨q,W.cellsFrom_some _ _ _ (.inl q)⟩
 refine codeAny_call_function hr.depth (KX _ _ lk) rfl S.co S.gen rfl (W.codeRec_of KX hcd) (hb _ _ _ _ ?_)
 refine wpAny_newFunctionEnv_cells S.kind hkind fun env he s1 x=>?_
 subst he
 refine⟨lim.keeps x.toInCall.keep,codeAny_func ?_⟩
 obtain⟨t,ht,hq⟩:=hbody A outer s H vs Q E (hr.deeper _) hsp
 have I:Inv (cxOf CX P w K mg base N qual scope f cdv A outer s H E) [] (start N vs) H s1:=Cl S e0 hl r x
 refine GL (ht [] s1 (start N vs) H _ I hq) (fun fl s' hs=>?_) fun e s' hs=>hs
 have fin:∀ {σ':St} {H':Hp} {v:V} {u:Value},Inv (cxOf CX P w K mg base N qual scope f cdv A outer s H E) [] σ' H' s'->RelV v u->Q v H'->CE outer P w H s Q u s' :=
  fun {σ' H' v u} J rv q=>⟨v,H',J.os,J.bare,J.base,J.hok,rv,q⟩
 cases fl with
 | ret u =>
  obtain⟨v,σ',H',J,rv,q⟩:=hs
  exact fin J rv q
 | next =>
  obtain⟨σ',H',J,q⟩:=hs
  exact fin (v:=V.non) (u:=Value.none) J rfl q
 | brk =>
  obtain⟨_,_,_,q⟩:=hs
  exact False.elim q
 | cont =>
  obtain⟨_,_,_,q⟩:=hs
  exact False.elim q
end L2
namespace L2
open PySem PySem.Spec PyProof.Rows
section
variable {X:Cx}{x:Str}{p pos:Pos}{e:Expr}{es:List Expr}{t:TA}{id T:String}{r:List V->Hp->VK->Prop}
def tCB (r:List V->Hp->VK->Prop)(t:TA):TE:=fun σ H Q=>t σ H fun vs H1=>r vs H1 Q
theorem Y1 (hc:CallR X (.builtin id) r)(hg:Gl X x)(hm:X.mg x=none)(hv:bootBuiltins x=some (.builtin id))(ha:PA X (e::es) t)(hn:x≠"__name__":=by decide)(hdb:(x == ("__debug__":Str))=false:=by decide)
  (he:starEach (e::es) X.env=(false,eval e X.env)::starEach es X.env:=by rfl) (hpl:(backTo pos (starEach es X.env)).any (·.1)=false:=by rfl):PE X (.Call (.Name x p) (e::es) [] pos) (tCB r t):=by
 intro pins s σ H Q I h
 refine GZ (W3 I hg hm hv ?_ hn hdb)
 exact jk (thn (ha pos pins s σ H _ I h) fun us s1 ⟨vs,H1,I1,r1,q1⟩=>hc pins s1 σ H1 vs us Q I1 r1 q1) he hpl
theorem Y0 (hc:CallR X (.type T) r)(hg:Gl X x)(hm:X.mg x=none)(hv:bootBuiltins x=some (.type T))(ha:PA X (e::es) t)(hn:x≠"__name__":=by decide)(hdb:(x == ("__debug__":Str))=false:=by decide)
  (he:starEach (e::es) X.env=(false,eval e X.env)::starEach es X.env:=by rfl) (hpl:(backTo pos (starEach es X.env)).any (·.1)=false:=by rfl):PE X (.Call (.Name x p) (e::es) [] pos) (tCB r t):=by
 intro pins s σ H Q I h
 refine GZ (W3 I hg hm hv ?_ hn hdb)
 exact XR (thn (ha pos pins s σ H _ I h) fun us s1 ⟨vs,H1,I1,r1,q1⟩=>hc pins s1 σ H1 vs us Q I1 r1 q1) he hpl
end
end L2
namespace HT
open PySem PyProof.Rows
section
open PySem.SeqAt
open PySem.AutoSeq1 (wpAny_loadPart')
open PySem.MeetsSeq PySem.MeetsSeq2 PySem.MeetsSeq3
end
section
variable {prog:Program}{w:World}{A:Around}{E:Value->Shared->Prop}{s:Shared}
theorem cat_tup {t b:Addr}{vs ws:List Value}{Q:Value->Shared->Prop}(ht:IsTup s.heap t vs.toArray)(hb:IsTup s.heap b ws.toArray)(hv:vs≠[])
  (h1:ws=[]->Q (.ref t) s) (h2:ws≠[]->Q (.ref s.heap.objs.size) { s with heap:=s.heap.push { cls:=.type "tuple",data:=.seq (vs++ws).toArray } })
  (hsz:vs.length+ws.length<=sizeLine):wpAny (model prog w) A (binaryOp .Add (.ref t) (.ref b)) Q E s:=by
 obtain⟨⟨cls,dd,data,sl⟩,ho,hc,n,hd⟩:=id ht
 obtain⟨⟨cls2,dd2,data2,sl2⟩,ho2,hc2,n2,hd2⟩:=id hb
 simp only at hc hd hc2 hd2
 subst hc hd hc2 hd2
 have e:vs.toArray++ws.toArray=(vs++ws).toArray:=by simp
 by_cases hw:ws=[]
 ·exact concat_meets ⟨_,ho,rfl⟩ ⟨_,ho2,rfl⟩ Y0A Y0X zY zR (zF _ _)
   (tuple_addW1 t b vs.toArray ws.toArray n n2 dd dd2 sl sl2 (by simpa using hv) (by simp[hw])) ⟨ho,ho2,h1 hw⟩
 ·refine concat_meets ⟨_,ho,rfl⟩ ⟨_,ho2,rfl⟩ Y0A Y0X zY zR (zF _ _)
   (tuple_addW2 t b vs.toArray ws.toArray n n2 dd dd2 sl sl2 (by simpa using hv) (by simpa using hw) (by rw[YR,YR];exact hsz)) ⟨ho,ho2,?_⟩
  rw[e]
  exact h2 hw
def sIx (n d:Nat):Option Int->Nat
 | none=>d
 | some v=>if v<0 then (v+(n:Int)).toNat else min v.toNat n
theorem sIx_none (n d:Nat):sIx n d none=d:=rfl
theorem sIx_nat (n d k:Nat):sIx n d (some (k:Int))=min k n:=by
 show (if (k:Int)<0 then ((k:Int)+(n:Int)).toNat else min (k:Int).toNat n)=min k n
 rw[YF (by omega),zd]
theorem Z53 (n d:Nat)(hd:d<=n)(o:Option Int):sIx n d o<=n:=by
 cases o with
 | none=>exact hd
 | some v =>
  show (if v<0 then (v+(n:Int)).toNat else min v.toNat n)<=n
  by_cases hv:v<0
  ·rw[YM hv];omega
  ·rw[YF hv];exact Nat.min_le_right _ _
theorem Fy (v:Int)(n d:Nat):(if v<0 then max (v+(n:Int)) 0 else min v (n:Int))=((sIx n d (some v):Nat):Int):=by
 show (if v<0 then max (v+(n:Int)) 0 else min v (n:Int))=(((if v<0 then (v+(n:Int)).toNat else min v.toNat n):Nat):Int)
 by_cases hv:v<0
 ·simp only [YM hv];omega
 ·simp only [YF hv];omega
theorem Jx (lo hi:Option Int)(n:Nat):Builtin.Slice.sliceAdjust lo hi 1 (n:Int)=(((sIx n 0 lo:Nat):Int),((sIx n n hi:Nat):Int)):=by
 have h1:¬ ((1:Int)<0):=by omega
 unfold Builtin.Slice.sliceAdjust
 simp only [h1,Y08]
 refine Prod.ext ?_ ?_
 ·cases lo with
  | none=>rfl
  | some v=>exact Fy v n 0
 ·cases hi with
  | none=>rfl
  | some v=>exact Fy v n n
theorem J6 (i j:Nat):Builtin.Slice.slicePlaces (i:Int) (j:Int) 1=j - i:=by
 unfold Builtin.Slice.slicePlaces
 have h1:(1:Int) > 0:=by omega
 simp only [h1,zK,Int.ediv_one]
 split <;> omega
theorem Q8 {v:Value}{o:Option Int}{Q:Option Int->Shared->Prop}(p:IsPart v o)(h:Q o s):wpAny (model prog w) A (Builtin.Slice.slicePartIndex v) Q E s:=by
 cases p with
 | none=>exact slicePart_none h
 | int i t=>exact slicePart_int h
theorem Tz {sl:Addr}{vl vu:Value}{lo hi:Option Int}{n:Nat}{Q:Int × Int × Nat->Shared->Prop}(hs:s.heap.IsSliceOf sl vl vu .none)(pl:IsPart vl lo)(pu:IsPart vu hi)
  (h:Q (((sIx n 0 lo:Nat):Int),1,sIx n n hi - sIx n 0 lo) s):wpAny (model prog w) A (Builtin.Slice.sliceApplied (.ref sl) (pure (n:Int))) Q E s:=by
 obtain⟨os,hos,hcs,hds⟩:=id hs
 unfold Builtin.Slice.sliceApplied Builtin.Slice.sliceFields
 refine YB (YB (XH hos hds (x:=vl) rfl (YB (XH hos hds (x:=vu) rfl (YB (XH hos hds (x:=.none) rfl (YQ ?_)))))))
 refine YB (slicePart_none ?_)
 show wpAny _ _ (if ((1:Int) == 0)=true then _ else _) _ _ s
 rw[YF (by decide)]
 refine YB (Q8 pl (YB (Q8 pu (YB (YQ ?_)))))
 show wpAny _ _ (match Builtin.Slice.sliceAdjust lo hi 1 (n:Int) with | (lo,hi)=>pure (lo,(1:Int),Builtin.Slice.slicePlaces lo hi 1)) _ _ s
 rw[Jx lo hi n]
 show wpAny _ _ (pure (((sIx n 0 lo:Nat):Int),(1:Int),Builtin.Slice.slicePlaces ((sIx n 0 lo:Nat):Int) ((sIx n n hi:Nat):Int) 1)) _ _ s
 rw[J6]
 exact YQ h
theorem Z0g (xs:Array Value)(i k:Nat):((List.range k).filterMap fun (m:Nat)=>xs[((i:Int)+(m:Int)*1).toNat]?).toArray=((xs.toList.drop i).take k).toArray:=by
 have e:(fun (m:Nat)=>xs[((i:Int)+(m:Int)*1).toNat]?)=fun m=>xs[i+m]?:=by
  funext m
  have:((i:Int)+(m:Int)*1).toNat=i+m:=by omega
  rw[this]
 rw[e]
 have:=pick_run xs i k
 rw[List.filterMap_map] at this
 have e2:((fun x=>xs[x]?) ∘ fun x=>i+x)=fun m=>xs[i+m]?:=rfl
 rw[e2] at this
 rw[this]
theorem getItem_tuple_cut {t sl:Addr}{items:Array Value}{vl vu:Value}{lo hi:Option Int}{Q:Value->Shared->Prop}(ht:IsTup s.heap t items)(hs:s.heap.IsSliceOf sl vl vu .none)(pl:IsPart vl lo)(pu:IsPart vu hi)
  (hw:¬ (sIx items.size 0 lo=0/\sIx items.size items.size hi=items.size))
  (h:Q (.ref s.heap.objs.size) { s with heap:=s.heap.push { cls:=.type "tuple",data:=.seq ((items.toList.drop (sIx items.size 0 lo)).take (sIx items.size items.size hi - sIx items.size 0 lo)).toArray } })
  (hsz:items.size<=sizeLine):wpAny (model prog w) A (getItem (.ref t) (.ref sl)) Q E s:=by
 have htake:sizeOk (.seq ((items.toList.drop (sIx items.size 0 lo)).take (sIx items.size items.size hi - sIx items.size 0 lo)).toArray):=by
  show ((items.toList.drop (sIx items.size 0 lo)).take (sIx items.size items.size hi - sIx items.size 0 lo)).toArray.size<=sizeLine
  rw[YR,GI,List.length_drop,qk]
  omega
 have hj:sIx items.size items.size hi<=items.size:=Z53 _ _ (YE _) hi
 obtain⟨os,hos,hcs,hds⟩:=id hs
 have hTs:s.TypeIs (.ref sl) "slice":=⟨os,hos,hcs⟩
 unfold getItem
 try with_reducible refine GA ?_
 first | refine YB (YQ ?_) | skip
 refine YB (wpAny_sequenceKey ht.typeIs (by decide) ?_)
 refine YB (JJ (name:=Str.ofString "__getitem__") ht.typeIs zg
  (GH zg ht.typeIs entry_tuple_getitem ?_ (args_tuple_getitem _ _)))
 show wpAny _ _ (Builtin.Tuple.tupleItemsOf (.ref t) >>= _) _ _ s
 refine YB (tupleItemsOf_ ht ?_)
 refine YB (wpAny_typeOf hTs ?_)
 rw[YM (by decide)]
 refine YB (Tz hs pl pu ?_)
 have hno:¬ ((((sIx items.size 0 lo:Nat):Int) == 0 && (1:Int) == 1 && (sIx items.size items.size hi - sIx items.size 0 lo) == items.size)=true):=by
  intro q
  rw[JN,JN] at q
  have q1:((sIx items.size 0 lo:Nat):Int)=0:=eq_of_beq q.1.1
  have q2:sIx items.size items.size hi - sIx items.size 0 lo=items.size:=eq_of_beq q.2
  exact hw ⟨by omega,by omega⟩
 show wpAny _ _ (if (((sIx items.size 0 lo:Nat):Int) == 0 && (1:Int) == 1 && (sIx items.size items.size hi - sIx items.size 0 lo) == items.size)=true then _ else _) _ _ s
 rw[YF hno,Z0g]
 first
  | exact YB (m:=Builtin.Tuple.tupleExact _) (JW (YQ ⟨_,rfl,YQ h⟩) htake)
  | exact YB (m:=Builtin.Tuple.tupleExact _) (JW (YB (YQ (YQ ⟨_,rfl,YQ h⟩))) htake)
  | exact YB (YB (m:=Builtin.Tuple.tupleExact _) (JW (YQ (YQ ⟨_,rfl,YQ h⟩)) htake))
  | exact YB (YB (m:=Builtin.Tuple.tupleExact _) (JW (YQ ⟨_,rfl,YQ h⟩) htake))
end
end HT
namespace L2
open PySem PySem.Spec PyProof.Rows
abbrev TO:=St->Hp->(Option Int->Hp->Prop)->Prop
def PO (X:Cx)(e:Option Expr)(t:TO):Prop :=
 ∀ (pins:List (Addr × Obj)) (s:Shared) (σ:St) (H:Hp) (Q:Option Int->Hp->Prop),Inv X pins σ H s->t σ H Q →
  wpAny (model X.prog X.w) X.A (evalPart e X.env) (fun u s'=>∃ o H',Inv X pins σ H' s'/\IsPart u o/\Q o H') X.xe s
def tNoPart:TO:=fun _ H Q=>Q none H
def tPart (t:TE):TO:=fun σ H Q=>t σ H fun x H1=>∃ i,x=.int i/\Q (some i) H1
theorem P6 {ns:List Int}:∀ {us:List Value},Vals (ns.map V.int) us->IntsAre us ns:=by
 induction ns with
 | nil=>intro us r;rw[List.map_nil] at r;cases r;exact .nil
 | cons n ns ih =>
  intro us r
  rw[Y0x] at r
  cases r with
  | cons r1 r2 =>
   obtain⟨t,e⟩:=r1
   subst e
   exact .cons n t (ih r2)
section
variable {X:Cx}{e:Expr}{te:TE}{lo hi:Option Expr}{tl th:TO}{pos p2:Pos}
theorem Z2z:PO X none tNoPart:=by
 intro pins s σ H Q I h
 rw[evalPart_none]
 exact YQ ⟨none,H,I,.none,h⟩
theorem Z2y (h:PE X e te):PO X (some e) (tPart te):=by
 intro pins s σ H Q I hw
 rw[evalPart_some]
 refine thn (h pins s σ H _ I hw) fun u s1 ⟨x,H1,I1,r1,q1⟩=>?_
 obtain⟨i,rfl,q⟩:=q1
 obtain⟨t,rfl⟩:=r1
 exact⟨some i,H1,I1,.int i t,q⟩
def SlR (X:Cx)(r:V->Option Int->Option Int->Hp->VK->Prop):Prop :=
 ∀ (pins:List (Addr × Obj)) (s:Shared) (σ:St) (H:Hp) (x:V) (v vl vu:Value) (lo hi:Option Int) (sl:Addr) (Q:VK),Inv X pins σ H s->RelV x v->s.heap.IsSliceOf sl vl vu .none->IsPart vl lo->IsPart vu hi->r x lo hi H Q →
  ∃ T id,typeLookup (.type T) "__getitem__"=pure (some (.builtin id))/\s.TypeIs v T/\wpAny (model X.prog X.w) X.A (getItem v (.ref sl)) (EP X pins σ Q) X.xe s
def tSl (r:V->Option Int->Option Int->Hp->VK->Prop)(te:TE)(tl th:TO):TE:=fun σ H Q=>te σ H fun x H1=>tl σ H1 fun l H2=>th σ H2 fun u H3=>r x l u H3 Q
theorem Z0k {r:V->Option Int->Option Int->Hp->VK->Prop}(hr:SlR X r)(he:PE X e te)(hl:PO X lo tl)(hu:PO X hi th):PE X (.Subscript e (.Slice lo hi none p2) pos) (tSl r te tl th):=by
 intro pins s σ H Q I h
 refine Subscript_ (thn (he pins s σ H _ I h) fun v s1 ⟨x,H1,I1,r1,q1⟩=>?_)
 refine wpAny_Slice (thn (hl pins s1 σ H1 _ I1 q1) fun vl s2 ⟨l,H2,I2,pl,q2⟩=>thn (hu pins s2 σ H2 _ I2 q2) fun vu s3 ⟨u,H3,I3,pu,q3⟩=>?_)
 rw[evalPart_none]
 refine YQ ?_
 have I4:Inv X pins σ H3 { s3 with heap:=s3.heap.push { cls:=.type "slice",data:=.fields #[vl,vu,.none] } }:=I3.kept (t':=s3.toks) fun b ob q=>YA _ q
 obtain⟨T,id,hT,ht,hg⟩:=hr pins { s3 with heap:=s3.heap.push { cls:=.type "slice",data:=.fields #[vl,vu,.none] } } σ H3 x v vl vu l u s3.heap.objs.size Q I4 r1 (Heap.IsSliceOf.new ..) pl pu q3
 show wpAny (model X.prog X.w) X.A (subscriptTail e (.Slice lo hi none p2) v (.ref s3.heap.objs.size)) (EP X pins σ Q) X.xe { s3 with heap:=s3.heap.push { cls:=.type "slice",data:=.fields #[vl,vu,.none] } }
 exact tail_any (ops:=[.ref s3.heap.objs.size,v]) ht hT hg (by with_unfolding_all rfl)
def cutV (xs:List V)(lo hi:Option Int):List V:=(xs.drop (HT.sIx xs.length 0 lo)).take (HT.sIx xs.length xs.length hi - HT.sIx xs.length 0 lo)
theorem Kg (xs:List V)(lo hi:Option Int):(cutV xs lo hi).length<=xs.length:=by
 unfold cutV
 rw[GI,List.length_drop]
 omega
def rSlT (K:W.Frag):V->Option Int->Option Int->Hp->VK->Prop:=fun x lo hi H Q=>∃ a xs,x=.ref a/\SqT K H a xs ∧
 ¬ (HT.sIx xs.length 0 lo=0/\HT.sIx xs.length xs.length hi=xs.length)/\∀ p,H p=none->Q (.ref p) (upd H p (.tup (cutV xs lo hi)))
theorem Z52:SlR X (rSlT X.K):=by
 intro pins s σ H x v vl vu lo hi sl Q I rx hs pl pu h
 obtain⟨a,xs,rfl,hx,hw,q⟩:=h
 cases rx
 obtain⟨its,r,ht,hz⟩:=I.tuple hx
 have hlen:its.toArray.size=xs.length:=by rw[YR];exact r.length.symm
 refine⟨"tuple",_,zg.lookup,ht.typeIs,?_⟩
 refine HT.getItem_tuple_cut ht hs pl pu (by rw[hlen];exact hw) ?_ (by rw[hlen];exact hz)
 rw[hlen]
 refine⟨.ref s.heap.objs.size,_,I.laid (t':=s.toks) (o:=.tup (cutV xs lo hi)) (fun b ob q=>YA _ q) (YE _) ?_,rfl,q _ (I.hok.fresh (YE _))⟩
 exact⟨XQ (Kg xs lo hi) hz,_,(r.drop (HT.sIx xs.length 0 lo)).take (HT.sIx xs.length xs.length hi - HT.sIx xs.length 0 lo),IsTup.new _ _⟩
def rCatT (K:W.Frag):R2:=fun x y H Q=>∃ a b xs ys,x=.ref a/\y=.ref b/\SqT K H a xs/\SqT K H b ys/\xs≠[]/\xs.length+ys.length<=sizeLine ∧
 (ys=[]->Q (.ref a) H)/\(ys≠[]->∀ p,H p=none->Q (.ref p) (upd H p (.tup (xs++ys))))
theorem Vals.nil_iff {xs:List V}{us:List Value}(r:Vals xs us):us=[] ↔ xs=[]:=by
 cases r with
 | nil=>simp
 | cons _ _=>simp
theorem Z37:OpR X (binaryOp .Add) (rCatT X.K):=by
 intro pins s σ H x y v u Q I rx ry h
 obtain⟨a,b,xs,ys,rfl,rfl,ha,hb,hx,hz,q1,q2⟩:=h
 cases rx
 cases ry
 obtain⟨its,r1,p1,_⟩:=I.tuple ha
 obtain⟨its2,r2,p2,_⟩:=I.tuple hb
 refine HT.cat_tup p1 p2 (fun z=>hx (r1.nil_iff.mp z)) (fun z=>⟨.ref a,H,I,rfl,q1 (r2.nil_iff.mp z)⟩) (fun z=>?_) (by rw[<-r1.length,<-r2.length];exact hz)
 refine⟨.ref s.heap.objs.size,_,I.laid (t':=s.toks) (o:=.tup (xs++ys)) (fun b ob q=>YA _ q) (YE _) ?_,rfl,q2 (fun w=>z (r2.nil_iff.mpr w)) _ (I.hok.fresh (YE _))⟩
 exact⟨by rw[XD];exact hz,_,r1.append r2,IsTup.new _ _⟩
end
end L2
namespace L2
open PySem PySem.Spec PyProof.Rows
def ixN (n:Nat)(i:Int):Option Nat:=if 0<=i then (if i<n then some i.toNat else none) else if -(n:Int)<=i then some (i+n).toNat else none
def atI {α:Type}(xs:List α)(i:Int):Option α:=(ixN xs.length i).bind fun j=>xs[j]?
theorem Fm {n:Nat}{i:Int}{j:Nat}(h:ixN n i=some j):seqIndex? i n=some j/\j<n/\-(n:Int)<=i/\i<n:=by
 unfold ixN at h
 by_cases h0:0<=i
 ·rw[YM h0] at h
  by_cases h1:i<n
  ·rw[YM h1] at h
   have e:i.toNat=j:=YK h
   exact⟨by rw[seqIndex_of h0 h1,e],by omega,by omega,h1⟩
  ·rw[YF h1] at h;cases h
 ·rw[YF h0] at h
  by_cases h1:-(n:Int)<=i
  ·rw[YM h1] at h
   have e:(i+n).toNat=j:=YK h
   exact⟨by rw[seqIndex_neg (by omega) h1,e],by omega,h1,by omega⟩
  ·rw[YF h1] at h;cases h
theorem D3 {α:Type}{xs:List α}{i:Int}{v:α}(h:atI xs i=some v):∃ j,seqIndex? i xs.length=some j/\xs[j]?=some v/\j<xs.length/\-(xs.length:Int)<=i/\i<xs.length:=by
 unfold atI at h
 cases e:ixN xs.length i with
 | none=>rw[e] at h;cases h
 | some j =>
  rw[e] at h
  obtain⟨h1,h2,h3,h4⟩:=Fm e
  exact⟨j,h1,h,h2,h3,h4⟩
theorem Zh {α:Type}{xs:List α}{j:Nat}{v:α}(h:xs[j]?=some v):atI xs (j:Int)=some v:=by
 have hj:j<xs.length:=(YG.mp h).1
 have e:ixN xs.length (j:Int)=some j:=by
  unfold ixN
  rw[YM (by omega),YM (by omega)];simp
 unfold atI;rw[e];exact h
def PlainIx (b:Expr):Prop:=∀ o i,subscripted b false o i=operate [o,i] (getItem o i)
def IxR (X:Cx)(r:R2):Prop :=
 ∀ (value slice:Expr) (pins:List (Addr × Obj)) (s:Shared) (σ:St) (H:Hp) (x y:V) (v u:Value) (Q:VK),Inv X pins σ H s->RelV x v->RelV y u->r x y H Q →
  subscripted slice false v u=operate [v,u] (getItem v u)->wpAny (model X.prog X.w) X.A (subscriptTail value slice v u) (EP X pins σ Q) X.xe s
def MtR (X:Cx)(id:String)(r:V->List V->Hp->VK->Prop):Prop :=
 ∀ (pins:List (Addr × Obj)) (s:Shared) (σ:St) (H:Hp) (x:V) (xs:List V) (v:Value) (us:List Value) (Q:VK),Inv X pins σ H s->RelV x v->Vals xs us->r x xs H Q →
  wpAny (model X.prog X.w) X.A (call (.builtin id) (v::us)) (EP X pins σ Q) X.xe s
section
variable {X:Cx}{a b:Expr}{ta tb:TE}{pos:Pos}
theorem Zj {r:R2}(hr:IxR X r)(ha:PE X a ta)(hb:PE X b tb)(hs:PlainIx b):PE X (.Subscript a b pos) (tOp r ta tb):=by
 intro pins s σ H Q I h
 exact Subscript_ (Z6g ha hb I h fun v u s2 x y H2 I2 rx ry q=>hr a b pins s2 σ H2 x y v u Q I2 rx ry q (hs _ _))
def rIxL (K:W.Frag):R2:=fun x y H Q=>∃ p xs i v,x=.ref p/\y=.int i/\SqL K H p xs/\atI xs i=some v/\Q v H
def rIxT (K:W.Frag):R2:=fun x y H Q=>∃ p xs i v,x=.ref p/\y=.int i/\SqT K H p xs/\atI xs i=some v/\Q v H
theorem Y6:IxR X (rIxL X.K):=by
 intro value slice pins s σ H x y v u Q I rx ry h hs
 obtain⟨p,xs,i,z,rfl,rfl,hq,he,q⟩:=h
 cases rx
 obtain⟨t,rfl⟩:=ry
 obtain⟨its,r,pl,hz⟩:=I.list hq
 obtain⟨j,h1,h2,h3,h4,h5⟩:=D3 he
 obtain⟨w,ew,rw'⟩:=r.get h2
 have hl:=r.length
 have hn:=Qy
 have fin:EP X pins σ Q w s:=⟨z,H,I,rw',q⟩
 by_cases h0:0<=i
 ·have hj:i.toNat=j:=by
   rw[seqIndex_of h0 h5] at h1
   exact YK h1
  exact item_listR pl.isList h0 (by omega) (by rw[hj];simpa using ew) fin hs
 ·have hj:(i+(its.toArray.size:Int)).toNat=j:=by
   rw[seqIndex_neg (by omega) h4] at h1
   rw[YR,<-hl]
   exact YK h1
  exact subscriptTail_builtinR (x:=w) pl.isList.typeIs slot_list_getitem.lookup
   (wpAny_getItem_list_neg (Q:=fun r s'=>r=w/\EP X pins σ Q r s') pl.isList (by omega) (by rw[YR] <;> omega) (by omega) (by rw[hj];simpa using ew) ⟨rfl,fin⟩) hs
theorem Ya:IxR X (rIxT X.K):=by
 intro value slice pins s σ H x y v u Q I rx ry h hs
 obtain⟨p,xs,i,z,rfl,rfl,hq,he,q⟩:=h
 cases rx
 obtain⟨t,rfl⟩:=ry
 obtain⟨its,r,pl,hz⟩:=I.tuple hq
 obtain⟨j,h1,h2,h3,h4,h5⟩:=D3 he
 obtain⟨w,ew,rw'⟩:=r.get h2
 have hl:=r.length
 have hn:=Qy
 have fin:EP X pins σ Q w s:=⟨z,H,I,rw',q⟩
 exact subscriptTail_builtinR (x:=w) pl.typeIs slot_tuple_getitem.lookup
  (getItem_tuple (j:=j) (Q:=fun r s'=>r=w/\EP X pins σ Q r s') pl (by omega) (by omega) (by rw[YR,<-hl];exact h1) (by simpa using ew) ⟨rfl,fin⟩) hs
theorem Jj (its:List Value)(n j:Nat)(u:Value):Obj.mapSeq (·.setIfInBounds j u) { cls:=.type "list",data:=.seq its.toArray n }={ cls:=.type "list",data:=.seq (its.set j u).toArray n }:=by
 simp[Obj.mapSeq]
theorem Inv.lst {pins:List (Addr × Obj)}{σ:St}{H:Hp}{s:Shared}{p:Addr}{xs:List V}(I:Inv X pins σ H s)(h:H p=some (.lst xs)) :
  ∃ (its:List Value) (n:Nat),Vals xs its/\s.heap.get? p=some { cls:=.type "list",data:=.seq its.toArray n }/\xs.length<=sizeLine:=by
 obtain⟨z,its,n,r,e⟩:=I.hok p _ h
 exact⟨its,n,r,e,z⟩
theorem Inv.lstUpd {pins:List (Addr × Obj)}{σ:St}{H:Hp}{s:Shared}{p:Addr}{xs ys:List V}{its its':List Value}{n n':Nat}{f:Obj->Obj}(I:Inv X pins σ H s)(h:H p=some (.lst xs))
  (ho:s.heap.get? p=some { cls:=.type "list",data:=.seq its.toArray n }) (hf:f { cls:=.type "list",data:=.seq its.toArray n }={ cls:=.type "list",data:=.seq its'.toArray n' }) (r:Vals ys its') (hz:ys.length<=sizeLine) (t:Nat) :
  Inv X pins σ (upd H p (.lst ys)) { s with heap:=s.heap.update p f,toks:=t }:=by
 have e:(s.heap.update p f).get? p=some { cls:=.type "list",data:=.seq its'.toArray n' }:=by
  rw[JH f ho (by rw[hf] <;> rfl),hf]
 refine I.write (x:=p) (e:=p) (by rw[h];trivial) (.inl rfl) (fun b u hb q=>(XS _ _ (XN hb)).trans q) ⟨_,e⟩ ?_
 exact⟨hz,its',n',r,e⟩
def rSetL:V->V->V->Hp->(Hp->Prop)->Prop:=fun o i v H Q=>∃ p xs k j,o=.ref p/\i=.int k/\H p=some (.lst xs)/\ixN xs.length k=some j/\Q (upd H p (.lst (xs.set j v)))
theorem V8:PSet X rSetL:=by
 intro pins s σ H o i v ov iv u Q I ro ri rv h
 obtain⟨p,xs,k,j,rfl,rfl,hp,hj,q⟩:=h
 cases ro
 obtain⟨t,rfl⟩:=ri
 obtain⟨its,n,r,ho,hz⟩:=I.lst hp
 obtain⟨h1,h2,h3,h4⟩:=Fm hj
 have hl:=r.length
 have hn:=Qy
 have I':Inv X pins σ (upd H p (.lst (xs.set j v))) { s with heap:=s.heap.update p (Obj.mapSeq (·.setIfInBounds j u)) } :=
  I.lstUpd hp ho (Jj its n j u) (r.set rv j) (by rw[qj];exact hz) s.toks
 by_cases h0:0<=k
 ·have hk:k.toNat=j:=by
   rw[seqIndex_of h0 h4] at h1
   exact YK h1
  exact W.ki_setAt ho h0 (by omega) (by rw[YR,<-hl];exact h4) (by rw[hk];exact⟨_,I',q⟩)
 ·have hk:(k+(its.toArray.size:Int)).toNat=j:=by
   rw[seqIndex_neg (by omega) h3] at h1
   rw[YR,<-hl]
   exact YK h1
  exact W.ki_setBack ho (by omega) (by rw[YR,<-hl];exact h3) (by omega) (by rw[hk];exact⟨_,I',q⟩)
def flatV:V->Bool
 | .non=>true
 | .bl _=>true
 | .int _=>true
 | .str _=>true
 | _=>false
def eqV:V->V->Bool
 | .non,.non=>true
 | .bl a,.bl b=>a == b
 | .bl a,.int b=>(if a then 1 else 0) == b
 | .int a,.bl b=>a == (if b then 1 else 0)
 | .int a,.int b=>a == b
 | .str a,.str b=>a == b
 | _,_=>false
theorem Z6e {A:Around}{s:Shared}{y x:V}{u v:Value}(ry:RelV y u)(rx:RelV x v)(fy:flatV y=true)(fx:flatV x=true):SeqAt.EqAt A s u v (eqV y x):=by
 cases y with
 | non =>
  cases ry
  cases x with
  | non=>cases rx;exact zL _
  | bl b=>cases rx;exact SeqAt.EqAt.none_bool b
  | int b=>obtain⟨t,rfl⟩:=rx;exact SeqAt.EqAt.none_int b t
  | str b=>obtain⟨t,rfl⟩:=rx;exact SeqAt.EqAt.none_str b t
  | _=>exact absurd (show false=true from fx) YT
 | bl a =>
  cases ry
  cases x with
  | non=>cases rx;exact SeqAt.EqAt.bool_none a
  | bl b=>cases rx;exact SeqAt.EqAt.bool_bool a b
  | int b=>obtain⟨t,rfl⟩:=rx;exact SeqAt.EqAt.bool_int a b t
  | str b=>obtain⟨t,rfl⟩:=rx;exact SeqAt.EqAt.bool_str a b t
  | _=>exact absurd (show false=true from fx) YT
 | int a =>
  obtain⟨t',rfl⟩:=ry
  cases x with
  | non=>cases rx;exact SeqAt.EqAt.int_none a t'
  | bl b=>cases rx;exact SeqAt.EqAt.int_bool a t' b
  | int b=>obtain⟨t,rfl⟩:=rx;exact zk a t' b t
  | str b=>obtain⟨t,rfl⟩:=rx;exact SeqAt.EqAt.int_str a t' b t
  | _=>exact absurd (show false=true from fx) YT
 | str a =>
  obtain⟨t',rfl⟩:=ry
  cases x with
  | non=>cases rx;exact SeqAt.EqAt.str_none a t'
  | bl b=>cases rx;exact SeqAt.EqAt.str_bool a t' b
  | int b=>obtain⟨t,rfl⟩:=rx;exact SeqAt.EqAt.str_int a t' b t
  | str b=>obtain⟨t,rfl⟩:=rx;exact SeqAt.EqAt.str_str a t' b t
  | _=>exact absurd (show false=true from fx) YT
 | _=>exact absurd (show false=true from fy) YT
def eqU (x:V)(u:Value):Bool:=match u with
 | .none=>eqV .non x
 | .bool b=>eqV (.bl b) x
 | .int i _=>eqV (.int i) x
 | .str z _=>eqV (.str z) x
 | _=>false
theorem Z29 {x y:V}{u:Value}(r:RelV y u)(f:flatV y=true):eqU x u=eqV y x:=by
 cases y with
 | non=>cases r;rfl
 | bl b=>cases r;rfl
 | int i=>obtain⟨t,rfl⟩:=r;rfl
 | str z=>obtain⟨t,rfl⟩:=r;rfl
 | _=>exact absurd (show false=true from f) YT
theorem Mr {x:V}:∀ {xs:List V} {us:List Value},Vals xs us->xs.all flatV=true->us.any (eqU x)=xs.any fun y=>eqV y x
 | _,_,.nil,_=>rfl
 | y::xs,u::us,.cons r t,f=>by
  rw[List.all_cons,JN] at f
  rw[List.any_cons,List.any_cons,Z29 r f.1,Mr t f.2]
theorem Qv {A:Around}{s:Shared}{x:V}{v:Value}(rx:RelV x v)(fx:flatV x=true):∀ {xs:List V} {us:List Value},Vals xs us->xs.all flatV=true->∀ u∈us,SeqAt.EqAt A s u v (eqU x u)
 | _,_,.nil,_=>fun u hu=>by cases hu
 | y::xs,u::us,.cons r t,f=>fun u' hu=>by
  rw[List.all_cons,JN] at f
  rcases YS.mp hu with rfl | hu
  ·rw[Z29 r f.1];exact Z6e r rx f.1 fx
  ·exact Qv rx fx t f.2 u' hu
def inV (x:V)(xs:List V):Bool:=xs.any fun y=>eqV y x
def rIn (K:W.Frag)(neg:Bool):R2:=fun x y H Q=>∃ p xs,y=.ref p/\(SqL K H p xs \/ SqT K H p xs)/\flatV x=true/\xs.all flatV=true/\Q (.bl (if neg then !inV x xs else inV x xs)) H
theorem Wh:OpR X (compareOp .In) (rIn X.K false):=by
 intro pins s σ H x y v u Q I rx ry h
 obtain⟨p,xs,rfl,hq,fx,fs,q⟩:=h
 cases ry
 rcases hq with hq | hq
 ·obtain⟨its,r,pl,hz⟩:=I.list hq
  refine SeqAt.in_listAt (eqU x) pl.isList (fun w hw=>Qv rx fx r fs w (by simpa using hw)) ⟨.bl _,H,I,rfl,?_⟩
  rw[show its.toArray.any (eqU x)=its.any (eqU x) by simp,Mr r fs]
  exact q
 ·obtain⟨its,r,pl,hz⟩:=I.tuple hq
  refine SeqAt.in_tupleAt (eqU x) pl (fun w hw=>Qv rx fx r fs w (by simpa using hw)) ⟨.bl _,H,I,rfl,?_⟩
  rw[show its.toArray.any (eqU x)=its.any (eqU x) by simp,Mr r fs]
  exact q
theorem Yb:CallR X (.builtin "len") (fun xs H Q=>∃ p ys,xs=[.ref p]/\(SqL X.K H p ys \/ SqT X.K H p ys)/\Q (.int ys.length) H):=by
 intro pins s σ H xs us Q I r h
 obtain⟨p,ys,rfl,hq,q⟩:=h
 obtain⟨u,rfl,rx⟩:=Ta r
 cases rx
 have hn:=Qy
 rcases hq with hq | hq
 ·obtain⟨its,r',pl,hz⟩:=I.list hq
  have hlen:=r'.length
  exact Calls.call_len_list pl.isList (by simp only [YR] <;> omega) ⟨.int ys.length,H,I.tok _,⟨s.toks+1,by rw[YR,hlen]⟩,q⟩
 ·obtain⟨its,r',pl,hz⟩:=I.tuple hq
  have hlen:=r'.length
  exact len_tuple pl (by simp only [YR] <;> omega) ⟨.int ys.length,H,I.tok _,⟨s.toks+1,by rw[YR,hlen]⟩,q⟩
theorem Yp:CallR X (.type "list") (fun xs H Q=>∃ p ys,xs=[.ref p]/\(SqL X.K H p ys \/ SqT X.K H p ys)/\∀ l,H l=none->Q (.ref l) (upd H l (.lst ys))):=by
 intro pins s σ H xs us Q I r h
 obtain⟨p,ys,rfl,hq,q⟩:=h
 obtain⟨u,rfl,rx⟩:=Ta r
 cases rx
 have fin:∀ (its:List Value),Vals ys its->ys.length<=sizeLine->∀ (h':Heap) (c':Nat),(∀ b o',s.heap.get? b=some o'->h'.get? b=some o') →
   h'.get? s.heap.objs.size=some { cls:=.type "list",dict:=none,data:=.seq its.toArray c',slots:=#[] }->EP X pins σ Q (.ref s.heap.objs.size) { s with heap:=h' }:=fun its r' hz h' c' kp e =>
  ⟨.ref s.heap.objs.size,_,I.laid (t':=s.toks) kp (YE _) (show ObjOk X.prog X.w _ h' _ (.lst ys) from ⟨hz,its,c',r',e⟩),rfl,q _ (I.hok.fresh (YE _))⟩
 rcases hq with hq | hq
 ·obtain⟨its,r',pl,hz⟩:=I.list hq
  have hlen:=r'.length
  obtain⟨o,ho,hc,n,hd⟩:=pl.isList
  exact call_list_seq p (.inl rfl) ho hc hd (fun h' c' kp e=>fin its r' hz h' c' kp e) (by simp only [YR] <;> omega)
 ·obtain⟨its,r',pl,hz⟩:=I.tuple hq
  have hlen:=r'.length
  obtain⟨o,ho,hc,n,hd⟩:=pl
  exact call_list_seq p (.inr rfl) ho hc hd (fun h' c' kp e=>fin its r' hz h' c' kp e) (by simp only [YR] <;> omega)
theorem Zz:CallR X (.type "tuple") (fun xs H Q=>∃ p ys,xs=[.ref p]/\((SqL X.K H p ys/\∀ l,H l=none->Q (.ref l) (upd H l (.tup ys))) \/ (SqT X.K H p ys/\Q (.ref p) H))):=by
 intro pins s σ H xs us Q I r h
 obtain⟨p,ys,rfl,h⟩:=h
 obtain⟨u,rfl,rx⟩:=Ta r
 cases rx
 rcases h with ⟨hq,q⟩ | ⟨hq,q⟩
 ·obtain⟨its,r',pl,hz⟩:=I.list hq
  have hlen:=r'.length
  refine call_tuple_list pl.isList (fun h' kp=>?_) (by simp only [YR] <;> omega)
  have I1:Inv X pins σ H { s with heap:=h' }:=I.kept (t':=s.toks) kp
  have I2:Inv X pins σ (upd H h'.objs.size (.tup ys)) { s with heap:=h'.push { cls:=.type "tuple",data:=.seq its.toArray } } :=
   I1.laid (t':=s.toks) (fun b o e=>YA _ e) (YE _) (show ObjOk X.prog X.w _ _ _ (.tup ys) from ⟨hz,its,r',IsTup.new _ _⟩)
  exact⟨.ref h'.objs.size,_,I2,rfl,q _ (I1.hok.fresh (YE _))⟩
 ·obtain⟨its,r',pl,hz⟩:=I.tuple hq
  exact call_tuple_same pl ⟨.ref p,H,I,rfl,q⟩
def tyV (K:W.Frag)(T:String)(x:V)(H:Hp):Prop:=match x with
 | .str _=>T="str"
 | .int _=>T="int"
 | .ref p=>(T="list"/\∃ xs,SqL K H p xs) \/ (T="tuple"/\∃ o,K.lookup p=some o/\o.cls=.type "tuple"/\o.dict=none) ∨
   (T="dict"/\((∃ kvs,H p=some (.dK kvs)) \/ ∃ kvs,H p=some (.dT kvs))) \/ (T="set"/\∃ S n,H p=some (.set S n))
 | _=>False
theorem Z4z {pins:List (Addr × Obj)}{σ:St}{H:Hp}{s:Shared}{T:String}{x:V}{v:Value}(I:Inv X pins σ H s)(r:RelV x v)(ty:tyV X.K T x H) :
  s.TypeIs v T/\∀ a,v=.ref a->∃ ob,s.heap.get? a=some ob/\ob.dict=none:=by
 cases x with
 | str z =>
  obtain⟨t,rfl⟩:=r
  cases (show T="str" from ty)
  exact⟨typeIs_str s z t,fun _ e=>nomatch e⟩
 | int i =>
  obtain⟨t,rfl⟩:=r
  cases (show T="int" from ty)
  exact⟨Y0G s i t,fun _ e=>nomatch e⟩
 | ref p =>
  cases r
  rcases ty with ⟨rfl,xs,hq⟩ | ⟨rfl,o,hk,hc,hd⟩ | ⟨rfl,hk⟩ | ⟨rfl,S,n,hk⟩
  ·obtain⟨its,_,pl,_⟩:=I.list hq
   refine⟨pl.isList.typeIs,fun a e=>?_⟩
   cases e
   obtain⟨o,n,e,c,hd,_⟩:=pl
   exact⟨o,e,hd⟩
  ·refine⟨⟨o,I.kIn p o hk,hc⟩,fun a e=>?_⟩
   cases e
   exact⟨o,I.kIn _ o hk,hd⟩
  ·have z:∃ o,s.heap.get? p=some o/\o.ExactDict:=by
    rcases hk with ⟨kvs,hk⟩ | ⟨kvs,hk⟩
    ·obtain⟨_,_,_,_,o,_,_,e,ex,_⟩:=I.hok p _ hk
     exact⟨o,e,ex⟩
    ·obtain⟨_,_,_,_,o,_,_,e,ex,_⟩:=I.hok p _ hk
     exact⟨o,e,ex⟩
   obtain⟨o,e,ex⟩:=z
   refine⟨⟨o,e,ex.1⟩,fun a e2=>?_⟩
   cases e2
   exact⟨o,e,ex.2.1⟩
  ·obtain⟨o,_,_,_,e,ex,_⟩:=I.hok p _ hk
   refine⟨⟨o,e,ex.1⟩,fun a e2=>?_⟩
   cases e2
   exact⟨o,e,ex.2.1⟩
 | _=>exact False.elim ty
def tBM (K:W.Frag)(T:String)(r:V->List V->Hp->VK->Prop)(to:TE)(t:TA):TE:=fun σ H Q=>to σ H fun x H1=>tyV K T x H1/\t σ H1 fun xs H2=>r x xs H2 Q
variable {o e:Expr}{es:List Expr}{to:TE}{t:TA}{name:Str}{apos cpos:Pos}{T id:String}{r:V->List V->Hp->VK->Prop}
theorem Uq (pa:PlainAttrs T)(slot:Slot T name id)(hty:typeOf (.builtin id)=pure (.type "method_descriptor"))(hm:MtR X id r)(ho:PE X o to)(ha:PA X (e::es) t)
  (hbase:attributeBase o name X.env (eval o X.env)=eval o X.env:=by rfl)
  (hfew:((backTo cpos (starEach (e::es) X.env)).all (fun x=>!x.1) && (backToKw cpos (keywordEach [] X.env)).all (fun x=>x.1.isSome)
   && decide ((e::es).length+([]:List Keyword).length+(if ([]:List Keyword).isEmpty then 0 else 1)<30))=true:=by rfl)
  (hline:(apos.endLine == cpos.line)=true:=by rfl) (hs:starEach (e::es) X.env=(false,eval e X.env)::starEach es X.env:=by rfl) (hplain:(backTo cpos (starEach es X.env)).any (·.1)=false:=by rfl) :
  PE X (.Call (.Attribute o name apos) (e::es) [] cpos) (tBM X.K T r to t):=by
 intro pins s σ H Q I h
 refine wpAny_Call_method_late hbase hfew hline rfl (thn (ho pins s σ H _ I h) fun v s1 ⟨x,H1,I1,r1,ty,q1⟩=>?_)
 obtain⟨h1,h2⟩:=Z4z I1 r1 ty
 refine⟨T,id,pa,slot,hty,h1,h2,?_⟩
 have hA:=ha cpos pins s1 σ H1 _ I1 q1
 rw[hs] at hA ⊢
 refine Calls.callWith_builtin (by show (false || (backTo cpos (starEach es X.env)).any (·.1))=false;rw[hplain] <;> rfl) (Calls.evalArgs_plain ?_)
 exact thn hA fun us s2 ⟨vs,H2,I2,r2,q2⟩=>hm pins s2 σ H2 x vs v us Q I2 r1 r2 q2
end
end L2
namespace L2
open PySem PySem.Spec PyProof.Rows
def MtM (X:Cx)(id:String)(r:V->List V->Hp->VK->Prop):Prop :=
 ∀ (pins:List (Addr × Obj)) (s:Shared) (σ:St) (H:Hp) (x:V) (xs:List V) (v:Value) (us:List Value) (Q:VK),Inv X pins σ H s->RelV x v->Vals xs us->r x xs H Q →
  wpAny (model X.prog X.w) X.A (call (.builtin id) (v::us)) (EP X pins σ Q) X.xe s
theorem Vals.one:∀ {x:V} {us:List Value},Vals [x] us->∃ u,us=[u]/\RelV x u:=by
 intro x us h
 cases h with | cons r t=>cases t;exact⟨_,rfl,r⟩
theorem Vals.rep {xs:List V}{us:List Value}(h:Vals xs us):∀ k:Nat,Vals (List.replicate k xs).flatten (List.replicate k us).flatten
 | 0=>.nil
 | k+1=>by
  rw[qm,qm,zZ,zZ]
  exact Vals.append h (Vals.rep h k)
theorem Nc (its:List Value):∀ (k:Nat) (acc:List Value),
  List.foldl (fun x1 x2=>x1++x2) acc.toArray (List.replicate k its.toArray)=(acc++(List.replicate k its).flatten).toArray
 | 0,acc=>by simp
 | k+1,acc=>by
  have e:acc.toArray++its.toArray=(acc++its).toArray:=by simp
  have e2:(acc++its)++(List.replicate k its).flatten=acc++(List.replicate (k+1) its).flatten:=by
   rw[qm,zZ,List.append_assoc]
  rw[<-e2,<-Nc its k (acc++its),<-e,qm,List.foldl_cons]
section
variable {X:Cx}{pins:List (Addr × Obj)}{σ:St}{H:Hp}{s:Shared}{l b:Addr}{xs ys zs:List V}
theorem Inv.lset {its its':List Value}{n:Nat}{f:Array Value->Array Value}{t':Nat}(I:Inv X pins σ H s)(hH:H l=some (.lst xs))
  (e:s.heap.get? l=some { cls:=.type "list",data:=.seq its.toArray n }) (hf:f its.toArray=its'.toArray) (hv:Vals ys its') (hz:ys.length<=sizeLine) :
  Inv X pins σ (upd H l (.lst ys)) { s with heap:=s.heap.update l (Obj.mapSeq f),toks:=t' }:=by
 have q:=PySem.IsL.update e f
 rw[hf] at q
 refine I.write (x:=l) (e:=l) (by rw[hH];exact trivial) (.inl rfl) (fun b' u hb hu=>(XS s.heap (Obj.mapSeq f) (XN hb)).trans hu) ⟨_,q⟩ ?_
 exact⟨hz,its',_,hv,q⟩
theorem Inv.lnew {its:List Value}{t':Nat}(I:Inv X pins σ H s)(hv:Vals ys its)(hz:ys.length<=sizeLine) :
  Inv X pins σ (upd H s.heap.objs.size (.lst ys)) { s with heap:=s.heap.push { cls:=.type "list",data:=.seq its.toArray },toks:=t' } :=
 I.laid (fun _ _ q=>YA _ q) (YE _) ⟨hz,its,0,hv,YO _ rfl⟩
theorem Inv.fresh (I:Inv X pins σ H s):H s.heap.objs.size=none:=I.hok.fresh (YE _)
theorem Inv.lstM (I:Inv X pins σ H s)(hH:H l=some (.lst xs)):xs.length<=sizeLine/\∃ (its:List Value) (n:Nat),Vals xs its/\xs.length=its.length/\s.heap.get? l=some { cls:=.type "list",data:=.seq its.toArray n }:=by
 obtain⟨z,its,n,r,e⟩:=I.hok l _ hH
 exact⟨z,its,n,r,r.length,e⟩
theorem Z1c {n:Nat}(h:n<=sizeLine):Builtin.List.listTooLong n=false:=by
 unfold Builtin.List.listTooLong
 exact JQ (by omega)
end
section
variable {X:Cx}
def rAppend:V->List V->Hp->VK->Prop:=fun x vs H Q=>∃ l xs y,x=.ref l/\vs=[y]/\H l=some (.lst xs)/\xs.length<sizeLine/\Q .non (upd H l (.lst (xs++[y])))
theorem Xg:MtM X "list.append" rAppend:=by
 intro pins s σ H x vs v us Q I rx rv h
 obtain⟨l,xs,y,rfl,rfl,hH,hz,q⟩:=h
 cases rx
 obtain⟨u,rfl,ru⟩:=rv.one
 obtain⟨z,its,n,r,hl,e⟩:=I.lstM hH
 refine jm F.slot_list_append ⟨_,e,rfl⟩ F.entry_list_append (F.args_list_append_2 _ _) (PySem.list_append l its.toArray n u (by rw[YR];omega)) ⟨e,?_⟩
 refine⟨.non,_,I.lset (its':=its++[u]) hH e (by simp) (r.append (.cons ru .nil)) ?_,rfl,q⟩
 rw[XD,List.length_singleton]
 omega
def rExtend:V->List V->Hp->VK->Prop:=fun x vs H Q=>∃ l b xs zs,x=.ref l/\vs=[.ref b]/\H l=some (.lst xs)/\H b=some (.lst zs)/\xs.length+zs.length<=sizeLine/\Q .non (upd H l (.lst (xs++zs)))
theorem Cb:MtM X "list.extend" rExtend:=by
 intro pins s σ H x vs v us Q I rx rv h
 obtain⟨l,b,xs,zs,rfl,rfl,hH,hB,hz,q⟩:=h
 cases rx
 obtain⟨u,rfl,ru⟩:=rv.one
 cases ru
 obtain⟨z,its,n,r,hl,e⟩:=I.lstM hH
 obtain⟨z2,its2,n2,r2,hl2,e2⟩:=I.lstM hB
 have hsz:its.toArray.size+its2.toArray.size<=sizeLine:=by rw[YR,YR];omega
 have hlong:¬ (!its.toArray.isEmpty && Builtin.List.listTooLong (its.toArray.size+its2.toArray.size))=true:=by
  rw[Z1c hsz,Bool.and_false]
  exact YT
 refine jm F.slot_list_extend ⟨_,e,rfl⟩ F.entry_list_extend (F.args_list_extend_2 _ _)
  (AutoSeq1.list_extend_list_list_0 l its.toArray n b its2.toArray n2 hlong (by rw[YR];omega) (by omega)) ⟨e,e2,?_⟩
 refine⟨.non,_,I.lset (its':=its++its2) hH e (by simp) (r.append r2) ?_,rfl,q⟩
 rw[XD]
 omega
def rCat:R2:=fun x y H Q=>∃ l b xs zs,x=.ref l/\y=.ref b/\H l=some (.lst xs)/\H b=some (.lst zs)/\xs.length+zs.length<=sizeLine/\∀ p,H p=none->Q (.ref p) (upd H p (.lst (xs++zs)))
theorem Z5i:OpR X (binaryOp .Add) rCat:=by
 intro pins s σ H x y v u Q I rx ry h
 obtain⟨l,b,xs,zs,rfl,rfl,hH,hB,hz,q⟩:=h
 cases rx
 cases ry
 obtain⟨z,its,n,r,hl,e⟩:=I.lstM hH
 obtain⟨z2,its2,n2,r2,hl2,e2⟩:=I.lstM hB
 refine PySem.P.add_list e e2 ?_ (by rw[YR,YR];omega)
 have ea:its.toArray++its2.toArray=(its++its2).toArray:=by simp
 rw[ea]
 exact⟨.ref _,_,I.lnew (t':=s.toks) (r.append r2) (by rw[XD];omega),rfl,q _ I.fresh⟩
theorem Z44 {α:Type}(xs:List α)(k:Nat):(List.replicate k xs).flatten.length=k*xs.length:=by
 induction k with
 | zero=>simp
 | succ k ih=>rw[qm,zZ,XD,ih,Y0H,ja]
end
section
variable {prog:Program}{w:World}{A:Around}{E:Value->Shared->Prop}{s:Shared}
end
section
variable {X:Cx}
end
end L2
namespace Att
open PySem PySem.W PySem.Calls PyProof.Rows
theorem Rh {P:Params}{h:Heap}:∀ (ns:List Int) (vs:List Value),WellAll P h vs (ns.map WData.int)->IntsAre vs ns:=by
 intro ns
 induction ns with
 | nil =>
  intro vs w
  rw[List.map_nil] at w
  cases w
  exact .nil
 | cons n ns ih =>
  intro vs w
  rw[Y0x] at w
  cases w with
  | cons a b =>
   cases a
   exact .cons _ _ (ih _ b)
theorem Dl {l:OpenLaw}{n:Nat}(hn:l.most=some n){P:Params}{h:Heap}{args:List WData}{vals:List Value}
  (hpre:l.row.toRowW.claim.pre args=true) (hwl:WellAll P h vals args) :
  ∃ a vs ns,vals=[Value.ref a]/\args=[WData.list (ns.map WData.int)]/\h.get? a=some { cls:=.type "list",data:=.seq vs.toArray }/\IntsAre vs ns/\ns.length<=n:=by
 have hsh:WShape.hasAll [] args [.list .int]=true:=(pre_splitW hpre).1
 have hc:l.pre.holds [] { args:=args }=true:=(pre_splitW hpre).2
 obtain⟨d,r,rfl,h1,h2⟩:=hasAllW_cons hsh
 obtain rfl:=hasAllW_nil h2
 obtain⟨xs,rfl,h3⟩:=hasW_list h1
 obtain⟨ns,rfl⟩:=items_int h3
 have hlen:ns.length<=n:=by
  unfold OpenLaw.pre at hc
  have h4:(WTm.not (.lt (.lit (.int (n:Int))) (.len (.arg 0)))).holds [] { args:=[.list (ns.map .int)] }=true:=by
   have h4:=(holds_andW hc).1
   rw[hn] at h4
   exact h4
  have h5:=condW_of h4 (w_not (w_lt w_lit (w_len_list (w_arg rfl))))
  rw[YC] at h5
  refine Y0B fun q=>?_
  have q':(n:Int)<((ns.length:Nat):Int):=by omega
  first
   | (rw[XX q'] at h5;exact absurd h5 (by decide))
   | (simp at h5;omega)
 cases hwl with
 | cons w1 w2 =>
  cases w2
  cases w1 with
  | list ho hall=>exact⟨_,_,ns,rfl,rfl,ho,Rh ns _ hall,hlen⟩
theorem Dt (l:OpenLaw)(args:List WData):l.row.toRowW.claim.post args (.bool true) args=true :=
 postW_of (r:=l.row.toRowW) (X:=(true == true))
  (show WShape.has [] (.bool true) .bool=true by first | rfl | decide | simp[WShape.has,WShape.arms,WShape.armsAll])
  (show (WTm.eq .res (.lit (.bool true))).value [] { args:=args,res:=some (.bool true),after:=args }=some (.bool (true == true)) from w_eq_bool (w_res rfl) w_lit) rfl
theorem attach_call {l:OpenLaw}{n:Nat}{q:Program}{loose:List Str}{XP:(Str->Option Value)->Heap->Prop}{YP:World->Heap->Prop}{d:DefRec}
  (hn:l.most=some n) (hdf:d.params.defaults=[])
  (call:∀ (w:World) (s₀ s₁:Shared) (mg mb:Str->Option Value) (fa:Addr) (o:Obj) (pm cd doc:Value) (a:Addr) (vs:List Value) (ns:List Int),
   Ground q loose [] XP w s₀ mg mb s₁.heap->YP w s₁.heap →
   s₁.heap.get? fa=some o->o.data=.func (docDef d.name d.params d.body d.scope pm cd doc)->s₁.heap.CodeRec cd d.name->mg d.name=some (.ref fa) →
   s₁.heap.get? a=some { cls:=.type "list",data:=.seq vs.toArray }->IntsAre vs ns->ns.length<=n->s₁.gens=#[] →
   codeAny (model l.prog w) callerA (.call (.ref fa) ⟨[.ref a],[]⟩) (fun r s'=>r=.ok (.ret (.bool true))/\OldK s₁.heap s'.heap/\s'.os=s₁.os/\AllBare s'.gens) s₁) :
  WalkO q loose XP YP l.row.toRowW d [] (fun f vs=>PySem.call f vs):=by
 intro w s₀ s₁ mg mb G Y fa o pm cd doc dV kV ho hd hcd hD hmg hg args vals as hpre hlay hrd hwl hlo
 obtain rfl:dV=.none:=Dflts.none hD hdf
 obtain rfl:kV=.none:=Dflts.noKw hD
 obtain⟨a,vs,ns,rfl,rfl,hobj,hints,hlen⟩:=Dl hn hpre hwl
 refine enter_call (zX (call w s₀ s₁ mg mb fa o pm cd doc a vs ns G Y ho (fd_plain hd) hcd hmg hobj hints hlen hg) fun r s' hq=>?_)
 obtain⟨rfl,h2,h3,h4⟩:=hq
 exact⟨.inl ⟨.bool true,.bool true,[],rfl,fun _=>rfl,.bool true,Dt l _,fun _=>⟨List.Pairwise.nil,fun _ hm=>(nomatch hm)⟩⟩,h2,h3,h4⟩
section
variable {prog:Program}{w:World}{A:Around}{E:Value->Shared->Prop}{s:Shared}{K:Frag}
def ledger (h:Heap)(L d:Addr):List (Addr × Obj):=(List.range h.objs.size).filterMap fun a=>if a=L \/ a=d then none else (h.get? a).map fun o=>(a,o)
end
end Att
namespace L2
open PySem PySem.Spec PyProof.Rows
theorem Pq:∀ {vs:List Value} {ns:List Int},IntsAre vs ns->Vals (ns.map V.int) vs
 | _,_,.nil=>.nil
 | _,_,.cons n t h=>.cons ⟨t,rfl⟩ (Pq h)
def Only (H:Hp):Prop:=∀ b,H b=none \/ ∃ o xs,H b=some (.frz o (.lst xs))
theorem Z1r {P:Program}{w:World}{K:W.Frag}{mg mb:Str->Option Value}{CX:CXT}{k:Nat}{fa a:Addr}{fd:FuncData}{x:Str}{sp:Sp}{s₁:Shared}{vs:List Value}{ns:List Int}
  (KX:K.In s₁.heap) (hns:s₁.heap.Ns mainGlobals mg) (hb:s₁.heap.Ns builtinsNs mb) (hbb:∀ x:Str,x≠"__name__"->mb x=bootBuiltins x) (hlim:s₁.heap.NoLimit) (hg:s₁.gens=#[])
  (ha:s₁.heap.get? a=some { cls:=.type "list",data:=.seq vs.toArray }) (hi:IntsAre vs ns) (hl:ns.length<=sizeLine) {sr:Bool} (hr:Room k callerA sr)
  (F:∀ base:Heap,K.In base->base.Ns mainGlobals mg->FnOk P w K mg base CX k fa fd [x] sp sr) (hbind:∀ (s:Shared) (u:Value),BindsTo s fd ⟨[u],[]⟩ [(x,u)])
  (hsp:∀ H:Hp,Only H->SqL K H a (ns.map V.int)->sp [.ref a] H (fun v _=>v=.bl true) fun _ _ _=>False)
  (hCX:∀ H e s',CX [] H s₁ (fun _ _ _=>False) e s'->False) :
  codeAny (model P w) callerA (.call (.ref fa) ⟨[.ref a],[]⟩) (fun r s'=>r=.ok (.ret (.bool true))/\OldK s₁.heap s'.heap/\s'.os=s₁.os/\AllBare s'.gens) s₁:=by
 have rv:=Pq hi
 have lenV:=hi.length
 have core:∀ H:Hp,Only H->SqL K H a (ns.map V.int)->HOk P w H s₁.heap->(∀ b,H b≠none->b=a)->(H a≠none->K.lookup a=none) →
   codeAny (model P w) callerA (.call (.ref fa) ⟨[.ref a],[]⟩) (fun r s'=>r=.ok (.ret (.bool true))/\OldK s₁.heap s'.heap/\s'.os=s₁.os/\AllBare s'.gens) s₁:=by
  intro H hO hS hok hA hK
  have base_of:∀ {b:Addr} {o:Obj},s₁.heap.get? b=some o->H b=none->(hidT s₁.heap H).get? b=some o:=fun e n=>Z1w e n
  have noA:∀ {b:Addr} {o:Obj} {es:Array DictEntry} {ep:Nat},s₁.heap.get? b=some o->o.data=.dict es ep->H b=none:=fun {b o es ep} e d=>by
   cases q:H b with
   | none=>rfl
   | some u =>
    have e':b=a:=hA b (by rw[q];simp)
    subst e'
    rw[ha] at e;cases e
    have d':Data.seq vs.toArray _=Data.dict es ep:=d
    cases d'
  have nsK:∀ {b:Addr} {m:Str->Option Value},s₁.heap.Ns b m->(hidT s₁.heap H).Ns b m:=fun {b m} ⟨o,es,ep,e,d,r⟩=>⟨o,es,ep,base_of e (noA e d),d,r⟩
  have hKb:K.In (hidT s₁.heap H):=fun b o e=>base_of (KX b o e) (by
   cases q:H b with
   | none=>rfl
   | some u =>
    have e':b=a:=hA b (by rw[q];simp)
    subst e'
    rw[hK (by rw[q];simp)] at e;cases e)
  have hM:Mod K mg (hidT s₁.heap H):=⟨hKb,nsK hns,⟨mb,nsK hb,hbb⟩,let ⟨mc,h1,h2⟩:=hlim;⟨mc,nsK h1,h2⟩⟩
  have e0:Env0 P w K mg (hidT s₁.heap H) callerA [] s₁ H:=⟨rfl,hM,fun b o e=>Z3y e,Nat.le_of_eq (Cm _ _),trivial,fun b hb=>absurd (show b∈([]:List Addr) from hb) (by simp),hok,.of_eq hg,.inl rfl⟩
  refine zX ((F _ hKb (nsK hns)).run callerA [] s₁ H ⟨[.ref a],[]⟩ [.ref a] [.ref a] _ _ hr e0 (hbind s₁ (.ref a)) (.cons rfl .nil) (hsp H hO hS)) fun r s' h=>?_
  cases r with
  | error e=>exact (hCX H e s' h).elim
  | ok fl =>
   cases fl with
   | next=>exact False.elim h
   | brk=>exact False.elim h
   | cont=>exact False.elim h
   | ret u =>
    obtain⟨v,H',os,bare,un,hok',r',q⟩:=h
    have q':v=.bl true:=q
    subst q'
    obtain rfl:u=Value.bool true:=r'
    refine⟨rfl,OldK.of_keep fun b o e=>?_,os,bare⟩
    cases q:H b with
    | none=>exact un.keep b o e q (by intro z;exact absurd (show b∈([]:List Addr) from z) (by simp)) (by simp)
    | some u =>
     rcases hO b with z | ⟨ob,xs,z⟩
     ·rw[q] at z;cases z
     ·have z2:=un.frzs b ob _ z
      obtain⟨e1,_⟩:=hok b _ z
      obtain⟨e2,_⟩:=hok' b _ z2
      rw[e] at e1;cases e1
      exact e2
 cases hk:K.lookup a with
 | some o =>
  have e:=KX a o hk
  rw[ha] at e
  cases e
  refine core (fun _=>none) (fun _=>.inl rfl) (.inr ⟨_,vs.toArray,_,hk,rfl,rfl,rfl,by rw[YR,lenV];exact hl,by simpa using rv⟩) (fun b u z=>by have z':(none:Option HO)=some u:=z;cases z') (fun b z=>absurd rfl z) fun z=>absurd rfl z
 | none =>
  refine core (fun b=>if b=a then some (.frz { cls:=.type "list",data:=.seq vs.toArray } (.lst (ns.map V.int))) else none) (fun b=>?_) (.inl (.inr ⟨{ cls:=.type "list",data:=.seq vs.toArray },YM rfl⟩)) (fun b u z=>?_) (fun b z=>?_) fun _=>hk
  ·by_cases hb:b=a
   ·exact .inr ⟨_,_,YM hb⟩
   ·exact .inl (YF hb)
  ·by_cases hb:b=a
   ·have z':=(YM hb).symm.trans z
    cases z'
    subst hb
    exact⟨ha,by rw[YC];exact hl,vs,_,rv,ha⟩
   ·have z':=(YF hb).symm.trans z
    cases z'
  ·by_cases hb:b=a
   ·exact hb
   ·exact absurd (YF hb) z
end L2
namespace L2
open PySem PySem.Spec PyProof.Rows
abbrev KOf {K:W.Frag}{h:Heap}(_:K.In h):W.Frag:=K
theorem Z2n {l:W.OpenLaw}{n k:Nat}{q:Program}{loose:List Str}{XP:(Str->Option Value)->Heap->Prop}{YP:World->Heap->Prop}{d:DefRec}{K:Params->W.Frag}{CX:World->CXT}{sp:World->Sp}{x:Str}
  (hn:l.most=some n) (hn2:n<=sizeLine) (hdf:d.params.defaults=[]) {sr:Bool} (hr:Room k callerA sr)
  (hY:∀ (w:World) (h:Heap),YP w h->(K w.params).In h)
  (F:∀ (w:World) (mg:Str->Option Value) (fa:Addr) (h:Heap),(K w.params).In h->h.Ns mainGlobals mg->mg d.name=some (.ref fa) →
   ∃ fd:FuncData,(∀ (s:Shared) (u:Value),BindsTo s fd ⟨[u],[]⟩ [(x,u)]) ∧
    ∀ base:Heap,(K w.params).In base->base.Ns mainGlobals mg->FnOk l.prog w (K w.params) mg base (CX w) k fa fd [x] (sp w) sr)
  (hsp:∀ (w:World) (H:Hp) (a:Addr) (ns:List Int),ns.length<=n->Only H->SqL (K w.params) H a (ns.map V.int)->sp w [.ref a] H (fun v _=>v=.bl true) fun _ _ _=>False)
  (hCX:∀ (w:World) (H:Hp) (s:Shared) (e:Value) (s':Shared),CX w [] H s (fun _ _ _=>False) e s'->False) :
  W.WalkO q loose XP YP l.row.toRowW d [] (fun f vs=>PySem.call f vs):=by
 refine Att.attach_call hn hdf fun w s₀ s₁ mg mb fa o pm cd doc a vs ns G Y ho hd hcd hmg hobj hints hlen hg=>?_
 have KX:=hY w _ Y
 obtain⟨fd,hb,hF⟩:=F w mg fa _ KX G.T.g hmg
 exact Z1r KX G.T.g G.T.b G.T.builtins G.T.nolimit hg hobj hints (XQ hlen hn2) hr hF hb (fun H hO hS=>hsp w H a ns hlen hO hS) fun H e s'=>hCX w H s₁ e s'
theorem Bc {l:W.OpenLaw}{n k:Nat}{q:Program}{loose:List Str}{XP:(Str->Option Value)->Heap->Prop}{YP:World->Heap->Prop}{d:DefRec}{K:Params->W.Frag}{CX:CXT}{sp:W.Frag->Sp}{x:Str}
  (hn:l.most=some n) (hn2:n<=sizeLine) (hdf:d.params.defaults=[]) {sr:Bool} (hr:Room k callerA sr)
  (hY:∀ (w:World) (h:Heap),YP w h->(K w.params).In h)
  (F:∀ (w:World) (mg:Str->Option Value) (fa:Addr) (h:Heap),(K w.params).In h->h.Ns mainGlobals mg->mg d.name=some (.ref fa) →
   ∃ fd:FuncData,(∀ (s:Shared) (u:Value),BindsTo s fd ⟨[u],[]⟩ [(x,u)]) ∧
    ∀ base:Heap,(K w.params).In base->base.Ns mainGlobals mg->FnOk l.prog w (K w.params) mg base CX k fa fd [x] (sp (K w.params)) sr)
  (hsp:∀ (K:W.Frag) (H:Hp) (a:Addr) (ns:List Int),ns.length<=n->Only H->SqL K H a (ns.map V.int)->sp K [.ref a] H (fun v _=>v=.bl true) fun _ _ _=>False)
  (hCX:∀ (H:Hp) (s:Shared) (e:Value) (s':Shared),CX [] H s (fun _ _ _=>False) e s'->False) :
  W.WalkO q loose XP YP l.row.toRowW d [] (fun f vs=>PySem.call f vs) :=
 Z2n (K:=K) (CX:=fun _=>CX) (sp:=fun w=>sp (K w.params)) hn hn2 hdf hr hY F (fun w H a ns h1 h2 h3=>hsp (K w.params) H a ns h1 h2 h3) fun _ H s e s'=>hCX H s e s'
end L2
namespace L2
open PySem PySem.Spec PyProof.Rows
def inClass (s:Stmt)(j:Nat):Stmt:=match s with
 | .ClassDef _ _ _ body _ _ _ _ _ _ _=>body.getD j (.Pass ⟨0,0,0,0⟩)
 | _=>.Pass ⟨0,0,0,0⟩
def defArgs (s:Stmt):Arguments:=match s with
 | .FunctionDef _ a _ _ _ _ _ _ _ _=>a
 | _=>{ posonlyargs:=[],args:=[],vararg:=none,kwonlyargs:=[],kw_defaults:=[],kwarg:=none,defaults:=[] }
def defBody (s:Stmt):List Stmt:=match s with
 | .FunctionDef _ _ b _ _ _ _ _ _ _=>b
 | _=>[]
def defScope (s:Stmt):Scope:=match s with
 | .FunctionDef _ _ _ _ _ _ sc _ _ _=>sc
 | _=>{ kind:=.function,names:=[],isGenerator:=false,isCoroutine:=false }
abbrev CX0:CXT:=fun _ _ _ _ _ _=>False
abbrev E0:XK:=fun _ _ _=>False
theorem F8 {X:Cx}:Passes CX0 X E0:=fun _ _ _ _ _ _ _ h=>h.elim
structure Fun (K:W.Frag)(x qual:Str)(st:Stmt)(f:Addr)(fd:FuncData):Prop where
 ex:∃ (oc:Value) (od:Option Addr) (kV doc pm:Value) (an:Option Addr) (cdv ct:Value) (osl:Array (Option Value)),
  fd=W.fnOf x qual (defArgs st) (defBody st) (defScope st) .none kV doc pm an cdv ct/\K.lookup f=some ⟨oc,od,.func fd,osl⟩/\W.codeIn K cdv qual=true
 kp:W.keepIn K (.ref f)=true
section
variable {P:Program}{w:World}{K:W.Frag}{mg:Str->Option Value}{base:Heap}
theorem Fun.ok {x qual:Str}{st:Stmt}{f:Addr}{fd:FuncData}{N ps:List Str}{k:Nat}{sp:Sp}{sr:Bool}(F:Fun K x qual st f fd)(S:FnScope N ps (defScope st))(len:∀ vs H Q E,sp vs H Q E->vs.length=ps.length)
  (hbody:∀ (cdv:Value) (A:Around) (outer:List Env) (s:Shared) (H:Hp) (vs:List V) (Q:VK) (E:XK),Room k (A.deeper (envOfC qual (defScope st) s.heap.objs.size f cdv)) sr->sp vs H Q E →
   ∃ t,PSs (cxOf CX0 P w K mg base N qual (defScope st) f cdv A outer s H E).nox (defBody st) t/\t { nx:=fun _ H'=>Q .non H',rt:=Q } (start N vs) H):FnOk P w K mg base CX0 (k+1) f fd ps sp sr:=by
 obtain⟨oc,od,kV,doc,pm,an,cdv,ct,osl,rfl,lk,hcd⟩:=F.ex
 refine Z4x lk hcd S len fun A outer s H vs Q E hr hsp=>?_
 obtain⟨t,h,q⟩:=hbody cdv A outer s H vs Q E hr hsp
 exact⟨t,h.nox,q⟩
theorem Fun.binds {x qual:Str}{st:Stmt}{f:Addr}{fd:FuncData}{ps:List Str}(F:Fun K x qual st f fd)
  (h:∀ (kV doc pm:Value) (an:Option Addr) (cdv ct:Value) (us:List Value),us.length=ps.length->bindArgs (W.fnOf x qual (defArgs st) (defBody st) (defScope st) .none kV doc pm an cdv ct) ⟨us,[]⟩=pure (ps.zip us)):Binds K fd ps []:=by
 obtain⟨oc,od,kV,doc,pm,an,cdv,ct,osl,rfl,lk,hcd⟩:=F.ex
 exact .all (h kV doc pm an cdv ct)
theorem Sn {x qual:Str}{st:Stmt}{f:Addr}{oc:Value}{od an:Option Addr}{osl:Array (Option Value)}{kV doc pm cdv ct:Value}(l:K.lookup f=some ⟨oc,od,.func (W.fnOf x qual (defArgs st) (defBody st) (defScope st) .none kV doc pm an cdv ct),osl⟩)
  (c:W.codeIn K cdv qual=true) (k:W.keepIn K (.ref f)=true):Fun K x qual st f (W.fnOf x qual (defArgs st) (defBody st) (defScope st) .none kV doc pm an cdv ct):=⟨⟨oc,od,kV,doc,pm,an,cdv,ct,osl,rfl,l,c⟩,k⟩
end
theorem Z1v {A:Around}{k:Nat}{sr:Bool}(hr:Room k A sr):A.units+1<cLine:=JZ (Nat.add_le_add_left (by decide:1<=64) _) hr.units
theorem Pu {n:Nat}(h:n<=1000):n<sizeLine:=JZ h (by decide)
section
variable {X:Cx}
theorem pv (i:Nat){x:Str}{pos:Pos}(hN:X.N[i]?=some x:=by rfl)(hv:Vis X.env.scope x:=by first | exact Or.inl rfl | exact Or.inr (Or.inl rfl) | exact Or.inr (Or.inr rfl))(hd:(x == ("__debug__":Str))=false:=by decide)
  (hcd:(x == ("__classdict__":Str))=false:=by decide):PE X (.Name x pos) (tVar i):=Z5d hN hv hd hcd
end
theorem X9 {A B:Prop}(h:B):if false=true then A else B:=by
 rw[YF YT]
 exact h
theorem Wt {A B:Prop}(h:A):if true=true then A else B:=by
 rw[YM rfl]
 exact h
theorem Xe {c A B:Prop}[Decidable c](h1:c->A)(h2:¬ c->B):if c then A else B:=by
 by_cases h:c
 ·rw[YM h]
  exact h1 h
 ·rw[YF h]
  exact h2 h
theorem Fn {c A B:Prop}[Decidable c](hc:c)(h:B):if (!decide c)=true then A else B:=by
 rw[XX hc]
 exact X9 h
def Same (H H':Hp):Prop:=∀ b o,H b=some o->H' b=some o
theorem Same.refl (H:Hp):Same H H:=fun _ _ h=>h
theorem Same.trans {H H1 H2:Hp}(a:Same H H1)(b:Same H1 H2):Same H H2:=fun c o h=>b c o (a c o h)
end L2
namespace Sb
def Bd (n:Nat)(x:Int):Prop:=x.natAbs<2 ^ n
theorem Bd.mono {m n:Nat}{x:Int}(h:Bd m x)(k:m<=n):Bd n x:=YW h (qf (by decide) k)
theorem Bd.mul {m n:Nat}{x y:Int}(h:Bd m x)(k:Bd n y):Bd (m+n) (x*y):=by
 unfold Bd at *
 rw[qg,Y0Q]
 exact Nat.mul_lt_mul'' h k
theorem Bd.add {n:Nat}{x y:Int}(h:Bd n x)(k:Bd n y):Bd (n+1) (x+y):=by
 unfold Bd at *
 rw[Y18]
 omega
theorem Bd.sub {n:Nat}{x y:Int}(h:Bd n x)(k:Bd n y):Bd (n+1) (x - y):=by
 unfold Bd at *
 rw[Y18]
 omega
theorem Bd.neg {n:Nat}{x:Int}(h:Bd n x):Bd n (-x):=by
 unfold Bd at *
 omega
theorem Bd.of_le {n:Nat}{x y:Int}(h:x.natAbs<=y.natAbs)(k:Bd n y):Bd n x:=JZ h k
theorem Bd.of_le' {n:Nat}{x y:Int}(k:Bd n y)(h:x.natAbs<=y.natAbs):Bd n x:=JZ h k
theorem Bd.log {n:Nat}{x:Int}(h:Bd n x)(k:n<9000):x.natAbs.log2<9000:=by
 rcases Y0e x.natAbs with h0 | hp
 ·rw[h0];decide
 ·have:=(Y0R (qo hp)).mpr h
  omega
def gI (p q:Int):Int:=(Int.gcd p q:Int)
def sg (p q:Int):Int:=if q<0 then -(gI p q) else gI p q
def nT (p q:Int):Int:=p.fdiv (sg p q)
def nB (p q:Int):Int:=q.fdiv (sg p q)
theorem Jt {p q:Int}(h:q≠0):0<gI p q:=by
 have:=Int.gcd_pos_of_ne_zero_right p h
 unfold gI;omega
theorem Pw {p q:Int}(h:q≠0):sg p q≠0:=by
 have:=Jt (p:=p) h
 unfold sg;split <;> omega
theorem Kw (p q:Int):sg p q ∣ p:=by
 unfold sg gI;split
 ·exact Int.neg_dvd.mpr (Y0C ..)
 ·exact Y0C ..
theorem Kx (p q:Int):sg p q ∣ q:=by
 unfold sg gI;split
 ·exact Int.neg_dvd.mpr (jb ..)
 ·exact jb ..
theorem T8 {a b:Int}(h:b ∣ a):a.fdiv b*b=a:=by
 rw[Int.fdiv_eq_ediv_of_dvd h]
 exact Int.ediv_mul_cancel h
theorem Jg (p q:Int):nT p q*sg p q=p:=T8 (Kw p q)
theorem Sg (p q:Int):nB p q*sg p q=q:=T8 (Kx p q)
theorem M5 {p q:Int}(h:q≠0):0<nB p q:=by
 have e:=Sg p q
 have g:=Jt (p:=p) h
 by_cases hq:q<0
 ·have s:sg p q=-(gI p q):=by unfold sg;rw[YM hq]
  rw[s] at e
  rcases Int.lt_trichotomy 0 (nB p q) with k | k | k
  ·exact k
  ·rw[<-k] at e;simp at e;omega
  ·have:=Int.mul_pos_of_neg_of_neg k (show -(gI p q)<0 by omega);omega
 ·have s:sg p q=gI p q:=by unfold sg;rw[YF hq]
  rw[s] at e
  rcases Int.lt_trichotomy 0 (nB p q) with k | k | k
  ·exact k
  ·rw[<-k] at e;simp at e;omega
  ·have:=Int.mul_neg_of_neg_of_pos k g;omega
theorem Xd (p q:Int):nT p q*q=p*nB p q:=by
 have h1:=Jg p q
 have h2:=Sg p q
 calc nT p q*q=nT p q*(nB p q*sg p q):=by rw[h2]
  _=(nT p q*sg p q)*nB p q:=by rw[XF (nB p q),JL]
  _=p*nB p q:=by rw[h1]
theorem Z1i {p q:Int}(h:q≠0):Int.gcd (nT p q) (nB p q)=1:=by
 have g:=Jt (p:=p) h
 have e1:=Jg p q
 have e2:=Sg p q
 have e:Int.gcd p q=Int.gcd (nT p q) (nB p q)*(sg p q).natAbs:=by
  have z:=Int.gcd_mul_right (nT p q) (sg p q) (nB p q)
  rw[e1,e2] at z
  exact z
 have s:(sg p q).natAbs=Int.gcd p q:=by
  unfold sg gI;split <;> simp
 rw[s] at e
 have gp:0<Int.gcd p q:=by unfold gI at g;omega
 have e':1*Int.gcd p q=Int.gcd (nT p q) (nB p q)*Int.gcd p q:=by omega
 exact (Y0f gp e').symm
theorem Bn {p q:Int}(h:q≠0):1<=(sg p q).natAbs:=by
 have:=Pw (p:=p) h
 omega
theorem Si {a b c:Int}(h:a*b=c)(hb:1<=b.natAbs):a.natAbs<=c.natAbs:=by
 rw[<-h,qg]
 exact zS _ hb
theorem Z6v {p q:Int}(h:q≠0):(nT p q).natAbs<=p.natAbs:=Si (Jg p q) (Bn h)
theorem Z6w {p q:Int}(h:q≠0):(nB p q).natAbs<=q.natAbs:=Si (Sg p q) (Bn h)
theorem Z6k {p q:Int}(h:q≠0):(sg p q).natAbs<=q.natAbs:=by
 have e:=Sg p q
 rw[XF] at e
 have:=M5 (p:=p) h
 exact Si e (by omega)
theorem gcd_step {a b:Int}:Int.gcd b (a % b)=Int.gcd a b:=by
 rw[zl b,Int.emod_def]
 rw[Y0j]
theorem Co (a b:Int):Int.gcd b (a.fmod b)=Int.gcd a b:=by
 rw[zl b,Int.fmod_def]
 rw[Y0j]
theorem Z26 (a:Int){b:Int}(h:b≠0):(a.fmod b).natAbs<b.natAbs:=by
 rcases Int.lt_or_gt_of_ne h with k | k
 ·have h0:=Int.neg_fmod_neg a b
  have h1:=Y0I (-a) (show 0 < -b by omega)
  have h2:=Y13 (-a) (show 0 < -b by omega)
  omega
 ·have h1:=Y0I a k
  have h2:=Y13 a k
  omega
theorem Z6a (a b:Int)(ha:0<=a)(h:b=0):a=(Int.gcd a b:Int):=by
 subst h
 simp
 omega
end Sb
namespace Sb
open PySem PySem.Spec PyProof.Rows L2
theorem Bd.bits {n:Nat}{x:Int}(h:Bd n x):Builtin.Int.intBits x<=n:=by
 unfold Builtin.Int.intBits
 split
 ·exact JY _
 ·rename_i h0
  have hn:x.natAbs≠0:=by
   intro z
   have:x=0:=by omega
   exact h0 (by simp[this])
  have:=(Y0R hn).mpr h
  omega
theorem Bd.mulOk {m n:Nat}{x y:Int}(h:Bd m x)(k:Bd n y)(hm:m<=1048576)(hn:n<=1048576):IntMulOk x y :=
 IntMulOk.of_bits (XQ h.bits (XQ hm (by decide))) (XQ k.bits (XQ hn (by decide)))
theorem Ca {x y:Int}(h1:-(2 ^ 64)<x)(h2:x<2 ^ 64):IntMulOk x y:=IntMulOk.of_left (intBits_le_64 h1 h2)
theorem C9 {x y:Int}(h1:-(2 ^ 64)<y)(h2:y<2 ^ 64):IntMulOk x y:=IntMulOk.of_right (intBits_le_64 h1 h2)
section
variable {X:Cx}
theorem Zw:OpR X (binaryOp .Mult) (rI IntMulOk fun i j=>.int (i*j)):=opI fun _ _ _ _ _ _ _ hc q=>mul_int q hc
def DivOk (_ j:Int):Prop:=j≠0/\j.natAbs.log2<9000
theorem W9:OpR X (binaryOp .FloorDiv) (rI DivOk fun i j=>.int (i.fdiv j)):=opI fun _ _ _ _ _ _ _ hc q=>floordiv_int hc.1 q (.inl (PyProof.noPylong_of_log2 hc.2))
def rP0 (K:W.Frag):R2:=fun x y H Q=>∃ p u v,x=.ref p/\y=.int 0/\SqT K H p [u,v]/\Q u H
def rP1 (K:W.Frag):R2:=fun x y H Q=>∃ p u v,x=.ref p/\y=.int 1/\SqT K H p [u,v]/\Q v H
def rL0 (K:W.Frag):R2:=fun x y H Q=>∃ p u v,x=.ref p/\y=.int 0/\SqL K H p [u,v]/\Q u H
def rL1 (K:W.Frag):R2:=fun x y H Q=>∃ p u v,x=.ref p/\y=.int 1/\SqL K H p [u,v]/\Q v H
theorem at0 {α:Type}(x:α)(xs:List α):atI (x::xs) 0=some x:=Zh (j:=0) rfl
theorem at1 {α:Type}(x y:α)(xs:List α):atI (x::y::xs) 1=some y:=Zh (j:=1) rfl
theorem X6:IxR X (rP0 X.K):=fun vl sl pins s σ H x y v u Q I rx ry ⟨p,a,b,e1,e2,h,q⟩ hs=>Ya vl sl pins s σ H x y v u Q I rx ry ⟨p,_,_,_,e1,e2,h,at0 _ _,q⟩ hs
theorem Yq:IxR X (rP1 X.K):=fun vl sl pins s σ H x y v u Q I rx ry ⟨p,a,b,e1,e2,h,q⟩ hs=>Ya vl sl pins s σ H x y v u Q I rx ry ⟨p,_,_,_,e1,e2,h,at1 _ _ _,q⟩ hs
theorem Fl:IxR X (rL0 X.K):=fun vl sl pins s σ H x y v u Q I rx ry ⟨p,a,b,e1,e2,h,q⟩ hs=>Y6 vl sl pins s σ H x y v u Q I rx ry ⟨p,_,_,_,e1,e2,h,at0 _ _,q⟩ hs
theorem Fk:IxR X (rL1 X.K):=fun vl sl pins s σ H x y v u Q I rx ry ⟨p,a,b,e1,e2,h,q⟩ hs=>Y6 vl sl pins s σ H x y v u Q I rx ry ⟨p,_,_,_,e1,e2,h,at1 _ _ _,q⟩ hs
theorem Ti {x:Str}{T:String}{pos:Pos}(hm:X.mg x=none)(hv:bootBuiltins x=some (.type T))(hg:Gl X x:=by rfl)(hn:x≠"__name__":=by decide)(hd:(x == ("__debug__":Str))=false:=by decide):PE X (.Name x pos) (tC (.ty T)) :=
 Z32 hg hm hv rfl hn hd
theorem V1:CallR X (.builtin "isinstance") (fun xs H Q=>∃ x T t b,xs=[x,.ty T]/\TyOf X.K H x t/\W.kitOne X.K t (.type T)=some b/\Q (.bl b) H):=by
 intro pins s σ H xs us Q I r h
 obtain⟨x,T,t,b,rfl,ty,k,q⟩:=h
 obtain⟨u,w',rfl,rx,ry⟩:=Mt r
 cases (show w'=Value.type T from ry)
 exact Ci I rx ty k fun tk=>⟨.bl b,H,I.tok tk,rfl,q⟩
theorem Xl:CallR X (.builtin "isinstance") (fun xs H Q=>∃ a ys T b,xs=[.ref a,.ty T]/\SqT X.K H a ys/\W.kitOne X.K (.type "tuple") (.type T)=some b/\Q (.bl b) H):=by
 intro pins s σ H xs us Q I r h
 obtain⟨a,ys,T,b,rfl,hs,k,q⟩:=h
 obtain⟨u,w',rfl,rx,ry⟩:=Mt r
 cases (show w'=Value.type T from ry)
 cases (show u=Value.ref a from rx)
 obtain⟨its,_,tup,_⟩:=I.tuple hs
 obtain⟨o,h1,h2,_⟩:=tup
 exact zj W.kitx_tuple I.kIn ⟨o,h1,h2⟩ k (fun z=>nomatch z) fun tk=>⟨.bl b,H,I.tok tk,rfl,q⟩
end
theorem Ud {K:W.Frag}{T:String}:W.kitOne K (.type T) (.type T)=some true:=by
 unfold W.kitOne
 rw[YM (by simp)]
theorem Tr {K:W.Frag}:W.kitOne K (.type "int") (.type "bool")=some false:=by
 show (if (Value.type "int" == Value.type "bool")=true then some true else (if W.kitMeta "bool"=true then (fastBuiltinMro "int").map (·.contains (Value.type "bool")) else none))=some false
 decide +kernel
def Has (P:Program)(w:World)(K:W.Frag)(mg:Str->Option Value)(base:Heap)(k:Nat)(x:Str)(ps:List Str)(sp:Sp)(sr:Bool:=false):Prop :=
 ∃ (f:Addr) (fd:FuncData),FnOk P w K mg base CX0 k f fd ps sp sr/\mg x=some (.ref f)/\W.keepIn K (.ref f)=true/\Binds K fd ps []
def Def (K:W.Frag)(mg:Str->Option Value)(x:Str)(st:Stmt)(ps:List Str):Prop :=
 ∃ (f:Addr) (fd:FuncData),Fun K x x st f fd/\mg x=some (.ref f)/\Binds K fd ps []
theorem Def.has {P:Program}{w:World}{K:W.Frag}{mg:Str->Option Value}{base:Heap}{k:Nat}{x:Str}{st:Stmt}{ps:List Str}{sp:Sp}{sr:Bool}(D:Def K mg x st ps)
  (h:∀ (f:Addr) (fd:FuncData),Fun K x x st f fd->FnOk P w K mg base CX0 k f fd ps sp sr):Has P w K mg base k x ps sp sr:=by
 obtain⟨f,fd,F,hm,b⟩:=D
 exact⟨f,fd,h f fd F,hm,F.kp,b⟩
section
variable {X:Cx}{k:Nat}{x:Str}{ps:List Str}{sp:Sp}{e:Expr}{es:List Expr}{t:TA}{p pos:Pos}
theorem Z0j {sr:Bool}(h:Has X.prog X.w X.K X.mg X.base k x ps sp)(hr:Room k X.A sr)(hg:Gl X x)(ha:PA X (e::es) t)(hdb:(x == ("__debug__":Str))=false:=by decide)
  (he:starEach (e::es) X.env=(false,eval e X.env)::starEach es X.env:=by rfl) (hpl:(backTo pos (starEach es X.env)).any (·.1)=false:=by rfl) (hc:X.calm=true:=by rfl):PE X (.Call (.Name x p) (e::es) [] pos) (tCall sp [] E0 t):=by
 obtain⟨f,fd,F,hm,hk,hb⟩:=h
 exact F7 F hr.loose hg hm hk hb .nil F8 ha hdb he hpl hc
theorem Rm (h:Has X.prog X.w X.K X.mg X.base k x ps sp true)(hr:Room k X.A true)(hg:Gl X x)(ha:PA X (e::es) t)(hdb:(x == ("__debug__":Str))=false:=by decide)
  (he:starEach (e::es) X.env=(false,eval e X.env)::starEach es X.env:=by rfl) (hpl:(backTo pos (starEach es X.env)).any (·.1)=false:=by rfl) (hc:X.calm=true:=by rfl):PE X (.Call (.Name x p) (e::es) [] pos) (tCall sp [] E0 t):=by
 obtain⟨f,fd,F,hm,hk,hb⟩:=h
 exact F7 F hr hg hm hk hb .nil F8 ha hdb he hpl hc
theorem Zg {j:Nat}{sr:Bool}(h:Has X.prog X.w X.K X.mg X.base k x ps sp)(hr:Room j X.A sr)(ha:PA X (e::es) t)(hg:Gl X x:=by rfl)(hj:k<=j:=by decide)(hdb:(x == ("__debug__":Str))=false:=by decide)
  (he:starEach (e::es) X.env=(false,eval e X.env)::starEach es X.env:=by rfl) (hpl:(backTo pos (starEach es X.env)).any (·.1)=false:=by rfl) (hc:X.calm=true:=by rfl):PE X (.Call (.Name x p) (e::es) [] pos) (tCall sp [] E0 t):=Z0j h (hr.mono hj) hg ha hdb he hpl hc
end
section
variable {X:Cx}{st:Stmt}{t:TS}{e:Expr}{te:TE}{tt:TT}
def tJ (t:TS):TS:=fun D σ H=>∃ J:L2.St->Hp->Prop,t { D with nx:=J } σ H/\∀ σ' H',J σ' H'->D.nx σ' H'
theorem Xj (h:PS X st t):PS X st (tJ t):=by
 intro pins s σ H D I ⟨J,a,b⟩
 refine thn (h pins s σ H _ I a) fun f s' q=>?_
 cases f with
 | next=>obtain⟨σ',H',I',q⟩:=q;exact⟨σ',H',I',b _ _ q⟩
 | brk=>exact q
 | cont=>exact q
 | ret v=>exact q
end
def SameX (a:Addr)(H H':Hp):Prop:=∀ b o,H b=some o->b≠a->H' b=some o
theorem SameX.trans {a:Addr}{H H1 H2:Hp}(x:SameX a H H1)(y:SameX a H1 H2):SameX a H H2:=fun b o h n=>y b o (x b o h n) n
theorem SameX.of {a:Addr}{H H':Hp}(x:Same H H'):SameX a H H':=fun b o h _=>x b o h
theorem SameX.upd (a:Addr)(H:Hp)(o:HO):SameX a H (upd H a o):=fun b u h n=>by rw[Zf n];exact h
theorem Same.new {H:Hp}{a:Addr}{o:HO}(h:H a=none):Same H (upd H a o):=fun b u e=>by rw[Zf (Ze e h)];exact e
theorem Zl {K:W.Frag}{H H':Hp}{a:Addr}{xs:List V}(e:Same H H')(h:SqT K H a xs):SqT K H' a xs:=by
 rcases h with (h | ⟨o,h⟩) | h
 ·exact .inl (.inl (e _ _ h))
 ·exact .inl (.inr ⟨o,e _ _ h⟩)
 ·exact .inr h
def BagAt (H:Hp)(a:Addr)(n:Nat):Prop:=∃ x y:Int,H a=some (.lst [.int x,.int y])/\0<=y/\y<=n
theorem BagAt.mono {H:Hp}{a:Addr}{m n:Nat}(h:BagAt H a m)(k:m<=n):BagAt H a n:=by
 obtain⟨x,y,e,h1,h2⟩:=h
 exact⟨x,y,e,h1,by omega⟩
theorem BagAt.same {H H':Hp}{a:Addr}{n:Nat}(h:BagAt H a n)(x:Same H H'):BagAt H' a n:=by
 obtain⟨p,q,e,r⟩:=h
 exact⟨p,q,x _ _ e,r⟩
theorem BagAt.upd {H:Hp}{a l:Addr}{o:HO}{n:Nat}(h:BagAt H a n)(k:a≠l):BagAt (L2.upd H l o) a n:=by
 obtain⟨p,q,e,r⟩:=h
 exact⟨p,q,by rw[Zf k];exact e,r⟩
theorem BagAt.lst {H:Hp}{a:Addr}{n:Nat}(h:BagAt H a n):∃ ys,H a=some (.lst ys):=by
 obtain⟨x,y,e,_⟩:=h
 exact⟨_,e⟩
theorem Zm {K:W.Frag}{h:Heap}{mg:Str->Option Value}{x:Str}{st:Stmt}{ps:List Str}{f:Addr}{oc:Value}{od an:Option Addr}{sl:Array (Option Value)}{kV dc pm cd ct:Value}(X:K.In h)(G:h.Ns mainGlobals mg)
  (a:W.nsIn K mainGlobals x=some (some (.ref f))) (l:K.lookup f=some ⟨oc,od,.func (W.fnOf x x (defArgs st) (defBody st) (defScope st) .none kV dc pm an cd ct),sl⟩) (c:W.codeIn K cd x=true) (k:W.keepIn K (.ref f)=true)
  (b:∀ (kV doc pm:Value) (an:Option Addr) (cdv ct:Value) (us:List Value),us.length=ps.length->bindArgs (W.fnOf x x (defArgs st) (defBody st) (defScope st) .none kV doc pm an cdv ct) ⟨us,[]⟩=pure (ps.zip us)):Def K mg x st ps :=
 ⟨f,_,Sn l c k,Y0s X G a,(Sn l c k).binds b⟩
theorem Z62 {P:Program}{w:World}{K:W.Frag}{h:Heap}{mg:Str->Option Value}{x:Str}{st:Stmt}{fa f:Addr}{oc:Value}{od an:Option Addr}{sl:Array (Option Value)}{kV dc pm cd ct:Value}{n:Nat}{sp:Sp}{sr:Bool}(X:K.In h)(G:h.Ns mainGlobals mg)(hfa:mg "law"=some (.ref fa))
  (a:W.nsIn K mainGlobals "law"=some (some (.ref f))) (l:K.lookup f=some ⟨oc,od,.func (W.fnOf "law" "law" (defArgs st) (defBody st) (defScope st) .none kV dc pm an cd ct),sl⟩) (c:W.codeIn K cd "law"=true) (k:W.keepIn K (.ref f)=true)
  (b:∀ (s:Shared) (v:Value),BindsTo s (W.fnOf "law" "law" (defArgs st) (defBody st) (defScope st) .none kV dc pm an cd ct) ⟨[v],[]⟩ [(x,v)])
  (ok:∀ (fd:FuncData) (base:Heap),Fun K "law" "law" st fa fd->FnOk P w K mg base CX0 n fa fd [x] sp sr) :
  ∃ fd:FuncData,(∀ (s:Shared) (v:Value),BindsTo s fd ⟨[v],[]⟩ [(x,v)])/\∀ base:Heap,K.In base->base.Ns mainGlobals mg->FnOk P w K mg base CX0 n fa fd [x] sp sr:=by
 have e:=hfa.symm.trans (Y0s X G a)
 cases e
 exact⟨_,b,fun base _ _=>ok _ base (Sn l c k)⟩
theorem T9 (env:Env):∀ (ns:List (Str × NameKind)) (cs:List (Str × Addr)),(∀ y∈ns,y.2=.free->∃ c,env.cells.lookup y.1=some c)->(∀ y c,cs.lookup y=some c->env.cells.lookup y=some c) →
  ∃ cl,(forIn ns cs (fun (x:Str × NameKind) (r:List (Str × Addr))=>(if (x.2 == .free)=true then do let a <-cellOf env x.1;pure (ForInStep.yield ((x.1,a)::r)) else pure (ForInStep.yield r):Sem (ForInStep (List (Str × Addr))))))=pure cl ∧
   (∀ y c,cl.lookup y=some c->env.cells.lookup y=some c)/\(∀ y c,cs.lookup y=some c->∃ c',cl.lookup y=some c')/\∀ y∈ns,y.2=.free->∃ c,cl.lookup y.1=some c
 | [],cs,_,hs=>⟨cs,by simp,hs,fun y c e=>⟨c,e⟩,fun y hy=>nomatch hy⟩
 | (n,k)::r,cs,hf,hs=>by
  have hr:∀ y∈r,y.2=.free->∃ c,env.cells.lookup y.1=some c:=fun y hy=>hf y (YV _ hy)
  by_cases hk:k=.free
  ·subst hk
   obtain⟨c,hc⟩:=hf (n,.free) XC rfl
   have hc':env.cells.lookup n=some c:=hc
   have hs':∀ y d,((n,c)::cs).lookup y=some d->env.cells.lookup y=some d:=fun y d e=>by
    by_cases hy:y=n
    ·subst hy
     simp only [XZ,qa] at e
     cases e
     exact hc'
    ·have hb:(y == n)=false:=JE.mpr hy
     simp only [XZ,hb] at e
     exact hs y d e
   obtain⟨cl,h1,h2,h3,h4⟩:=T9 env r ((n,c)::cs) hr hs'
   have up:∃ c',cl.lookup n=some c':=h3 n c (by simp[XZ])
   refine⟨cl,?_,h2,fun y d e=>?_,fun y hy hyf=>?_⟩
   ·have e:cellOf env n=pure c:=by unfold cellOf;rw[hc']
    simp only [zM,qa,zK,e]
    exact h1
   ·by_cases hy:y=n
    ·subst hy;exact up
    ·have hb:(y == n)=false:=JE.mpr hy
     exact h3 y d (by simp only [XZ,hb];exact e)
   ·rcases YS.mp hy with z | z
    ·subst z;exact up
    ·exact h4 y z hyf
  ·obtain⟨cl,h1,h2,h3,h4⟩:=T9 env r cs hr hs
   refine⟨cl,?_,h2,h3,fun y hy hyf=>?_⟩
   ·have hb:(k == NameKind.free)=false:=JE.mpr hk
    simp only [zM,hb,GX,Y08]
    exact h1
   ·rcases YS.mp hy with z | z
    ·subst z;exact absurd hyf hk
    ·exact h4 y z hyf
theorem V6 {env:Env}{scope:Scope}(hf:∀ y∈scope.names,y.2=.free->∃ c,env.cells.lookup y.1=some c) :
  ∃ cl,closureFor scope env=pure cl/\(∀ y c,cl.lookup y=some c->env.cells.lookup y=some c)/\∀ y∈scope.names,y.2=.free->∃ c,cl.lookup y.1=some c:=by
 obtain⟨cl,h1,h2,_,h4⟩:=T9 env scope.names [] hf (fun y c e=>by simp at e)
 refine⟨cl,?_,h2,h4⟩
 have e:closureFor scope env=((forIn scope.names ([]:List (Str × Addr)) (fun (x:Str × NameKind) (r:List (Str × Addr))=>(if (x.2 == .free)=true then do let a <-cellOf env x.1;pure (ForInStep.yield ((x.1,a)::r)) else pure (ForInStep.yield r):Sem (ForInStep (List (Str × Addr)))))) >>= fun r=>pure r):=by
  unfold closureFor
  congr 1
 rw[e,h1]
 rfl
theorem Qu {l:List (Str × NameKind)}{x:Str}{q:NameKind}(h:l.lookup x=some q):(x,q)∈l:=by
 obtain⟨a,b,e,_⟩:=List.lookup_eq_some_iff.mp h
 rw[e]
 simp
theorem Vo {env:Env}(hf:env.scope.kind=.function):∀ {names:List (Str × NameKind)} {x:Str},names.lookup x=some .free->env.kindOf x=some .cell →
  (names.map fun (n,k)=>if (k == .free && env.scope.kind == .function && env.kindOf n == some .cell) then (n,NameKind.cell) else (n,k)).lookup x=some .cell
 | [],_,h,_=>by simp at h
 | (n,k)::r,x,h,hx=>by
  by_cases e:x=n
  ·subst e
   simp only [XZ,qa] at h
   cases h
   simp[XZ,hf,hx]
  ·have hb:(x == n)=false:=JE.mpr e
   simp only [XZ,hb] at h
   have ih:=Vo hf h hx
   show List.lookup x ((if (k == .free && env.scope.kind == .function && env.kindOf n == some .cell)=true then (n,NameKind.cell) else (n,k))::_)=_
   by_cases c:(k == .free && env.scope.kind == .function && env.kindOf n == some .cell)=true
   ·rw[YM c];simp only [XZ,hb];exact ih
   ·rw[YF c];simp only [XZ,hb];exact ih
theorem Xi {env:Env}:∀ {names:List (Str × NameKind)} {x:Str} {q:NameKind},(q=.cell \/ q=.free) →
  (names.map fun (n,k)=>if (k == .free && env.scope.kind == .function && env.kindOf n == some .cell) then (n,NameKind.cell) else (n,k)).lookup x=some q →
  ∃ y∈names,y.1=x/\(y.2=.free \/ y.2=.cell)
 | [],_,_,_,h=>by simp at h
 | (n,k)::r,x,q,hq,h=>by
  by_cases e:x=n
  ·subst e
   refine⟨(x,k),XC,rfl,?_⟩
   replace h:List.lookup x ((if (k == .free && env.scope.kind == .function && env.kindOf x == some .cell)=true then (x,NameKind.cell) else (x,k))::_)=some q:=h
   by_cases c:(k == .free && env.scope.kind == .function && env.kindOf x == some .cell)=true
   ·have:k=.free:=by
     rw[JN,JN] at c
     exact qh.mp c.1.1
    exact .inl this
   ·rw[YF c] at h
    simp only [XZ,qa] at h
    cases h
    rcases hq with z | z
    ·exact .inr z
    ·exact .inl z
  ·have hb:(x == n)=false:=JE.mpr e
   replace h:List.lookup x ((if (k == .free && env.scope.kind == .function && env.kindOf n == some .cell)=true then (n,NameKind.cell) else (n,k))::_)=some q:=h
   have h':(r.map fun (n,k)=>if (k == .free && env.scope.kind == .function && env.kindOf n == some .cell) then (n,NameKind.cell) else (n,k)).lookup x=some q:=by
    by_cases c:(k == .free && env.scope.kind == .function && env.kindOf n == some .cell)=true
    ·rw[YM c] at h;simp only [XZ,hb] at h;exact h
    ·rw[YF c] at h;simp only [XZ,hb] at h;exact h
   obtain⟨y,hy,z⟩:=Xi hq h'
   exact⟨y,YV _ hy,z⟩
section
variable {prog:Program}{w:World}{A:Around}{R:Result->Shared->Prop}{s:Shared}
abbrev noX:Value->Shared->Prop:=fun _ _=>False
theorem Nh {elt tg iter:Expr}{ifs:List Expr}{scope:Scope}{pos:Pos}{it acc:Value}{env:Env}(J:Nat->Shared->Prop)
  (turn:∀ n s,J n s->wpAny (model prog w) A (pyNext it) (fun r s1=>match r with
   | none=>R (.ok .next) s1
   | some v=>wpAny (model prog w) A (letOwnedTupleGo tg it v) (fun _ s2=>wpAny (model prog w) A (assign tg env v) (fun _ s3 =>
     wpAny (model prog w) A (forIn ifs true fun c r=>if r=true then do let ok <-isTrue c env (eval c env);pure (ForInStep.yield ok) else pure (ForInStep.yield r)) (fun ok s4 =>
      if ok=true then wpAny (model prog w) A (eval elt env) (fun x s5=>wpAny (model prog w) A (call (.builtin "list.append") [acc,x]) (fun _ s6=>∃ m,m<n/\J m s6) noX s5) noX s4
      else ∃ m,m<n/\J m s4) noX s3) noX s2) noX s1) noX s)
  (n:Nat) (h:J n s):codeAny (model prog w) A (.compLoop (.ListComp elt [⟨tg,iter,ifs,0⟩] scope pos) 0 it acc env) R s:=by
 have no:∀ {Z:Value->Shared->Prop} (a:Value) (b:Shared),noX a b->Z a b:=fun _ _ f=>f.elim
 refine codeAny_loop rfl J (fun n s hJ=>?_) n h
 show wpAny _ A ((compTurn (.ListComp elt [⟨tg,iter,ifs,0⟩] scope pos) 0 it acc env).onRaise (fun x=>do noteFrame x env;theTreesLotGoes x)) _ _ s
 refine wpAny_noted ?_
 rw[compTurn_list]
 refine YB (zv (YB (GL (turn n s hJ) (fun r s1 h1=>?_) no)))
 cases r with
 | none=>exact YQ h1
 | some v =>
  refine YB (GL h1 (fun _ s2 h2=>YB (GL h2 (fun _ s3 h3=>YB (GL h3 (fun ok s4 h4=>?_) no)) no)) no)
  cases ok with
  | false=>exact YQ ⟨rfl,h4⟩
  | true=>exact YB (YB (GL h4 (fun x s5 h5=>YB (GL h5 (fun _ s6 h6=>YQ (YQ ⟨rfl,h6⟩)) no)) no))
end
def compCx (X:Cx)(N:List Str)(scope:Scope)(cl:List (Str × Addr))(C:Addr)(fp:List Addr)(s:Shared)(H:Hp):Cx where
 prog:=X.prog
 w:=X.w
 K:=X.K
 mg:=X.mg
 base:=X.base
 A:=X.A
 N:=N
 s₀:=s
 H₀:=H
 env:=compEnvC scope cl C X.env
 outer:=X.stack
 stack:=X.stack
 ex:=fp
 fn:=fun _=>false
 calm:=true
 pn:=X.pn
 xe:=noX
def comp0 (k:Nat)(fv:List Nat)(σ:L2.St):L2.St:=List.replicate k none++fv.map fun j=>σ.getD j none
def PTs (X:Cx)(ifs:List Expr)(t:TT):Prop :=
 ∀ (pins:List (Addr × Obj)) (s:Shared) (σ:L2.St) (H:Hp) (Q:Bool->Hp->Prop),Inv X pins σ H s->t σ H Q →
  wpAny (model X.prog X.w) X.A (forIn ifs true fun c r=>if r=true then do let ok <-isTrue c X.env (eval c X.env);pure (ForInStep.yield ok) else pure (ForInStep.yield r)) (TP X pins σ Q) X.xe s
def tYes:TT:=fun _ H Q=>Q true H
theorem Ye {X:Cx}:PTs X [] tYes:=fun _ _ _ H _ I h=>wpAny_tests_nil ⟨H,I,h⟩
theorem Rl {X:Cx}{c:Expr}{t:TT}(h:PT X c t):PTs X [c] t:=fun pins s σ H Q I q=>wpAny_tests_one (h pins s σ H Q I q)
def Weaker (σ4 σ0:L2.St):Prop:=σ0.length=σ4.length/\∀ (i:Nat) (v:V),σ0[i]?=some (some v)->σ4[i]?=some (some v)
def tComp (wi:TI)(g:TG)(tt:TT)(te:TE)(k:Nat)(fv:List Nat):TE:=fun σ H Q=>wi σ H fun J H1=>∀ d,H1 d=none->∃ (n:Nat) (W:Nat->List V->Hp->Prop),n<=sizeLine/\W 0 [] (upd H1 d (.lst [])) ∧
 (∀ i ys H2,i<n->W i ys H2->H2 d=some (.lst ys)->J.go i H2/\∀ x H3,J.yld i H2 x H3->g x (comp0 k fv σ) H3 fun σ4 H4=>tt σ4 H4 fun b H5 =>
  if b=true then te σ4 H5 fun y H6=>H6 d=some (.lst ys)/\W (i+1) (ys++[y]) (upd H6 d (.lst (ys++[y]))) else H5 d=some (.lst ys)/\W (i+1) ys H5) ∧
 (∀ ys H2,W n ys H2->H2 d=some (.lst ys)->J.stop n H2/\Q (.ref d) H2)
theorem Fp {P:Program}{w:World}{H:Hp}{h h':Heap}{C:Addr}(x:HOk P w H h)(hn:H C=none)(k:∀ b,b≠C->h'.get? b=h.get? b):HOk P w H h':=fun a o e =>
 (x a o e).stay (fun b u hb q=>by
  rw[k b]
  ·exact q
  ·rintro rfl
   rcases hb with rfl | hb
   ·rw[hn] at e;cases e
   ·rw[hn] at hb;cases hb) (fun _ q=>q) fun _ _ q=>q
theorem Bg {fs ex:List Addr}{H H':Hp}{h h1 h2:Heap}{C:Addr}(u:Un fs ex H H' h h1)(hC:h.get? C=none)(k:∀ b,b≠C->h2.get? b=h1.get? b):Un fs ex H H' h h2:=by
 have ne:∀ b o,h.get? b=some o->b≠C:=fun b o e z=>by rw[z,hC] at e;cases e
 exact⟨fun b o e n hf hx=>by rw[k b (ne b o e)];exact u.keep b o e n hf hx,fun b o e n hf hx=>by rw[k b (ne b o e)];exact u.slot b o e n hf hx,u.free,fun b o e hx=>by rw[k b (ne b o e)];exact u.there b o e hx,u.tups,u.frzs,u.tbls⟩
section
variable {X:Cx}{pins:List (Addr × Obj)}{σ:L2.St}{H:Hp}{s:Shared}{N:List Str}{scope:Scope}{cl:List (Str × Addr)}{fp:List Addr}{k:Nat}{fv:List Nat}
theorem Z4d (I:Inv X pins σ H s)(hc:X.calm=true)(hf:∀ b∈fp,FpOk X pins H b)(hl:∀ b∈fp,b<s.heap.objs.size)(hkind:scope.kind=.function)(hcell:∀ y∈scope.names,y.2≠.cell)
  (h1:∀ y c,cl.lookup y=some c->X.env.cells.lookup y=some c) (h2:∀ y∈scope.names,y.2=.free->∃ c,cl.lookup y.1=some c):(compCx X N scope cl s.heap.objs.size fp s H).Ok where
 mod:=I.ok.mod
 kind:=hkind
 glob:=I.ok.glob
 blt:=I.ok.blt
 above:=YE _
 inj:=fun x y c a b=>I.ok.inj x y c (h1 x c a) (h1 y c b)
 has:=fun x hx=>by
  have:∃ y∈scope.names,y.1=x/\(y.2=.free \/ y.2=.cell):=by
   rcases hx with z | z
   ·exact Xi (.inl rfl) z
   ·exact Xi (.inr rfl) z
  obtain⟨y,hy,e,z⟩:=this
  rcases z with z | z
  ·obtain⟨c,hcl⟩:=h2 y hy z
   exact⟨c,by rw[<-e];exact hcl⟩
  ·exact absurd z (hcell y hy)
 cab:=fun x c z=>by cases z
 hd:=fun _=>I.ok.hd hc
 frames:=I.ok.frames
 stk:=.inl rfl
 exf:=fun b hb=>⟨XA (hl b hb),fun x c e=>(hf b hb).2.2.2.2.1 x c (h1 x c e)⟩
 bs:=I.bs
 bsz:=XQ I.ok.bsz I.sz
 noex:=fun b o e hb=>by
  rcases (hf b hb).2.2.2.1 with z | z
  ·exact I.ok.noex b o e z
  ·exact absurd (YW (YH (I.ok.bs b o e).1) z) (XO _)
 exfs:=fun b hb z=>(YS.mp (I.stkSub b z)).elim (fun e=>(hf b hb).2.1 e) fun e=>(hf b hb).2.2.1 e
 funs:=I.stack
 frf:=I.stkFree
theorem Z2j (I:Inv X pins σ H s)(hc:X.calm=true)(hf:∀ b∈fp,FpOk X pins H b)(hl:∀ b∈fp,b<s.heap.objs.size)(hkind:scope.kind=.function)(hcell:∀ y∈scope.names,y.2≠.cell)
  (h1:∀ y c,cl.lookup y=some c->X.env.cells.lookup y=some c) (h2:∀ y∈scope.names,y.2=.free->∃ c,cl.lookup y.1=some c)
  (hN:N.length=k+fv.length) (hfv:fv.map (fun j=>X.N[j]?)=(N.drop k).map some) (hk:(N.drop k).map X.env.kindOf=(N.drop k).map fun _=>some .cell) (hfl:∀ y∈N.drop k,scope.names.lookup y=some .free)
  {h':Heap} {tk:Nat} (hn:h'.Ns s.heap.objs.size fun _=>none) (hb:∀ b o,s.heap.get? b=some o->h'.get? b=some o) :
  Inv (compCx X N scope cl s.heap.objs.size fp s H) [] (comp0 k fv σ) H { s with heap:=h',toks:=tk } where
 ok:=Z4d I hc hf hl hkind hcell h1 h2
 os:=rfl
 bare:=I.bare
 base:=Un.kept hb
 loc:=⟨_,hn,fun i x v e1 e2 e3=>by
  have hik:k<=i:=by
   apply Y0B
   intro z
   have:(comp0 k fv σ)[i]?=some none:=by
    unfold comp0
    rw[JD (by simpa using z)]
    simp[z]
   rw[this] at e2
   cases e2
  obtain⟨j,rfl⟩:∃ j,i=k+j:=⟨i - k,by omega⟩
  have e2':(fv.map fun j=>σ.getD j none)[j]?=some (some v):=by
   have:(comp0 k fv σ)[k+j]?=(fv.map fun j=>σ.getD j none)[j]?:=by
    unfold comp0
    rw[XW (by simp)]
    simp
   rw[<-this]
   exact e2
  rw[YD] at e2'
  cases hj:fv[j]? with
  | none=>rw[hj] at e2';cases e2'
  | some m =>
   rw[hj] at e2'
   have e4:σ.getD m none=some v:=YK e2'
   have e5:(N.drop k)[j]?=some x:=by rw[Y0g];exact e1
   have e6:X.N[m]?=some x:=by
    have a:=congrArg (fun l=>l[j]?) hfv
    simp only [YD,hj,e5,GT] at a
    exact YK a
   have e7:X.env.kindOf x=some .cell:=by
    have a:=congrArg (fun l=>l[j]?) hk
    simp only [YD,e5,GT] at a
    exact YK a
   have e8:σ[m]?=some (some v):=by
    cases q:σ[m]? with
    | none=>rw[List.getD,q] at e4;cases e4
    | some o=>rw[List.getD,q] at e4;rw[show o=some v from e4]
   obtain⟨m0,hm0,hl0⟩:=I.loc
   obtain⟨u,ru,lk⟩:=hl0 m x v e6 e8 (.inr (.inl e7))
   refine⟨u,ru,?_⟩
   rcases lk with ⟨z,_⟩ | ⟨_,c,hcc,ic⟩
   ·rw[e7] at z;cases z
   ·have mem:x∈N.drop k:=YL e5
    have fr:=hfl x mem
    obtain⟨c',hc'⟩:=h2 (x,.free) (Qu fr) rfl
    have ec:=h1 x c' hc'
    rw[hcc] at ec
    cases ec
    refine .inr ⟨.inl (Vo I.ok.kind fr e7),c,hc',?_⟩
    obtain⟨o,ho,hd⟩:=ic
    exact⟨o,hb _ _ ho,hd⟩⟩
 cell:=fun x c e=>by
  obtain⟨v,o,ho,hd⟩:=I.cell x c (h1 x c e)
  exact⟨v,o,hb _ _ ho,hd⟩
 free:=I.hok.fresh (YE _)
 freeC:=fun x c e=>I.freeC x c (h1 x c e)
 pin:=fun p hp=>by
  obtain⟨a1,a2,a3,a4,a5⟩:=I.pin p (YJ _ ((JU.mp hp).elim id fun z=>nomatch z))
  exact⟨hb _ _ a1,a2,XA (YH a1),fun z=>(YS.mp (I.stkSub p.1 z)).elim a3 a4,a5⟩
 hok:=I.hok.kept hb
 len:=by
  show (comp0 k fv σ).length=N.length
  unfold comp0
  simp[hN]
end
section
variable {X:Cx}
theorem Pi {elt iter tg:Expr}{ifs:List Expr}{scope:Scope}{pos:Pos}{g:TG}{tt:TT}{te:TE}{N:List Str}{k:Nat}{fv:List Nat}{cl:List (Str × Addr)}
  {pins:List (Addr × Obj)} {σ:L2.St} {H:Hp} {s:Shared} {it:Addr} {fp:List Addr} {tn:Nat->Heap->Prop} {J:It} {Q:VK} {RR:Value->Addr->Result->Shared->Prop} {E:Value->Shared->Prop}
  (hc:X.calm=true) (hg:∀ cl C fp s H,PG (compCx X N scope cl C fp s H) tg g) (ht:∀ cl C fp s H,PTs (compCx X N scope cl C fp s H) ifs tt) (he:∀ cl C fp s H,PE (compCx X N scope cl C fp s H) elt te)
  (hw:∀ r x H Q,g x (List.replicate k none++r) H Q->g x (List.replicate k none++r) H fun σ4 H4=>Q σ4 H4/\Weaker σ4 (List.replicate k none++r))
  (hN:N.length=k+fv.length) (hfv:fv.map (fun j=>X.N[j]?)=(N.drop k).map some) (hk:(N.drop k).map X.env.kindOf=(N.drop k).map fun _=>some .cell) (hfl:∀ y∈N.drop k,scope.names.lookup y=some .free)
  (hcell:∀ y∈scope.names,y.2≠.cell) (hkind:scope.kind=.function) (h1:∀ y c,cl.lookup y=some c->X.env.cells.lookup y=some c) (h2:∀ y∈scope.names,y.2=.free->∃ c,cl.lookup y.1=some c)
  (I:Inv X pins σ H s) (T:Turn X.prog X.w X.K tg J fp it tn) (st:tn 0 s.heap) (f:∀ b∈fp,FpOk X pins H b)
  (body:∀ d,H d=none->∃ (n:Nat) (W:Nat->List V->Hp->Prop),n<=sizeLine/\W 0 [] (upd H d (.lst [])) ∧
   (∀ i ys H2,i<n->W i ys H2->H2 d=some (.lst ys)->J.go i H2/\∀ x H3,J.yld i H2 x H3->g x (comp0 k fv σ) H3 fun σ4 H4=>tt σ4 H4 fun b H5 =>
    if b=true then te σ4 H5 fun y H6=>H6 d=some (.lst ys)/\W (i+1) (ys++[y]) (upd H6 d (.lst (ys++[y]))) else H5 d=some (.lst ys)/\W (i+1) ys H5) ∧
   (∀ ys H2,W n ys H2->H2 d=some (.lst ys)->J.stop n H2/\Q (.ref d) H2))
  (hR:∀ (D C:Addr) (H':Hp) (s':Shared),(∃ m,s'.heap.Ns C m)->FpOk X pins H' C->Q (.ref D) H'->(∀ h',Heap.SameBut C s'.heap h'->Inv X pins σ H' { s' with heap:=h' })->RR (.ref D) C (.ok .next) s') :
  wpAny (model X.prog X.w) X.A (newList []) (fun acc s3=>wpAny (model X.prog X.w) X.A (newFunctionEnv scope X.env.globals cl [] X.env.qual none .none (some X.env)) (fun cenv s4 =>
   codeAny (model X.prog X.w) X.A (.compStart (.ListComp elt [⟨tg,iter,ifs,0⟩] scope pos) 0 (.ref it) acc { cenv with scope:=relabel scope X.env }) (RR acc cenv.locals) s4) E s3) E s:=by
 refine JW ?_
 have I3:=I.lnew (its:=[]) (ys:=[]) (t':=s.toks) .nil (JY _)
 have fresh:=I.fresh
 generalize hD:s.heap.objs.size=D at I3 fresh ⊢
 have f3:∀ b∈fp,FpOk X pins (upd H D (.lst [])) b:=fun b hb=>by
  refine⟨?_,(f b hb).2⟩
  have hne:b≠D:=by
   obtain⟨o,e,_⟩:=T.obj 0 _ st b hb
   rw[<-hD]
   exact XA (YH e)
  rw[Zf hne]
  exact (f b hb).1
 have up3:∀ b o,s.heap.get? b=some o->(s.heap.push { cls:=.type "list",data:=.seq ([]:List Value).toArray }).get? b=some o:=fun b o e=>YA _ e
 have st3:tn 0 (s.heap.push { cls:=.type "list",data:=.seq ([]:List Value).toArray }):=T.keep 0 _ _ st fun b _ o e=>up3 b o e
 have hl3:∀ b∈fp,b<(s.heap.push { cls:=.type "list",data:=.seq ([]:List Value).toArray }).objs.size:=fun b hb=>by
  obtain⟨o,e,_⟩:=T.obj 0 _ st3 b hb
  exact YH e
 obtain⟨n,W,hn,w0,step,fin⟩:=body D fresh
 generalize hS3:({ s with heap:=s.heap.push { cls:=.type "list",data:=.seq ([]:List Value).toArray },toks:=s.toks }:Shared)=s3 at I3
 have eS3:s3.heap=s.heap.push { cls:=.type "list",data:=.seq ([]:List Value).toArray }:=by rw[<-hS3]
 rw[<-eS3] at st3 hl3
 refine wpAny_newFunctionEnv hcell (fun y hy=>nomatch hy) (fun h4 hns hsb=>?_) hkind
 have old:∀ b o,s3.heap.get? b=some o->h4.get? b=some o:=fun b o e=>(hsb.2 b (XA (YH e))).trans (YA _ e)
 have I4:=Z2j (N:=N) (tk:=s3.toks+([]:List (Str × Value)).length) I3 hc f3 hl3 hkind hcell h1 h2 hN hfv hk hfl (h':=h4) hns old
 have st4:tn 0 h4:=T.keep 0 _ _ st3 fun b _ o e=>old b o e
 have hCn:s3.heap.get? s3.heap.objs.size=none:=by
  cases e:s3.heap.get? s3.heap.objs.size with
  | none=>rfl
  | some o=>exact absurd (YH e) (XO _)
 generalize hC:s3.heap.objs.size=C at I4 hCn ⊢
 have stat:∀ {H':Hp} {ps:List (Addr × Obj)},(∀ b∈fp,H' b=none)->(∀ p∈ps,p.1 ∉ fp)->∀ b∈fp,FpOk (compCx X N scope cl C fp s3 (upd H D (.lst []))) ps H' b:=fun {H' ps} hn hp b hb =>
  ⟨hn b hb,by rw[<-hC];exact XA (hl3 b hb),fun z=>(YS.mp (I3.stkSub b z)).elim (fun e=>(f3 b hb).2.1 e) fun e=>(f3 b hb).2.2.1 e,.inl hb,fun x c e=>(f3 b hb).2.2.2.2.1 x c (h1 x c e),fun p q z=>(JU.mp q).elim (fun q=>(f3 b hb).2.2.2.2.2 p (YJ _ q) z) fun q=>hp p q (by rw[z];exact hb)⟩
 have loop:∀ s4:Shared,s4={ s3 with heap:=h4,toks:=s3.toks+([]:List (Str × Value)).length } →
   codeAny (model X.prog X.w) X.A (.compLoop (.ListComp elt [⟨tg,iter,ifs,0⟩] scope pos) 0 (.ref it) (.ref D) (compEnvC scope cl C X.env)) (RR (.ref D) C) s4:=by
  rintro s4 rfl
  refine Nh (fun m s'=>∃ i ys H',Inv (compCx X N scope cl C fp s3 (upd H D (.lst []))) [] (comp0 k fv σ) H' s'/\tn i s'.heap/\(∀ b∈fp,H' b=none)/\i<=n/\m=n+1 - i/\ys.length<=i/\H' D=some (.lst ys)/\W i ys H') ?_ (n+1)
   ⟨0,[],_,I4,st4,fun b hb=>(f3 b hb).1,JY _,rfl,YE _,Zc,w0⟩
  rintro m s5 ⟨i,ys,H5,I5,st5,fr5,hi,rfl,hys,hD5,w5⟩
  by_cases hlt:i<n
  ·obtain⟨go,stp⟩:=step i ys H5 hlt w5 hD5
   refine thn (T.item (compCx X N scope cl C fp s3 (upd H D (.lst []))) rfl rfl rfl rfl i [] s5 _ H5 noX I5 (stat fr5 (by simp)) st5 go) fun r s6 ⟨u,er,h6⟩=>?_
   subst er
   refine thn h6 fun _ s7 ⟨x,H7,I7,r7,y7,st7,fr7⟩=>?_
   have I7':=I7.pinned (stat fr7 (by simp)) (T.obj _ _ st7)
   refine thn (hg cl C fp s3 _ _ s7 _ H7 x u _ I7' r7 (hw _ x H7 _ (stp x H7 y7))) fun _ s8 ⟨σ8,H8,I8,q8,wk⟩=>?_
   refine thn (ht cl C fp s3 _ _ s8 σ8 H8 _ I8 q8) fun ok s9 ⟨H9,I9,q9⟩=>?_
   have back:∀ {σ':L2.St} {H':Hp} {s':Shared},Inv (compCx X N scope cl C fp s3 (upd H D (.lst []))) ([]++pinsAt fp s7.heap) σ' H' s'->Weaker σ' (comp0 k fv σ) →
     Inv (compCx X N scope cl C fp s3 (upd H D (.lst []))) [] (comp0 k fv σ) H' s'/\tn (i+1) s'.heap/\∀ b∈fp,H' b=none:=fun {σ' H' s'} I' wk'=>by
    refine⟨I'.unpinned.weak wk'.1 wk'.2,T.keep _ _ _ st7 fun b hb o e=>(I'.pin (b,o) (XJ _ (XJ _ (Xo hb e)))).1,fun b hb=>?_⟩
    obtain⟨o,e,_⟩:=T.obj _ _ st7 b hb
    exact (I'.pin (b,o) (XJ _ (XJ _ (Xo hb e)))).2.1
   cases ok with
   | false =>
    rw[YF YT] at q9 ⊢
    obtain⟨hD9,w9⟩:=q9
    obtain⟨a1,a2,a3⟩:=back I9 wk
    exact⟨n+1 - (i+1),by omega,i+1,ys,H9,a1,a2,a3,hlt,rfl,Nat.le_succ_of_le hys,hD9,w9⟩
   | true =>
    rw[YM rfl] at q9 ⊢
    refine thn (he cl C fp s3 _ _ s9 σ8 H9 _ I9 q9) fun y s10 ⟨yv,H10,I10,r10,hD10,w10⟩=>?_
    refine thn (Xg _ s10 σ8 H10 (.ref D) [yv] (.ref D) [y] (fun _ H'=>H'=upd H10 D (.lst (ys++[yv]))) I10 rfl (.cons r10 .nil) ⟨D,ys,yv,rfl,rfl,hD10,JZ hys (YW hlt hn),rfl⟩) fun _ s11 ⟨_,H11,I11,_,e11⟩=>?_
    subst e11
    obtain⟨a1,a2,a3⟩:=back I11 wk
    exact⟨n+1 - (i+1),by omega,i+1,ys++[yv],_,a1,a2,a3,hlt,rfl,by rw[XD];show ys.length+1<=i+1;omega,Zc,w10⟩
  ·obtain rfl:i=n:=Nat.le_antisymm hi (jn.mp hlt)
   obtain⟨stop,q⟩:=fin ys H5 w5 hD5
   refine thn (T.done (compCx X N scope cl C fp s3 (upd H D (.lst []))) rfl rfl rfl rfl i [] s5 _ H5 noX I5 (stat fr5 (by simp)) st5 stop) fun r s6 ⟨er,I6⟩=>?_
   subst er
   refine hR D C H5 s6 ?_ (I3.fpOk (by rw[hC];exact YE _) I6.free) q fun h' hs'=>?_
   ·obtain⟨m,hm,_⟩:=I6.loc
    exact⟨m,hm⟩
   ·have hs2:∀ b,b≠C->h'.get? b=s6.heap.get? b:=fun b hb=>hs'.2 b hb
    refine I3.call' (s':={ s6 with heap:=h' }) (ch:=fp) ?_ (Bg I6.base hCn hs2) (Fp I6.hok I6.free hs2) I6.bare fun b hb=>?_
    ·exact I6.os
    ·exact⟨(f3 b hb).2.2.2.1,(f3 b hb).2.1,(f3 b hb).2.2.2.2.1,(f3 b hb).2.2.2.2.2⟩
 exact codeAny_compStart_list (loop _ rfl) (T.self _ 0 _ _ _ st4 (loop _ rfl))
theorem Yl {elt iter tg:Expr}{ifs:List Expr}{scope:Scope}{pos:Pos}{wi:TI}{g:TG}{tt:TT}{te:TE}{N:List Str}{k:Nat}{fv:List Nat}
  (hc:X.calm=true) (hi:PI X tg iter wi) (hg:∀ cl C fp s H,PG (compCx X N scope cl C fp s H) tg g) (ht:∀ cl C fp s H,PTs (compCx X N scope cl C fp s H) ifs tt) (he:∀ cl C fp s H,PE (compCx X N scope cl C fp s H) elt te)
  (hw:∀ r x H Q,g x (List.replicate k none++r) H Q->g x (List.replicate k none++r) H fun σ4 H4=>Q σ4 H4/\Weaker σ4 (List.replicate k none++r))
  (hN:N.length=k+fv.length:=by rfl) (hfv:fv.map (fun j=>X.N[j]?)=(N.drop k).map some:=by rfl) (hk:(N.drop k).map X.env.kindOf=(N.drop k).map (fun _=>some .cell):=by rfl)
  (hfl:∀ y∈N.drop k,scope.names.lookup y=some .free:=by decide +kernel) (hfr:∀ y∈scope.names,y.2=.free->y.1∈N.drop k:=by decide +kernel)
  (hcell:∀ y∈scope.names,y.2≠.cell:=by decide +kernel) (hkind:scope.kind=.function:=by rfl) (hnames:∀ y∈scope.names,y.2=.local->scope.names.lookup y.1=some .local:=by decide +kernel)
  (hs:∀ x,foldedSetIterable iter X.env x=pure x:=by intro _;rfl):PE X (.ListComp elt [⟨tg,iter,ifs,0⟩] scope pos) (tComp wi g tt te k fv):=by
 intro pins s σ H Q I h
 have kc:∀ y∈N.drop k,X.env.kindOf y=some .cell:=fun y hy=>by
  obtain⟨j,hj⟩:=XB hy
  have a:=congrArg (fun l=>l[j]?) hk
  simp only [YD,hj,GT] at a
  exact YK a
 obtain⟨cl,hclos,h1,h2⟩:=V6 (env:=X.env) (scope:=scope) fun y hy hf=>I.ok.has y.1 (.inl (kc y.1 (hfr y hy hf)))
 rw[eval_ListComp]
 refine zG (use:=none) rfl hs hclos hkind hnames (thn (hi pins s σ H _ I h) fun xv s1 h1'=>thn h1' fun itv s2 h2'=>?_)
 obtain⟨it,fp,tn,J,H2,e,I2,T,st2,f2,body⟩:=h2'
 subst e
 exact Pi (RR:=fun acc C=>compPost (model X.prog X.w) X.A X.xe none (EP X pins σ Q) acc C) hc hg ht he hw hN hfv hk hfl hcell hkind h1 h2 I2 T st2 f2 body fun D C H' s' ⟨m,hm⟩ _ q iv=>⟨m,hm,fun h' hs'=>⟨.ref D,H',iv h' hs',rfl,q⟩⟩
theorem Zx:∀ (r:L2.St) (x:V) (H:Hp) (Q:L2.St->Hp->Prop),gName 0 x (List.replicate 1 none++r) H Q->gName 0 x (List.replicate 1 none++r) H fun σ4 H4=>Q σ4 H4/\Weaker σ4 (List.replicate 1 none++r):=fun r x H Q h =>
 ⟨h,by simp,fun i v e=>by
  cases i with
  | zero=>cases e
  | succ j=>exact e⟩
theorem V7 {K:W.Frag}:∀ (r:L2.St) (x:V) (H:Hp) (Q:L2.St->Hp->Prop),gTup K 2 (gCons (gName 0) (gCons (gName 1) gNil)) x (List.replicate 2 none++r) H Q →
  gTup K 2 (gCons (gName 0) (gCons (gName 1) gNil)) x (List.replicate 2 none++r) H fun σ4 H4=>Q σ4 H4/\Weaker σ4 (List.replicate 2 none++r):=by
 rintro r x H Q ⟨a,xs,e1,hq,hl,v,t,e2,v',t',e3,e4,q⟩
 refine⟨a,xs,e1,hq,hl,v,t,e2,v',t',e3,e4,q,by simp,fun i z e=>?_⟩
 cases i with
 | zero=>cases e
 | succ j =>
  cases j with
  | zero=>cases e
  | succ j=>exact e
end
theorem Yk {x:V}{σ:L2.St}{H:Hp}{A B:L2.St->Hp->Prop}(h:A (σ.set 0 (some x)) H):gName 0 x σ H fun σ4 H4=>tYes σ4 H4 fun b H5=>if b=true then A σ4 H5 else B σ4 H5:=by
 show if true=true then A (σ.set 0 (some x)) H else B (σ.set 0 (some x)) H
 exact Wt h
theorem Z75 (l b:Addr)(xs ys:Array Value)(n m:Nat)(d1 d2:Option Addr)(s1 s2:Array (Option Value))(he:xs.isEmpty=true):Meets (Builtin.«tuple.__add__» ⟨[.ref l,.ref b],[]⟩) (fun _ R s =>
  s.heap.get? l=some { cls:=.type "tuple",dict:=d1,data:=.seq xs n,slots:=s1 }/\s.heap.get? b=some { cls:=.type "tuple",dict:=d2,data:=.seq ys m,slots:=s2 }/\R (.ok (.ret (.ref b))) s) :=
 .of_wp fun prog w A R s h=>by
  obtain⟨hp,g,d,tk,os⟩:=s
  obtain⟨hl,hb,h⟩:=h
  have f1:=Y0D
  have f2:=zH
  wp_walk using JB hl,JB hb
  exact⟨_,rfl,h⟩
theorem Cv {prog:Program}{w:World}{A:Around}{E:Value->Shared->Prop}{s:Shared}{t b:Addr}{ws:List Value}{Q:Value->Shared->Prop}(ht:IsTup s.heap t ([]:List Value).toArray)(hb:IsTup s.heap b ws.toArray)(h:Q (.ref b) s) :
  wpAny (model prog w) A (binaryOp .Add (.ref t) (.ref b)) Q E s:=by
 obtain⟨⟨cls,dd,data,sl⟩,ho,hc,n,hd⟩:=id ht
 obtain⟨⟨cls2,dd2,data2,sl2⟩,ho2,hc2,n2,hd2⟩:=id hb
 simp only at hc hd hc2 hd2
 subst hc hd hc2 hd2
 exact concat_meets ⟨_,ho,rfl⟩ ⟨_,ho2,rfl⟩ Y0A Y0X zY zR (zF _ _) (Z75 t b _ ws.toArray n n2 dd dd2 sl sl2 rfl) ⟨ho,ho2,h⟩
section
variable {X:Cx}
def rCatA (K:W.Frag):R2:=fun x y H Q=>∃ a b xs ys,x=.ref a/\y=.ref b/\SqT K H a xs/\SqT K H b ys/\xs.length+ys.length<=sizeLine/\∀ p H',Same H H'->SqT K H' p (xs++ys)->Q (.ref p) H'
theorem Z38:OpR X (binaryOp .Add) (rCatA X.K):=by
 intro pins s σ H x y v u Q I rx ry h
 obtain⟨a,b,xs,ys,rfl,rfl,ha,hb,hz,q⟩:=h
 by_cases hx:xs=[]
 ·subst hx
  cases rx
  cases ry
  obtain⟨its,r1,p1,_⟩:=I.tuple ha
  obtain⟨its2,r2,p2,_⟩:=I.tuple hb
  cases r1
  exact Cv p1 p2 ⟨.ref b,H,I,rfl,q b H (Same.refl H) hb⟩
 ·refine Z37 pins s σ H _ _ v u Q I rx ry ⟨a,b,xs,ys,rfl,rfl,ha,hb,hx,hz,fun e=>?_,fun _ p hp=>?_⟩
  ·subst e
   exact q a H (Same.refl H) (by rw[qi];exact ha)
  ·exact q p _ (Same.new hp) (SqT.of Zc)
def rIxA (K:W.Frag):R2:=fun x y H Q=>∃ p xs i v,x=.ref p/\y=.int i/\(SqL K H p xs \/ SqT K H p xs)/\atI xs i=some v/\Q v H
theorem Jn:IxR X (rIxA X.K):=fun vl sl pins s σ H x y v u Q I rx ry ⟨p,xs,i,z,e1,e2,h,ea,q⟩ hs=>by
 rcases h with h | h
 ·exact Y6 vl sl pins s σ H x y v u Q I rx ry ⟨p,xs,i,z,e1,e2,h,ea,q⟩ hs
 ·exact Ya vl sl pins s σ H x y v u Q I rx ry ⟨p,xs,i,z,e1,e2,h,ea,q⟩ hs
end
section
variable {X:Cx}{K:W.Frag}
theorem Fj (h:X.K=K:=by rfl):IxR X (rIxT K):=h ▸ Ya
theorem Z6z (h:X.K=K:=by rfl):IxR X (rIxL K):=h ▸ Y6
theorem Z70 (h:X.K=K:=by rfl):IxR X (rIxA K):=h ▸ Jn
theorem Z68 (h:X.K=K:=by rfl):IxR X (rP0 K):=h ▸ X6
theorem Z67 (h:X.K=K:=by rfl):IxR X (rP1 K):=h ▸ Yq
end
theorem Qq {x:V}{σ:L2.St}{H:Hp}{A B:L2.St->Hp->Prop}{t:TT}(h:t (σ.set 0 (some x)) H fun b H5=>if b=true then A (σ.set 0 (some x)) H5 else B (σ.set 0 (some x)) H5) :
  gName 0 x σ H fun σ4 H4=>t σ4 H4 fun b H5=>if b=true then A σ4 H5 else B σ4 H5:=h
theorem Rn {K:W.Frag}{p:Addr}{u v:V}{σ:L2.St}{H:Hp}{A B:L2.St->Hp->Prop}(hp:SqT K H p [u,v])(h:A ((σ.set 0 (some u)).set 1 (some v)) H) :
  gTup K 2 (gCons (gName 0) (gCons (gName 1) gNil)) (.ref p) σ H fun σ4 H4=>tYes σ4 H4 fun b H5=>if b=true then A σ4 H5 else B σ4 H5:=by
 refine⟨p,[u,v],rfl,hp,rfl,u,[v],rfl,v,[],rfl,rfl,?_⟩
 show if true=true then A ((σ.set 0 (some u)).set 1 (some v)) H else B ((σ.set 0 (some u)).set 1 (some v)) H
 exact Wt h
section
variable {X:Cx}
end
end Sb
namespace Sb
open PySem PySem.Builtin.SmallTypes
section
variable {prog:Program}{w:World}{A:Around}{E:Value->Shared->Prop}{s:Shared}
theorem Z1f {it t:Addr}{j:Nat}{ys:Array Value}{y:Value}{Q:Value->Shared->Prop}(ti:s.heap.IsTupleIter it t j)(tt:s.heap.IsTuple t ys)(ey:ys[j]?=some y)
  (hQ:∀ h',h'.IsTupleIter it t (j+1)->Heap.SameBut it s.heap h'->Q y { s with heap:=h' }):wpAny (model prog w) A (nextOf (.ref it)) Q E s:=by
 obtain⟨oi,ei,ci,di⟩:=id ti
 obtain⟨ot,et,_,nt,dt⟩:=tt
 unfold nextOf
 refine YB (JJ (name:=Str.ofString "__next__") ti.typeIs JX (GH JX ti.typeIs zz ?_ (zq _)))
 show wpAny _ _ (field (.ref it) 0 >>= _) _ _ _
 refine YB (XH ei di (x:=.ref t) rfl ?_)
 show wpAny _ _ (if (Value.ref t == Value.none)=true then _ else _) _ _ _
 rw[YF (show ¬ ((Value.ref t == Value.none)=true) from fun q=>YT q)]
 show wpAny _ _ (field (.ref it) 1 >>= _) _ _ _
 refine YB (XH ei di (x:=.int j 0) rfl ?_)
 show wpAny _ _ (seqItems? (.ref t) >>= _) _ _ _
 refine YB (GD et dt ?_)
 simp only [zd,ey]
 refine YB (qd ei di (by simp) (YQ ⟨y,rfl,YQ (hQ _ ?_ (GQ ..))⟩))
 refine⟨_,JH _ ei (zx (qp di _)),(Y0p ..).trans ci,?_⟩
 rw[qp di]
 simp[rawInt]
theorem M3 {it t:Addr}{j:Nat}{ys:Array Value}{Q:Value->Shared->Prop}(hq:Qt A s.heap)(ti:s.heap.IsTupleIter it t j)(tt:s.heap.IsTuple t ys)(ey:ys[j]?=none)
  (hE:∀ h' e,Heap.ExtBut it s.heap h'->(∃ o,h'.get? e=some o/\o.cls=.type "StopIteration")->E (.ref e) { s with heap:=h' }):wpAny (model prog w) A (nextOf (.ref it)) Q E s:=by
 obtain⟨oi,ei,ci,di⟩:=id ti
 obtain⟨ot,et,_,nt,dt⟩:=tt
 unfold nextOf
 refine YB (JJ (name:=Str.ofString "__next__") ti.typeIs JX (GH JX ti.typeIs zz ?_ (zq _)))
 show wpAny _ _ (field (.ref it) 0 >>= _) _ _ _
 refine YB (XH ei di (x:=.ref t) rfl ?_)
 show wpAny _ _ (if (Value.ref t == Value.none)=true then _ else _) _ _ _
 rw[YF (show ¬ ((Value.ref t == Value.none)=true) from fun q=>YT q)]
 show wpAny _ _ (field (.ref it) 1 >>= _) _ _ _
 refine YB (XH ei di (x:=.int j 0) rfl ?_)
 show wpAny _ _ (seqItems? (.ref t) >>= _) _ _ _
 refine YB (GD et dt ?_)
 simp only [zd,ey]
 refine YB (zP (YB (qd ei di (by simp) ?_)))
 refine Q7 (hq:=(hq.but ei fun n=>?_)) fun h' e k he=>hE _ _ (fun b o hb e=>k b o ((GQ ..).extBut b o hb e)) he
 obtain⟨vs,e1,e2⟩:=n
 rw[di] at e1
 cases e1
 simp at e2
theorem Um {qs:List (Addr × Obj)}(hq:QtP A qs)(it t:Addr)(ne:t≠it)(hqs:∀ p∈qs,p.1≠it)(ys:Array Value) :
  Draws prog w A it (it::t::qs.map Prod.fst) ys.size (fun i x=>ys[i]?=some x) (fun i h=>h.IsTupleIter it t i/\h.IsTuple t ys/\∀ p∈qs,h.get? p.1=some p.2) where
 live:=fun i h st=>by
  obtain⟨⟨o,e,_⟩,_⟩:=st
  exact⟨o,e⟩
 frame:=fun i h h' st k=>by
  obtain⟨⟨o,e,r⟩,⟨o',e',r'⟩,st⟩:=st
  exact⟨⟨o,k it (by simp) o e,r⟩,⟨o',k t (by simp) o' e',r'⟩,fun p hp=>k p.1 (by simp;exact .inr (.inr ⟨p.2,hp⟩)) p.2 (st p hp)⟩
 item:=fun i s Q E lt st hQ=>Z1f st.1 st.2.1 (Y0k lt) fun h' a b=>hQ _ h' s.toks (Y0k lt) ⟨a,st.2.1.extBut b.extBut ne,fun p hp=>b.extBut p.1 p.2 (hqs p hp) (st.2.2 p hp)⟩ b
 done:=fun s Q E st hE=>M3 (hq.at st.2.2) st.1 st.2.1 (Array.getElem?_eq_none (YE _)) hE
end
structure Off (z TI TO i1 i2:Addr)(f1 f2:List Addr):Prop where
 a1:TI≠z
 a2:TO≠z
 a3:i1≠z
 a4:i2≠z
 a5:TI≠TO
 a6:TI≠i1
 a7:TI≠i2
 a8:TO≠i1
 a9:TO≠i2
 b1:i1≠i2
 z1:z ∉ f1
 o1:TO ∉ f1
 n1:i2 ∉ f1
 z2:z ∉ f2
 o2:TO ∉ f2
 n2:i1 ∉ f2
section
variable {prog:Program}{w:World}{A:Around}{E:Value->Shared->Prop}{s:Shared}{z TI TO i1 i2:Addr}{f1 f2:List Addr}{n1 n2:Nat}{P1 P2:Nat->Value->Prop}{S1 S2:Nat->Heap->Prop}
theorem D7 {k:Nat}{a b:Value}{Q:Value->Shared->Prop}(D:Off z TI TO i1 i2 f1 f2)(D1:Draws prog w A i1 f1 n1 P1 S1)(D2:Draws prog w A i2 f2 n2 P2 S2)
  (hz:IsZip s.heap z TI TO .none) (hTI:IsPair s.heap TI (.ref i1) (.ref i2)) (hTO:IsPair s.heap TO a b) (c1:S1 k s.heap) (c2:S2 k s.heap) (l1:k<n1) (l2:k<n2)
  (hQ:∀ x y h' tk,P1 k x->P2 k y->IsZip h' z TI TO (rawInt s.heap.objs.size)->IsPair h' TO x y->S1 (k+1) h'->S2 (k+1) h'->IsPair h' s.heap.objs.size x y->h'.objs.size=s.heap.objs.size+1 →
   (∀ c o,c≠z->c≠TO->c≠i1->c≠i2->s.heap.get? c=some o->h'.get? c=some o)->Q (.ref s.heap.objs.size) { s with heap:=h',toks:=tk }) :
  wpAny (model prog w) A (Builtin.«zip.__next__» ⟨[.ref z],[]⟩) (fun fin s'=>∃ v,fin=.done (.ret v)/\Q v s') E s:=by
 show wpAny _ _ (field (.ref z) 2 >>= _) _ _ _
 refine YB (XH hz rfl (x:=.bool false) rfl ?_)
 show wpAny _ _ (field (.ref z) 3 >>= _) _ _ _
 refine YB (XH hz rfl (x:=.ref TI) rfl ?_)
 refine YB (GD hTI rfl ?_)
 show wpAny _ _ (ownedTupleIsFree (.ref z) >>= _) _ _ _
 refine YB ?_
 unfold ownedTupleIsFree
 refine YB (XH hz rfl (x:=.none) rfl (YQ ?_))
 simp only [zK]
 refine YB (zP ?_)
 refine YB (XH hz rfl (x:=.ref TO) rfl ?_)
 refine YB (zm hz (by simp) fun g1 z1 s1=>?_)
 replace z1:IsZip g1 z TI TO .ellipsis:=z1
 refine YB ?_
 simp only [List.zipIdx_cons,List.zipIdx_nil,zM,Y0h]
 refine YB (YB (Y0Y ?_))
 show wpAny _ _ (nextOf (.ref i1) >>= _) _ _ _
 have c11:S1 k g1:=D1.frame _ _ _ c1 fun b hb o e=>s1.extBut b o (fun q=>D.z1 (q ▸ hb)) e
 refine YB (D1.item k _ _ _ l1 c11 fun x g2 tk2 p1 c12 s2=>YQ ?_)
 replace s2:Heap.SameBut i1 g1 g2:=s2
 have t2:IsPair g2 TO a b:=s2.extBut _ _ D.a8 (s1.extBut _ _ D.a2 hTO)
 refine YB (GD t2 rfl ?_)
 refine YB (wpAny_updateSeq_pair t2 fun g3 t3 s3=>?_)
 replace t3:IsPair g3 TO x b:=t3
 replace s3:Heap.SameBut TO g2 g3:=s3
 refine YB (Y0P (YQ ?_))
 refine YB (YB (Y0Y ?_))
 show wpAny _ _ (nextOf (.ref i2) >>= _) _ _ _
 have c23:S2 k g3:=D2.frame _ _ _ c2 fun b hb o e=>s3.extBut b o (fun q=>D.o2 (q ▸ hb)) (s2.extBut b o (fun q=>D.n2 (q ▸ hb)) (s1.extBut b o (fun q=>D.z2 (q ▸ hb)) e))
 have c13:S1 (k+1) g3:=D1.frame _ _ _ c12 fun b hb o e=>s3.extBut b o (fun q=>D.o1 (q ▸ hb)) e
 refine YB (D2.item k _ _ _ l2 c23 fun y g4 tk4 p2 c24 s4=>YQ ?_)
 replace s4:Heap.SameBut i2 g3 g4:=s4
 have t4:IsPair g4 TO x b:=s4.extBut _ _ D.a9 t3
 refine YB (GD t4 rfl ?_)
 refine YB (wpAny_updateSeq_pair t4 fun g5 t5 s5=>?_)
 replace t5:IsPair g5 TO x y:=t5
 replace s5:Heap.SameBut TO g4 g5:=s5
 refine YB (Y0P (YQ (YQ ?_)))
 refine YB (GD t5 rfl ?_)
 refine YB (wpAny_newTuple ?_)
 have sz:g5.objs.size=s.heap.objs.size:=by rw[s5.1,s4.1,s3.1,s2.1,s1.1]
 have z5:IsZip g5 z TI TO .ellipsis:=s5.extBut _ _ D.a2.symm (s4.extBut _ _ D.a4.symm (s3.extBut _ _ D.a2.symm (s2.extBut _ _ D.a3.symm z1)))
 have k5:∀ c o,c≠z->c≠TO->c≠i1->c≠i2->s.heap.get? c=some o->g5.get? c=some o:=fun c o q1 q2 q3 q4 e =>
  s5.extBut _ _ q2 (s4.extBut _ _ q4 (s3.extBut _ _ q2 (s2.extBut _ _ q3 (s1.extBut _ _ q1 e))))
 have c15:S1 (k+1) g5:=D1.frame _ _ _ c13 fun b hb o e=>s5.extBut b o (fun q=>D.o1 (q ▸ hb)) (s4.extBut b o (fun q=>D.n1 (q ▸ hb)) e)
 have c25:S2 (k+1) g5:=D2.frame _ _ _ c24 fun b hb o e=>s5.extBut b o (fun q=>D.o2 (q ▸ hb)) e
 have zlt:z<g5.objs.size:=YH z5
 show wpAny _ _ (ownedTupleHandOut (.ref z) (.ref g5.objs.size) >>= _) _ _ _
 refine YB ?_
 unfold ownedTupleHandOut
 have z6:IsZip (g5.push { cls:=.type "tuple",data:=.seq #[x,y] }) z TI TO .ellipsis:=YA _ z5
 refine YB (zm z6 (by simp) fun g7 z7 s7=>?_)
 replace z7:IsZip g7 z TI TO (rawInt g5.objs.size):=z7
 refine zm z7 (by simp) fun g8 z8 s8=>?_
 replace z8:IsZip g8 z TI TO (rawInt g5.objs.size):=z8
 have up:∀ c o,c≠z->g5.get? c=some o->g8.get? c=some o:=fun c o q e=>s8.extBut _ _ q (s7.extBut _ _ q (YA _ e))
 have t8:IsPair g8 g5.objs.size x y:=s8.extBut _ _ (qo zlt) (s7.extBut _ _ (qo zlt) (YO _ rfl))
 have sz8:g8.objs.size=g5.objs.size+1:=by rw[s8.1,s7.1,XL]
 rw[sz] at z8 t8 sz8
 refine YQ ⟨_,rfl,?_⟩
 show Q (.ref g5.objs.size) _
 rw[sz]
 exact hQ x y g8 tk4 p1 p2 z8 (up _ _ D.a2 t5) (D1.frame _ _ _ c15 fun b hb o e=>up b o (fun q=>D.z1 (q ▸ hb)) e) (D2.frame _ _ _ c25 fun b hb o e=>up b o (fun q=>D.z2 (q ▸ hb)) e) t8 sz8
  fun c o q1 q2 q3 q4 e=>up c o q1 (k5 c o q1 q2 q3 q4 e)
theorem D6 {k:Nat}{a b:Value}{Q:Fin->Shared->Prop}(D:Off z TI TO i1 i2 f1 f2)(D1:Draws prog w A i1 f1 n1 P1 S1)(hz:IsZip s.heap z TI TO .none)(hTI:IsPair s.heap TI (.ref i1) (.ref i2))(c1:S1 n1 s.heap)
  (hE:∀ h' e,(∀ c o,c≠z->c≠i1->s.heap.get? c=some o->h'.get? c=some o)->(∃ o,h'.get? e=some o/\o.cls=.type "StopIteration")->E (.ref e) { s with heap:=h' }) :
  wpAny (model prog w) A (Builtin.«zip.__next__» ⟨[.ref z],[]⟩) Q E s:=by
 show wpAny _ _ (field (.ref z) 2 >>= _) _ _ _
 refine YB (XH hz rfl (x:=.bool false) rfl ?_)
 show wpAny _ _ (field (.ref z) 3 >>= _) _ _ _
 refine YB (XH hz rfl (x:=.ref TI) rfl ?_)
 refine YB (GD hTI rfl ?_)
 show wpAny _ _ (ownedTupleIsFree (.ref z) >>= _) _ _ _
 refine YB ?_
 unfold ownedTupleIsFree
 refine YB (XH hz rfl (x:=.none) rfl (YQ ?_))
 simp only [zK]
 refine YB (zP ?_)
 refine YB (XH hz rfl (x:=.ref TO) rfl ?_)
 refine YB (zm hz (by simp) fun g1 z1 s1=>?_)
 replace z1:IsZip g1 z TI TO .ellipsis:=z1
 refine YB ?_
 simp only [List.zipIdx_cons,List.zipIdx_nil,zM,Y0h]
 refine YB (YB (Y0Y ?_))
 show wpAny _ _ (nextOf (.ref i1) >>= _) _ _ _
 have c11:S1 n1 g1:=D1.frame _ _ _ c1 fun b hb o e=>s1.extBut b o (fun q=>D.z1 (q ▸ hb)) e
 refine YB (D1.done _ _ _ c11 fun g2 e s2 he=>?_)
 obtain⟨oe,eo,ce⟩:=he
 replace s2:Heap.ExtBut i1 g1 g2:=s2
 have z2:IsZip g2 z TI TO .ellipsis:=s2 _ _ D.a3.symm z1
 have ez:e≠z:=fun q=>by
  subst q
  rw[z2] at eo
  cases eo
  simp at ce
 exact zm z2 (by simp) fun g3 _ s3=>hE g3 e (fun c o q1 q3 h=>s3.extBut _ _ q1 (s2 _ _ q3 (s1.extBut _ _ q1 h))) ⟨oe,s3.extBut _ _ ez eo,ce⟩
theorem Sz {k:Nat}{a b:Value}{Q:Option Value->Shared->Prop}(D:Off z TI TO i1 i2 f1 f2)(D1:Draws prog w A.in1 i1 f1 n1 P1 S1)(D2:Draws prog w A.in1 i2 f2 n2 P2 S2)
  (hz:IsZip s.heap z TI TO .none) (hTI:IsPair s.heap TI (.ref i1) (.ref i2)) (hTO:IsPair s.heap TO a b) (c1:S1 k s.heap) (c2:S2 k s.heap) (l1:k<n1) (l2:k<n2)
  (hQ:∀ x y h' tk,P1 k x->P2 k y->IsZip h' z TI TO (rawInt s.heap.objs.size)->IsPair h' TO x y->S1 (k+1) h'->S2 (k+1) h'->IsPair h' s.heap.objs.size x y->h'.objs.size=s.heap.objs.size+1 →
   (∀ c o,c≠z->c≠TO->c≠i1->c≠i2->s.heap.get? c=some o->h'.get? c=some o)->Q (some (.ref s.heap.objs.size)) { s with heap:=h',toks:=tk }):wpAny (model prog w) A (pyNext (.ref z)) Q E s:=by
 have hT:s.TypeIs (.ref z) "zip":=⟨_,hz,rfl⟩
 unfold pyNext
 exact YB (jq (JJ (name:=Str.ofString "__next__") hT jv (GH jv hT F.entry_zip_next
   (D7 D D1 D2 hz hTI hTO c1 c2 l1 l2 fun x y h' tk p1 p2 q1 q2 q3 q4 q5 q6 q7=>YQ (hQ x y h' tk p1 p2 q1 q2 q3 q4 q5 q6 q7)) (F.args_zip_next_1 _))))
theorem Vx {Q:Option Value->Shared->Prop}(D:Off z TI TO i1 i2 f1 f2)(D1:Draws prog w A.in1 i1 f1 n1 P1 S1)(hz:IsZip s.heap z TI TO .none)(hTI:IsPair s.heap TI (.ref i1) (.ref i2))(c1:S1 n1 s.heap)
  (hQ:∀ h',(∀ c o,c≠z->c≠i1->s.heap.get? c=some o->h'.get? c=some o)->Q none { s with heap:=h' }):wpAny (model prog w) A (pyNext (.ref z)) Q E s:=by
 have hT:s.TypeIs (.ref z) "zip":=⟨_,hz,rfl⟩
 unfold pyNext
 refine YB (jq (JJ (name:=Str.ofString "__next__") hT jv (GH jv hT F.entry_zip_next
  (D6 (k:=0) (a:=.none) (b:=.none) D D1 hz hTI c1 fun h' e hk he=>?_) (F.args_zip_next_1 _))))
 obtain⟨o,ho,hc⟩:=he
 exact YB (jj (T:="StopIteration") (b:=true) ⟨o,ho,hc⟩ Y06 (YQ (hQ _ hk)))
end
abbrev zH1 (h:Heap)(t:Addr):Heap:=h.push { cls:=.type "tuple_iterator",data:=.fields #[.ref t,.int 0 0] }
theorem Lw (t:Addr)(ys:Array Value)(n:Nat)(dd:Option Addr)(sl:Array (Option Value)):Meets (Builtin.«enumerate.__new__» ⟨[.type "enumerate",.ref t],[]⟩) (fun _ R s=>s.heap.get? t=some { cls:=.type "tuple",dict:=dd,data:=.seq ys n,slots:=sl } ∧
  R (.ok (.ret (.ref (zH1 s.heap t).objs.size))) { s with heap:=(zH1 s.heap t).push { cls:=.type "enumerate",data:=.fields #[.none,.bool false,.ref s.heap.objs.size,rawInt 0,.none,.none] } }) :=
 .of_wp fun prog w A R s h=>by
  obtain⟨hp,g,d,tk,os⟩:=s
  obtain⟨hl,h⟩:=h
  have hsub:=sub_enumerate
  have hL:Heap.IsTuple (Shared.heap ⟨hp,g,d,tk,os⟩) t ys:=⟨_,hl,rfl,n,rfl⟩
  wp_walk using JB hl
  refine wpAny_stack_any fun st=>YQ ?_
  split
  ·rename_i c _ _ _ _ _
   cases (c == Value.type "enumerate")
   ·wp_walk using JB hl,GY hL
    exact⟨_,rfl,h⟩
   ·wp_walk using JB hl,GY hL
    exact⟨_,rfl,h⟩
  ·wp_walk using JB hl,GY hL
   exact⟨_,rfl,h⟩
theorem Jv {prog:Program}{w:World}{A:Around}{E:Value->Shared->Prop}{s:Shared}{t:Addr}{ys:Array Value}{Q:Value->Shared->Prop}(ht:s.heap.IsTuple t ys)
  (h:∀ h',IsEnum h' (s.heap.objs.size+1) s.heap.objs.size 0 .none->h'.IsTupleIter s.heap.objs.size t 0->h'.objs.size=s.heap.objs.size+2->(∀ b o,s.heap.get? b=some o->h'.get? b=some o)->Q (.ref (s.heap.objs.size+1)) { s with heap:=h' }) :
  wpAny (model prog w) A (call (.type "enumerate") [.ref t]) Q E s:=by
 obtain⟨⟨c,dd,dt,sl⟩,e,c1,n,d1⟩:=ht
 cases c1
 cases d1
 refine Y0J F.called_enumerate (by decide) (F.typeCall_enumerate_1 _) (F.newCall_enumerate_1 _) (fun obj=>F.args_object_init_2 obj _) F.entry_enumerate_new (Lw t ys n dd sl) ⟨e,?_⟩
 have hz:(zH1 s.heap t).objs.size=s.heap.objs.size+1:=XL ..
 show _/\_
 rw[hz]
 have he:IsEnum ((zH1 s.heap t).push { cls:=.type "enumerate",data:=.fields #[.none,.bool false,.ref s.heap.objs.size,rawInt 0,.none,.none] }) (s.heap.objs.size+1) s.heap.objs.size 0 .none:=by
  have q:=YO (zH1 s.heap t) (o:={ cls:=.type "enumerate",data:=.fields #[.none,.bool false,.ref s.heap.objs.size,rawInt 0,.none,.none] }) rfl
  rw[hz] at q
  exact q
 exact⟨⟨_,he,rfl⟩,h _ he ⟨_,YA _ (YO _ rfl),rfl,rfl⟩ (by rw[XL,hz]) fun b o x=>YA _ (YA _ x)⟩
end Sb
namespace Sb
open PySem PySem.Spec PyProof.Rows L2
section
variable {X:Cx}{pins:List (Addr × Obj)}{σ:L2.St}{H:Hp}{s:Shared}{h':Heap}{t':Nat}{ch:List Addr}
theorem K3 (I:Inv X pins σ H s)(hn:∀ b∈ch,H b=none)(k:∀ b o,b ∉ ch->s.heap.get? b=some o->h'.get? b=some o):HOk X.prog X.w H h':=fun a o e =>
 (I.hok a o e).stay (fun b u hb q=>k b u (fun z=>by
  have n:=hn b z
  rcases hb with rfl | hb
  ·rw[n] at e;cases e
  ·rw[n] at hb;cases hb) q) (fun _ q=>q) fun _ _ q=>q
theorem Ue (I:Inv X pins σ H s)(hf:∀ b∈ch,FpOk X pins H b)(k:∀ b o,b ∉ ch->s.heap.get? b=some o->h'.get? b=some o):Inv X pins σ H { s with heap:=h',toks:=t' }:=by
 refine I.step (g':=s.gens) (d':=s.drawn) (ch:=ch) (fun b hb=>?_) (fun b o _ _ hc e _=>k b o hc e) (fun b o _ _ hc e _=>⟨o.slots,k b o hc e⟩) (fun _ _ _ _ n=>n) (fun b o hc e=>⟨o,k b o hc e⟩) (fun _ _ e=>e) (fun _ _ _ e=>e)
  (fun b ps e=>⟨#[],by rw[e];simp⟩) (fun m hm=>?_) (K3 I (fun b hb=>(hf b hb).1) k) I.bare
 ·exact⟨(hf b hb).2.2.2.1,(hf b hb).2.1,(hf b hb).2.2.2.2.1,(hf b hb).2.2.2.2.2⟩
 ·obtain⟨o,es,ep,ho,r⟩:=hm
  exact⟨o,es,ep,k _ o (fun z=>(hf _ z).2.1 rfl) ho,r⟩
theorem We {p:Addr}{u:HO}(I:Inv X pins σ H s)(hf:∀ b∈ch,FpOk X pins H b)(k:∀ b o,b ∉ ch->s.heap.get? b=some o->h'.get? b=some o)(hp:s.heap.objs.size<=p)(new:ObjOk X.prog X.w (upd H p u) h' p u) :
  Inv X pins σ (upd H p u) { s with heap:=h',toks:=t' }:=by
 have lt:∀ b o,s.heap.get? b=some o->b≠p:=fun b o e z=>absurd (YW (YH e) hp) (by rw[z];exact XO _)
 have ltH:∀ b o,H b=some o->b≠p:=fun b o e z=>absurd (YW (I.hok.lt e) hp) (by rw[z];exact XO _)
 have hk:=K3 I (fun b hb=>(hf b hb).1) k
 refine I.step (g':=s.gens) (d':=s.drawn) (ch:=ch) (fun b hb=>?_) (fun b o _ _ hc e _=>k b o hc e) (fun b o _ _ hc e _=>⟨o.slots,k b o hc e⟩) (fun b o _ e n=>by rw[Zf (lt b o e)];exact n) (fun b o hc e=>⟨o,k b o hc e⟩)
  (fun b _ e=>by rw[Zf (ltH b _ e)];exact e) (fun b _ _ e=>by rw[Zf (ltH b _ e)];exact e) (fun b ps e=>⟨#[],by rw[Zf (ltH b _ e),e];simp⟩) (fun m hm=>?_) (fun b o e=>?_) I.bare
 ·exact⟨(hf b hb).2.2.2.1,(hf b hb).2.1,(hf b hb).2.2.2.2.1,(hf b hb).2.2.2.2.2⟩
 ·obtain⟨o,es,ep,ho,r⟩:=hm
  exact⟨o,es,ep,k _ o (fun z=>(hf _ z).2.1 rfl) ho,r⟩
 ·by_cases hb:b=p
  ·subst hb
   rw[Zc] at e
   cases e
   exact new
  ·rw[Zf hb] at e
   exact (hk b o e).stay (fun _ _ _ q=>q) (fun c q=>by rw[Zf (ltH c _ q)];exact q) fun c xs q=>by rw[Zf (ltH c _ q)];exact q
theorem Nn {b t:Addr}{xs:List V}(I:Inv X pins σ H s)(hf:FpOk X pins H b)(h:SqT X.K H t xs):t≠b:=by
 rintro rfl
 rcases h with (h | ⟨o,h⟩) | ⟨o,its,n,h,_⟩
 ·rw[hf.1] at h;cases h
 ·rw[hf.1] at h;cases h
 ·have e:=I.ok.mod.kin _ _ h
  rcases hf.2.2.2.1 with z | z
  ·exact I.ok.noex _ _ e z
  ·exact absurd (YW (YH (I.ok.bs _ _ e).1) z) (XO _)
end
structure ZOff (z TI TO i1 i2:Addr):Prop where
 a1:TI≠z
 a2:TO≠z
 a3:i1≠z
 a4:i2≠z
 a5:TI≠TO
 a6:TI≠i1
 a7:TI≠i2
 a8:TO≠i1
 a9:TO≠i2
 b1:i1≠i2
section
variable {X:Cx}
end
def Ite (K:W.Frag)(t:Addr):It :=
 ⟨fun i H=>∃ xs,SqT K H t xs/\i<xs.length,
   fun i H v H'=>∃ p x,v=.ref p/\H p=none/\H'=upd H p (.tup [.int (i:Int),x])/\∀ xs,SqT K H t xs->xs[i]?=some x,
   fun i H=>∃ xs,SqT K H t xs/\i=xs.length⟩
theorem Db {P:Program}{w:World}{K:W.Frag}{es:List Expr}{kk:Nat}{tp:Pos}{e it:Addr}(O:e≠it)(t:Addr) :
  Turn P w K (.Tuple es kk tp) (Ite K t) [e,it] e (fun i h=>(∃ old,IsEnum h e it (i:Int) old)/\h.IsTupleIter it t i) where
 mem:=by simp
 obj:=fun i h ⟨⟨old,he⟩,⟨o1,e1,_,d1⟩⟩ b hb=>by
  simp only [YS,XG,GM] at hb
  rcases hb with rfl | rfl
  ·exact⟨_,he,fun v q=>by have q':Data.fields _=Data.cell v:=q;cases q'⟩
  ·exact⟨_,e1,fun v q=>by rw[d1] at q;cases q⟩
 keep:=fun i h h' ⟨⟨old,he⟩,⟨o1,e1,r1⟩⟩ k=>⟨⟨old,k e (by simp) _ he⟩,⟨o1,k it (by simp) _ e1,r1⟩⟩
 item:=by
  intro X hP hw hK hc i pins s σ H E I hf st hg
  subst hP hw hK
  obtain⟨xs,hx,lx⟩:=hg
  obtain⟨⟨old,he⟩,c1⟩:=st
  obtain⟨u1,v1,p1,_⟩:=I.tuple hx
  have n1:=v1.length
  have ne:∀ b∈[e,it],t≠b:=fun b hb=>Nn I (hf b hb) hx
  have off:∀ b∈[e,it],∀ x,(b,x) ∉ X.pn:=fun b hb x m=>(hf b hb).2.2.2.2.2 _ (YJ _ m) rfl
  have qI:∀ p∈X.pn,s.heap.get? p.1=some p.2:=fun p hp=>(I.pin p (YJ _ hp)).1
  have qO:∀ b∈[e,it],∀ p∈X.pn,p.1≠b:=fun b hb p hp=>(hf b hb).2.2.2.2.2 p (YJ _ hp)
  have D1:=Um (prog:=X.prog) (w:=X.w) (A:=X.A.in1) (I.ok.hd hc) it t (ne it (by simp)) (qO it (by simp)) u1.toArray
  refine wpAny_pyNext_enum_itemD D1 he ⟨c1,p1,qI⟩ (by simp;omega) O (by simp[O,(ne e (by simp)).symm,off e (by simp)]) fun x g tk px out s1 pr sz kp=>?_
  refine⟨_,rfl,Y0i out fun g2 z2 sb=>?_⟩
  obtain⟨x0,ex⟩:∃ x0,xs[i]?=some x0:=⟨xs[i],by simp[lx]⟩
  obtain⟨x1,ex1,rx⟩:=v1.get ex
  have qx:x1=x:=by
   have:u1.toArray[i]?=some x:=px
   rw[GU,ex1] at this
   exact YK this
  subst qx
  have elt:e<s.heap.objs.size:=YH he
  have pe:s.heap.objs.size≠e:=qo elt
  have sb2:∀ b,b≠e->g2.get? b=g.get? b:=fun b hb=>sb.2 b hb
  have keep:∀ b o,b ∉ [e,it]->s.heap.get? b=some o->g2.get? b=some o:=fun b o hb q=>by
   simp only [YS,XG,GM,Y14] at hb
   rw[sb2 b hb.1]
   exact kp b o hb.1 hb.2 q
  have new:ObjOk X.prog X.w (upd H s.heap.objs.size (.tup [.int (i:Int),x0])) g2 s.heap.objs.size (.tup [.int (i:Int),x0]) :=
   ⟨by show 2<=sizeLine;decide,[.int (i:Int) tk,x1],.cons ⟨tk,rfl⟩ (.cons rx .nil),⟨_,by rw[sb2 _ pe];exact pr,rfl,0,rfl⟩⟩
  have I2:=We (t':=tk+1) I hf keep (YE _) new
  have nn:∀ b∈[e,it],upd H s.heap.objs.size (.tup [.int (i:Int),x0]) b=none:=fun b hb=>by
   have:b≠s.heap.objs.size:=by
    have ob:∃ o,s.heap.get? b=some o:=by
     simp only [YS,XG,GM] at hb
     obtain⟨o1,e1,_⟩:=c1
     rcases hb with rfl | rfl
     ·exact⟨_,he⟩
     ·exact⟨_,e1⟩
    obtain⟨o,q⟩:=ob
    exact XA (YH q)
   rw[Zf this]
   exact (hf b hb).1
  refine⟨.ref s.heap.objs.size,_,I2,rfl,⟨_,x0,rfl,I.fresh,rfl,fun xs' h1=>by rw[I.tuple_inj h1 hx];exact ex⟩,⟨⟨x1,?_⟩,?_⟩,nn⟩
  ·exact z2
  ·exact s1.1.extBut sb.extBut O.symm
 done:=by
  intro X hP hw hK hc i pins s σ H E I hf st hg
  subst hP hw hK
  obtain⟨xs,hx,rfl⟩:=hg
  obtain⟨⟨old,he⟩,c1⟩:=st
  obtain⟨u1,v1,p1,_⟩:=I.tuple hx
  have n1:=v1.length
  have ne:∀ b∈[e,it],t≠b:=fun b hb=>Nn I (hf b hb) hx
  have off:∀ b∈[e,it],∀ x,(b,x) ∉ X.pn:=fun b hb x m=>(hf b hb).2.2.2.2.2 _ (YJ _ m) rfl
  have qI:∀ p∈X.pn,s.heap.get? p.1=some p.2:=fun p hp=>(I.pin p (YJ _ hp)).1
  have qO:∀ b∈[e,it],∀ p∈X.pn,p.1≠b:=fun b hb p hp=>(hf b hb).2.2.2.2.2 p (YJ _ hp)
  have D1:=Um (prog:=X.prog) (w:=X.w) (A:=X.A.in1) (I.ok.hd hc) it t (ne it (by simp)) (qO it (by simp)) u1.toArray
  have c1':s.heap.IsTupleIter it t u1.toArray.size:=by
   rw[YR,<-n1]
   exact c1
  refine wpAny_pyNext_enum_endD D1 he ⟨c1',p1,qI⟩ fun g kp=>⟨rfl,?_⟩
  exact Ue (t':=s.toks) I hf fun b o hb q=>by
   simp only [YS,XG,GM,Y14] at hb
   exact kp b o hb.2 q
 self:=fun _ _ _ _ _ st h=>by
  obtain⟨⟨old,he⟩,_⟩:=st
  exact jc he h
section
variable {X:Cx}
def iEnum (K:W.Frag)(ta:TA):TI:=fun σ H R=>ta σ H fun vs H1=>∃ t,vs=[.ref t]/\(∃ xs,SqT K H1 t xs)/\R (Ite K t) H1
theorem Z31 {a:Expr}{ta:TA}{p pos:Pos}{es:List Expr}{kk:Nat}{tp:Pos}(hg:Gl X "enumerate")(hm:X.mg "enumerate"=none)(ha:PA X [a] ta)(hs:starEach [a] X.env=[(false,eval a X.env)]:=by rfl) :
  PI X (.Tuple es kk tp) (.Call (.Name "enumerate" p) [a] [] pos) (iEnum X.K ta):=by
 intro pins s σ H R I h
 refine Call_ (W3 I hg hm boot_enumerate (XR (thn (ha pos pins s σ H _ I h) fun us s1 ⟨vs,H1,I1,r1,q1⟩=>?_) hs rfl))
 obtain⟨t,e,⟨xs,hx⟩,q⟩:=q1
 subst e
 obtain⟨t0,e0,rt⟩:=Ta r1
 cases (show t0=Value.ref t from rt)
 subst e0
 obtain⟨u1,v1,p1,_⟩:=I1.tuple hx
 refine Jv (ys:=u1.toArray) p1 fun g z0 i1 sz kp=>?_
 refine jc z0 ?_
 have I2:Inv X pins σ H1 { s1 with heap:=g }:=I1.kept (t':=s1.toks) kp
 refine⟨s1.heap.objs.size+1,[s1.heap.objs.size+1,s1.heap.objs.size],_,Ite X.K t,H1,rfl,I2,Db (O:=?_) t,⟨⟨_,z0⟩,i1⟩,fun b hb=>?_,q⟩
 ·show @Ne Nat _ _
  omega
 ·have hb':s1.heap.objs.size<=b:=by
   simp only [YS,XG,GM] at hb
   rcases hb with rfl | rfl
   ·exact GB _ _
   ·exact YE _
  exact I1.fpOk hb' (I1.hok.fresh hb')
end
end Sb
namespace Sb
open PySem L2
structure Ext (H H':Hp):Prop where
 tup:∀ b xs,H b=some (.tup xs)->H' b=some (.tup xs)
 frz:∀ b o u,H b=some (.frz o u)->H' b=some (.frz o u)
theorem Ext.trans {H H1 H2:Hp}(a:Ext H H1)(b:Ext H1 H2):Ext H H2:=⟨fun c xs h=>b.tup c xs (a.tup c xs h),fun c o u h=>b.frz c o u (a.frz c o u h)⟩
theorem Ext.same {H H':Hp}(x:Same H H'):Ext H H':=⟨fun b _ h=>x b _ h,fun b _ _ h=>x b _ h⟩
theorem Ext.x {a:Addr}{H H':Hp}{ys:List V}(x:SameX a H H')(ha:H a=some (.lst ys)):Ext H H' :=
 ⟨fun b _ h=>x b _ h (Z4u h ha (by intro z;cases z)),fun b _ _ h=>x b _ h (Z4u h ha (by intro z;cases z))⟩
theorem Ext.bag {a:Addr}{n:Nat}{H H':Hp}(x:SameX a H H')(ha:BagAt H a n):Ext H H':=by
 obtain⟨ys,e⟩:=ha.lst
 exact Ext.x x e
theorem Ext.upd {l:Addr}{H:Hp}{ys:List V}{o:HO}(hl:H l=some (.lst ys)):Ext H (L2.upd H l o):=Ext.x (SameX.upd l H o) hl
theorem Ext.new {l:Addr}{H:Hp}{o:HO}(hl:H l=none):Ext H (L2.upd H l o):=Ext.same (Same.new hl)
theorem Ext.sq {K:W.Frag}{H H':Hp}{a:Addr}{xs:List V}(e:Ext H H')(h:SqT K H a xs):SqT K H' a xs:=by
 rcases h with (h | ⟨o,h⟩) | h
 ·exact .inl (.inl (e.tup _ _ h))
 ·exact .inl (.inr ⟨o,e.frz _ _ _ h⟩)
 ·exact .inr h
abbrev Rat:=Int × Int
def IsR (K:W.Frag)(H:Hp)(r:Rat)(v:V):Prop:=∃ b,v=.ref b/\SqT K H b [.int r.1,.int r.2]
theorem IsR.ext {K:W.Frag}{H H':Hp}{r:Rat}{v:V}(h:IsR K H r v)(e:Ext H H'):IsR K H' r v:=by
 obtain⟨b,q,h⟩:=h
 exact⟨b,q,e.sq h⟩
def Rs (K:W.Frag)(H:Hp)(rs:List Rat)(xs:List V):Prop:=Paired (IsR K H) rs xs
theorem Rs.ext {K:W.Frag}{H H':Hp}{rs:List Rat}{xs:List V}(h:Rs K H rs xs)(e:Ext H H'):Rs K H' rs xs:=Paired.mapP h fun _ _ q=>q.ext e
theorem Rs.snoc {K:W.Frag}{H:Hp}{rs:List Rat}{xs:List V}{r:Rat}{v:V}(h:Rs K H rs xs)(q:IsR K H r v):Rs K H (rs++[r]) (xs++[v]):=Y0t h q
theorem Rs.len {K:W.Frag}{H:Hp}{rs:List Rat}{xs:List V}(h:Rs K H rs xs):rs.length=xs.length:=JK h
theorem Rs.at {K:W.Frag}{H:Hp}:∀ {rs:List Rat} {xs:List V} {i:Nat} {r:Rat},Rs K H rs xs->rs[i]?=some r->∃ v,xs[i]?=some v/\IsR K H r v
 | _,_,_,_,.nil,e=>by simp at e
 | _,_,0,_,.cons q _,e=>by
  simp at e
  subst e
  exact⟨_,rfl,q⟩
 | _,_,i+1,r,.cons _ t,e=>by
  obtain⟨v,h1,h2⟩:=Rs.at (i:=i) (r:=r) t (by simpa using e)
  exact⟨v,by simpa using h1,h2⟩
theorem Rs.back {K:W.Frag}{H:Hp}{rs:List Rat}{xs:List V}{i:Nat}{v:V}(h:Rs K H rs xs)(e:xs[i]?=some v):∃ r,rs[i]?=some r/\IsR K H r v:=by
 have hi:i<xs.length:=(YG.mp e).1
 have hr:i<rs.length:=by rw[h.len];exact hi
 obtain⟨w,h1,h2⟩:=h.at (i:=i) (r:=rs[i]) (by simp[hr])
 rw[e] at h1
 cases h1
 exact⟨_,by simp[hr],h2⟩
def RowAt (K:W.Frag)(H:Hp)(a:Addr)(rs:List Rat):Prop:=∃ xs,SqT K H a xs/\Rs K H rs xs
theorem RowAt.ext {K:W.Frag}{H H':Hp}{a:Addr}{rs:List Rat}(h:RowAt K H a rs)(e:Ext H H'):RowAt K H' a rs:=by
 obtain⟨xs,h1,h2⟩:=h
 exact⟨xs,e.sq h1,h2.ext e⟩
structure Good (n:Nat)(r:Rat):Prop where
 b1:Bd n r.1
 b2:Bd n r.2
 pos:0<r.2
 cop:Int.gcd r.1 r.2=1
theorem Good.mono {m n:Nat}{r:Rat}(h:Good m r)(k:m<=n):Good n r:=⟨h.b1.mono k,h.b2.mono k,h.pos,h.cop⟩
def nrm (p q:Int):Rat:=(nT p q,nB p q)
theorem Tl {n:Nat}{p q:Int}(hp:Bd n p)(hq:Bd n q)(h:q≠0):Good n (nrm p q):=⟨hp.of_le' (Z6v h),hq.of_le' (Z6w h),M5 h,Z1i h⟩
def addR (r s:Rat):Rat:=nrm (r.1*s.2+s.1*r.2) (r.2*s.2)
def subR (r s:Rat):Rat:=nrm (r.1*s.2 - s.1*r.2) (r.2*s.2)
def mulR' (r s:Rat):Rat:=nrm (r.1*s.1) (r.2*s.2)
theorem W0 {a b:Int}(ha:0<a)(hb:0<b):a*b≠0:=by
 have:=YY ha hb
 omega
theorem Bb {m n:Nat}{r s:Rat}(hr:Good m r)(hs:Good n s):Good (m+n+1) (addR r s):=by
 refine Tl ?_ ((hr.b2.mul hs.b2).mono (by omega)) (W0 hr.pos hs.pos)
 have a:=hr.b1.mul hs.b2
 have b:=hs.b1.mul hr.b2
 rw[ja n m] at b
 exact a.add b
end Sb
namespace Sb
open PySem PySem.Spec PyProof.Rows L2
set_option maxRecDepth 100000
theorem Vf:fillsNumberSlot (.type "tuple") "mul"=pure false :=
 PySem.fillsNumberSlot_seq (id:="tuple.__mul__") (r:=some (.builtin "tuple.__rmul__")) jo.lookup (by decide +kernel) F.slot_tuple_rmul.lookup (by decide +kernel)
theorem Tg:seqRepeat? (.type "tuple")=pure (some (.builtin "tuple.__mul__")):=by
 unfold seqRepeat?
 rw[PySem.seqSlot_of (T:="tuple") (name:="__mul__") (id:="tuple.__mul__") jo.lookup (by decide +kernel),PySem.seqSlot_of (T:="tuple") (name:="__rmul__") (id:="tuple.__rmul__") F.slot_tuple_rmul.lookup (by decide +kernel)]
 rfl
theorem Uo (a:Int)(t:Tok)(l:Addr)(items:Array Value)(n:Nat)(dd:Option Addr)(sl:Array (Option Value)) :
  Meets (Builtin.«int.__rmul__» ⟨[.int a t,.ref l],[]⟩) (fun _ R s=>s.heap.get? l=some { cls:=.type "tuple",dict:=dd,data:=.seq items n,slots:=sl }/\R (.ok (.ret Value.notImplemented)) s) :=
 .of_wp fun prog w A R s h=>by obtain⟨hp,g,d,tk,os⟩:=s;obtain⟨hl,h⟩:=h;wp_walk;exact⟨_,rfl,h⟩
theorem De (l:Addr)(items:Array Value)(n:Nat)(dd:Option Addr)(sl:Array (Option Value))(x:Int)(u:Tok)(h1:2<=x)(h2:items.isEmpty=false)(h3:items.size*x.toNat<=1000) :
  Meets (Builtin.«tuple.__mul__» ⟨[.ref l,.int x u],[]⟩) (fun _ R s=>s.heap.get? l=some { cls:=.type "tuple",dict:=dd,data:=.seq items n,slots:=sl } ∧
   R (.ok (.ret (Value.ref s.heap.objs.size))) { s with heap:=s.heap.push { cls:=Value.type "tuple",data:=Data.seq (List.foldl (·++·) #[] (List.replicate x.toNat items)) } }) :=
 .of_wp fun prog w A R s h=>by
  obtain⟨hp,g,d,tk,os⟩:=s;obtain⟨hl,h⟩:=h
  have f1:=Y0D
  have f2:=zH
  have b1:(items.size:Int)*x<=1000:=by
   have e:x=(x.toNat:Int):=by omega
   rw[e,<-Int.natCast_mul]
   omega
  have b2:0<items.size:=by
   cases items with
   | mk l=>cases l with
    | nil=>simp at h2
    | cons a r=>simp
  have b3:x<=1000:=by
   have:(1:Int)*x<=(items.size:Int)*x:=JS (by omega) (by omega)
   omega
  have c0:¬ (decide (x < -2 ^ 63) || decide (x ≥ 2 ^ 63))=true:=by simp;omega
  have c1:¬ (items.isEmpty || x == 1)=true:=by rw[h2];simp;omega
  have c2:¬ (decide (x<=0) || items.isEmpty)=true:=by rw[h2];simp;omega
  have c3:¬ ((items.size:Int)*x > (2 ^ 63 - 1) / 8):=by
   have:(1000:Int)<=(2 ^ 63 - 1) / 8:=by decide
   omega
  have c4:¬ Builtin.Tuple.tupleTooMany ((items.size:Int)*x)=true:=by
   unfold Builtin.Tuple.tupleTooMany
   have:((items.size:Int)*x).toNat<=1000:=by omega
   have:(1000:Nat)<=sizeLine:=by decide
   simp
   omega
  have c5:(List.foldl (fun x1 x2=>x1++x2) #[] (List.replicate x.toNat items)).size<=sizeLine:=by
   rw[AutoSeq1.size_joined]
   have:(1000:Nat)<=sizeLine:=by decide
   have e:x.toNat*items.size=items.size*x.toNat:=Y04 ..
   simp
   omega
  wp_walk using JB hl
  refine jw (JQ c0) ?_
  wp_walk using JB hl
  refine jw (JQ c1) ?_
  wp_walk using JB hl
  refine jw (JQ c2) ?_
  wp_walk using JB hl
  refine jw (JQ c3) ?_
  wp_walk using JB hl
  exact⟨_,rfl,h⟩
section
variable {X:Cx}{K:W.Frag}
def rRepT (K:W.Frag):R2:=fun x y H Q=>∃ a k xs,x=.ref a/\y=.int k/\SqT K H a xs/\2<=k/\xs≠[]/\xs.length*k.toNat<=1000/\∀ p,H p=none->Q (.ref p) (upd H p (.tup (List.replicate k.toNat xs).flatten))
theorem Fc:OpR X (binaryOp .Mult) (rRepT X.K):=by
 intro pins s σ H x y v u Q I rx ry h
 obtain⟨l,k,xs,rfl,rfl,hq,h1,h2,h3,q⟩:=h
 cases rx
 obtain⟨t,rfl⟩:=ry
 obtain⟨its,r,pl,hz⟩:=I.tuple hq
 obtain⟨⟨cls,dd,data,sl⟩,ho,hc,n,hd⟩:=id pl
 simp only at hc hd
 subst hc hd
 have hl:=r.length
 have he:its.toArray.isEmpty=false:=by
  cases its with
  | nil=>cases r;exact absurd rfl h2
  | cons a b=>rfl
 have hnew:List.foldl (fun x1 x2=>x1++x2) #[] (List.replicate k.toNat its.toArray)=(List.replicate k.toNat its).flatten.toArray:=by
  have:=Nc its k.toNat []
  rw[List.nil_append] at this
  exact this
 refine Y0l (T:="tuple") (U:="int") (by decide) ⟨_,ho,rfl⟩ (fun s'=>Y0G s' k t) Vf F.fills_int_mul jx Tg F.slot_int_index.lookup
  (jm jx (Y0G s k t) F.entry_int_rmul (F.args_int_rmul_2 _ _) (Uo k t l its.toArray n dd sl)
   ⟨ho,rfl,⟨_,ho,rfl⟩,jm jo ⟨_,ho,rfl⟩ F.entry_tuple_mul (F.args_tuple_mul_2 _ _) (De l its.toArray n dd sl k t h1 he (by rw[YR,<-hl];exact h3)) ⟨ho,?_⟩⟩)
 rw[hnew]
 refine⟨.ref s.heap.objs.size,_,I.laid (t':=s.toks) (o:=.tup (List.replicate k.toNat xs).flatten) (fun b ob q=>YA _ q) (YE _) ?_,rfl,q _ (I.hok.fresh (YE _))⟩
 exact⟨by rw[Z44,Y04];exact XQ h3 (by decide),_,r.rep k.toNat,IsTup.new _ _⟩
def rEqI (K:W.Frag):R2:=fun x y H Q=>∃ (a b:Addr) (ns ms:List Int),x=.ref a/\y=.ref b/\SqT K H a (ns.map V.int)/\SqT K H b (ms.map V.int)/\Q (.bl (decide (ns=ms))) H
theorem Z2m (ns ms:List Int):((List.range (min ns.length ms.length)).all (fun j=>ns.getD j 0 == ms.getD j 0) && ns.length == ms.length)=decide (ns=ms):=by
 rw[GS]
 simp only [JN,List.all_eq_true,GK,qh,zA]
 constructor
 ·rintro ⟨h,hl⟩
  refine List.ext_getElem hl fun i h1 h2=>?_
  have:=h i (by omega)
  simpa [List.getD,h1,h2] using this
 ·rintro rfl
  exact⟨fun _ _=>rfl,rfl⟩
theorem Rv {ns:List Int}{us:List Value}(r:Vals (ns.map V.int) us){j:Nat}(h:j<us.length):∃ t,us[j]=Value.int (ns.getD j 0) t:=by
 have hl:=r.length
 rw[YC] at hl
 have hj:j<ns.length:=by omega
 obtain⟨u,e,q⟩:=r.get (i:=j) (show (ns.map V.int)[j]?=some (V.int ns[j]) by simp[hj])
 obtain⟨t,rfl⟩:=q
 have e2:us[j]?=some us[j]:=by simp[h]
 rw[e2] at e
 refine⟨t,?_⟩
 rw[YK e]
 simp[List.getD,hj]
theorem Z0q (hu:X.A.units<cLine)(hK:X.K=K:=by rfl):OpR X (compareOp .Eq) (rEqI K):=by
 subst hK
 intro pins s σ H x y v u Q I rx ry h
 obtain⟨a,b,ns,ms,rfl,rfl,ha,hb,q⟩:=h
 cases rx
 cases ry
 obtain⟨its,r1,p1,_⟩:=I.tuple ha
 obtain⟨its2,r2,p2,_⟩:=I.tuple hb
 have l1:=r1.length
 have l2:=r2.length
 rw[YC] at l1 l2
 refine SeqAt.eq_tupleAt (e:=fun j=>ns.getD j 0 == ms.getD j 0) p1 p2 hu (fun j h1 h2=>?_) ?_
 ·obtain⟨t,e1⟩:=Rv r1 (j:=j) (by simpa using h1)
  obtain⟨t',e2⟩:=Rv r2 (j:=j) (by simpa using h2)
  have e1':its.toArray[j]=Value.int (ns.getD j 0) t:=by simpa using e1
  have e2':its2.toArray[j]=Value.int (ms.getD j 0) t':=by simpa using e2
  rw[e1',e2']
  exact zk _ _ _ _
 ·rw[YR,YR,<-l1,<-l2,Z2m]
  exact⟨.bl _,H,I,rfl,q⟩
theorem Z0p (h:X.K=K:=by rfl):OpR X (compareOp .In) (rIn K false):=h ▸ Wh
end
theorem Ts (i:Int)(ns:List Int):inV (.int i) (ns.map V.int)=decide (i∈ns):=by
 unfold inV
 rw[List.any_map,GS]
 simp only [List.any_eq_true,zA,Function.comp]
 constructor
 ·rintro ⟨x,hx,e⟩
  have:x=i:=by simpa [eqV] using e
  exact this ▸ hx
 ·intro h
  exact⟨i,h,by simp[eqV]⟩
theorem Ul (ns:List Int):(ns.map V.int).all flatV=true:=by
 rw[List.all_map,List.all_eq_true]
 intro x _
 rfl
end Sb
namespace Sb
open PySem L2
def Con (K:W.Frag)(mg:Str->Option Value)(x:Str)(r:Rat):Prop:=∃ a:Addr,mg x=some (.ref a)/\∀ H,SqT K H a [.int r.1,.int r.2]
theorem Z2h {K:W.Frag}{h:Heap}{mg:Str->Option Value}{x:Str}{a:Addr}{i j:Int}{t1 t2:Tok}{n:Nat}{dd:Option Addr}{sl:Array (Option Value)}(X:K.In h)(G:h.Ns mainGlobals mg)
  (e:W.nsIn K mainGlobals x=some (some (.ref a))) (l:K.lookup a=some ⟨.type "tuple",dd,.seq #[.int i t1,.int j t2] n,sl⟩):Con K mg x (i,j) :=
 ⟨a,Y0s X G e,fun H=>.inr ⟨_,_,_,l,rfl,rfl,sz2,.cons ⟨_,rfl⟩ (.cons ⟨_,rfl⟩ .nil)⟩⟩
def evI (c:Nat)(p:Nat->Bool):List Int:=((List.range c).filter p).map fun (w:Nat)=>(w:Int)
def EvAt (K:W.Frag)(H:Hp)(c:Nat)(o:Option (Nat->Bool))(v:V):Prop:=match o with
 | none=>v=.non
 | some p=>∃ a,v=.ref a/\SqT K H a ((evI c p).map V.int)
theorem EvAt.ext {K:W.Frag}{H H':Hp}{c:Nat}{o:Option (Nat->Bool)}{v:V}(h:EvAt K H c o v)(e:Ext H H'):EvAt K H' c o v:=by
 cases o with
 | none=>exact h
 | some p=>obtain⟨a,q,h⟩:=h;exact⟨a,q,e.sq h⟩
theorem EvAt.same {K:W.Frag}{H H':Hp}{c:Nat}{o:Option (Nat->Bool)}{v:V}(h:EvAt K H c o v)(e:Same H H'):EvAt K H' c o v:=h.ext (Ext.same e)
def inE (o:Option (Nat->Bool))(i:Nat):Bool:=match o with
 | none=>true
 | some p=>p i
theorem M6 {c:Nat}{p:Nat->Bool}{i:Nat}:((i:Int)∈evI c p) ↔ i<c/\p i=true:=by
 unfold evI
 simp only [XE,zI,GK]
 constructor
 ·rintro ⟨j,h,e⟩
  have:j=i:=by omega
  exact this ▸ h
 ·intro h
  exact⟨i,h,rfl⟩
theorem Pe (c:Nat)(p:Nat->Bool):evI (c+1) p=evI c p++if p c then [(c:Int)] else []:=by
 unfold evI
 rw[zt,qq,JG]
 congr 1
 cases h:p c <;> simp[h]
theorem Nf {c:Nat}{p q:Nat->Bool}(h:∀ i,i<c->p i=q i):evI c p=evI c q:=by
 unfold evI
 congr 1
 apply List.filter_congr
 intro x hx
 exact h x (GK.mp hx)
theorem Z27 (c:Nat)(p q:Nat->Bool):(evI c p).filter (fun z=>decide (z∈evI c q))=evI c fun i=>p i && q i:=by
 show (List.map _ _).filter _=_
 rw[List.filter_map]
 show _=List.map _ _
 congr 1
 rw[List.filter_filter]
 apply List.filter_congr
 intro x hx
 have hx:=GK.mp hx
 simp only [Function.comp]
 have:decide ((x:Int)∈evI c q)=q x:=by
  rw[GS,zA,M6]
  simp[hx]
 rw[this,Bool.and_comm]
theorem K2 {c A B:Prop}[Decidable c](hc:c)(h:A):if decide c=true then A else B:=by rw[XX hc];exact Wt h
theorem P0 {c A B:Prop}[Decidable c](hc:¬ c)(h:B):if decide c=true then A else B:=by rw[JQ hc];exact X9 h
theorem Z46 {b:Bool}{A B:Prop}(h1:b=true->A)(h0:b=false->B):if b=true then A else B:=by
 cases b with
 | true=>exact Wt (h1 rfl)
 | false=>exact X9 (h0 rfl)
theorem Y2 {α:Type}{l:List α}{i:Nat}{x:α}(h:l[i]?=some x):l.take (i+1)=l.take i++[x]:=by rw[List.take_add_one,h];rfl
def cutR (o:Option (Nat->Bool))(rs:List Rat):List Rat:=rs.mapIdx fun i r=>if inE o i then r else (0,1)
theorem V0 {o:Option (Nat->Bool)}{rs:List Rat}{i:Nat}{r:Rat}(h:rs[i]?=some r):(cutR o rs)[i]?=some (if inE o i then r else (0,1)):=by
 unfold cutR
 rw[jr,h]
 rfl
theorem Yd (o:Option (Nat->Bool))(rs:List Rat):(cutR o rs).length=rs.length:=by unfold cutR;simp
theorem g01 (n:Nat)(h:1<=n):Good n (0,1):=by
 have:2 ^ 1<=2 ^ n:=qf (by decide) h
 exact⟨by show (0:Int).natAbs<_;simp;omega,by show (1:Int).natAbs<_;simp;omega,by decide,by decide⟩
def mapR {α:Type}(op:Rat->α)(rs:List Rat)(i:Nat):List α:=(rs.take i).map op
theorem Cd {α:Type}(op:Rat->α){rs:List Rat}{i:Nat}{r:Rat}(hr:rs[i]?=some r):mapR op rs (i+1)=mapR op rs i++[op r]:=by
 unfold mapR
 rw[List.take_add_one,hr,JG]
 rfl
theorem Z1m {α:Type}(op:Rat->α){rs:List Rat}{n:Nat}(hr:rs.length=n):mapR op rs n=rs.map op:=by
 unfold mapR
 rw[YN (by omega)]
def ltR (r s:Rat):Bool:=decide (r.1*s.2<s.1*r.2)
theorem Z6f {xs:List V}{i:Nat}(h:i<=xs.length):cutV xs (some (i:Int)) none=xs.drop i:=by
 unfold cutV
 rw[HT.sIx_none,HT.sIx_nat,Nat.min_eq_left h,YN (by simp)]
end Sb
namespace Sb
open PySem PySem.Spec PyProof.Rows L2
section
variable {X:Cx}{tg:Expr}{K:W.Frag}
def iSeq (K:W.Frag)(tl:TE):TI:=fun σ H R=>tl σ H fun x H1=>∃ a,x=.ref a/\(((∃ xs,SqL K H1 a xs)/\R (Itl K a) H1) \/ ((∃ xs,SqT K H1 a xs)/\R (Itt K a) H1))
theorem Z0h {l:Expr}{tl:TE}(hl:PE X l tl):PI X tg l (iSeq X.K tl):=by
 intro pins s σ H R I h
 refine thn (hl pins s σ H _ I h) fun v s1 ⟨x,H1,I1,r1,q1⟩=>?_
 obtain⟨a,e,⟨⟨xs,hq⟩,q⟩ | ⟨⟨xs,hq⟩,q⟩⟩:=q1
 ·subst e
  cases r1
  obtain⟨its,rv,p,hz⟩:=I1.list hq
  refine GC p.isList ?_
  refine⟨s1.heap.objs.size,[s1.heap.objs.size],_,_,H1,rfl,I1.kept (t':=s1.toks) fun b o e=>YA _ e,Ty a _,⟨_,YO _ rfl,rfl,rfl⟩,fun b hb=>?_,q⟩
  have e:b=s1.heap.objs.size:=by simpa using hb
  subst e
  exact I1.fpOk (YE _) (I1.hok.fresh (YE _))
 ·subst e
  cases r1
  obtain⟨its,rv,p,hz⟩:=I1.tuple hq
  refine GY (show s1.heap.IsTuple a its.toArray from p) ?_
  refine⟨s1.heap.objs.size,[s1.heap.objs.size],_,_,H1,rfl,I1.kept (t':=s1.toks) fun b o e=>YA _ e,Ut a _,⟨_,YO _ rfl,rfl,rfl⟩,fun b hb=>?_,q⟩
  have e:b=s1.heap.objs.size:=by simpa using hb
  subst e
  exact I1.fpOk (YE _) (I1.hok.fresh (YE _))
theorem Ft {a:Addr}{xs:List V}{g:TG}{tb:TS}{D:Ends}{σ:L2.St}{H:Hp}(Pv:Nat->L2.St->Hp->Prop)(hx:SqL K H a xs \/ SqT K H a xs)(h0:Pv 0 σ H)(hS:∀ i σ H',i<=xs.length->Pv i σ H'->Same H H')
  (hs:∀ i x σ H,xs[i]?=some x->Pv i σ H->g x σ H fun σ2 H2=>tb { D with nx:=Pv (i+1),ct:=Pv (i+1),bk:=D.nx } σ2 H2) (hd:∀ σ H,Pv xs.length σ H->D.nx σ H) :
  ∃ b,V.ref a=.ref b/\(((∃ xs,SqL K H b xs)/\∃ W:Nat->Nat->L2.St->Hp->Prop,(∃ m,W 0 m σ H)/\∀ i m σ H,W i m σ H →
   ((Itl K b).stop i H/\D.nx σ H) \/ ((Itl K b).go i H/\∃ N:L2.St->Hp->Prop,(∀ σ' H',N σ' H'->∃ m',m'<m/\W (i+1) m' σ' H')/\∀ x H',(Itl K b).yld i H x H'->g x σ H' fun σ2 H2=>tb { D with nx:=N,ct:=N,bk:=D.nx } σ2 H2)) ∨
   ((∃ xs,SqT K H b xs)/\∃ W:Nat->Nat->L2.St->Hp->Prop,(∃ m,W 0 m σ H)/\∀ i m σ H,W i m σ H →
   ((Itt K b).stop i H/\D.nx σ H) \/ ((Itt K b).go i H/\∃ N:L2.St->Hp->Prop,(∀ σ' H',N σ' H'->∃ m',m'<m/\W (i+1) m' σ' H')/\∀ x H',(Itt K b).yld i H x H'->g x σ H' fun σ2 H2=>tb { D with nx:=N,ct:=N,bk:=D.nx } σ2 H2))):=by
 refine⟨a,rfl,?_⟩
 rcases hx with hx | hx
 ·exact .inl ⟨⟨_,hx⟩,K7 (K:=K) (a:=a) (xs:=xs) Pv h0 (fun i σ H' hi p=>by
   rcases hx with (z | ⟨o,z⟩) | z
   ·exact .inl (.inl (hS i σ H' hi p _ _ z))
   ·exact .inl (.inr ⟨o,hS i σ H' hi p _ _ z⟩)
   ·exact .inr z) hs hd⟩
 ·exact .inr ⟨⟨_,hx⟩,Fs (K:=K) (a:=a) (xs:=xs) Pv h0 (fun i σ H' hi p=>Zl (hS i σ H' hi p) hx) hs hd⟩
theorem Sr (hc:X.calm=true)(hK:X.K=K:=by rfl):CallR X (.builtin "sum") (fun xs H Q=>∃ (p:Addr) (ns:List Int),xs=[.ref p]/\SqL K H p (ns.map V.int)/\Q (.int ns.sum) H):=by
 subst hK
 intro pins s σ H xs us Q I r h
 obtain⟨p,ns,rfl,hs,q⟩:=h
 obtain⟨u,e0,rx⟩:=Ta r
 cases (show u=Value.ref p from rx)
 subst e0
 obtain⟨its,rv,pl,hz⟩:=I.list hs
 have hi:IntsAre its ns:=P6 rv
 obtain⟨ys,ey⟩:=hi.allInts.items
 have en:(numsOf its.toArray.toList)=ns:=hi.numsOf
 have lp:s.heap.IsList p (intItems ys):=by rw[<-ey];exact pl.isList
 rw[ey,nums_intItems] at en
 refine Z6j (I.ok.hd hc) (fun p hp=>(I.pin p (YJ _ hp)).1) lp fun h' tk t' hk=>⟨.int ns.sum,H,I.kept (t':=tk) hk,⟨t',?_⟩,q⟩
 rw[preSum_eq,YN (by simp),en]
end
end Sb
namespace Sb
open PySem L2
theorem W5 {K:W.Frag}{H H':Hp}{a:Addr}{xs:List V}(e:Same H H')(h:SqL K H a xs):SqL K H' a xs:=by
 rcases h with (h | ⟨o,h⟩) | h
 ·exact .inl (.inl (e _ _ h))
 ·exact .inl (.inr ⟨o,e _ _ h⟩)
 ·exact .inr h
end Sb
namespace Sb
open PySem PySem.Spec PyProof.Rows L2
abbrev bmV:List Value:=[.type "ValueError",.type "Exception",.type "BaseException",.type "object"]
theorem Kn {P:Program}{w:World}{fs:List Addr}{H H':Hp}{h0 h1 h2 B:Heap}(u:Un fs [] H H' h0 h1)(hB:∀ b o,h0.get? b=some o->b ∉ fs->(∃ o',B.get? b=some o')/\(H b=none->B.get? b=some o))(st:B.StaysIn h2)(up:h1.UpToSlots h2)
  (nf:∀ b∈fs,∃ o,h1.get? b=some o/\∀ vs,o.data≠.fields vs):Un fs [] H H' h0 h2 where
 keep:=fun b o e n hf _=>st b o ((hB b o e hf).2 n)
 slot:=fun b o e n hf hx=>by
  obtain⟨sl,e1⟩:=u.slot b o e n hf hx
  obtain⟨o1,e2,d⟩:=nf b hf
  rw[e1] at e2
  cases e2
  obtain⟨sl2,e3⟩:=up b _ e1 d
  exact⟨sl2,e3⟩
 free:=u.free
 there:=fun b o e hx=>by
  by_cases hf:b∈fs
  ·obtain⟨o1,e2,d⟩:=nf b hf
   obtain⟨sl,e3⟩:=up b _ e2 d
   exact⟨_,e3⟩
  ·obtain⟨o',e'⟩:=(hB b o e hf).1
   exact⟨o',st b o' e'⟩
 tups:=u.tups
 frzs:=u.frzs
 tbls:=u.tbls
section
variable {P:Program}{w:World}{K:W.Frag}{mg:Str->Option Value}{base:Heap}{N:List Str}{qual:Str}{scope:Scope}{f:Addr}{cd:Value}{A:Around}{outer:List Env}{s:Shared}{H:Hp}{E:XK}
end
structure CatchBy (K:W.Frag)(C D:Addr):Prop where
 nt:W.instIn K (.ref D) (.type "tuple")=some false
 be:W.subIn K (.ref D) (.type "BaseException")=some true
 it:W.kitOne K (.type "int") (.ref D)=some false
 sub:W.subIn K (.ref C) (.ref D)=some true
theorem CatchBy.cls {K:W.Frag}{C D:Addr}(c:CatchBy K C D):W.kitCls K (.type "int") (.ref D)=some false:=by
 have e:=c.it
 unfold W.kitOne at e
 rw[YF (by intro z;cases (qh.mp z))] at e
 exact e
theorem Kb {K:W.Frag}{M:Model}{A:Around}{E:Value->Shared->Prop}{C D e:Addr}{oe:Obj}{h:Heap}{g:Array GenState}{d:Drawn}{tk:Nat}{os:OsState}{Q:Bool->Shared->Prop}(X:K.In h)(c:CatchBy K C D)
  (he:h.get? e=some oe) (hc:oe.cls=.ref C) (q:Q true ⟨h,g,d,tk,os⟩):wpAny M A (excMatches (.ref e) (.ref D)) Q E ⟨h,g,d,tk,os⟩:=by
 obtain⟨_,l2,_⟩:=W.kit_cls (M:=M) X c.cls
 have l3:=W.looks_subIn (M:=M) X c.sub
 have l1:=W.looks_instIn (M:=M) X c.nt
 have l4:=W.looks_subIn (M:=M) X c.be
 unfold excMatches
 refine YB (l1.at ?_)
 simp only [GX,Y08]
 refine YB (YQ ?_)
 simp only [zM,Y0h]
 unfold isExcClass
 refine YB (YB (YB (YB (l2.at ?_))))
 simp only [zK]
 refine l4.at ?_
 simp only [Bool.not_true,GX,Y08]
 refine YQ ?_
 refine YQ ?_
 refine YB ?_
 refine W.Looks.at (r:=Value.ref C) ?_ ?_
 ·exact hc ▸ (W.Looks.ld he).andThen .now
 ·refine YB (YB (YB (l3.at ?_)))
  simp only [zK]
  repeat (first | exact q | refine YQ ?_ | refine YB ?_)
section
variable {X:Cx}{k:Nat}{x:Str}{ps:List Str}{sp:Sp}{e:Expr}{es:List Expr}{t:TA}{p pos:Pos}{EX:L2.St->XK}
def tUseX (sp:Sp)(EX:L2.St->XK)(t:TA):TE:=fun σ H Q=>t σ H fun vs H1=>sp vs H1 Q (EX σ)
end
abbrev tryCx (X:Cx)(pn:List (Addr × Obj))(E:Value->Shared->Prop):Cx:={ X with pn:=pn,xe:=E }
abbrev sutCx (X:Cx)(a:Addr)(pn:List (Addr × Obj))(E:Value->Shared->Prop):Cx:={ X with A:=X.A.mark (some (.ref a)),calm:=false,pn:=pn,xe:=E }
section
variable {X:Cx}{pins pins' pn:List (Addr × Obj)}{σ:L2.St}{H:Hp}{s:Shared}{E:Value->Shared->Prop}{a:Addr}
theorem Z5k (ok:X.Ok)(hp:∀ p∈X.pn,p∈pn):(tryCx X pn E).Ok:=⟨ok.mod,ok.kind,ok.glob,ok.blt,ok.above,ok.inj,ok.has,ok.cab,(fun hc=>(ok.hd hc).sub hp),ok.frames,ok.stk,ok.exf,ok.bs,ok.bsz,ok.noex,ok.exfs,ok.funs,ok.frf⟩
theorem Z5l (ok:X.Ok):(sutCx X a pn E).Ok:=⟨ok.mod,ok.kind,ok.glob,ok.blt,ok.above,ok.inj,ok.has,ok.cab,(fun z=>nomatch z),ok.frames,ok.stk,ok.exf,ok.bs,ok.bsz,ok.noex,ok.exfs,ok.funs,ok.frf⟩
theorem Z47 (I:Inv X pins σ H s):Inv (tryCx X (X.pn++pins) E) [] σ H s :=
 ⟨Z5k I.ok (fun p hp=>YJ _ hp),I.os,I.bare,I.base,I.loc,I.cell,I.free,I.freeC,fun p hp=>I.pin p (by simpa using hp),I.hok,I.len⟩
theorem Vg (ok:X.Ok)(I:Inv (tryCx X (X.pn++pins) E) pins' σ H s):Inv X pins σ H s :=
 ⟨ok,I.os,I.bare,I.base,I.loc,I.cell,I.free,I.freeC,fun p hp=>I.pin p (YJ _ hp),I.hok,I.len⟩
theorem Fo (I:Inv X pins σ H s):Inv (sutCx X a (X.pn++pins) E) [] σ H s :=
 ⟨Z5l I.ok,I.os,I.bare,I.base,I.loc,I.cell,I.free,I.freeC,fun p hp=>I.pin p (by simpa using hp),I.hok,I.len⟩
theorem Uk (ok:X.Ok)(I:Inv (sutCx X a (X.pn++pins) E) pins' σ H s):Inv X pins σ H s :=
 ⟨ok,I.os,I.bare,I.base,I.loc,I.cell,I.free,I.freeC,fun p hp=>I.pin p (YJ _ hp),I.hok,I.len⟩
theorem Bk {D:Ends}{f:Flow}{s':Shared}(ok:X.Ok)(h:SP (tryCx X (X.pn++pins) E) pins' D f s'):SP X pins D f s':=by
 cases f with
 | next=>obtain⟨σ',H',I,q⟩:=h;exact⟨σ',H',Vg ok I,q⟩
 | brk=>obtain⟨σ',H',I,q⟩:=h;exact⟨σ',H',Vg ok I,q⟩
 | cont=>obtain⟨σ',H',I,q⟩:=h;exact⟨σ',H',Vg ok I,q⟩
 | ret u=>obtain⟨v,σ',H',I,r,q⟩:=h;exact⟨v,σ',H',Vg ok I,r,q⟩
theorem Bl {D:Ends}{f:Flow}{s':Shared}(ok:X.Ok)(h:SP (sutCx X a (X.pn++pins) E) pins' D f s'):SP X pins D f s':=by
 cases f with
 | next=>obtain⟨σ',H',I,q⟩:=h;exact⟨σ',H',Uk ok I,q⟩
 | brk=>obtain⟨σ',H',I,q⟩:=h;exact⟨σ',H',Uk ok I,q⟩
 | cont=>obtain⟨σ',H',I,q⟩:=h;exact⟨σ',H',Uk ok I,q⟩
 | ret u=>obtain⟨v,σ',H',I,r,q⟩:=h;exact⟨v,σ',H',Uk ok I,r,q⟩
end
section
variable {X:Cx}{x:Str}{C D:Addr}{body:List Stmt}{b₀:Stmt}{suite:List Stmt}{np hp pos:Pos}{tb:(L2.St->XK)->TS}{ts:TS}
end
open PySem.W (Looks findIn specialIn takesIn mroIn clsIn InstAt findObj KitX)
structure ExcRead (K:W.Frag)(C:Addr):Prop where
 ga:findIn K (.ref C) "__getattribute__"=some (some (.builtin "BaseException.__getattribute__"))
 gh:findIn K (.ref C) "__getattr__"=some none
 cl:findIn K (.ref C) "__class__"=some (some (.builtin "object.__class__"))
 gt:specialIn K (.builtin "object.__class__") "__get__"=some (some (.builtin "getset_descriptor.__get__"))
 tk:takesIn K (.builtin "object.__class__")=some true
 mo:mroIn K C (.type "object")=some true
 be:W.subIn K (.ref C) (.type "BaseException")=some true
section
variable {K:W.Frag}{C x:Addr}{prog:Program}{w:World}{A:Around}{E:Value->Shared->Prop}{h:Heap}{g:Array GenState}{d:Drawn}{t:Nat}{os:OsState}
end
section
variable {X:Cx}{K:W.Frag}
end
end Sb
namespace Sb
open PySem PySem.Spec PyProof.Rows L2
section
variable {X:Cx}{pins:List (Addr × Obj)}{σ:L2.St}{H:Hp}{s:Shared}
theorem Ck {a:Addr}{o:HO}(I:Inv X pins σ H s)(hn:H a=none)(ok:ObjOk X.prog X.w (upd H a o) s.heap a o)(h0:∀ ob,X.s₀.heap.get? a=some ob->False)(hl:a≠X.env.locals)(hc:∀ x c,X.env.cells.lookup x=some c->c≠a)(hp:∀ p∈X.pn++pins,p.1≠a):Inv X pins σ (upd H a o) s where
 ok:=I.ok
 os:=I.os
 bare:=I.bare
 base:=by
  have u:=I.base
  exact⟨u.keep,u.slot,fun b ob e n hx=>by rw[Zf (show b≠a from fun z=>h0 ob (by rw[<-z];exact e))];exact u.free b ob e n hx,u.there,fun b xs e=>by
   have:=u.tups b xs e
   rw[Zf (fun z=>by rw[z,hn] at this;cases this)];exact this,fun b ob v e=>by
   have:=u.frzs b ob v e
   rw[Zf (fun z=>by rw[z,hn] at this;cases this)];exact this,fun b ps e=>by
   obtain⟨m,this⟩:=u.tbls b ps e
   exact⟨m,by rw[Zf (fun z=>by rw[z,hn] at this;cases this)];exact this⟩⟩
 loc:=I.loc
 cell:=I.cell
 free:=by rw[Zf hl.symm];exact I.free
 freeC:=fun x c e=>by rw[Zf (hc x c e)];exact I.freeC x c e
 pin:=fun p q=>by
  obtain⟨h1,h2,h3⟩:=I.pin p q
  exact⟨h1,by rw[Zf (hp p q)];exact h2,h3⟩
 hok:=fun b ob e=>by
  by_cases z:b=a
  ·subst z
   rw[Zc] at e
   cases e
   exact ok
  ·rw[Zf z] at e
   exact (I.hok b ob e).stay (fun c u _ q=>q) (fun c q=>by rw[Zf (fun z=>by rw[z,hn] at q;cases q)];exact q) fun c xs q=>by rw[Zf (fun z=>by rw[z,hn] at q;cases q)];exact q
 len:=I.len
end
section
variable {X:Cx}{x n:Str}{i:Nat}{C D:Addr}{body:List Stmt}{b₀:Stmt}{suite:List Stmt}{np hp pos:Pos}{tb:(L2.St->XK)->TS}{ts:TS}
end
def flatE:V->Bool
 | .non | .bl _ | .int _ | .str _ | .ref _=>true
 | _=>false
def EqU (K:W.Frag)(H:Hp):Nat->V->V->Prop
 | 0,x,y=>x=y/\flatE x=true
 | n+1,x,y=>(x=y/\flatE x=true) \/ ∃ (a b:Addr) (xs ys:List V),x=.ref a/\y=.ref b/\((SqL K H a xs/\SqL K H b ys) \/ (SqT K H a xs/\SqT K H b ys))/\Paired (EqU K H n) xs ys
theorem Paired.getB {α β:Type}{R:α->β->Prop}:∀ {xs:List α} {ys:List β} {i:Nat} {x:α} {y:β},Paired R xs ys->xs[i]?=some x->ys[i]?=some y->R x y
 | _,_,_,_,_,.nil,e,_=>by simp at e
 | _,_,0,_,_,.cons q _,e,e'=>by
  simp at e e'
  subst e e'
  exact q
 | _,_,i+1,x,y,.cons _ t,e,e'=>Paired.getB (i:=i) t (by simpa using e) (by simpa using e')
section
variable {X:Cx}{pins:List (Addr × Obj)}{σ:L2.St}{H:Hp}{s:Shared}{K:W.Frag}
theorem Ng {A:Around}{x:V}{u v:Value}(h:flatE x=true)(ru:RelV x u)(rv:RelV x v):SeqAt.EqAt A s u v true:=by
 cases x with
 | non=>cases ru;cases rv;exact zL _
 | bl b=>cases ru;cases rv;exact zL _
 | int i =>
  obtain⟨t,rfl⟩:=ru
  obtain⟨t',rfl⟩:=rv
  have:=zk (A:=A) (s:=s) i t i t'
  rwa [qa] at this
 | str z =>
  obtain⟨t,rfl⟩:=ru
  obtain⟨t',rfl⟩:=rv
  have:=SeqAt.EqAt.str_str (A:=A) (s:=s) z t z t'
  rwa [qa] at this
 | ref a=>cases ru;cases rv;exact zL _
 | byt b=>cases h
 | flt b=>cases h
 | ty b=>cases h
theorem Vk (n:Nat):(List.range n).all (fun _=>true)=true:=by simp
theorem Ju (I:Inv X pins σ H s):∀ (n:Nat) (A:Around) (x y:V) (u v:Value),A.units+n<cLine->EqU X.K H n x y->RelV x u->RelV y v->SeqAt.EqAt A s u v true
 | 0,A,x,y,u,v,_,⟨e,h⟩,ru,rv=>by
  subst e
  exact Ng h ru rv
 | n+1,A,x,y,u,v,hu,h,ru,rv=>by
  rcases h with ⟨e,h⟩ | ⟨a,b,xs,ys,rfl,rfl,h,p⟩
  ·subst e
   exact Ng h ru rv
  ·cases ru
   cases rv
   by_cases hab:a=b
   ·subst hab
    exact zL _
   ·refine SeqAt.EqAt.of_refs hab ?_
    have lp:=JK p
    rcases h with ⟨h1,h2⟩ | ⟨h1,h2⟩
    ·obtain⟨i1,r1,p1,_⟩:=I.list h1
     obtain⟨i2,r2,p2,_⟩:=I.list h2
     have l1:=r1.length
     have l2:=r2.length
     have:=SeqAt.RcAt.lists (A:=A) (e:=fun _=>true) p1.isList p2.isList (by simp;omega) (by omega) fun j h1 h2=>by
      have h1':j<i1.length:=by simpa using h1
      have h2':j<i2.length:=by simpa using h2
      obtain⟨w1,e1,q1⟩:=r1.get (i:=j) (x:=xs[j]'(by omega)) (by simp)
      obtain⟨w2,e2,q2⟩:=r2.get (i:=j) (x:=ys[j]'(by omega)) (by simp)
      have g1:i1.toArray[j]=w1:=by
       have:i1[j]?=some i1[j]:=by simp[h1']
       rw[this] at e1
       simpa using YK e1
      have g2:i2.toArray[j]=w2:=by
       have:i2[j]?=some i2[j]:=by simp[h2']
       rw[this] at e2
       simpa using YK e2
      rw[g1,g2]
      exact Ju I n A.in1 _ _ _ _ (by show A.units+1+n<cLine;omega) (Paired.getB p (i:=j) (by simp) (by simp)) q1 q2
     rwa [Vk] at this
    ·obtain⟨i1,r1,p1,_⟩:=I.tuple h1
     obtain⟨i2,r2,p2,_⟩:=I.tuple h2
     have l1:=r1.length
     have l2:=r2.length
     have:=SeqAt.RcAt.tuples (A:=A) (e:=fun _=>true) p1 p2 (by omega) fun j h1 h2=>by
      have h1':j<i1.length:=by simpa using h1
      have h2':j<i2.length:=by simpa using h2
      obtain⟨w1,e1,q1⟩:=r1.get (i:=j) (x:=xs[j]'(by omega)) (by simp)
      obtain⟨w2,e2,q2⟩:=r2.get (i:=j) (x:=ys[j]'(by omega)) (by simp)
      have g1:i1.toArray[j]=w1:=by
       have:i1[j]?=some i1[j]:=by simp[h1']
       rw[this] at e1
       simpa using YK e1
      have g2:i2.toArray[j]=w2:=by
       have:i2[j]?=some i2[j]:=by simp[h2']
       rw[this] at e2
       simpa using YK e2
      rw[g1,g2]
      exact Ju I n A.in1 _ _ _ _ (by show A.units+1+n<cLine;omega) (Paired.getB p (i:=j) (by simp) (by simp)) q1 q2
     rw[Vk] at this
     have e:(i1.toArray.size == i2.toArray.size)=true:=by simp;omega
     rw[e] at this
     exact this
def rAlike (K:W.Frag)(ans:Bool):R2:=fun x y H Q=>∃ (n:Nat) (a b:Addr) (xs ys:List V),x=.ref a/\y=.ref b/\n<=60/\((SqL K H a xs/\SqL K H b ys) \/ (SqT K H a xs/\SqT K H b ys))/\Paired (EqU K H n) xs ys/\Q (.bl ans) H
theorem V2 (I:Inv X pins σ H s){n:Nat}{A:Around}{xs ys:List V}{i1 i2:List Value}(hu:A.units+n<cLine)(p:Paired (EqU X.K H n) xs ys)(r1:Vals xs i1)(r2:Vals ys i2)(j:Nat)(h1:j<i1.toArray.size)(h2:j<i2.toArray.size):SeqAt.EqAt A s i1.toArray[j] i2.toArray[j] true:=by
 have l1:=r1.length
 have l2:=r2.length
 have h1':j<i1.length:=by simpa using h1
 have h2':j<i2.length:=by simpa using h2
 obtain⟨w1,e1,q1⟩:=r1.get (i:=j) (x:=xs[j]'(by omega)) (by simp)
 obtain⟨w2,e2,q2⟩:=r2.get (i:=j) (x:=ys[j]'(by omega)) (by simp)
 have g1:i1.toArray[j]=w1:=by
  have:i1[j]?=some i1[j]:=by simp[h1']
  rw[this] at e1
  simpa using YK e1
 have g2:i2.toArray[j]=w2:=by
  have:i2[j]?=some i2[j]:=by simp[h2']
  rw[this] at e2
  simpa using YK e2
 rw[g1,g2]
 exact Ju I n A _ _ _ _ hu (Paired.getB p (i:=j) (by simp) (by simp)) q1 q2
theorem J8 (hu:X.A.units+64<cLine)(hK:X.K=K:=by rfl):OpR X (compareOp .NotEq) (rAlike K false):=by
 subst hK
 intro pins s σ H x y v u Q I rx ry h
 obtain⟨n,a,b,xs,ys,rfl,rfl,hn,h,p,q⟩:=h
 cases rx
 cases ry
 have lp:=JK p
 rcases h with ⟨h1,h2⟩ | ⟨h1,h2⟩
 ·obtain⟨i1,r1,p1,_⟩:=I.list h1
  obtain⟨i2,r2,p2,_⟩:=I.list h2
  have l1:=r1.length
  have l2:=r2.length
  refine SeqAt.RcNeAt.lists (A:=X.A) (e:=fun _=>true) p1.isList p2.isList (by simp;omega) (by omega) (fun j h1 h2=>V2 I (by show X.A.units+1+n<cLine;omega) p r1 r2 j h1 h2) _ _ _ _ ?_
  rw[Vk]
  exact⟨.bl false,H,I,rfl,q⟩
 ·obtain⟨i1,r1,p1,_⟩:=I.tuple h1
  obtain⟨i2,r2,p2,_⟩:=I.tuple h2
  have l1:=r1.length
  have l2:=r2.length
  refine SeqAt.RcNeAt.tuples (A:=X.A) (e:=fun _=>true) p1 p2 (by omega) (fun j h1 h2=>V2 I (by show X.A.units+1+n<cLine;omega) p r1 r2 j h1 h2) _ _ _ _ ?_
  have e:(i1.toArray.size == i2.toArray.size)=true:=by simp;omega
  rw[Vk,e]
  exact⟨.bl false,H,I,rfl,q⟩
def rIndex (K:W.Frag):V->List V->Hp->VK->Prop:=fun x vs H Q=>∃ (l:Addr) (ns:List Int) (i:Int) (j:Nat),x=.ref l/\vs=[.int i]/\SqL K H l (ns.map V.int)/\ns[j]?=some i/\(∀ m,m<j->ns[m]?≠some i)/\ns.length<=1000/\Q (.int j) H
def eInt (i:Int):Value->Bool
 | .int a _=>a == i
 | _=>false
theorem Qs (hK:X.K=K:=by rfl):MtM X "list.index" (rIndex K):=by
 subst hK
 intro pins s σ H x vs v us Q I rx rv h
 obtain⟨l,ns,i,j,rfl,rfl,hq,hj,hno,hl,q⟩:=h
 cases rx
 obtain⟨u,rfl,ru⟩:=rv.one
 obtain⟨t,rfl⟩:=ru
 obtain⟨its,r,pl,hz⟩:=I.list hq
 obtain⟨⟨cls,dd,data,sl⟩,ho,hc,n,hd⟩:=pl.isList
 simp only at hc hd
 subst hc hd
 have lr:=r.length
 rw[YC] at lr
 have at_:∀ (m:Nat) (hm:m<its.toArray.size),∃ t',its.toArray[m]=Value.int (ns[m]'(by simp at hm;omega)) t':=fun m hm=>by
  have hm':m<its.length:=by simpa using hm
  obtain⟨w,e,q⟩:=r.get (i:=m) (x:=V.int (ns[m]'(by omega))) (by simp)
  obtain⟨t',rfl⟩:=q
  refine⟨t',?_⟩
  have:its[m]?=some its[m]:=by simp[hm']
  rw[this] at e
  simpa using YK e
 have hjn:j<ns.length:=(YG.mp hj).1
 have hjs:j<its.toArray.size:=by simp;omega
 refine jm F.slot_list_index ⟨_,ho,rfl⟩ F.entry_list_index (F.args_list_index_2 _ _) (SeqAt.list_indexAt l its.toArray n dd sl (.int i t) (eInt i) j hjs (by omega) ?_ ?_) ⟨ho,fun y hy=>?_,?_⟩
 ·obtain⟨t',e⟩:=at_ j hjs
  rw[e]
  have:ns[j]=i:=by
   have:=(YG.mp hj).2
   exact this
  show (ns[j] == i)=true
  rw[this]
  exact qa i
 ·intro m hm hmj
  obtain⟨t',e⟩:=at_ m hm
  rw[e]
  have hm':m<ns.length:=by simp at hm;omega
  show (ns[m] == i)=false
  apply beq_false_of_ne
  intro z
  exact hno m hmj (by rw[<-z];simp[hm'])
 ·obtain⟨m,hm,e⟩:=Array.mem_iff_getElem.mp hy
  obtain⟨t',e'⟩:=at_ m hm
  rw[<-e,e']
  exact zk _ _ _ _
 ·exact⟨.int j,H,I.tok _,⟨_,rfl⟩,q⟩
theorem Cz (hc:X.calm=true)(hK:X.K=K:=by rfl):CallR X (.builtin "min") (fun xs H Q=>∃ (p:Addr) (ns:List Int),xs=[.ref p]/\SqL K H p (ns.map V.int)/\ns≠[]/\∀ M,M∈ns->(∀ a∈ns,M<=a)->Q (.int M) H):=by
 subst hK
 intro pins s σ H xs us Q I r h
 obtain⟨p,ns,rfl,hs,hne,q⟩:=h
 obtain⟨u,e0,rx⟩:=Ta r
 cases (show u=Value.ref p from rx)
 subst e0
 obtain⟨its,rv,pl,hz⟩:=I.list hs
 have hi:IntsAre its ns:=P6 rv
 obtain⟨ys,ey⟩:=hi.allInts.items
 have hns:ns=ys.toList.map (·.1):=by
  rw[<-hi.numsOf,<-nums_intItems,<-ey]
 have hsz:0<ys.size:=by
  have h3:0<ns.length:=List.length_pos_iff.mpr hne
  rw[hns,YC,qk] at h3
  exact h3
 have lp:s.heap.IsList p (intItems ys):=by rw[<-ey];exact pl.isList
 refine Z6x (I.ok.hd hc) (fun p hp=>(I.pin p (YJ _ hp)).1) lp hsz fun v h' tk hv hk=>?_
 obtain⟨t,rfl⟩:=intItems_at hv
 obtain⟨h1,h2⟩:=argBest_lt (numAt ys) (ys.size - 1)
 refine⟨.int _,H,I.kept (t':=tk) hk,⟨t,rfl⟩,q _ ?_ fun a ha=>?_⟩
 ·rw[hns,numAt_eq]
  exact getD_mem (by rw[YC,qk];omega)
 ·rw[hns] at ha
  obtain⟨j,hj,rfl⟩:=mem_getD ha
  rw[YC,qk] at hj
  rw[<-numAt_eq]
  exact h2 j (by omega)
end
end Sb
namespace Sb
open PySem PySem.Builtin.SmallTypes
abbrev yH1 (h:Heap)(t:Addr):Heap:=h.push { cls:=.type "list_iterator",data:=.fields #[.ref t,.int 0 0] }
abbrev yH2 (h:Heap)(t u:Addr):Heap:=(yH1 h t).push { cls:=.type "list_iterator",data:=.fields #[.ref u,.int 0 0] }
abbrev yH3 (h:Heap)(t u:Addr):Heap:=(yH2 h t u).push { cls:=.type "tuple",data:=.seq #[.ref h.objs.size,.ref (yH1 h t).objs.size] }
abbrev yH4 (h:Heap)(t u:Addr):Heap:=(yH3 h t u).push { cls:=.type "tuple",data:=.seq #[.none,.none] }
abbrev yH5 (h:Heap)(t u:Addr):Heap:=(yH4 h t u).push { cls:=.type "zip",data:=.fields #[.none,.bool false,.bool false,.ref (yH2 h t u).objs.size,.ref (yH3 h t u).objs.size] }
theorem Ji (t u:Addr)(xs ys:Array Value):Meets (Builtin.«zip.__new__» ⟨[.type "zip",.ref t,.ref u],[]⟩) (fun _ R s=>s.heap.IsList t xs/\s.heap.IsList u ys ∧
  R (.ok (.ret (.ref (yH4 s.heap t u).objs.size))) { s with heap:=yH5 s.heap t u }) :=
 .of_wp fun prog w A R s h=>by
  obtain⟨hp,g,d,tk,os⟩:=s
  obtain⟨h1,h2,h⟩:=h
  have hsub:=sub_zip
  have T1:Heap.IsList (Shared.heap ⟨hp,g,d,tk,os⟩) t xs:=h1
  have T2:Heap.IsList (Shared.heap ⟨hp.push { cls:=.type "list_iterator",data:=.fields #[.ref t,.int 0 0] },g,d,tk,os⟩) u ys:=Heap.IsList.push h2 _
  wp_walk using GC T1,GC T2
  exact⟨_,rfl,h⟩
theorem Cy {prog:Program}{w:World}{A:Around}{E:Value->Shared->Prop}{s:Shared}{t u:Addr}{xs ys:Array Value}{Q:Value->Shared->Prop}(h1:s.heap.IsList t xs)(h2:s.heap.IsList u ys)
  (h:∀ h',IsZip h' (s.heap.objs.size+4) (s.heap.objs.size+2) (s.heap.objs.size+3) .none->IsPair h' (s.heap.objs.size+2) (.ref s.heap.objs.size) (.ref (s.heap.objs.size+1))->IsPair h' (s.heap.objs.size+3) .none .none →
   h'.IsListIter s.heap.objs.size t 0->h'.IsListIter (s.heap.objs.size+1) u 0->h'.objs.size=s.heap.objs.size+5->(∀ c o,s.heap.get? c=some o->h'.get? c=some o)->Q (.ref (s.heap.objs.size+4)) { s with heap:=h' }) :
  wpAny (model prog w) A (call (.type "zip") [.ref t,.ref u]) Q E s:=by
 refine Y0J F.called_zip (by decide) (F.typeCall_zip_2 _ _) (F.newCall_zip_2 _ _) (fun obj=>F.args_object_init_3 obj _ _) F.entry_zip_new (Ji t u xs ys) ⟨h1,h2,?_⟩
 have e1:(yH1 s.heap t).objs.size=s.heap.objs.size+1:=XL ..
 have e2:(yH2 s.heap t u).objs.size=s.heap.objs.size+2:=by rw[XL,e1]
 have e3:(yH3 s.heap t u).objs.size=s.heap.objs.size+3:=by rw[XL,e2]
 have e4:(yH4 s.heap t u).objs.size=s.heap.objs.size+4:=by rw[XL,e3]
 have e5:(yH5 s.heap t u).objs.size=s.heap.objs.size+5:=by rw[XL,e4]
 have p5:(yH5 s.heap t u).get? (yH4 s.heap t u).objs.size=some _:=YO _ rfl
 have p4:(yH5 s.heap t u).get? (yH3 s.heap t u).objs.size=some _:=YA _ (YO _ rfl)
 have p3:(yH5 s.heap t u).get? (yH2 s.heap t u).objs.size=some _:=YA _ (YA _ (YO _ rfl))
 have p2:(yH5 s.heap t u).get? (yH1 s.heap t).objs.size=some _:=YA _ (YA _ (YA _ (YO _ rfl)))
 have p1:(yH5 s.heap t u).get? s.heap.objs.size=some _:=YA _ (YA _ (YA _ (YA _ (YO _ rfl))))
 show _/\_
 rw[e2,e3,e4] at p5
 rw[e1,e2] at p3
 rw[e3] at p4
 rw[e1] at p2
 rw[e4]
 refine⟨⟨_,p5,rfl⟩,h _ p5 p3 p4 ⟨_,p1,rfl,rfl⟩ ⟨_,p2,rfl,rfl⟩ e5 fun c o x=>?_⟩
 exact YA _ (YA _ (YA _ (YA _ (YA _ x))))
theorem Lx (t:Addr)(ys:Array Value)(n:Nat)(dd:Option Addr)(sl:Array (Option Value)):Meets (Builtin.«enumerate.__new__» ⟨[.type "enumerate",.ref t],[]⟩) (fun _ R s=>s.heap.get? t=some { cls:=.type "list",dict:=dd,data:=.seq ys n,slots:=sl } ∧
  R (.ok (.ret (.ref (yH1 s.heap t).objs.size))) { s with heap:=(yH1 s.heap t).push { cls:=.type "enumerate",data:=.fields #[.none,.bool false,.ref s.heap.objs.size,rawInt 0,.none,.none] } }) :=
 .of_wp fun prog w A R s h=>by
  obtain⟨hp,g,d,tk,os⟩:=s
  obtain⟨hl,h⟩:=h
  have hsub:=sub_enumerate
  have hL:Heap.IsList (Shared.heap ⟨hp,g,d,tk,os⟩) t ys:=⟨_,hl,rfl,n,rfl⟩
  wp_walk using JB hl
  refine wpAny_stack_any fun st=>YQ ?_
  split
  ·rename_i c _ _ _ _ _
   cases (c == Value.type "enumerate")
   ·wp_walk using JB hl,GC hL
    exact⟨_,rfl,h⟩
   ·wp_walk using JB hl,GC hL
    exact⟨_,rfl,h⟩
  ·wp_walk using JB hl,GC hL
   exact⟨_,rfl,h⟩
theorem Jw {prog:Program}{w:World}{A:Around}{E:Value->Shared->Prop}{s:Shared}{t:Addr}{ys:Array Value}{Q:Value->Shared->Prop}(ht:s.heap.IsList t ys)
  (h:∀ h',IsEnum h' (s.heap.objs.size+1) s.heap.objs.size 0 .none->h'.IsListIter s.heap.objs.size t 0->h'.objs.size=s.heap.objs.size+2->(∀ b o,s.heap.get? b=some o->h'.get? b=some o)->Q (.ref (s.heap.objs.size+1)) { s with heap:=h' }) :
  wpAny (model prog w) A (call (.type "enumerate") [.ref t]) Q E s:=by
 obtain⟨⟨c,dd,dt,sl⟩,e,c1,n,d1⟩:=ht
 cases c1
 cases d1
 refine Y0J F.called_enumerate (by decide) (F.typeCall_enumerate_1 _) (F.newCall_enumerate_1 _) (fun obj=>F.args_object_init_2 obj _) F.entry_enumerate_new (Lx t ys n dd sl) ⟨e,?_⟩
 have hz:(yH1 s.heap t).objs.size=s.heap.objs.size+1:=XL ..
 show _/\_
 rw[hz]
 have he:IsEnum ((yH1 s.heap t).push { cls:=.type "enumerate",data:=.fields #[.none,.bool false,.ref s.heap.objs.size,rawInt 0,.none,.none] }) (s.heap.objs.size+1) s.heap.objs.size 0 .none:=by
  have q:=YO (yH1 s.heap t) (o:={ cls:=.type "enumerate",data:=.fields #[.none,.bool false,.ref s.heap.objs.size,rawInt 0,.none,.none] }) rfl
  rw[hz] at q
  exact q
 exact⟨⟨_,he,rfl⟩,h _ he ⟨_,YA _ (YO _ rfl),rfl,rfl⟩ (by rw[XL,hz]) fun b o x=>YA _ (YA _ x)⟩
end Sb
namespace Sb
open PySem PySem.Spec PyProof.Rows L2
section
variable {X:Cx}{pins:List (Addr × Obj)}{σ:L2.St}{H:Hp}{s:Shared}
theorem Ua {b t:Addr}{xs:List V}(I:Inv X pins σ H s)(hf:FpOk X pins H b)(h:SqL X.K H t xs):t≠b:=by
 rintro rfl
 rcases h with (h | ⟨o,h⟩) | ⟨o,its,n,h,_⟩
 ·rw[hf.1] at h;cases h
 ·rw[hf.1] at h;cases h
 ·have e:=I.ok.mod.kin _ _ h
  rcases hf.2.2.2.1 with z | z
  ·exact I.ok.noex _ _ e z
  ·exact absurd (YW (YH (I.ok.bs _ _ e).1) z) (XO _)
end
def ItzL (K:W.Frag)(t u:Addr):It :=
 ⟨fun i H=>∃ xs ys,SqL K H t xs/\SqL K H u ys/\i<xs.length/\i<ys.length,
   fun i H v H'=>∃ p x y,v=.ref p/\H p=none/\H'=upd H p (.tup [x,y])/\(∀ xs,SqL K H t xs->xs[i]?=some x)/\∀ ys,SqL K H u ys->ys[i]?=some y,
   fun i H=>∃ xs ys,SqL K H t xs/\SqL K H u ys/\i=xs.length⟩
theorem D9 {P:Program}{w:World}{K:W.Frag}{es:List Expr}{kk:Nat}{tp:Pos}{z TI TO i1 i2:Addr}(O:ZOff z TI TO i1 i2)(t u:Addr) :
  Turn P w K (.Tuple es kk tp) (ItzL K t u) [z,TI,TO,i1,i2] z (fun i h=>IsZip h z TI TO .none/\IsPair h TI (.ref i1) (.ref i2)/\(∃ a b,IsPair h TO a b)/\h.IsListIter i1 t i/\h.IsListIter i2 u i) where
 mem:=by simp
 obj:=fun i h ⟨hz,hTI,⟨a,b,hTO⟩,⟨o1,e1,_,d1⟩,⟨o2,e2,_,d2⟩⟩ b hb=>by
  simp only [YS,XG,GM] at hb
  rcases hb with rfl | rfl | rfl | rfl | rfl
  ·exact⟨_,hz,fun v q=>by have q':Data.fields _=Data.cell v:=q;cases q'⟩
  ·exact⟨_,hTI,fun v q=>by have q':Data.seq _ _=Data.cell v:=q;cases q'⟩
  ·exact⟨_,hTO,fun v q=>by have q':Data.seq _ _=Data.cell v:=q;cases q'⟩
  ·exact⟨_,e1,fun v q=>by rw[d1] at q;cases q⟩
  ·exact⟨_,e2,fun v q=>by rw[d2] at q;cases q⟩
 keep:=fun i h h' ⟨hz,hTI,⟨a,b,hTO⟩,⟨o1,e1,r1⟩,⟨o2,e2,r2⟩⟩ k=>⟨k z (by simp) _ hz,k TI (by simp) _ hTI,⟨a,b,k TO (by simp) _ hTO⟩,⟨o1,k i1 (by simp) _ e1,r1⟩,⟨o2,k i2 (by simp) _ e2,r2⟩⟩
 item:=by
  intro X hP hw hK hc i pins s σ H E I hf st hg
  subst hP hw hK
  obtain⟨xs,ys,hx,hy,lx,ly⟩:=hg
  obtain⟨hz,hTI,⟨a,b,hTO⟩,c1,c2⟩:=st
  obtain⟨u1,v1,p1',_⟩:=I.list hx
  have p1:=p1'.isList
  obtain⟨u2,v2,p2',_⟩:=I.list hy
  have p2:=p2'.isList
  have n1:=v1.length
  have n2:=v2.length
  have ne:∀ b∈[z,TI,TO,i1,i2],t≠b/\u≠b:=fun b hb=>⟨Ua I (hf b hb) hx,Ua I (hf b hb) hy⟩
  have off:∀ b∈[z,TI,TO,i1,i2],∀ x,(b,x) ∉ X.pn:=fun b hb x m=>(hf b hb).2.2.2.2.2 _ (YJ _ m) rfl
  have qI:∀ p∈X.pn,s.heap.get? p.1=some p.2:=fun p hp=>(I.pin p (YJ _ hp)).1
  have qO:∀ b∈[z,TI,TO,i1,i2],∀ p∈X.pn,p.1≠b:=fun b hb p hp=>(hf b hb).2.2.2.2.2 p (YJ _ hp)
  have D:Off z TI TO i1 i2 (i1::t::X.pn.map Prod.fst) (i2::u::X.pn.map Prod.fst):=⟨O.a1,O.a2,O.a3,O.a4,O.a5,O.a6,O.a7,O.a8,O.a9,O.b1,
   by simp[O.a3.symm,(ne z (by simp)).1.symm,off z (by simp)],by simp[O.a8,(ne TO (by simp)).1.symm,off TO (by simp)],by simp[O.b1.symm,(ne i2 (by simp)).1.symm,off i2 (by simp)],
   by simp[O.a4.symm,(ne z (by simp)).2.symm,off z (by simp)],by simp[O.a9,(ne TO (by simp)).2.symm,off TO (by simp)],by simp[O.b1,(ne i1 (by simp)).2.symm,off i1 (by simp)]⟩
  have D1:=Sb.Draws.listQ (prog:=X.prog) (w:=X.w) (A:=X.A.in1) (I.ok.hd hc) i1 t (ne i1 (by simp)).1 (qO i1 (by simp)) u1.toArray
  have D2:=Sb.Draws.listQ (prog:=X.prog) (w:=X.w) (A:=X.A.in1) (I.ok.hd hc) i2 u (ne i2 (by simp)).2 (qO i2 (by simp)) u2.toArray
  refine Sz D D1 D2 hz hTI hTO ⟨c1,p1,qI⟩ ⟨c2,p2,qI⟩ (by simp;omega) (by simp;omega) fun x y g tk px py z' to' s1 s2 pr sz kp=>?_
  refine⟨_,rfl,Y0m z' fun g2 z2 sb=>?_⟩
  obtain⟨x0,ex⟩:∃ x0,xs[i]?=some x0:=⟨xs[i],by simp[lx]⟩
  obtain⟨y0,ey⟩:∃ y0,ys[i]?=some y0:=⟨ys[i],by simp[ly]⟩
  obtain⟨x1,ex1,rx⟩:=v1.get ex
  obtain⟨y1,ey1,ry⟩:=v2.get ey
  have qx:x1=x:=by
   have:u1.toArray[i]?=some x:=px
   rw[GU,ex1] at this
   exact YK this
  have qy:y1=y:=by
   have:u2.toArray[i]?=some y:=py
   rw[GU,ey1] at this
   exact YK this
  subst qx qy
  have zlt:z<s.heap.objs.size:=YH hz
  have pz:s.heap.objs.size≠z:=qo zlt
  have sb2:∀ b,b≠z->g2.get? b=g.get? b:=fun b hb=>sb.2 b hb
  have keep:∀ b o,b ∉ [z,TI,TO,i1,i2]->s.heap.get? b=some o->g2.get? b=some o:=fun b o hb e=>by
   simp only [YS,XG,GM,Y14] at hb
   rw[sb2 b hb.1]
   exact kp b o hb.1 hb.2.2.1 hb.2.2.2.1 hb.2.2.2.2 e
  have new:ObjOk X.prog X.w (upd H s.heap.objs.size (.tup [x0,y0])) g2 s.heap.objs.size (.tup [x0,y0]) :=
   ⟨by show 2<=sizeLine;decide,[x1,y1],.cons rx (.cons ry .nil),⟨_,by rw[sb2 _ pz];exact pr,rfl,0,rfl⟩⟩
  have I2:=We (t':=tk) I hf keep (YE _) new
  have nn:∀ b∈[z,TI,TO,i1,i2],upd H s.heap.objs.size (.tup [x0,y0]) b=none:=fun b hb=>by
   have:b≠s.heap.objs.size:=by
    have ob:∃ o,s.heap.get? b=some o:=by
     simp only [YS,XG,GM] at hb
     obtain⟨o1,e1,_⟩:=c1
     obtain⟨o2,e2,_⟩:=c2
     rcases hb with rfl | rfl | rfl | rfl | rfl
     ·exact⟨_,hz⟩
     ·exact⟨_,hTI⟩
     ·exact⟨_,hTO⟩
     ·exact⟨_,e1⟩
     ·exact⟨_,e2⟩
    obtain⟨o,e⟩:=ob
    exact XA (YH e)
   rw[Zf this]
   exact (hf b hb).1
  refine⟨.ref s.heap.objs.size,_,I2,rfl,⟨_,x0,y0,rfl,I.fresh,rfl,fun xs' h1=>by rw[I.list_inj h1 hx];exact ex,fun ys' h2=>by rw[I.list_inj h2 hy];exact ey⟩,⟨z2,?_,⟨x1,y1,?_⟩,?_,?_⟩,nn⟩
  ·exact (sb2 TI O.a1).trans (kp _ _ O.a1 O.a5 O.a6 O.a7 hTI)
  ·exact (sb2 TO O.a2).trans to'
  ·exact s1.1.extBut sb.extBut O.a3
  ·exact s2.1.extBut sb.extBut O.a4
 done:=by
  intro X hP hw hK hc i pins s σ H E I hf st hg
  subst hP hw hK
  obtain⟨xs,ys,hx,hy,rfl⟩:=hg
  obtain⟨hz,hTI,⟨a,b,hTO⟩,c1,c2⟩:=st
  obtain⟨u1,v1,p1',_⟩:=I.list hx
  have p1:=p1'.isList
  have n1:=v1.length
  have ne:∀ b∈[z,TI,TO,i1,i2],t≠b/\u≠b:=fun b hb=>⟨Ua I (hf b hb) hx,Ua I (hf b hb) hy⟩
  have off:∀ b∈[z,TI,TO,i1,i2],∀ x,(b,x) ∉ X.pn:=fun b hb x m=>(hf b hb).2.2.2.2.2 _ (YJ _ m) rfl
  have qI:∀ p∈X.pn,s.heap.get? p.1=some p.2:=fun p hp=>(I.pin p (YJ _ hp)).1
  have qO:∀ b∈[z,TI,TO,i1,i2],∀ p∈X.pn,p.1≠b:=fun b hb p hp=>(hf b hb).2.2.2.2.2 p (YJ _ hp)
  have D:Off z TI TO i1 i2 (i1::t::X.pn.map Prod.fst) (i2::u::X.pn.map Prod.fst):=⟨O.a1,O.a2,O.a3,O.a4,O.a5,O.a6,O.a7,O.a8,O.a9,O.b1,
   by simp[O.a3.symm,(ne z (by simp)).1.symm,off z (by simp)],by simp[O.a8,(ne TO (by simp)).1.symm,off TO (by simp)],by simp[O.b1.symm,(ne i2 (by simp)).1.symm,off i2 (by simp)],
   by simp[O.a4.symm,(ne z (by simp)).2.symm,off z (by simp)],by simp[O.a9,(ne TO (by simp)).2.symm,off TO (by simp)],by simp[O.b1,(ne i1 (by simp)).2.symm,off i1 (by simp)]⟩
  have D1:=Sb.Draws.listQ (prog:=X.prog) (w:=X.w) (A:=X.A.in1) (I.ok.hd hc) i1 t (ne i1 (by simp)).1 (qO i1 (by simp)) u1.toArray
  have c1':s.heap.IsListIter i1 t u1.toArray.size:=by
   rw[YR,<-n1]
   exact c1
  refine Vx D D1 hz hTI ⟨c1',p1,qI⟩ fun g kp=>⟨rfl,?_⟩
  exact Ue (t':=s.toks) I hf fun b o hb e=>by
   simp only [YS,XG,GM,Y14] at hb
   exact kp b o hb.1 hb.2.2.2.1 e
 self:=fun _ _ _ _ _ st h=>jp st.1 h
section
variable {X:Cx}
def iZipL (K:W.Frag)(ta:TA):TI:=fun σ H R=>ta σ H fun vs H1=>∃ t u,vs=[.ref t,.ref u]/\(∃ xs,SqL K H1 t xs)/\(∃ ys,SqL K H1 u ys)/\R (ItzL K t u) H1
theorem Nx {a b:Expr}{ta:TA}{p pos:Pos}{es:List Expr}{kk:Nat}{tp:Pos}(hg:Gl X "zip")(hm:X.mg "zip"=none)(ha:PA X [a,b] ta)(hs:starEach [a,b] X.env=[(false,eval a X.env),(false,eval b X.env)]:=by rfl)
  (hs2:starEach [b] X.env=[(false,eval b X.env)]:=by rfl):PI X (.Tuple es kk tp) (.Call (.Name "zip" p) [a,b] [] pos) (iZipL X.K ta):=by
 intro pins s σ H R I h
 refine Call_ (W3 I hg hm boot_zip (XR (thn (ha pos pins s σ H _ I h) fun us s1 ⟨vs,H1,I1,r1,q1⟩=>?_) (by rw[hs,hs2]) (by rw[hs2];rfl)))
 obtain⟨t,u,e,⟨xs,hx⟩,⟨ys,hy⟩,q⟩:=q1
 subst e
 obtain⟨t0,u0,e0,rt,ru⟩:=Mt r1
 cases (show t0=Value.ref t from rt)
 cases (show u0=Value.ref u from ru)
 subst e0
 obtain⟨u1,v1,p1',_⟩:=I1.list hx
 have p1:=p1'.isList
 obtain⟨u2,v2,p2',_⟩:=I1.list hy
 have p2:=p2'.isList
 refine Cy (xs:=u1.toArray) (ys:=u2.toArray) p1 p2 fun g z0 ti to i1 i2 sz kp=>?_
 refine jp z0 ?_
 have I2:Inv X pins σ H1 { s1 with heap:=g }:=I1.kept (t':=s1.toks) kp
 refine⟨s1.heap.objs.size+4,[s1.heap.objs.size+4,s1.heap.objs.size+2,s1.heap.objs.size+3,s1.heap.objs.size,s1.heap.objs.size+1],_,ItzL X.K t u,H1,rfl,I2,D9 (O:=?_) t u,⟨z0,ti,⟨_,_,to⟩,i1,i2⟩,fun b hb=>?_,q⟩
 ·refine⟨?_,?_,?_,?_,?_,?_,?_,?_,?_,?_⟩ <;> (show @Ne Nat _ _;omega)
 ·have hb':s1.heap.objs.size<=b:=by
   simp only [YS,XG,GM] at hb
   rcases hb with rfl | rfl | rfl | rfl | rfl
   ·exact GB _ _
   ·exact GB _ _
   ·exact GB _ _
   ·exact YE _
   ·exact GB _ _
  exact I1.fpOk hb' (I1.hok.fresh hb')
end
def IteL (K:W.Frag)(t:Addr):It :=
 ⟨fun i H=>∃ xs,SqL K H t xs/\i<xs.length,
   fun i H v H'=>∃ p x,v=.ref p/\H p=none/\H'=upd H p (.tup [.int (i:Int),x])/\∀ xs,SqL K H t xs->xs[i]?=some x,
   fun i H=>∃ xs,SqL K H t xs/\i=xs.length⟩
theorem Kp {P:Program}{w:World}{K:W.Frag}{es:List Expr}{kk:Nat}{tp:Pos}{e it:Addr}(O:e≠it)(t:Addr) :
  Turn P w K (.Tuple es kk tp) (IteL K t) [e,it] e (fun i h=>(∃ old,IsEnum h e it (i:Int) old)/\h.IsListIter it t i) where
 mem:=by simp
 obj:=fun i h ⟨⟨old,he⟩,⟨o1,e1,_,d1⟩⟩ b hb=>by
  simp only [YS,XG,GM] at hb
  rcases hb with rfl | rfl
  ·exact⟨_,he,fun v q=>by have q':Data.fields _=Data.cell v:=q;cases q'⟩
  ·exact⟨_,e1,fun v q=>by rw[d1] at q;cases q⟩
 keep:=fun i h h' ⟨⟨old,he⟩,⟨o1,e1,r1⟩⟩ k=>⟨⟨old,k e (by simp) _ he⟩,⟨o1,k it (by simp) _ e1,r1⟩⟩
 item:=by
  intro X hP hw hK hc i pins s σ H E I hf st hg
  subst hP hw hK
  obtain⟨xs,hx,lx⟩:=hg
  obtain⟨⟨old,he⟩,c1⟩:=st
  obtain⟨u1,v1,p1',_⟩:=I.list hx
  have p1:=p1'.isList
  have n1:=v1.length
  have ne:∀ b∈[e,it],t≠b:=fun b hb=>Ua I (hf b hb) hx
  have off:∀ b∈[e,it],∀ x,(b,x) ∉ X.pn:=fun b hb x m=>(hf b hb).2.2.2.2.2 _ (YJ _ m) rfl
  have qI:∀ p∈X.pn,s.heap.get? p.1=some p.2:=fun p hp=>(I.pin p (YJ _ hp)).1
  have qO:∀ b∈[e,it],∀ p∈X.pn,p.1≠b:=fun b hb p hp=>(hf b hb).2.2.2.2.2 p (YJ _ hp)
  have D1:=Sb.Draws.listQ (prog:=X.prog) (w:=X.w) (A:=X.A.in1) (I.ok.hd hc) it t (ne it (by simp)) (qO it (by simp)) u1.toArray
  refine wpAny_pyNext_enum_itemD D1 he ⟨c1,p1,qI⟩ (by simp;omega) O (by simp[O,(ne e (by simp)).symm,off e (by simp)]) fun x g tk px out s1 pr sz kp=>?_
  refine⟨_,rfl,Y0i out fun g2 z2 sb=>?_⟩
  obtain⟨x0,ex⟩:∃ x0,xs[i]?=some x0:=⟨xs[i],by simp[lx]⟩
  obtain⟨x1,ex1,rx⟩:=v1.get ex
  have qx:x1=x:=by
   have:u1.toArray[i]?=some x:=px
   rw[GU,ex1] at this
   exact YK this
  subst qx
  have elt:e<s.heap.objs.size:=YH he
  have pe:s.heap.objs.size≠e:=qo elt
  have sb2:∀ b,b≠e->g2.get? b=g.get? b:=fun b hb=>sb.2 b hb
  have keep:∀ b o,b ∉ [e,it]->s.heap.get? b=some o->g2.get? b=some o:=fun b o hb q=>by
   simp only [YS,XG,GM,Y14] at hb
   rw[sb2 b hb.1]
   exact kp b o hb.1 hb.2 q
  have new:ObjOk X.prog X.w (upd H s.heap.objs.size (.tup [.int (i:Int),x0])) g2 s.heap.objs.size (.tup [.int (i:Int),x0]) :=
   ⟨by show 2<=sizeLine;decide,[.int (i:Int) tk,x1],.cons ⟨tk,rfl⟩ (.cons rx .nil),⟨_,by rw[sb2 _ pe];exact pr,rfl,0,rfl⟩⟩
  have I2:=We (t':=tk+1) I hf keep (YE _) new
  have nn:∀ b∈[e,it],upd H s.heap.objs.size (.tup [.int (i:Int),x0]) b=none:=fun b hb=>by
   have:b≠s.heap.objs.size:=by
    have ob:∃ o,s.heap.get? b=some o:=by
     simp only [YS,XG,GM] at hb
     obtain⟨o1,e1,_⟩:=c1
     rcases hb with rfl | rfl
     ·exact⟨_,he⟩
     ·exact⟨_,e1⟩
    obtain⟨o,q⟩:=ob
    exact XA (YH q)
   rw[Zf this]
   exact (hf b hb).1
  refine⟨.ref s.heap.objs.size,_,I2,rfl,⟨_,x0,rfl,I.fresh,rfl,fun xs' h1=>by rw[I.list_inj h1 hx];exact ex⟩,⟨⟨x1,?_⟩,?_⟩,nn⟩
  ·exact z2
  ·exact s1.1.extBut sb.extBut O.symm
 done:=by
  intro X hP hw hK hc i pins s σ H E I hf st hg
  subst hP hw hK
  obtain⟨xs,hx,rfl⟩:=hg
  obtain⟨⟨old,he⟩,c1⟩:=st
  obtain⟨u1,v1,p1',_⟩:=I.list hx
  have p1:=p1'.isList
  have n1:=v1.length
  have ne:∀ b∈[e,it],t≠b:=fun b hb=>Ua I (hf b hb) hx
  have off:∀ b∈[e,it],∀ x,(b,x) ∉ X.pn:=fun b hb x m=>(hf b hb).2.2.2.2.2 _ (YJ _ m) rfl
  have qI:∀ p∈X.pn,s.heap.get? p.1=some p.2:=fun p hp=>(I.pin p (YJ _ hp)).1
  have qO:∀ b∈[e,it],∀ p∈X.pn,p.1≠b:=fun b hb p hp=>(hf b hb).2.2.2.2.2 p (YJ _ hp)
  have D1:=Sb.Draws.listQ (prog:=X.prog) (w:=X.w) (A:=X.A.in1) (I.ok.hd hc) it t (ne it (by simp)) (qO it (by simp)) u1.toArray
  have c1':s.heap.IsListIter it t u1.toArray.size:=by
   rw[YR,<-n1]
   exact c1
  refine wpAny_pyNext_enum_endD D1 he ⟨c1',p1,qI⟩ fun g kp=>⟨rfl,?_⟩
  exact Ue (t':=s.toks) I hf fun b o hb q=>by
   simp only [YS,XG,GM,Y14] at hb
   exact kp b o hb.2 q
 self:=fun _ _ _ _ _ st h=>by
  obtain⟨⟨old,he⟩,_⟩:=st
  exact jc he h
section
variable {X:Cx}
def iEnumL (K:W.Frag)(ta:TA):TI:=fun σ H R=>ta σ H fun vs H1=>∃ t,vs=[.ref t]/\(∃ xs,SqL K H1 t xs)/\R (IteL K t) H1
theorem Qn {a:Expr}{ta:TA}{p pos:Pos}{es:List Expr}{kk:Nat}{tp:Pos}(hg:Gl X "enumerate")(hm:X.mg "enumerate"=none)(ha:PA X [a] ta)(hs:starEach [a] X.env=[(false,eval a X.env)]:=by rfl) :
  PI X (.Tuple es kk tp) (.Call (.Name "enumerate" p) [a] [] pos) (iEnumL X.K ta):=by
 intro pins s σ H R I h
 refine Call_ (W3 I hg hm boot_enumerate (XR (thn (ha pos pins s σ H _ I h) fun us s1 ⟨vs,H1,I1,r1,q1⟩=>?_) hs rfl))
 obtain⟨t,e,⟨xs,hx⟩,q⟩:=q1
 subst e
 obtain⟨t0,e0,rt⟩:=Ta r1
 cases (show t0=Value.ref t from rt)
 subst e0
 obtain⟨u1,v1,p1',_⟩:=I1.list hx
 have p1:=p1'.isList
 refine Jw (ys:=u1.toArray) p1 fun g z0 i1 sz kp=>?_
 refine jc z0 ?_
 have I2:Inv X pins σ H1 { s1 with heap:=g }:=I1.kept (t':=s1.toks) kp
 refine⟨s1.heap.objs.size+1,[s1.heap.objs.size+1,s1.heap.objs.size],_,IteL X.K t,H1,rfl,I2,Kp (O:=?_) t,⟨⟨_,z0⟩,i1⟩,fun b hb=>?_,q⟩
 ·show @Ne Nat _ _
  omega
 ·have hb':s1.heap.objs.size<=b:=by
   simp only [YS,XG,GM] at hb
   rcases hb with rfl | rfl
   ·exact GB _ _
   ·exact YE _
  exact I1.fpOk hb' (I1.hok.fresh hb')
end
end Sb
namespace Sv
def sm:Nat->(Nat->Int)->Int
 | 0,_=>0
 | n+1,f=>sm n f+f n
theorem Y5 {n:Nat}{f g:Nat->Int}(h:∀ i,i<n->f i=g i):sm n f=sm n g:=by
 induction n with
 | zero=>rfl
 | succ n ih =>
  show sm n f+f n=sm n g+g n
  rw[ih fun i hi=>h i (by omega),h n (by omega)]
theorem Xm (n:Nat)(f g:Nat->Int):sm n (fun i=>f i+g i)=sm n f+sm n g:=by
 induction n with
 | zero=>rfl
 | succ n ih=>show sm n _+(f n+g n)=(sm n f+f n)+(sm n g+g n);rw[ih];omega
theorem Yw (a:Int)(n:Nat)(f:Nat->Int):sm n (fun i=>a*f i)=a*sm n f:=by
 induction n with
 | zero=>show (0:Int)=a*0;simp
 | succ n ih=>show sm n _+_=a*(sm n f+f n);rw[ih,Y19]
theorem sm_zero {n:Nat}{f:Nat->Int}(h:∀ i,i<n->f i=0):sm n f=0:=by
 induction n with
 | zero=>rfl
 | succ n ih=>show sm n f+f n=0;rw[ih fun i hi=>h i (by omega),h n (by omega)];rfl
theorem Y3 {n k:Nat}{f:Nat->Int}(hk:k<n):sm n f=f k+sm n (fun i=>if i=k then 0 else f i):=by
 induction n with
 | zero=>omega
 | succ n ih =>
  show sm n f+f n=f k+(sm n (fun i=>if i=k then 0 else f i)+if n=k then 0 else f n)
  by_cases e:n=k
  ·subst e
   rw[YM rfl,Y5 (f:=fun i=>if i=n then 0 else f i) (g:=f) fun i hi=>YF (by omega)]
   omega
  ·rw[YF e,ih (by omega)]
   omega
theorem sm_one {n k:Nat}{f:Nat->Int}(hk:k<n)(h:∀ i,i<n->i≠k->f i=0):sm n f=f k:=by
 rw[Y3 hk,sm_zero fun i hi=>?_]
 ·omega
 ·by_cases e:i=k
  ·rw[YM e]
  ·rw[YF e];exact h i hi e
theorem Bm {n p q:Nat}{f:Nat->Int}(hp:p<n)(hq:q<n)(hpq:p≠q)(h:∀ i,i<n->i≠p->i≠q->f i=0):sm n f=f p+f q:=by
 rw[Y3 hp,sm_one (k:=q) hq fun i hi hne=>?_]
 ·rw[YF (XN hpq)]
 ·by_cases e:i=p
  ·rw[YM e]
  ·rw[YF e];exact h i hi e hne
theorem Y4 {n:Nat}{f:Nat->Int}(h:∀ i,i<n->0<=f i):0<=sm n f:=by
 induction n with
 | zero=>exact Y1a _
 | succ n ih =>
  show 0<=sm n f+f n
  have:=ih fun i hi=>h i (by omega)
  have:=h n (by omega)
  omega
theorem U0 {n:Nat}{f g:Nat->Int}(h:∀ i,i<n->f i<=g i):sm n f<=sm n g:=by
 induction n with
 | zero=>exact Y1a _
 | succ n ih =>
  show sm n f+f n<=sm n g+g n
  have:=ih fun i hi=>h i (by omega)
  have:=h n (by omega)
  omega
theorem Kt {n:Nat}{f:Nat->Int}(h:0<sm n f):∃ i,i<n/\0<f i:=by
 apply YU
 intro hn
 have:sm n f<=sm n (fun _=>0):=U0 fun i hi=>by
  have:¬ 0<f i:=fun z=>hn ⟨i,hi,z⟩
  omega
 rw[sm_zero (f:=fun _=>0) fun _ _=>rfl] at this
 omega
theorem Ku (n m:Nat)(f:Nat->Int):sm (n+m) f=sm n f+sm m (fun i=>f (n+i)):=by
 induction m with
 | zero=>show sm n f=sm n f+0;omega
 | succ m ih =>
  show sm (n+m) f+f (n+m)=sm n f+(sm m (fun i=>f (n+i))+f (n+m))
  rw[ih]
  omega
abbrev Vec:=Nat->Int
abbrev Mat:=Nat->Vec
def skip (k i:Nat):Nat:=if i<k then i else i+1
def sgn:Nat->Int
 | 0=>1
 | n+1=>- sgn n
def minor (v:Mat)(k:Nat):Mat:=fun i r=>v (skip k i) (r+1)
def det:Nat->Mat->Int
 | 0,_=>1
 | m+1,v=>sm (m+1) (fun k=>sgn k*v k 0*det m (minor v k))
def put (v:Mat)(c:Nat)(x:Vec):Mat:=fun i=>if i=c then x else v i
theorem Yi (v:Mat)(c:Nat)(x:Vec):put v c x c=x:=YM rfl
theorem Y8 {v:Mat}{c i:Nat}{x:Vec}(h:i≠c):put v c x i=v i:=YF h
theorem U6 (v:Mat)(c:Nat):put v c (v c)=v:=by
 funext i
 by_cases e:i=c
 ·subst e;exact Yi ..
 ·exact Y8 e
theorem Xt {v:Mat}{c d:Nat}{x y:Vec}(h:c≠d):put (put v c x) d y=put (put v d y) c x:=by
 funext i
 by_cases e:i=c
 ·subst e;rw[Y8 h,Yi,Yi]
 ·by_cases e':i=d
  ·subst e';rw[Yi,Y8 e,Yi]
  ·rw[Y8 e',Y8 e,Y8 e,Y8 e']
theorem Xh:∀ {m:Nat} {v w:Mat},(∀ k r,k<m->r<m->v k r=w k r)->det m v=det m w
 | 0,_,_,_=>rfl
 | m+1,v,w,h=>by
  refine Y5 fun k hk=>?_
  rw[h k 0 hk (by omega),Xh (m:=m) (v:=minor v k) (w:=minor w k) fun i r hi hr=>?_]
  exact h _ _ (by unfold skip;split <;> omega) (by omega)
def unskip (k c:Nat):Nat:=if c<k then c else c - 1
theorem Uy (v:Mat)(c:Nat)(z:Vec):minor (put v c z) c=minor v c:=by
 funext i r
 show put v c z (skip c i) (r+1)=v (skip c i) (r+1)
 rw[Y8 (by unfold skip;split <;> omega)]
theorem Sh {v:Mat}{k c:Nat}{z:Vec}(h:k≠c):minor (put v c z) k=put (minor v k) (unskip k c) (fun r=>z (r+1)):=by
 funext i r
 show put v c z (skip k i) (r+1)=_
 by_cases e:skip k i=c
 ·have e':i=unskip k c:=by
   unfold skip at e
   unfold unskip
   split at e <;> split <;> omega
  rw[e,e',Yi,Yi]
 ·have e':i≠unskip k c:=by
   unfold skip at e
   unfold unskip
   split at e <;> split <;> omega
  rw[Y8 e,Y8 e']
  rfl
theorem Tw:∀ {m:Nat} {v:Mat} {c:Nat} {a b:Int} {x y:Vec},c<m->det m (put v c (fun r=>a*x r+b*y r))=a*det m (put v c x)+b*det m (put v c y)
 | 0,_,_,_,_,_,_,h=>by omega
 | m+1,v,c,a,b,x,y,h=>by
  show sm (m+1) _=a*sm (m+1) _+b*sm (m+1) _
  rw[<-Yw,<-Yw,<-Xm]
  refine Y5 fun k hk=>?_
  by_cases e:k=c
  ·subst e
   rw[Uy,Uy,Uy,Yi,Yi,Yi]
   grind
  ·rw[Sh e,Sh e,Sh e,Y8 e,Y8 e,Y8 e]
   have:=Tw (m:=m) (v:=minor v k) (c:=unskip k c) (a:=a) (b:=b) (x:=fun r=>x (r+1)) (y:=fun r=>y (r+1)) (by unfold unskip;split <;> omega)
   rw[this]
   grind
theorem Kd {m:Nat}{v:Mat}{c:Nat}(h:c<m):det m (put v c (fun _=>0))=0:=by
 have:=Tw (m:=m) (v:=v) (c:=c) (a:=0) (b:=0) (x:=fun _=>0) (y:=fun _=>0) h
 simpa using this
theorem Tv {m:Nat}{v:Mat}{c:Nat}(h:c<m)(a:Nat->Int)(u:Nat->Vec):∀ n,det m (put v c (fun r=>sm n (fun k=>a k*u k r)))=sm n (fun k=>a k*det m (put v c (u k)))
 | 0=>Kd h
 | n+1=>by
  have:=Tw (m:=m) (v:=v) (c:=c) (a:=1) (b:=a n) (x:=fun r=>sm n (fun k=>a k*u k r)) (y:=u n) h
  show _=sm n (fun k=>a k*det m (put v c (u k)))+a n*det m (put v c (u n))
  rw[<-Tv h a u n]
  rw[GR] at this
  rw[<-this]
  congr 2
  funext r
  show sm n _+_=_
  rw[GR]
theorem Ke {m:Nat}{v:Mat}{c:Nat}(h:c<m)(a:Int)(x:Vec):det m (put v c (fun r=>a*x r))=a*det m (put v c x):=by
 have:=Tw (m:=m) (v:=v) (c:=c) (a:=a) (b:=0) (x:=x) (y:=x) h
 simpa using this
theorem Mm {m:Nat}{v:Mat}{c:Nat}(h:c<m)(x y:Vec):det m (put v c (fun r=>x r+y r))=det m (put v c x)+det m (put v c y):=by
 have:=Tw (m:=m) (v:=v) (c:=c) (a:=1) (b:=1) (x:=x) (y:=y) h
 simpa using this
theorem Rz:∀ {m:Nat} {v:Mat} {p:Nat},p+1<m->v p=v (p+1)->det m v=0
 | 0,_,_,h,_=>by omega
 | m+1,v,p,h,e=>by
  show sm (m+1) _=0
  rw[Bm (p:=p) (q:=p+1) (by omega) h (by omega) fun k hk h1 h2=>?_]
  ·have e2:minor v p=minor v (p+1):=by
    funext i r
    show v (skip p i) (r+1)=v (skip (p+1) i) (r+1)
    by_cases q:i=p
    ·have a1:skip p i=p+1:=by unfold skip;split <;> omega
     have a2:skip (p+1) i=p:=by unfold skip;split <;> omega
     rw[a1,a2,e]
    ·have a1:skip p i=skip (p+1) i:=by unfold skip;split <;> split <;> omega
     rw[a1]
   rw[e2,e]
   show sgn p*_*_ + -sgn p*_*_=0
   grind
  ·have:det m (minor v k)=0:=by
    by_cases q:k<p
    ·refine Rz (p:=p - 1) (by omega) ?_
     funext r
     show v (skip k (p - 1)) (r+1)=v (skip k (p - 1+1)) (r+1)
     have a1:skip k (p - 1)=p:=by unfold skip;split <;> omega
     have a2:skip k (p - 1+1)=p+1:=by unfold skip;split <;> omega
     rw[a1,a2,e]
    ·refine Rz (p:=p) (by omega) ?_
     funext r
     show v (skip k p) (r+1)=v (skip k (p+1)) (r+1)
     have a1:skip k p=p:=by unfold skip;split <;> omega
     have a2:skip k (p+1)=p+1:=by unfold skip;split <;> omega
     rw[a1,a2,e]
   rw[this,GN]
theorem Kf {m:Nat}{v:Mat}{p q:Nat}(hp:p<m)(hq:q<m)(hpq:p≠q)(h0:∀ z:Vec,det m (put (put v p z) q z)=0)(x y:Vec):det m (put (put v p x) q y)=- det m (put (put v p y) q x):=by
 have e:=h0 (fun r=>x r+y r)
 rw[Mm hq,Xt hpq,Mm hp,Xt (c:=p) hpq,Mm hp] at e
 rw[Xt (XN hpq),Xt (XN hpq),Xt (XN hpq),Xt (XN hpq),h0 x,h0 y] at e
 omega
theorem Mj:∀ (d:Nat) {m:Nat} {v:Mat} {p q:Nat},q=p+1+d->q<m->v p=v q->det m v=0
 | 0,m,v,p,q,h,hq,e=>Rz (p:=p) (by omega) (by rw[e,h])
 | d+1,m,v,p,q,h,hq,e=>by
  have hz:∀ z:Vec,det m (put (put v (q - 1) z) q z)=0:=fun z=>by
   refine Rz (p:=q - 1) (by omega) ?_
   have a:q - 1+1=q:=by omega
   rw[a,Yi,Y8 (by omega),Yi]
  have s:=Kf (m:=m) (v:=v) (p:=q - 1) (q:=q) (by omega) hq (by omega) hz (v (q - 1)) (v q)
  rw[U6,U6] at s
  have:det m (put (put v (q - 1) (v q)) q (v (q - 1)))=0:=by
   refine Mj d (p:=p) (q:=q - 1) (by omega) (by omega) ?_
   rw[Y8 (by omega),Y8 (by omega),Y8 (by omega),Yi,e]
  rw[s,this]
  rfl
theorem Pg {m:Nat}{v:Mat}{p q:Nat}(hp:p<m)(hq:q<m)(hpq:p≠q)(e:v p=v q):det m v=0:=by
 by_cases h:p<q
 ·exact Mj (q - p - 1) (p:=p) (q:=q) (by omega) hq e
 ·exact Mj (p - q - 1) (p:=q) (q:=p) (by omega) hp e.symm
theorem Z2d {m:Nat}{v:Mat}{p q:Nat}(hp:p<m)(hq:q<m)(hpq:p≠q)(x y:Vec):det m (put (put v p x) q y)=- det m (put (put v p y) q x) :=
 Kf hp hq hpq (fun z=>Pg hp hq hpq (by rw[Y8 hpq,Yi,Yi])) x y
def idm:Mat:=fun k r=>if k=r then 1 else 0
theorem Z2f:∀ m:Nat,det m idm=1
 | 0=>rfl
 | m+1=>by
  show sm (m+1) _=1
  rw[sm_one (k:=0) (by omega) fun k hk h=>?_]
  ·have e:minor idm 0=idm:=by
    funext i r
    show (if skip 0 i=r+1 then (1:Int) else 0)=if i=r then 1 else 0
    have:skip 0 i=i+1:=by unfold skip;split <;> omega
    rw[this]
    by_cases q:i=r
    ·rw[YM q,YM (by omega)]
    ·rw[YF q,YF (by omega)]
   rw[e,Z2f m]
   show (1:Int)*(if (0:Nat)=0 then 1 else 0)*1=1
   rfl
  ·show sgn k*(if k=0 then 1 else 0)*_=0
   rw[YF h]
   simp
theorem G3:∀ k,(sgn k).natAbs=1
 | 0=>rfl
 | k+1=>by show (-sgn k).natAbs=1;rw[Y0S];exact G3 k
end Sv
namespace Sb
theorem Mi {a b c:Int}(h:a ∣ b*c)(g:Int.gcd a b=1):a ∣ c:=by
 have h1:a.natAbs ∣ b.natAbs*c.natAbs:=by
  rw[<-qg]
  exact GV.mpr h
 exact GV.mp (Nat.Coprime.dvd_of_dvd_mul_left g h1)
theorem Wj {r s:Rat}(hr:0<r.2)(hs:0<s.2)(cr:Int.gcd r.1 r.2=1)(cs:Int.gcd s.1 s.2=1)(h:r.1*s.2=s.1*r.2):r=s:=by
 have d1:r.2 ∣ s.2:=by
  have:r.2 ∣ r.1*s.2:=⟨s.1,by rw[h,XF]⟩
  exact Mi this (by rw[zl];exact cr)
 have d2:s.2 ∣ r.2:=by
  have:s.2 ∣ s.1*r.2:=⟨r.1,by rw[<-h,XF]⟩
  exact Mi this (by rw[zl];exact cs)
 have e:r.2=s.2:=Int.dvd_antisymm (by omega) (by omega) d1 d2
 have e1:r.1=s.1:=by
  rw[e] at h
  exact zC (by omega) h
 obtain⟨a,b⟩:=r
 obtain⟨c,d⟩:=s
 simp only at e e1
 rw[e,e1]
theorem Pf {r:Rat}{D W:Int}(hr:0<r.2)(cr:Int.gcd r.1 r.2=1)(h:r.1*D=W*r.2):r.2 ∣ D :=
 Mi (show r.2 ∣ r.1*D from ⟨W,by rw[h,XF]⟩) (by rw[zl];exact cr)
theorem Xb {a b:Int}(hb:0<b)(h:a ∣ b):a.natAbs<=b.natAbs:=by
 have:=GV.mpr h
 exact Nat.le_of_dvd (by omega) this
theorem Z06 {r:Rat}{D W:Int}(hD:0<D)(hr:0<r.2)(cr:Int.gcd r.1 r.2=1)(h:r.1*D=W*r.2):r.1.natAbs<=W.natAbs/\r.2.natAbs<=D.natAbs:=by
 have d:=Pf hr cr h
 refine⟨?_,Xb hD d⟩
 obtain⟨k,e⟩:=d
 have:W=r.1*k:=by
  rw[e] at h
  have:(r.1*k)*r.2=W*r.2:=by rw[<-h];rw[JL,XF k]
  exact (zC (by omega) this).symm
 rw[this,qg]
 refine zS _ ?_
 have:k≠0:=by
  intro z
  rw[z] at e
  simp at e
  omega
 omega
theorem Wz {n:Nat}{r:Rat}{D W:Int}(hD:0<D)(hr:0<r.2)(cr:Int.gcd r.1 r.2=1)(h:r.1*D=W*r.2)(bD:Bd n D)(bW:Bd n W):Good n r :=
 ⟨bW.of_le' (Z06 hD hr cr h).1,bD.of_le' (Z06 hD hr cr h).2,hr,cr⟩
theorem Nu {p q:Int}(_:q≠0):(nrm p q).1*q=p*(nrm p q).2:=Xd p q
theorem Z2v {r s:Rat}{D1 D2 W1 W2:Int}(hr:0<r.2)(hs:0<s.2)(h1:r.1*D1=W1*r.2)(h2:s.1*D2=W2*s.2):(mulR' r s).1*(D1*D2)=(W1*W2)*(mulR' r s).2:=by
 have h3:(mulR' r s).1*(r.2*s.2)=(r.1*s.1)*(mulR' r s).2:=Xd _ _
 generalize mulR' r s=m at *
 have:(r.2*s.2)*(m.1*(D1*D2))=(r.2*s.2)*(W1*W2*m.2):=by grind
 exact JM (W0 hr hs) this
theorem Nv {r s:Rat}{D W1 W2:Int}(hr:0<r.2)(hs:0<s.2)(h1:r.1*D=W1*r.2)(h2:s.1*D=W2*s.2):(addR r s).1*D=(W1+W2)*(addR r s).2:=by
 have h3:(addR r s).1*(r.2*s.2)=(r.1*s.2+s.1*r.2)*(addR r s).2:=Xd _ _
 generalize addR r s=m at *
 have:(r.2*s.2)*(m.1*D)=(r.2*s.2)*((W1+W2)*m.2):=by grind
 exact JM (W0 hr hs) this
theorem Rk {r s:Rat}{D W1 W2:Int}(hr:0<r.2)(hs:0<s.2)(h1:r.1*D=W1*r.2)(h2:s.1*D=W2*s.2):(subR r s).1*D=(W1 - W2)*(subR r s).2:=by
 have h3:(subR r s).1*(r.2*s.2)=(r.1*s.2 - s.1*r.2)*(subR r s).2:=Xd _ _
 generalize subR r s=m at *
 have:(r.2*s.2)*(m.1*D)=(r.2*s.2)*((W1 - W2)*m.2):=by grind
 exact JM (W0 hr hs) this
structure Low (r:Rat):Prop where
 pos:0<r.2
 cop:Int.gcd r.1 r.2=1
theorem Good.low {n:Nat}{r:Rat}(h:Good n r):Low r:=⟨h.pos,h.cop⟩
theorem Yu {p q:Int}(h:q≠0):Low (nrm p q):=⟨M5 h,Z1i h⟩
theorem Ww {r s:Rat}(hr:Low r)(hs:Low s):Low (addR r s):=Yu (W0 hr.pos hs.pos)
theorem To {r s:Rat}(hr:Low r)(hs:Low s):Low (subR r s):=Yu (W0 hr.pos hs.pos)
theorem Tp {r s:Rat}(hr:Low r)(hs:Low s):Low (mulR' r s):=Yu (W0 hr.pos hs.pos)
theorem R0:Low (0,1):=⟨by decide,by decide⟩
theorem Ly:Low (1,1):=⟨by decide,by decide⟩
structure RepL (n:Nat)(D:Int)(Ws:List Int)(rs:List Rat):Prop where
 pos:0<D
 bD:Bd n D
 len:Ws.length=rs.length
 at_:∀ (i:Nat) (W:Int) (r:Rat),Ws[i]?=some W->rs[i]?=some r->r.1*D=W*r.2/\Bd n W/\Low r
theorem RepL.good {n:Nat}{D:Int}{Ws:List Int}{rs:List Rat}(h:RepL n D Ws rs):∀ r∈rs,Good n r:=fun r hr=>by
 obtain⟨i,hi⟩:=XB hr
 have hl:i<rs.length:=(YG.mp hi).1
 have hw:i<Ws.length:=by rw[h.len];exact hl
 obtain⟨e,b,l⟩:=h.at_ i Ws[i] r (by simp[hw]) hi
 exact Wz h.pos l.pos l.cop e h.bD b
def lcm1 (l b:Int):Int:=(l*b).fdiv (Int.gcd l b)
theorem N9 {l b:Int}(hl:0<l)(hb:0<b):0<lcm1 l b/\l ∣ lcm1 l b/\b ∣ lcm1 l b/\∀ D,l ∣ D->b ∣ D->lcm1 l b ∣ D:=by
 have hg:0<(Int.gcd l b:Int):=by
  have:=Y05 b (show l≠0 by omega)
  omega
 obtain⟨x,ex⟩:=Y0C (a:=l) (b:=b)
 obtain⟨y,ey⟩:=jb (a:=l) (b:=b)
 have e1:lcm1 l b=x*b:=by
  unfold lcm1
  have:l*b=(x*b)*(Int.gcd l b:Int):=by
   conv=>lhs;rw[ex]
   rw[XF (Int.gcd l b:Int),JL,XF (Int.gcd l b:Int),<-JL]
  rw[this,Y01 _ (by omega)]
 have e2:lcm1 l b=l*y:=by
  unfold lcm1
  have:l*b=(l*y)*(Int.gcd l b:Int):=by
   conv=>lhs;rw[ey]
   rw[XF (Int.gcd l b:Int),JL]
  rw[this,Y01 _ (by omega)]
 have hx:0<x:=by
  apply YU
  intro z
  have:(Int.gcd l b:Int)*x<=0:=Int.mul_nonpos_of_nonneg_of_nonpos (by omega) (by omega)
  omega
 refine⟨by rw[e1];exact YY hx hb,⟨y,e2⟩,⟨x,by rw[e1,XF]⟩,fun D h1 h2=>?_⟩
 have:(lcm1 l b).natAbs ∣ D.natAbs:=by
  have e3:(lcm1 l b).natAbs=Nat.lcm l.natAbs b.natAbs:=by
   unfold Nat.lcm
   have g:Nat.gcd l.natAbs b.natAbs=Int.gcd l b:=rfl
   rw[g]
   have e4:(lcm1 l b).natAbs*Int.gcd l b=l.natAbs*b.natAbs:=by
    rw[<-qg,e1]
    have:((x*b).natAbs)*Int.gcd l b=(x*b*(Int.gcd l b:Int)).natAbs:=by
     rw[qg (x*b)]
     rfl
    rw[this]
    congr 1
    conv=>rhs;rw[ex]
    rw[JL,XF b,<-JL,XF x]
   rw[<-e4]
   exact (Nat.mul_div_cancel _ (by omega)).symm
  rw[e3]
  exact Nat.lcm_dvd (GV.mpr h1) (GV.mpr h2)
 exact GV.mp this
def lcmB (rs:List Rat):Int:=rs.foldl (fun l r=>lcm1 l r.2) 1
theorem Ch (rs:List Rat)(r:Rat):lcmB (rs++[r])=lcm1 (lcmB rs) r.2:=by
 unfold lcmB
 rw[List.foldl_append]
 rfl
theorem Cg {rs:List Rat}{i:Nat}{r:Rat}(h:rs[i]?=some r):lcmB (rs.take (i+1))=lcm1 (lcmB (rs.take i)) r.2:=by rw[Y2 h,Ch]
theorem K9:∀ (rs:List Rat) (l:Int),0<l->(∀ r∈rs,0<r.2)->0<rs.foldl (fun l r=>lcm1 l r.2) l/\l ∣ rs.foldl (fun l r=>lcm1 l r.2) l/\(∀ r∈rs,r.2 ∣ rs.foldl (fun l r=>lcm1 l r.2) l)/\∀ D,l ∣ D->(∀ r∈rs,r.2 ∣ D)->rs.foldl (fun l r=>lcm1 l r.2) l ∣ D
 | [],l,hl,_=>⟨hl,Int.dvd_refl _,(fun _ h=>nomatch h),fun D h _=>h⟩
 | r::t,l,hl,h=>by
  obtain⟨p,d1,d2,m⟩:=N9 hl (h r XC)
  obtain⟨p',d1',d2',m'⟩:=K9 t (lcm1 l r.2) p fun x hx=>h x (YV _ hx)
  refine⟨p',Y0Z d1 d1',fun x hx=>?_,fun D h1 h2=>m' D (m D h1 (h2 r XC)) fun x hx=>h2 x (YV _ hx)⟩
  rcases YS.mp hx with rfl | hx
  ·exact Y0Z d2 d1'
  ·exact d2' x hx
theorem Sj {rs:List Rat}(h:∀ r∈rs,0<r.2):0<lcmB rs/\(∀ r∈rs,r.2 ∣ lcmB rs)/\∀ D,(∀ r∈rs,r.2 ∣ D)->lcmB rs ∣ D:=by
 obtain⟨p,_,d,m⟩:=K9 rs 1 (by decide) h
 exact⟨p,d,fun D hD=>m D (Int.one_dvd _) hD⟩
def wholeB (rs:List Rat)(D:Int):List Int:=rs.map fun r=>r.1*D.fdiv r.2
theorem Vm {r:Rat}{D:Int}(h:r.2 ∣ D):r.1*D=(r.1*D.fdiv r.2)*r.2:=by
 have:=T8 h
 rw[JL,this]
theorem RepL.least {n:Nat}{D:Int}{Ws:List Int}{rs:List Rat}(h:RepL n D Ws rs):RepL n (lcmB rs) (wholeB rs (lcmB rs)) rs:=by
 have low:∀ r∈rs,Low r:=fun r hr=>(h.good r hr).low
 obtain⟨p,d,m⟩:=Sj fun r hr=>(low r hr).pos
 have dD:∀ r∈rs,r.2 ∣ D:=fun r hr=>by
  obtain⟨i,hi⟩:=XB hr
  have hl:i<rs.length:=(YG.mp hi).1
  have hw:i<Ws.length:=by rw[h.len];exact hl
  obtain⟨e,b,l⟩:=h.at_ i Ws[i] r (by simp[hw]) hi
  exact Pf l.pos l.cop e
 have hd:=m D dD
 refine⟨p,h.bD.of_le' (Xb h.pos hd),by unfold wholeB;rw[YC],fun i W r hW hr=>?_⟩
 have hrm:=YL hr
 have hl:i<rs.length:=(YG.mp hr).1
 have hw:i<Ws.length:=by rw[h.len];exact hl
 obtain⟨e,b,l⟩:=h.at_ i Ws[i] r (by simp[hw]) hr
 unfold wholeB at hW
 rw[YD,hr] at hW
 cases hW
 refine⟨Vm (d r hrm),?_,l⟩
 obtain⟨k,ek⟩:=hd
 have e1:=Vm (D:=lcmB rs) (d r hrm)
 have hk:Ws[i]=(r.1*(lcmB rs).fdiv r.2)*k:=by
  have:(r.1*(lcmB rs).fdiv r.2*k)*r.2=Ws[i]*r.2:=by
   rw[<-e,ek,<-JL,e1]
   grind
  exact (zC (by have:=l.pos;omega) this).symm
 have hk0:k≠0:=by
  intro z
  rw[z,GN] at ek
  have:=h.pos
  omega
 refine b.of_le' ?_
 rw[hk,qg _ k]
 exact zS _ (by omega)
theorem Mf {a b:Int}(ha:0<a)(hb:0<b):(a.fdiv b).natAbs<=a.natAbs:=by
 rw[Int.fdiv_eq_ediv_of_nonneg _ (by omega)]
 have h1:=Int.ediv_nonneg (show 0<=a by omega) (show 0<=b by omega)
 have h2:=Int.ediv_le_self b (show 0<=a by omega)
 omega
theorem Rg {n:Nat}:∀ (rs:List Rat) (l:Int) (m:Nat),0<l->Bd m l->(∀ r∈rs,0<r.2/\Bd n r.2)->Bd (m+n*rs.length) (rs.foldl (fun l r=>lcm1 l r.2) l)
 | [],l,m,_,b,_=>b
 | r::t,l,m,hl,b,h=>by
  obtain⟨hp,hb⟩:=h r XC
  obtain⟨p,_,_,mm⟩:=N9 hl hp
  have:Bd (m+n) (lcm1 l r.2):=(b.mul hb).of_le' (Xb (YY hl hp) (mm _ (Int.dvd_mul_right ..) (Int.dvd_mul_left ..)))
  have:=Rg t (lcm1 l r.2) (m+n) p this fun x hx=>h x (YV _ hx)
  rw[XY,Y0K]
  exact this.mono (by omega)
theorem RepL.of_good {n:Nat}{rs:List Rat}(h:∀ r∈rs,Good n r):RepL (n*(rs.length+1)+1) (lcmB rs) (wholeB rs (lcmB rs)) rs:=by
 obtain⟨p,d,_⟩:=Sj fun r hr=>(h r hr).pos
 have b:Bd (1+n*rs.length) (lcmB rs):=Rg rs 1 1 (by decide) (by show (1:Int).natAbs<2 ^ 1;decide) fun r hr=>⟨(h r hr).pos,(h r hr).b2⟩
 refine⟨p,b.mono (by rw[Y0K];omega),by unfold wholeB;rw[YC],fun i W r hW hr=>?_⟩
 have hrm:=YL hr
 unfold wholeB at hW
 rw[YD,hr] at hW
 cases hW
 exact⟨Vm (d r hrm),((h r hrm).b1.mul (b.of_le' (Mf p (h r hrm).pos))).mono (by rw[Y0K];omega),(h r hrm).low⟩
theorem Ss {n:Nat}:∀ (xs:List Int),(∀ x∈xs,Bd n x)->∀ k,xs.length<=2 ^ k->Bd (n+k) xs.sum:=fun xs h k hk=>by
 have key:∀ (xs:List Int),(∀ x∈xs,Bd n x)->xs.sum.natAbs<=xs.length*(2 ^ n - 1):=fun xs=>by
  induction xs with
  | nil=>intro _;simp
  | cons a t ih =>
   intro h
   have h1:=ih fun x hx=>h x (YV _ hx)
   have h2:a.natAbs<2 ^ n:=h a XC
   rw[zw,XY,Y0H]
   omega
 have h1:=key xs h
 unfold Bd
 have h2:xs.length*(2 ^ n - 1)<=2 ^ k*(2 ^ n - 1):=GJ _ hk
 have h3:2 ^ k*(2 ^ n - 1)<2 ^ (n+k):=by
  rw[Y0Q,Y04 (2 ^ n)]
  have:0<2 ^ n:=Y1b (by decide)
  exact Nat.mul_lt_mul_of_pos_left (by omega) (Y1b (by decide))
 omega
theorem Gv {D:Int}(hD:0<D):∀ (Ns:List Int) (zs:List Rat),Ns.length=zs.length->(∀ (i:Nat) (N:Int) (z:Rat),Ns[i]?=some N->zs[i]?=some z->z.1*D=N*z.2/\Low z)->∀ (a:Rat) (A:Int),Low a->a.1*D=A*a.2->(zs.foldl addR a).1*D=(A+Ns.sum)*(zs.foldl addR a).2/\Low (zs.foldl addR a)
 | [],[],_,_,a,A,la,ha=>⟨by simpa using ha,la⟩
 | [],_::_,h,_,_,_,_,_=>by simp at h
 | _::_,[],h,_,_,_,_,_=>by simp at h
 | N::Ns,z::zs,h,hz,a,A,la,ha=>by
  obtain⟨e,lz⟩:=hz 0 N z rfl rfl
  obtain⟨h1,h2⟩:=Gv hD Ns zs (by simpa using h) (fun i N' z' e1 e2=>hz (i+1) N' z' (by simpa using e1) (by simpa using e2)) (addR a z) (A+N) (Ww la lz) (Nv la.pos lz.pos ha e)
  refine⟨?_,h2⟩
  rw[zw,<-Int.add_assoc]
  exact h1
theorem RepL.mul {n n':Nat}{D D':Int}{Ws Rs:List Int}{ws rs:List Rat}(h:RepL n D Ws ws)(h':RepL n' D' Rs rs)(hl:ws.length=rs.length):RepL (n+n') (D*D') (List.zipWith (·*·) Ws Rs) (List.zipWith mulR' ws rs):=by
 refine⟨YY h.pos h'.pos,h.bD.mul h'.bD,by rw[JF,JF,h.len,h'.len],fun i W r hW hr=>?_⟩
 rw[GW] at hW hr
 cases e1:Ws[i]? with
 | none=>rw[e1] at hW;cases hW
 | some x =>
  cases e2:Rs[i]? with
  | none=>rw[e1,e2] at hW;cases hW
  | some y =>
   cases e3:ws[i]? with
   | none=>rw[e3] at hr;cases hr
   | some u =>
    cases e4:rs[i]? with
    | none=>rw[e3,e4] at hr;cases hr
    | some v =>
     rw[e1,e2] at hW
     rw[e3,e4] at hr
     cases hW
     cases hr
     obtain⟨a1,b1,l1⟩:=h.at_ i x u e1 e3
     obtain⟨a2,b2,l2⟩:=h'.at_ i y v e2 e4
     exact⟨Z2v l1.pos l2.pos a1 a2,b1.mul b2,Tp l1 l2⟩
theorem RepL.sum {n:Nat}{D:Int}{Ns:List Int}{zs:List Rat}(h:RepL n D Ns zs):(zs.foldl addR (0,1)).1*D=Ns.sum*(zs.foldl addR (0,1)).2/\Low (zs.foldl addR (0,1)):=by
 have:=Gv h.pos Ns zs h.len (fun i N z e1 e2=>⟨(h.at_ i N z e1 e2).1,(h.at_ i N z e1 e2).2.2⟩) (0,1) 0 R0 (by simp)
 rwa [Int.zero_add] at this
theorem RepL.take {n:Nat}{D:Int}{Ns:List Int}{zs:List Rat}(h:RepL n D Ns zs)(i:Nat):RepL n D (Ns.take i) (zs.take i):=by
 refine⟨h.pos,h.bD,by rw[GI,GI,h.len],fun j W r hW hr=>?_⟩
 rw[Y15] at hW hr
 split at hW
 ·rename_i q
  rw[YM q] at hr
  exact h.at_ j W r hW hr
 ·cases hW
theorem RepL.sumGood {n k:Nat}{D:Int}{Ns:List Int}{zs:List Rat}(h:RepL n D Ns zs)(hk:zs.length<=2 ^ k):Good (n+k) (zs.foldl addR (0,1)):=by
 obtain⟨e,l⟩:=h.sum
 refine Wz h.pos l.pos l.cop e (h.bD.mono (by omega)) (Ss Ns (fun x hx=>?_) k (by rw[h.len];exact hk))
 obtain⟨i,hi⟩:=XB hx
 have hl:i<Ns.length:=(YG.mp hi).1
 have hz:i<zs.length:=by rw[<-h.len];exact hl
 exact (h.at_ i x zs[i] hi (by simp[hz])).2.1
theorem Z43 {n n':Nat}{D D':Int}{Ws Rs:List Int}{ws rs:List Rat}(h:RepL n D Ws ws)(h':RepL n' D' Rs rs)(hl:ws.length=rs.length) :
  nrm (List.zipWith (·*·) Ws Rs).sum (D*D')=(List.zipWith mulR' ws rs).foldl addR (0,1):=by
 have m:=h.mul h' hl
 obtain⟨e,l⟩:=m.sum
 have hne:D*D'≠0:=by have:=m.pos;omega
 have l':=Yu (p:=(List.zipWith (·*·) Ws Rs).sum) hne
 have e':=Nu (p:=(List.zipWith (·*·) Ws Rs).sum) hne
 refine Wj l'.pos l.pos l'.cop l.cop ?_
 generalize (List.zipWith mulR' ws rs).foldl addR (0,1)=u at *
 generalize nrm (List.zipWith (·*·) Ws Rs).sum (D*D')=v at *
 generalize (List.zipWith (·*·) Ws Rs).sum=N at *
 generalize D*D'=E at *
 have:E*(v.1*u.2)=E*(u.1*v.2):=by grind
 exact JM hne this
end Sb
namespace Sb
open PySem L2
def sumR (rs:List Rat):Rat:=rs.foldl addR (0,1)
theorem Dh (rs:List Rat)(r:Rat):sumR (rs++[r])=addR (sumR rs) r:=by
 unfold sumR
 rw[List.foldl_append]
 rfl
theorem Ps {rs:List Rat}{i:Nat}{r:Rat}(h:rs[i]?=some r):sumR (rs.take (i+1))=addR (sumR (rs.take i)) r:=by rw[Y2 h,Dh]
theorem Nd {n:Nat}:∀ (rs:List Rat) (m:Nat) (a:Rat),Good m a->(∀ r∈rs,Good n r)->Good (m+rs.length*(n+1)) (rs.foldl addR a)
 | [],m,a,h,_=>by simpa using h
 | r::t,m,a,h,g=>by
  have:=Nd t (m+n+1) (addR a r) (Bb h (g r XC)) fun x hx=>g x (YV _ hx)
  refine this.mono ?_
  rw[XY,Y0H]
  omega
theorem Di {n:Nat}{rs:List Rat}(h:∀ r∈rs,Good n r):Good (1+rs.length*(n+1)) (sumR rs):=Nd rs 1 (0,1) (g01 1 (by decide)) h
theorem Q5 {n i:Nat}{rs:List Rat}(h:∀ r∈rs,Good n r)(hi:i<=rs.length):Good (1+rs.length*(n+1)) (sumR (rs.take i)):=by
 refine (Di (rs:=rs.take i) fun r hr=>h r (List.mem_of_mem_take hr)).mono ?_
 have:(rs.take i).length*(n+1)<=rs.length*(n+1):=GJ _ (by simp;omega)
 omega
theorem M1 {n:Nat}{rs:List Rat}{i:Nat}(hi:i<rs.length):n<=1+rs.length*(n+1):=by
 have:1*(n+1)<=rs.length*(n+1):=GJ _ (by omega)
 omega
def isW (rs:List Rat):Bool:=!((rs.map fun r=>ltR r (0,1)).any id) && decide (sumR rs=(1,1))
theorem Ks:∀ (ns:List Int) (m:Int),(∀ z∈ns,0<=z/\z<=m)->0<=ns.sum/\ns.sum<=m*ns.length
 | [],m,_=>by simp
 | z::t,m,h=>by
  obtain⟨h1,h2⟩:=Ks t m fun x hx=>h x (YV _ hx)
  obtain⟨h3,h4⟩:=h z XC
  rw[zw,XY]
  have:m*((t.length+1:Nat):Int)=m*t.length+m:=by rw[Int.natCast_add,Y19];simp
  omega
theorem Jz:∀ (ns:List Int),(∀ z∈ns,0<=z)->(∃ z∈ns,1<=z)->1<=ns.sum
 | [],_,h=>by obtain⟨z,hz,_⟩:=h;cases hz
 | y::t,h0,h=>by
  have ht:0<=t.sum:=by
   have:∀ l:List Int,(∀ z∈l,0<=z)->0<=l.sum:=fun l=>by
    induction l with
    | nil=>intro _;simp
    | cons a r ih =>
     intro h
     have:=ih fun x hx=>h x (YV _ hx)
     have:=h a XC
     rw[zw]
     omega
   exact this t fun x hx=>h0 x (YV _ hx)
  have hy:=h0 y XC
  rw[zw]
  obtain⟨z,hz,h1⟩:=h
  rcases YS.mp hz with e | e
  ·subst e;omega
  ·have:=Jz t (fun x hx=>h0 x (YV _ hx)) ⟨z,e,h1⟩
   omega
end Sb
namespace Sb
theorem Tc {α β:Type}(f:α->β){l:List α}{i:Nat}{x:α}(h:l[i]?=some x):(l.map f).take (i+1)=(l.map f).take i++[f x]:=Y2 (by rw[YD,h];rfl)
open Sv (sm Y5 Xm Yw sm_zero Y4 Y3 U0)
theorem Vl:∀ (c:Nat) (As Bs:List Int),As.length=c->Bs.length=c->(List.zipWith (·*·) As Bs).sum=sm c (fun i=>As.getD i 0*Bs.getD i 0)
 | 0,As,Bs,h1,h2=>by
  rw[js h1]
  rfl
 | c+1,As,Bs,h1,h2=>by
  have e1:As=As.take c++[As.getD c 0]:=by
   have:As[c]?=some (As.getD c 0):=by simp[List.getD,show c<As.length by omega]
   rw[<-Y2 this,YN (by omega)]
  have e2:Bs=Bs.take c++[Bs.getD c 0]:=by
   have:Bs[c]?=some (Bs.getD c 0):=by simp[List.getD,show c<Bs.length by omega]
   rw[<-Y2 this,YN (by omega)]
  have l1:(As.take c).length=c:=by rw[GI];omega
  have l2:(Bs.take c).length=c:=by rw[GI];omega
  have ih:=Vl c (As.take c) (Bs.take c) l1 l2
  conv=>lhs;rw[e1,e2]
  rw[List.zipWith_append (by omega)]
  rw[List.sum_append,ih]
  show _+(As.getD c 0*Bs.getD c 0+0)=sm c _+As.getD c 0*Bs.getD c 0
  rw[Int.add_zero]
  congr 1
  refine Y5 fun i hi=>?_
  have g:∀ L:List Int,c<=L.length->(L.take c).getD i 0=L.getD i 0:=fun L hL=>by
   simp[List.getD,Y15,hi]
  rw[g As (by omega),g Bs (by omega)]
def cutZ (o:Option (Nat->Bool))(Zs:List Int):List Int:=Zs.mapIdx fun i z=>if inE o i then z else 0
theorem Xw (o:Option (Nat->Bool))(Zs:List Int):(cutZ o Zs).length=Zs.length:=by unfold cutZ;simp
theorem Mn {o:Option (Nat->Bool)}{Zs:List Int}{i:Nat}:(cutZ o Zs)[i]?=(Zs[i]?).map fun z=>if inE o i then z else 0:=by
 unfold cutZ
 rw[jr]
theorem Wi (o:Option (Nat->Bool))(Zs:List Int)(i:Nat):(cutZ o Zs).getD i 0=if inE o i then Zs.getD i 0 else 0:=by
 simp only [List.getD,Mn]
 cases Zs[i]? with
 | none=>simp
 | some z=>rfl
theorem bd0 (n:Nat):Bd n 0:=by
 show (0:Int).natAbs<2 ^ n
 exact Y1b (by decide)
theorem RepL.cut {n:Nat}{D:Int}{Zs:List Int}{rs:List Rat}(h:RepL n D Zs rs)(o:Option (Nat->Bool)):RepL n D (cutZ o Zs) (cutR o rs):=by
 refine⟨h.pos,h.bD,by rw[Xw,Yd,h.len],fun i W r hW hr=>?_⟩
 have hl:i<rs.length:=by
  have:=(YG.mp hr).1
  rwa [Yd] at this
 have hz:i<Zs.length:=by rw[h.len];exact hl
 rw[V0 (r:=rs[i]) (by simp[hl])] at hr
 rw[Mn,show Zs[i]?=some Zs[i] by simp[hz]] at hW
 cases hr
 cases hW
 obtain⟨a,b,l⟩:=h.at_ i Zs[i] rs[i] (by simp[hz]) (by simp[hl])
 split
 ·exact⟨a,b,l⟩
 ·exact⟨by simp,bd0 n,R0⟩
theorem RepL.ones (c:Nat):RepL 1 1 (List.replicate c 1) (List.replicate c (1,1)):=by
 refine⟨by decide,by show (1:Int).natAbs<2 ^ 1;decide,by simp,fun i W r hW hr=>?_⟩
 have h1:=qc (YL hW)
 have h2:=qc (YL hr)
 subst h1 h2
 exact⟨rfl,by show (1:Int).natAbs<2 ^ 1;decide,Ly⟩
theorem RepL.mono {m n:Nat}{D:Int}{Zs:List Int}{rs:List Rat}(h:RepL m D Zs rs)(k:m<=n):RepL n D Zs rs :=
 ⟨h.pos,h.bD.mono k,h.len,fun i W r hW hr=>⟨(h.at_ i W r hW hr).1,(h.at_ i W r hW hr).2.1.mono k,(h.at_ i W r hW hr).2.2⟩⟩
theorem RepL.of_map {n:Nat}{D:Int}(hD:0<D)(bD:Bd n D){α:Type}(l:List α)(f:α->Rat)(g:α->Int)(h:∀ x∈l,(f x).1*D=g x*(f x).2/\Bd n (g x)/\Low (f x)):RepL n D (l.map g) (l.map f):=by
 refine⟨hD,bD,by simp,fun i W r hW hr=>?_⟩
 rw[YD] at hW hr
 cases e:l[i]? with
 | none=>rw[e] at hW;cases hW
 | some x =>
  rw[e] at hW hr
  cases hW
  cases hr
  exact h x (YL e)
theorem Va {r:Rat}{D W:Int}(k:Int)(h:r.1*D=W*r.2):r.1*(D*k)=(W*k)*r.2:=by
 rw[<-JL,h,JL,XF r.2,<-JL]
theorem Z05 {mi sh q:Rat}{D S M:Int}(hm:0<mi.2)(hs:0<sh.2)(h1:mi.1*(D*6)=M*mi.2)(h2:sh.1*(D*1)=S*sh.2)(hq:q.1*(mi.2*sh.1)=(mi.1*sh.2)*q.2):q.1*(6*S)=M*q.2:=by
 have:(mi.2*sh.2)*(q.1*(6*S))=(mi.2*sh.2)*(M*q.2):=by
  have e1:(mi.2*sh.2)*(q.1*(6*S))=q.1*mi.2*6*(S*sh.2):=by grind
  have e2:(mi.2*sh.2)*(M*q.2)=(M*mi.2)*sh.2*q.2:=by grind
  rw[e1,e2,<-h1,<-h2]
  have e3:q.1*mi.2*6*(sh.1*(D*1))=(q.1*(mi.2*sh.1))*(6*D):=by grind
  rw[e3,hq]
  grind
 exact JM (W0 hm hs) this
def FitR (n:Nat)(Ws:List Int)(rs:List Rat):Prop:=∃ (D:Int) (Zs:List Int),RepL n D Zs rs/\(List.zipWith (·*·) Ws Zs).sum<=0
section
variable {c:Nat}{Ws Ro:List Int}{o:Option (Nat->Bool)}
theorem Z4b (lW:Ws.length=c)(lR:Ro.length=c)(t k C:Int) :
  (List.zipWith (·*·) Ws (cutZ o (Ro.map fun z=>t*(z*k - C)))).sum=t*(k*(List.zipWith (·*·) Ws (cutZ o Ro)).sum - C*(List.zipWith (·*·) Ws (cutZ o (List.replicate c 1))).sum):=by
 rw[Vl c _ _ lW (by rw[Xw,YC];exact lR),Vl c _ _ lW (by rw[Xw];exact lR),Vl c _ _ lW (by rw[Xw];simp)]
 have e:∀ i,i<c->Ws.getD i 0*(cutZ o (Ro.map fun z=>t*(z*k - C))).getD i 0=(t*k)*(Ws.getD i 0*(cutZ o Ro).getD i 0)+(-(t*C))*(Ws.getD i 0*(cutZ o (List.replicate c 1)).getD i 0):=fun i hi=>by
  rw[Wi,Wi,Wi]
  have a1:(Ro.map fun z=>t*(z*k - C)).getD i 0=t*(Ro.getD i 0*k - C):=by
   simp[List.getD,show i<Ro.length by omega]
  have a2:(List.replicate c (1:Int)).getD i 0=1:=by simp[List.getD,hi]
  rw[a1,a2]
  split
  ·grind
  ·simp
 rw[Y5 e,Xm,Yw,Yw]
 grind
end
theorem Z2c {m n k:Nat}{As Bs:List Int}(ha:∀ z∈As,Bd m z)(hb:∀ z∈Bs,Bd n z)(hl:As.length<=2 ^ k):Bd (m+n+k) (List.zipWith (·*·) As Bs).sum:=by
 refine Ss _ (fun x hx=>?_) k (by rw[JF];omega)
 obtain⟨i,hi⟩:=XB hx
 rw[GW] at hi
 cases e1:As[i]? with
 | none=>rw[e1] at hi;cases hi
 | some a =>
  cases e2:Bs[i]? with
  | none=>rw[e1,e2] at hi;cases hi
  | some b =>
   rw[e1,e2] at hi
   cases hi
   exact (ha a (YL e1)).mul (hb b (YL e2))
theorem RepL.bdW {n:Nat}{D:Int}{Zs:List Int}{rs:List Rat}(h:RepL n D Zs rs):∀ z∈Zs,Bd n z:=fun z hz=>by
 obtain⟨i,hi⟩:=XB hz
 have hl:i<Zs.length:=(YG.mp hi).1
 have hr:i<rs.length:=by rw[<-h.len];exact hl
 exact (h.at_ i z rs[i] hi (by simp[hr])).2.1
end Sb
namespace Sb
open PySem L2
structure Goes (J:It)(H:Hp)(xs:List V):Prop where
 go:∀ (i:Nat) (H':Hp),Same H H'->i<xs.length->J.go i H'
 yld:∀ (i:Nat) (H':Hp) (x:V) (H'':Hp),Same H H'->J.yld i H' x H''->H''=H'/\xs[i]?=some x
 stop:∀ H':Hp,Same H H'->J.stop xs.length H'
theorem Z73 {K:W.Frag}{H:Hp}{a:Addr}{xs:List V}(h:SqL K H a xs):Goes (Itl K a) H xs :=
 ⟨fun i H' S hi=>⟨xs,xs[i],W5 S h,by simp[hi]⟩,fun _ _ _ _ S ⟨e,f⟩=>⟨e,f xs (W5 S h)⟩,fun _ S=>⟨xs,W5 S h,YE _⟩⟩
theorem Z72 {K:W.Frag}{H:Hp}{a:Addr}{xs:List V}(h:SqT K H a xs):Goes (Itt K a) H xs :=
 ⟨fun i H' S hi=>⟨xs,xs[i],Zl S h,by simp[hi]⟩,fun _ _ _ _ S ⟨e,f⟩=>⟨e,f xs (Zl S h)⟩,fun _ S=>⟨xs,Zl S h,YE _⟩⟩
section
open PySem.Spec PyProof.Rows
variable {X:Cx}{tg:Expr}
def iAny (K:W.Frag)(tl:TE):TI:=fun σ H R=>tl σ H fun x H1=>∃ (a:Addr) (xs:List V),x=.ref a/\(SqL K H1 a xs \/ SqT K H1 a xs)/\∀ J:It,Goes J H1 xs->R J H1
theorem Z5c {l:Expr}{tl:TE}(hl:PE X l tl):PI X tg l (iAny X.K tl):=by
 intro pins s σ H R I h
 refine thn (hl pins s σ H _ I h) fun v s1 ⟨x,H1,I1,r1,q1⟩=>?_
 obtain⟨a,xs,e,hq | hq,q⟩:=q1
 ·subst e
  cases r1
  obtain⟨its,rv,p,hz⟩:=I1.list hq
  refine GC p.isList ?_
  refine⟨s1.heap.objs.size,[s1.heap.objs.size],_,_,H1,rfl,I1.kept (t':=s1.toks) fun b o e=>YA _ e,Ty a _,⟨_,YO _ rfl,rfl,rfl⟩,fun b hb=>?_,q _ (Z73 hq)⟩
  have e:b=s1.heap.objs.size:=by simpa using hb
  subst e
  exact I1.fpOk (YE _) (I1.hok.fresh (YE _))
 ·subst e
  cases r1
  obtain⟨its,rv,p,hz⟩:=I1.tuple hq
  refine GY (show s1.heap.IsTuple a its.toArray from p) ?_
  refine⟨s1.heap.objs.size,[s1.heap.objs.size],_,_,H1,rfl,I1.kept (t':=s1.toks) fun b o e=>YA _ e,Ut a _,⟨_,YO _ rfl,rfl,rfl⟩,fun b hb=>?_,q _ (Z72 hq)⟩
  have e:b=s1.heap.objs.size:=by simpa using hb
  subst e
  exact I1.fpOk (YE _) (I1.hok.fresh (YE _))
end
end Sb
namespace Sb
open PySem PySem.Spec PyProof.Rows L2
section
variable {X:Cx}
theorem Wv {i:Nat}{x:Str}{pos' spos:Pos}{elt iter tg:Expr}{ifs:List Expr}{scope:Scope}{pos:Pos}{wi:TI}{g:TG}{tt:TT}{te:TE}{N:List Str}{k:Nat}{fv:List Nat}
  (hXN:X.N.Nodup) (hix:X.N[i]?=some x) (hx:Loc X.env.scope x)
  (hc:X.calm=true) (hi:PI X tg iter wi) (hg:∀ cl C fp s H,PG (compCx X N scope cl C fp s H) tg g) (ht:∀ cl C fp s H,PTs (compCx X N scope cl C fp s H) ifs tt) (he:∀ cl C fp s H,PE (compCx X N scope cl C fp s H) elt te)
  (hw:∀ r x H Q,g x (List.replicate k none++r) H Q->g x (List.replicate k none++r) H fun σ4 H4=>Q σ4 H4/\Weaker σ4 (List.replicate k none++r))
  (hN:N.length=k+fv.length:=by rfl) (hfv:fv.map (fun j=>X.N[j]?)=(N.drop k).map some:=by rfl) (hk:(N.drop k).map X.env.kindOf=(N.drop k).map (fun _=>some .cell):=by rfl)
  (hfl:∀ y∈N.drop k,scope.names.lookup y=some .free:=by decide +kernel) (hfr:∀ y∈scope.names,y.2=.free->y.1∈N.drop k:=by decide +kernel)
  (hcell:∀ y∈scope.names,y.2≠.cell:=by decide +kernel) (hkind:scope.kind=.function:=by rfl) (hnames:∀ y∈scope.names,y.2=.local->scope.names.lookup y.1=some .local:=by decide +kernel)
  (hs:∀ x,foldedSetIterable iter X.env x=pure x:=by intro _;rfl)
  (hsw:swapsWith (.ListComp elt [⟨tg,iter,ifs,0⟩] scope pos) (some (.Name x pos')) spos.line X.env=pure true:=by rfl)
  (hf:X.fn x=true \/ X.env.scope.names.lookup x=some .local:=by first | exact .inl rfl | exact .inr rfl | assumption) :
  PS X (.Assign [.Name x pos'] (.ListComp elt [⟨tg,iter,ifs,0⟩] scope pos) spos) (tAsg (tComp wi g tt te k fv) (gName i)):=by
 intro pins s σ H D I h
 have kc:∀ y∈N.drop k,X.env.kindOf y=some .cell:=fun y hy=>by
  obtain⟨j,hj⟩:=XB hy
  have a:=congrArg (fun l=>l[j]?) hk
  simp only [YD,hj,GT] at a
  exact YK a
 obtain⟨cl,hclos,h1,h2⟩:=V6 (env:=X.env) (scope:=scope) fun y hy hf=>I.ok.has y.1 (.inl (kc y.1 (hfr y hy hf)))
 rw[exec_Assign_Name_used _ _ _ _ hsw]
 refine YB (zv (YB ?_))
 unfold evalThenUse
 refine YB (zG (use:=some (assign (.Name x pos') X.env)) rfl hs hclos hkind hnames (thn (hi pins s σ H _ I h) fun xv s1 h1'=>thn h1' fun itv s2 h2'=>?_))
 obtain⟨it,fp,tn,J,H2,e,I2,T,st2,f2,body⟩:=h2'
 subst e
 refine Pi (Q:=fun v H1=>gName i v σ H1 D.nx) (RR:=fun acc C=>compPost (model X.prog X.w) X.A X.xe (some (assign (.Name x pos') X.env)) _ acc C) hc hg ht he hw hN hfv hk hfl hcell hkind h1 h2 I2 T st2 f2 body fun Dd C H' s' ⟨m,hm⟩ fpC q iv=>?_
 show wpAny _ _ (assign (.Name x pos') X.env (.ref Dd)) _ _ s'
 have I':Inv X pins σ H' s':=iv s'.heap ⟨rfl,fun _ _=>rfl⟩
 refine wpAny_assign_Name (Pt I' hXN hix hx (v:=.ref Dd) rfl (fun s3 I3 ⟨a,sb,ha⟩=>⟨m,?_,fun h' hs'=>?_⟩) hf)
 ·have hne:C≠a:=by
   rcases ha with rfl | ha
   ·exact fpC.2.1
   ·exact fun z=>fpC.2.2.2.2.1 x a ha z.symm
  obtain⟨o,es,ep,ho,r⟩:=hm
  exact⟨o,es,ep,by rw[sb.2 C hne];exact ho,r⟩
 ·refine YQ (YQ ?_)
  have I4:=Ue (ch:=[C]) (h':=h') (t':=s3.toks) I3 (fun b hb=>by rw[JP.mp hb];exact fpC) fun b o hb e=>by
   rw[hs'.2 b (fun z=>hb (by rw[z];exact JP.mpr rfl))]
   exact e
  exact⟨_,H',I4,q⟩
end
end Sb
namespace Sb
open PySem L2
theorem So {K:W.Frag}{a:Addr}{xs:List V}{g:TG}{tb:TS}{D:Ends}{σ:L2.St}{H:Hp}(Pv:Nat->L2.St->Hp->Prop)(h0:Pv 0 σ H)(hl:∀ i σ H,i<=xs.length->Pv i σ H->SqL K H a xs)
  (hs:∀ i x σ H p,xs[i]?=some x->Pv i σ H->H p=none->g (.ref p) σ (upd H p (.tup [.int (i:Int),x])) fun σ2 H2=>tb { D with nx:=Pv (i+1),ct:=Pv (i+1),bk:=D.nx } σ2 H2) (hd:∀ σ H,Pv xs.length σ H->D.nx σ H) :
  ∃ W:Nat->Nat->L2.St->Hp->Prop,(∃ m,W 0 m σ H)/\∀ i m σ H,W i m σ H →
   ((IteL K a).stop i H/\D.nx σ H) \/ ((IteL K a).go i H/\∃ N:L2.St->Hp->Prop,(∀ σ' H',N σ' H'->∃ m',m'<m/\W (i+1) m' σ' H')/\∀ x H',(IteL K a).yld i H x H'->g x σ H' fun σ2 H2=>tb { D with nx:=N,ct:=N,bk:=D.nx } σ2 H2):=by
 refine⟨fun i m σ H=>m=xs.length - i/\i<=xs.length/\Pv i σ H,⟨xs.length,by simp,JY _,h0⟩,?_⟩
 rintro i m σ H ⟨rfl,hi,p⟩
 have q:=hl i σ H hi p
 by_cases hlt:i<xs.length
 ·refine .inr ⟨⟨xs,q,hlt⟩,Pv (i+1),fun σ' H' p'=>⟨xs.length - (i+1),by omega,rfl,hlt,p'⟩,fun x H' y=>?_⟩
  obtain⟨pp,x0,rfl,hp,rfl,fx⟩:=y
  exact hs i x0 σ H pp (fx xs q) p hp
 ·have e:i=xs.length:=by omega
  subst e
  exact .inl ⟨⟨xs,q,rfl⟩,hd σ H p⟩
theorem Paired.appP {α β:Type}{R:α->β->Prop}:∀ {xs xs':List α} {ys ys':List β},Paired R xs ys->Paired R xs' ys'->Paired R (xs++xs') (ys++ys')
 | _,_,_,_,.nil,s=>s
 | _,_,_,_,.cons r t,s=>.cons r (Paired.appP t s)
section
variable {K:W.Frag}
def RowsAt (K:W.Frag)(H:Hp)(l:Addr)(rss:List (List Rat)):Prop:=∃ as:List Addr,H l=some (.lst (as.map V.ref))/\Paired (RowAt K H) as rss
theorem Yy {H H':Hp}{as:List Addr}{rss:List (List Rat)}(h:Paired (RowAt K H) as rss)(x:Ext H H'):Paired (RowAt K H') as rss:=Paired.mapP h fun _ _ q=>q.ext x
end
theorem Z1t {c A B:Prop}[Decidable c](hc:¬ c)(h:A):if (!decide c)=true then A else B:=by
 rw[JQ hc]
 exact Wt h
end Sb
namespace Sb
open PySem PySem.Builtin.SmallTypes
abbrev xH1 (h:Heap)(t:Addr):Heap:=h.push { cls:=.type "tuple_iterator",data:=.fields #[.ref t,.int 0 0] }
abbrev xH2 (h:Heap)(t u:Addr):Heap:=(xH1 h t).push { cls:=.type "list_iterator",data:=.fields #[.ref u,.int 0 0] }
abbrev xH3 (h:Heap)(t u:Addr):Heap:=(xH2 h t u).push { cls:=.type "tuple",data:=.seq #[.ref h.objs.size,.ref (xH1 h t).objs.size] }
abbrev xH4 (h:Heap)(t u:Addr):Heap:=(xH3 h t u).push { cls:=.type "tuple",data:=.seq #[.none,.none] }
abbrev xH5 (h:Heap)(t u:Addr):Heap:=(xH4 h t u).push { cls:=.type "zip",data:=.fields #[.none,.bool false,.bool false,.ref (xH2 h t u).objs.size,.ref (xH3 h t u).objs.size] }
theorem Jh (t u:Addr)(xs ys:Array Value):Meets (Builtin.«zip.__new__» ⟨[.type "zip",.ref t,.ref u],[]⟩) (fun _ R s=>s.heap.IsTuple t xs/\s.heap.IsList u ys ∧
  R (.ok (.ret (.ref (xH4 s.heap t u).objs.size))) { s with heap:=xH5 s.heap t u }) :=
 .of_wp fun prog w A R s h=>by
  obtain⟨hp,g,d,tk,os⟩:=s
  obtain⟨h1,h2,h⟩:=h
  have hsub:=sub_zip
  have T1:Heap.IsTuple (Shared.heap ⟨hp,g,d,tk,os⟩) t xs:=h1
  have T2:Heap.IsList (Shared.heap ⟨hp.push { cls:=.type "tuple_iterator",data:=.fields #[.ref t,.int 0 0] },g,d,tk,os⟩) u ys:=Heap.IsList.push h2 _
  wp_walk using GY T1,GC T2
  exact⟨_,rfl,h⟩
theorem Cw {prog:Program}{w:World}{A:Around}{E:Value->Shared->Prop}{s:Shared}{t u:Addr}{xs ys:Array Value}{Q:Value->Shared->Prop}(h1:s.heap.IsTuple t xs)(h2:s.heap.IsList u ys)
  (h:∀ h',IsZip h' (s.heap.objs.size+4) (s.heap.objs.size+2) (s.heap.objs.size+3) .none->IsPair h' (s.heap.objs.size+2) (.ref s.heap.objs.size) (.ref (s.heap.objs.size+1))->IsPair h' (s.heap.objs.size+3) .none .none →
   h'.IsTupleIter s.heap.objs.size t 0->h'.IsListIter (s.heap.objs.size+1) u 0->h'.objs.size=s.heap.objs.size+5->(∀ c o,s.heap.get? c=some o->h'.get? c=some o)->Q (.ref (s.heap.objs.size+4)) { s with heap:=h' }) :
  wpAny (model prog w) A (call (.type "zip") [.ref t,.ref u]) Q E s:=by
 refine Y0J F.called_zip (by decide) (F.typeCall_zip_2 _ _) (F.newCall_zip_2 _ _) (fun obj=>F.args_object_init_3 obj _ _) F.entry_zip_new (Jh t u xs ys) ⟨h1,h2,?_⟩
 have e1:(xH1 s.heap t).objs.size=s.heap.objs.size+1:=XL ..
 have e2:(xH2 s.heap t u).objs.size=s.heap.objs.size+2:=by rw[XL,e1]
 have e3:(xH3 s.heap t u).objs.size=s.heap.objs.size+3:=by rw[XL,e2]
 have e4:(xH4 s.heap t u).objs.size=s.heap.objs.size+4:=by rw[XL,e3]
 have e5:(xH5 s.heap t u).objs.size=s.heap.objs.size+5:=by rw[XL,e4]
 have p5:(xH5 s.heap t u).get? (xH4 s.heap t u).objs.size=some _:=YO _ rfl
 have p4:(xH5 s.heap t u).get? (xH3 s.heap t u).objs.size=some _:=YA _ (YO _ rfl)
 have p3:(xH5 s.heap t u).get? (xH2 s.heap t u).objs.size=some _:=YA _ (YA _ (YO _ rfl))
 have p2:(xH5 s.heap t u).get? (xH1 s.heap t).objs.size=some _:=YA _ (YA _ (YA _ (YO _ rfl)))
 have p1:(xH5 s.heap t u).get? s.heap.objs.size=some _:=YA _ (YA _ (YA _ (YA _ (YO _ rfl))))
 show _/\_
 rw[e2,e3,e4] at p5
 rw[e1,e2] at p3
 rw[e3] at p4
 rw[e1] at p2
 rw[e4]
 refine⟨⟨_,p5,rfl⟩,h _ p5 p3 p4 ⟨_,p1,rfl,rfl⟩ ⟨_,p2,rfl,rfl⟩ e5 fun c o x=>?_⟩
 exact YA _ (YA _ (YA _ (YA _ (YA _ x))))
end Sb
namespace Sb
open PySem PySem.Spec PyProof.Rows L2
def ItzM (K:W.Frag)(t u:Addr):It :=
 ⟨fun i H=>∃ xs ys,SqT K H t xs/\SqL K H u ys/\i<xs.length/\i<ys.length,
   fun i H v H'=>∃ p x y,v=.ref p/\H p=none/\H'=upd H p (.tup [x,y])/\(∀ xs,SqT K H t xs->xs[i]?=some x)/\∀ ys,SqL K H u ys->ys[i]?=some y,
   fun i H=>∃ xs ys,SqT K H t xs/\SqL K H u ys/\i=xs.length⟩
theorem D8 {P:Program}{w:World}{K:W.Frag}{es:List Expr}{kk:Nat}{tp:Pos}{z TI TO i1 i2:Addr}(O:ZOff z TI TO i1 i2)(t u:Addr) :
  Turn P w K (.Tuple es kk tp) (ItzM K t u) [z,TI,TO,i1,i2] z (fun i h=>IsZip h z TI TO .none/\IsPair h TI (.ref i1) (.ref i2)/\(∃ a b,IsPair h TO a b)/\h.IsTupleIter i1 t i/\h.IsListIter i2 u i) where
 mem:=by simp
 obj:=fun i h ⟨hz,hTI,⟨a,b,hTO⟩,⟨o1,e1,_,d1⟩,⟨o2,e2,_,d2⟩⟩ b hb=>by
  simp only [YS,XG,GM] at hb
  rcases hb with rfl | rfl | rfl | rfl | rfl
  ·exact⟨_,hz,fun v q=>by have q':Data.fields _=Data.cell v:=q;cases q'⟩
  ·exact⟨_,hTI,fun v q=>by have q':Data.seq _ _=Data.cell v:=q;cases q'⟩
  ·exact⟨_,hTO,fun v q=>by have q':Data.seq _ _=Data.cell v:=q;cases q'⟩
  ·exact⟨_,e1,fun v q=>by rw[d1] at q;cases q⟩
  ·exact⟨_,e2,fun v q=>by rw[d2] at q;cases q⟩
 keep:=fun i h h' ⟨hz,hTI,⟨a,b,hTO⟩,⟨o1,e1,r1⟩,⟨o2,e2,r2⟩⟩ k=>⟨k z (by simp) _ hz,k TI (by simp) _ hTI,⟨a,b,k TO (by simp) _ hTO⟩,⟨o1,k i1 (by simp) _ e1,r1⟩,⟨o2,k i2 (by simp) _ e2,r2⟩⟩
 item:=by
  intro X hP hw hK hc i pins s σ H E I hf st hg
  subst hP hw hK
  obtain⟨xs,ys,hx,hy,lx,ly⟩:=hg
  obtain⟨hz,hTI,⟨a,b,hTO⟩,c1,c2⟩:=st
  obtain⟨u1,v1,p1,_⟩:=I.tuple hx
  obtain⟨u2,v2,p2',_⟩:=I.list hy
  have p2:=p2'.isList
  have n1:=v1.length
  have n2:=v2.length
  have ne:∀ b∈[z,TI,TO,i1,i2],t≠b/\u≠b:=fun b hb=>⟨Nn I (hf b hb) hx,Ua I (hf b hb) hy⟩
  have off:∀ b∈[z,TI,TO,i1,i2],∀ x,(b,x) ∉ X.pn:=fun b hb x m=>(hf b hb).2.2.2.2.2 _ (YJ _ m) rfl
  have qI:∀ p∈X.pn,s.heap.get? p.1=some p.2:=fun p hp=>(I.pin p (YJ _ hp)).1
  have qO:∀ b∈[z,TI,TO,i1,i2],∀ p∈X.pn,p.1≠b:=fun b hb p hp=>(hf b hb).2.2.2.2.2 p (YJ _ hp)
  have D:Off z TI TO i1 i2 (i1::t::X.pn.map Prod.fst) (i2::u::X.pn.map Prod.fst):=⟨O.a1,O.a2,O.a3,O.a4,O.a5,O.a6,O.a7,O.a8,O.a9,O.b1,
   by simp[O.a3.symm,(ne z (by simp)).1.symm,off z (by simp)],by simp[O.a8,(ne TO (by simp)).1.symm,off TO (by simp)],by simp[O.b1.symm,(ne i2 (by simp)).1.symm,off i2 (by simp)],
   by simp[O.a4.symm,(ne z (by simp)).2.symm,off z (by simp)],by simp[O.a9,(ne TO (by simp)).2.symm,off TO (by simp)],by simp[O.b1,(ne i1 (by simp)).2.symm,off i1 (by simp)]⟩
  have D1:=Um (prog:=X.prog) (w:=X.w) (A:=X.A.in1) (I.ok.hd hc) i1 t (ne i1 (by simp)).1 (qO i1 (by simp)) u1.toArray
  have D2:=Sb.Draws.listQ (prog:=X.prog) (w:=X.w) (A:=X.A.in1) (I.ok.hd hc) i2 u (ne i2 (by simp)).2 (qO i2 (by simp)) u2.toArray
  refine Sz D D1 D2 hz hTI hTO ⟨c1,p1,qI⟩ ⟨c2,p2,qI⟩ (by simp;omega) (by simp;omega) fun x y g tk px py z' to' s1 s2 pr sz kp=>?_
  refine⟨_,rfl,Y0m z' fun g2 z2 sb=>?_⟩
  obtain⟨x0,ex⟩:∃ x0,xs[i]?=some x0:=⟨xs[i],by simp[lx]⟩
  obtain⟨y0,ey⟩:∃ y0,ys[i]?=some y0:=⟨ys[i],by simp[ly]⟩
  obtain⟨x1,ex1,rx⟩:=v1.get ex
  obtain⟨y1,ey1,ry⟩:=v2.get ey
  have qx:x1=x:=by
   have:u1.toArray[i]?=some x:=px
   rw[GU,ex1] at this
   exact YK this
  have qy:y1=y:=by
   have:u2.toArray[i]?=some y:=py
   rw[GU,ey1] at this
   exact YK this
  subst qx qy
  have zlt:z<s.heap.objs.size:=YH hz
  have pz:s.heap.objs.size≠z:=qo zlt
  have sb2:∀ b,b≠z->g2.get? b=g.get? b:=fun b hb=>sb.2 b hb
  have keep:∀ b o,b ∉ [z,TI,TO,i1,i2]->s.heap.get? b=some o->g2.get? b=some o:=fun b o hb e=>by
   simp only [YS,XG,GM,Y14] at hb
   rw[sb2 b hb.1]
   exact kp b o hb.1 hb.2.2.1 hb.2.2.2.1 hb.2.2.2.2 e
  have new:ObjOk X.prog X.w (upd H s.heap.objs.size (.tup [x0,y0])) g2 s.heap.objs.size (.tup [x0,y0]) :=
   ⟨by show 2<=sizeLine;decide,[x1,y1],.cons rx (.cons ry .nil),⟨_,by rw[sb2 _ pz];exact pr,rfl,0,rfl⟩⟩
  have I2:=We (t':=tk) I hf keep (YE _) new
  have nn:∀ b∈[z,TI,TO,i1,i2],upd H s.heap.objs.size (.tup [x0,y0]) b=none:=fun b hb=>by
   have:b≠s.heap.objs.size:=by
    have ob:∃ o,s.heap.get? b=some o:=by
     simp only [YS,XG,GM] at hb
     obtain⟨o1,e1,_⟩:=c1
     obtain⟨o2,e2,_⟩:=c2
     rcases hb with rfl | rfl | rfl | rfl | rfl
     ·exact⟨_,hz⟩
     ·exact⟨_,hTI⟩
     ·exact⟨_,hTO⟩
     ·exact⟨_,e1⟩
     ·exact⟨_,e2⟩
    obtain⟨o,e⟩:=ob
    exact XA (YH e)
   rw[Zf this]
   exact (hf b hb).1
  refine⟨.ref s.heap.objs.size,_,I2,rfl,⟨_,x0,y0,rfl,I.fresh,rfl,fun xs' h1=>by rw[I.tuple_inj h1 hx];exact ex,fun ys' h2=>by rw[I.list_inj h2 hy];exact ey⟩,⟨z2,?_,⟨x1,y1,?_⟩,?_,?_⟩,nn⟩
  ·exact (sb2 TI O.a1).trans (kp _ _ O.a1 O.a5 O.a6 O.a7 hTI)
  ·exact (sb2 TO O.a2).trans to'
  ·exact s1.1.extBut sb.extBut O.a3
  ·exact s2.1.extBut sb.extBut O.a4
 done:=by
  intro X hP hw hK hc i pins s σ H E I hf st hg
  subst hP hw hK
  obtain⟨xs,ys,hx,hy,rfl⟩:=hg
  obtain⟨hz,hTI,⟨a,b,hTO⟩,c1,c2⟩:=st
  obtain⟨u1,v1,p1,_⟩:=I.tuple hx
  have n1:=v1.length
  have ne:∀ b∈[z,TI,TO,i1,i2],t≠b/\u≠b:=fun b hb=>⟨Nn I (hf b hb) hx,Ua I (hf b hb) hy⟩
  have off:∀ b∈[z,TI,TO,i1,i2],∀ x,(b,x) ∉ X.pn:=fun b hb x m=>(hf b hb).2.2.2.2.2 _ (YJ _ m) rfl
  have qI:∀ p∈X.pn,s.heap.get? p.1=some p.2:=fun p hp=>(I.pin p (YJ _ hp)).1
  have qO:∀ b∈[z,TI,TO,i1,i2],∀ p∈X.pn,p.1≠b:=fun b hb p hp=>(hf b hb).2.2.2.2.2 p (YJ _ hp)
  have D:Off z TI TO i1 i2 (i1::t::X.pn.map Prod.fst) (i2::u::X.pn.map Prod.fst):=⟨O.a1,O.a2,O.a3,O.a4,O.a5,O.a6,O.a7,O.a8,O.a9,O.b1,
   by simp[O.a3.symm,(ne z (by simp)).1.symm,off z (by simp)],by simp[O.a8,(ne TO (by simp)).1.symm,off TO (by simp)],by simp[O.b1.symm,(ne i2 (by simp)).1.symm,off i2 (by simp)],
   by simp[O.a4.symm,(ne z (by simp)).2.symm,off z (by simp)],by simp[O.a9,(ne TO (by simp)).2.symm,off TO (by simp)],by simp[O.b1,(ne i1 (by simp)).2.symm,off i1 (by simp)]⟩
  have D1:=Um (prog:=X.prog) (w:=X.w) (A:=X.A.in1) (I.ok.hd hc) i1 t (ne i1 (by simp)).1 (qO i1 (by simp)) u1.toArray
  have c1':s.heap.IsTupleIter i1 t u1.toArray.size:=by
   rw[YR,<-n1]
   exact c1
  refine Vx D D1 hz hTI ⟨c1',p1,qI⟩ fun g kp=>⟨rfl,?_⟩
  exact Ue (t':=s.toks) I hf fun b o hb e=>by
   simp only [YS,XG,GM,Y14] at hb
   exact kp b o hb.1 hb.2.2.2.1 e
 self:=fun _ _ _ _ _ st h=>jp st.1 h
section
variable {X:Cx}
def iZipM (K:W.Frag)(ta:TA):TI:=fun σ H R=>ta σ H fun vs H1=>∃ t u,vs=[.ref t,.ref u]/\(∃ xs,SqT K H1 t xs)/\(∃ ys,SqL K H1 u ys)/\R (ItzM K t u) H1
theorem Z30 {a b:Expr}{ta:TA}{p pos:Pos}{es:List Expr}{kk:Nat}{tp:Pos}(hg:Gl X "zip")(hm:X.mg "zip"=none)(ha:PA X [a,b] ta)(hs:starEach [a,b] X.env=[(false,eval a X.env),(false,eval b X.env)]:=by rfl)
  (hs2:starEach [b] X.env=[(false,eval b X.env)]:=by rfl):PI X (.Tuple es kk tp) (.Call (.Name "zip" p) [a,b] [] pos) (iZipM X.K ta):=by
 intro pins s σ H R I h
 refine Call_ (W3 I hg hm boot_zip (XR (thn (ha pos pins s σ H _ I h) fun us s1 ⟨vs,H1,I1,r1,q1⟩=>?_) (by rw[hs,hs2]) (by rw[hs2];rfl)))
 obtain⟨t,u,e,⟨xs,hx⟩,⟨ys,hy⟩,q⟩:=q1
 subst e
 obtain⟨t0,u0,e0,rt,ru⟩:=Mt r1
 cases (show t0=Value.ref t from rt)
 cases (show u0=Value.ref u from ru)
 subst e0
 obtain⟨u1,v1,p1,_⟩:=I1.tuple hx
 obtain⟨u2,v2,p2',_⟩:=I1.list hy
 have p2:=p2'.isList
 refine Cw (xs:=u1.toArray) (ys:=u2.toArray) p1 p2 fun g z0 ti to i1 i2 sz kp=>?_
 refine jp z0 ?_
 have I2:Inv X pins σ H1 { s1 with heap:=g }:=I1.kept (t':=s1.toks) kp
 refine⟨s1.heap.objs.size+4,[s1.heap.objs.size+4,s1.heap.objs.size+2,s1.heap.objs.size+3,s1.heap.objs.size,s1.heap.objs.size+1],_,ItzM X.K t u,H1,rfl,I2,D8 (O:=?_) t u,⟨z0,ti,⟨_,_,to⟩,i1,i2⟩,fun b hb=>?_,q⟩
 ·refine⟨?_,?_,?_,?_,?_,?_,?_,?_,?_,?_⟩ <;> (show @Ne Nat _ _;omega)
 ·have hb':s1.heap.objs.size<=b:=by
   simp only [YS,XG,GM] at hb
   rcases hb with rfl | rfl | rfl | rfl | rfl
   ·exact GB _ _
   ·exact GB _ _
   ·exact GB _ _
   ·exact YE _
   ·exact GB _ _
  exact I1.fpOk hb' (I1.hok.fresh hb')
end
theorem Kq (l:Addr)(items:Array Value)(n:Nat)(dd:Option Addr)(sl:Array (Option Value))(u:Tok) :
  Meets (Builtin.«tuple.__mul__» ⟨[.ref l,.int 1 u],[]⟩) (fun _ R s=>s.heap.get? l=some { cls:=.type "tuple",dict:=dd,data:=.seq items n,slots:=sl }/\R (.ok (.ret (Value.ref l))) s) :=
 .of_wp fun prog w A R s h=>by
  obtain⟨hp,g,d,tk,os⟩:=s;obtain⟨hl,h⟩:=h
  have f1:=Y0D
  have f2:=zH
  have c1:(items.isEmpty || (1:Int) == 1)=true:=by simp
  wp_walk using JB hl
  exact⟨_,rfl,h⟩
section
variable {X:Cx}{K:W.Frag}
def rRepU (K:W.Frag):R2:=fun x y H Q=>∃ a k xs,x=.ref a/\y=.int k/\SqT K H a xs/\1<=k/\xs≠[]/\xs.length*k.toNat<=1000/\∀ p H',Same H H'->SqT K H' p (List.replicate k.toNat xs).flatten->Q (.ref p) H'
theorem F9:OpR X (binaryOp .Mult) (rRepU X.K):=by
 intro pins s σ H x y v u Q I rx ry h
 obtain⟨l,k,xs,rfl,rfl,hq,h1,h2,h3,q⟩:=h
 by_cases hk:2<=k
 ·exact Fc pins s σ H _ _ v u Q I rx ry ⟨l,k,xs,rfl,rfl,hq,hk,h2,h3,fun p hp=>q p _ (Same.new hp) (SqT.of Zc)⟩
 ·have e:k=1:=by omega
  subst e
  cases rx
  obtain⟨t,rfl⟩:=ry
  obtain⟨its,r,pl,hz⟩:=I.tuple hq
  obtain⟨⟨cls,dd,data,sl⟩,ho,hc,n,hd⟩:=id pl
  simp only at hc hd
  subst hc hd
  refine Y0l (T:="tuple") (U:="int") (by decide) ⟨_,ho,rfl⟩ (fun s'=>Y0G s' 1 t) Vf F.fills_int_mul jx Tg F.slot_int_index.lookup
   (jm jx (Y0G s 1 t) F.entry_int_rmul (F.args_int_rmul_2 _ _) (Uo 1 t l its.toArray n dd sl)
    ⟨ho,rfl,⟨_,ho,rfl⟩,jm jo ⟨_,ho,rfl⟩ F.entry_tuple_mul (F.args_tuple_mul_2 _ _) (Kq l its.toArray n dd sl t) ⟨ho,?_⟩⟩)
  refine⟨.ref l,H,I,rfl,q l H (fun _ _ h=>h) ?_⟩
  have:(List.replicate (1:Int).toNat xs).flatten=xs:=by simp
  rw[this]
  exact hq
end
end Sb
namespace Sv
structure Tab where
 b:Int
 own:Nat->Nat
 hd:Nat->Nat
 L:Nat->Nat->Int
def colOf (n:Nat)(col:Nat->Vec)(rhs:Vec)(T:Tab)(j:Nat):Vec:=if j<n then col (T.hd j) else rhs
def bas (col:Nat->Vec)(T:Tab):Mat:=fun i=>col (T.own i)
structure Inv (m n:Nat)(col:Nat->Vec)(rhs:Vec)(T:Tab):Prop where
 pos:0<T.b
 dt:det m (bas col T)=T.b
 eqs:∀ j,j<=n->∀ r,r<m->T.b*colOf n col rhs T j r=sm m (fun i=>T.L i j*bas col T i r)
 part:∀ f:Nat->Int,sm (n+m) f=sm m (fun i=>f (T.own i))+sm n (fun j=>f (T.hd j))
section
variable {m n:Nat}{col:Nat->Vec}{rhs:Vec}{T:Tab}
theorem Mp {a x y:Int}(h:0<a)(e:a*x=a*y):x=y:=JM (by omega) e
theorem Ml {i k:Nat}(hi:i<m)(hk:k<m):det m (put (bas col T) i (bas col T k))=if k=i then det m (bas col T) else 0:=by
 by_cases e:k=i
 ·subst e
  rw[YM rfl,U6]
 ·rw[YF e]
  exact Pg hi hk (XN e) (by rw[Yi,Y8 e])
theorem Inv.phi (I:Inv m n col rhs T){i j:Nat}(hi:i<m)(hj:j<=n):det m (put (bas col T) i (colOf n col rhs T j))=T.L i j:=by
 refine Mp I.pos ?_
 rw[<-Ke hi]
 have e1:det m (put (bas col T) i (fun r=>T.b*colOf n col rhs T j r))=det m (put (bas col T) i (fun r=>sm m (fun k=>T.L k j*bas col T k r))):=by
  refine Xh fun k r hk hr=>?_
  by_cases e:k=i
  ·subst e
   rw[Yi,Yi]
   exact I.eqs j hj r hr
  ·rw[Y8 e,Y8 e]
 rw[e1,Tv hi]
 rw[sm_one (k:=i) hi fun k hk hne=>?_]
 ·rw[Ml hi hi,YM rfl,I.dt,XF]
 ·rw[Ml hi hk,YF hne,GN]
theorem Inv.phiO (I:Inv m n col rhs T){i k:Nat}(hi:i<m)(hk:k<m):det m (put (bas col T) i (bas col T k))=if k=i then T.b else 0:=by
 rw[Ml hi hk,I.dt]
theorem Inv.two (I:Inv m n col rhs T){p i c j:Nat}(hp:p<m)(hi:i<m)(hpi:i≠p)(hc:c<=n)(hj:j<=n) :
  T.b*det m (put (put (bas col T) p (colOf n col rhs T c)) i (colOf n col rhs T j))=T.L i j*T.L p c - T.L i c*T.L p j:=by
 rw[Xt (XN hpi),<-Ke hp]
 have e1:det m (put (put (bas col T) i (colOf n col rhs T j)) p (fun r=>T.b*colOf n col rhs T c r))=det m (put (put (bas col T) i (colOf n col rhs T j)) p (fun r=>sm m (fun k=>T.L k c*bas col T k r))):=by
  refine Xh fun k r hk hr=>?_
  by_cases e:k=p
  ·subst e
   rw[Yi,Yi]
   exact I.eqs c hc r hr
  ·rw[Y8 e,Y8 e]
 rw[e1,Tv hp]
 rw[Bm (p:=p) (q:=i) hp hi (XN hpi) fun k hk h1 h2=>?_]
 ·have a1:put (put (bas col T) i (colOf n col rhs T j)) p (bas col T p)=put (bas col T) i (colOf n col rhs T j):=by
   rw[Xt hpi,U6]
  have a2:det m (put (put (bas col T) i (colOf n col rhs T j)) p (bas col T i))=- T.L p j:=by
   rw[Z2d hi hp hpi,U6,I.phi hp hj]
  rw[a1,a2,I.phi hi hj]
  grind
 ·rw[Pg (p:=p) (q:=k) hp hk (XN h1) (by rw[Yi,Y8 h1,Y8 h2]),GN]
def newL (T:Tab)(p c i j:Nat):Int:=if i=p then (if j=c then T.b else T.L p j) else if j=c then - T.L i c else (T.L i j*T.L p c - T.L i c*T.L p j).fdiv T.b
def up (f:Nat->Nat)(i v:Nat):Nat->Nat:=fun k=>if k=i then v else f k
def piv (T:Tab)(p c:Nat):Tab:=⟨T.L p c,up T.own p (T.hd c),up T.hd c (T.own p),newL T p c⟩
theorem Inv.newL_mul (I:Inv m n col rhs T){p c i j:Nat}(hp:p<m)(hc:c<n)(hi:i<m)(hj:j<=n)(h1:i≠p)(h2:j≠c):T.b*newL T p c i j=T.L i j*T.L p c - T.L i c*T.L p j:=by
 have h:=I.two hp hi h1 (JI hc) hj
 unfold newL
 rw[YF h1,YF h2,<-h]
 rw[XF T.b (det m _),Y01 _ (by have:=I.pos;omega)]
 rw[XF]
theorem Z4h {k:Nat}{f:Nat->Int}{g:Nat->Nat}{i v:Nat}(hi:i<k):sm k (fun x=>f (up g i v x))=sm k (fun x=>f (g x))+f v - f (g i):=by
 rw[Y3 (k:=i) hi,Y3 (f:=fun x=>f (g x)) (k:=i) hi]
 have e:sm k (fun x=>if x=i then 0 else f (up g i v x))=sm k (fun x=>if x=i then 0 else f (g x)):=Y5 fun x _=>by
  by_cases h:x=i
  ·rw[YM h,YM h]
  ·rw[YF h,YF h];unfold up;rw[YF h]
 rw[e]
 have:up g i v i=v:=YM rfl
 show f (up g i v i)+_=_
 rw[this]
 omega
theorem Fz (T:Tab)(p c:Nat):bas col (piv T p c)=put (bas col T) p (col (T.hd c)):=by
 funext i
 show col (up T.own p (T.hd c) i)=_
 by_cases e:i=p
 ·subst e
  rw[Yi]
  unfold up
  rw[YM rfl]
 ·rw[Y8 e]
  unfold up
  rw[YF e]
  rfl
theorem Wq {j:Nat}(h:j<n):colOf n col rhs T j=col (T.hd j):=YM h
theorem Inv.piv (I:Inv m n col rhs T){p c:Nat}(hp:p<m)(hc:c<n)(hk:0<T.L p c):Inv m n col rhs (piv T p c):=by
 refine⟨hk,?_,fun j hj r hr=>?_,fun f=>?_⟩
 ·rw[Fz,<-Wq (col:=col) (rhs:=rhs) (T:=T) hc,I.phi hp (JI hc)]
  rfl
 ·rw[Fz]
  show T.L p c*colOf n col rhs (Sv.piv T p c) j r=sm m (fun i=>newL T p c i j*put (bas col T) p (col (T.hd c)) i r)
  have ec:=I.eqs c (JI hc) r hr
  rw[Wq hc,Y3 (k:=p) hp] at ec
  rw[Y3 (k:=p) hp,Yi]
  by_cases e:j=c
  ·subst e
   have e1:colOf n col rhs (Sv.piv T p j) j=bas col T p:=by
    rw[Wq hc]
    show col (up T.hd j (T.own p) j)=_
    unfold up
    rw[YM rfl]
    rfl
   have e2:sm m (fun i=>if i=p then 0 else newL T p j i j*put (bas col T) p (col (T.hd j)) i r)=(-1)*sm m (fun i=>if i=p then 0 else T.L i j*bas col T i r):=by
    rw[<-Yw]
    refine Y5 fun i hi=>?_
    by_cases h:i=p
    ·rw[YM h,YM h];rfl
    ·rw[YF h,YF h,Y8 h]
     unfold newL
     rw[YF h,YM rfl]
     grind
   have e3:newL T p j p j=T.b:=by unfold newL;rw[YM rfl,YM rfl]
   rw[e1,e2,e3]
   omega
  ·have ej:=I.eqs j hj r hr
   rw[Y3 (k:=p) hp] at ej
   have e1:colOf n col rhs (Sv.piv T p c) j=colOf n col rhs T j:=by
    unfold colOf
    by_cases q:j<n
    ·rw[YM q,YM q]
     show col (up T.hd c (T.own p) j)=_
     unfold up
     rw[YF e]
    ·rw[YF q,YF q]
   have e3:newL T p c p j=T.L p j:=by unfold newL;rw[YM rfl,YF e]
   refine Mp I.pos ?_
   have e2:T.b*sm m (fun i=>if i=p then 0 else newL T p c i j*put (bas col T) p (col (T.hd c)) i r)=T.L p c*sm m (fun i=>if i=p then 0 else T.L i j*bas col T i r)+(- T.L p j)*sm m (fun i=>if i=p then 0 else T.L i c*bas col T i r):=by
    rw[<-Yw,<-Yw,<-Yw,<-Xm]
    refine Y5 fun i hi=>?_
    by_cases h:i=p
    ·rw[YM h,YM h,YM h];simp
    ·rw[YF h,YF h,YF h,Y8 h,<-JL,I.newL_mul hp hc hi hj h e]
     grind
   rw[e1,e3,Y19,e2]
   generalize sm m (fun i=>if i=p then 0 else T.L i j*bas col T i r)=A at *
   generalize sm m (fun i=>if i=p then 0 else T.L i c*bas col T i r)=B at *
   generalize colOf n col rhs T j r=x at *
   generalize col (T.hd c) r=y at *
   generalize bas col T p r=z at *
   clear e2
   grind
 ·show sm (n+m) f=sm m (fun i=>f (up T.own p (T.hd c) i))+sm n (fun j=>f (up T.hd c (T.own p) j))
  rw[Z4h hp,Z4h hc,I.part f]
  omega
def ind (v:Nat):Nat->Int:=fun x=>if x=v then 1 else 0
theorem Sl (v x:Nat):0<=ind v x:=by unfold ind;split <;> omega
theorem Inv.cnt (I:Inv m n col rhs T){v:Nat}(h:v<n+m):sm m (fun i=>ind v (T.own i))+sm n (fun j=>ind v (T.hd j))=1:=by
 rw[<-I.part (ind v),sm_one (f:=ind v) (k:=v) h fun i hi hne=>YF hne]
 exact YM rfl
theorem Inv.big (I:Inv m n col rhs T):sm m (fun i=>if T.own i<n+m then (0:Int) else 1)+sm n (fun j=>if T.hd j<n+m then (0:Int) else 1)=0:=by
 rw[<-I.part (fun x=>if x<n+m then 0 else 1)]
 exact sm_zero fun i hi=>YM hi
theorem Inv.ownLt (I:Inv m n col rhs T){i:Nat}(hi:i<m):T.own i<n+m:=by
 apply YU
 intro h
 have e:=I.big
 have h1:0<=sm n (fun j=>if T.hd j<n+m then (0:Int) else 1):=Y4 fun j _=>by split <;> omega
 rw[Y3 (k:=i) hi,YF h] at e
 have h2:0<=sm m (fun x=>if x=i then 0 else if T.own x<n+m then (0:Int) else 1):=Y4 fun j _=>by split <;> (try split) <;> omega
 omega
theorem Inv.hdLt (I:Inv m n col rhs T){j:Nat}(hj:j<n):T.hd j<n+m:=by
 apply YU
 intro h
 have e:=I.big
 have h1:0<=sm m (fun j=>if T.own j<n+m then (0:Int) else 1):=Y4 fun j _=>by split <;> omega
 rw[Y3 (f:=fun j=>if T.hd j<n+m then (0:Int) else 1) (k:=j) hj,YF h] at e
 have h2:0<=sm n (fun x=>if x=j then 0 else if T.hd x<n+m then (0:Int) else 1):=Y4 fun j _=>by split <;> (try split) <;> omega
 omega
theorem Inv.ne (I:Inv m n col rhs T){i j:Nat}(hi:i<m)(hj:j<n):T.own i≠T.hd j:=fun h=>by
 have e:=I.cnt (I.ownLt hi)
 rw[Y3 (k:=i) hi,Y3 (f:=fun x=>ind (T.own i) (T.hd x)) (k:=j) hj] at e
 have a1:ind (T.own i) (T.own i)=1:=YM rfl
 have a2:ind (T.own i) (T.hd j)=1:=YM h.symm
 have h1:0<=sm m (fun x=>if x=i then 0 else ind (T.own i) (T.own x)):=Y4 fun x _=>by split;omega;exact Sl ..
 have h2:0<=sm n (fun x=>if x=j then 0 else ind (T.own i) (T.hd x)):=Y4 fun x _=>by split;omega;exact Sl ..
 omega
theorem Inv.ownInj (I:Inv m n col rhs T){i k:Nat}(hi:i<m)(hk:k<m)(h:T.own i=T.own k):i=k:=by
 apply YU
 intro hne
 have e:=I.cnt (I.ownLt hi)
 rw[Y3 (k:=i) hi,Y3 (f:=fun x=>if x=i then 0 else ind (T.own i) (T.own x)) (k:=k) hk] at e
 have a1:ind (T.own i) (T.own i)=1:=YM rfl
 rw[YF (XN hne)] at e
 have a2:ind (T.own i) (T.own k)=1:=YM h.symm
 have h1:0<=sm m (fun x=>if x=k then 0 else if x=i then 0 else ind (T.own i) (T.own x)):=Y4 fun x _=>by split;omega;split;omega;exact Sl ..
 have h2:0<=sm n (fun x=>ind (T.own i) (T.hd x)):=Y4 fun x _=>Sl ..
 omega
theorem Inv.hdInj (I:Inv m n col rhs T){i k:Nat}(hi:i<n)(hk:k<n)(h:T.hd i=T.hd k):i=k:=by
 apply YU
 intro hne
 have e:=I.cnt (I.hdLt hi)
 rw[Y3 (f:=fun x=>ind (T.hd i) (T.hd x)) (k:=i) hi,Y3 (f:=fun x=>if x=i then 0 else ind (T.hd i) (T.hd x)) (k:=k) hk] at e
 have a1:ind (T.hd i) (T.hd i)=1:=YM rfl
 rw[YF (XN hne)] at e
 have a2:ind (T.hd i) (T.hd k)=1:=YM h.symm
 have h1:0<=sm n (fun x=>if x=k then 0 else if x=i then 0 else ind (T.hd i) (T.hd x)):=Y4 fun x _=>by split;omega;split;omega;exact Sl ..
 have h2:0<=sm m (fun x=>ind (T.hd i) (T.own x)):=Y4 fun x _=>Sl ..
 omega
theorem Inv.cover (I:Inv m n col rhs T){v:Nat}(h:v<n+m):(∃ i,i<m/\T.own i=v) \/ (∃ j,j<n/\T.hd j=v):=by
 have e:=I.cnt h
 by_cases q:0<sm m (fun i=>ind v (T.own i))
 ·obtain⟨i,hi,hp⟩:=Kt q
  refine .inl ⟨i,hi,?_⟩
  apply YU
  intro z
  rw[show ind v (T.own i)=0 from YF z] at hp
  omega
 ·have:0<sm n (fun j=>ind v (T.hd j)):=by omega
  obtain⟨i,hi,hp⟩:=Kt this
  refine .inr ⟨i,hi,?_⟩
  apply YU
  intro z
  rw[show ind v (T.hd i)=0 from YF z] at hp
  omega
theorem Inv.row (I:Inv m n col rhs T){i:Nat}(hi:i<m)(x:Nat->Int)(hx:∀ r,r<m->sm (n+m) (fun v=>x v*col v r)=0):T.b*x (T.own i)+sm n (fun j=>T.L i j*x (T.hd j))=0:=by
 have e1:det m (put (bas col T) i (fun r=>sm (n+m) (fun v=>x v*col v r)))=0:=by
  rw[<-Kd (m:=m) (v:=bas col T) (c:=i) hi]
  refine Xh fun k r hk hr=>?_
  by_cases e:k=i
  ·subst e
   rw[Yi,Yi]
   exact hx r hr
  ·rw[Y8 e,Y8 e]
 rw[Tv hi,I.part] at e1
 have e2:sm m (fun k=>x (T.own k)*det m (put (bas col T) i (col (T.own k))))=T.b*x (T.own i):=by
  rw[sm_one (k:=i) hi fun k hk hne=>?_]
  ·have:=I.phiO hi hi
   rw[YM rfl] at this
   show x (T.own i)*det m (put (bas col T) i (bas col T i))=_
   rw[this,XF]
  ·have:=I.phiO hi hk
   rw[YF hne] at this
   show x (T.own k)*det m (put (bas col T) i (bas col T k))=_
   rw[this,GN]
 have e3:sm n (fun j=>x (T.hd j)*det m (put (bas col T) i (col (T.hd j))))=sm n (fun j=>T.L i j*x (T.hd j)):=Y5 fun j hj=>by
  have:=I.phi (i:=i) (j:=j) hi (JI hj)
  rw[Wq hj] at this
  rw[this,XF]
 rw[e2,e3] at e1
 exact e1
def dir (m:Nat)(T:Tab)(c:Nat):Nat->Int:=fun v=>(if v=T.hd c then T.b else 0) + - sm m (fun i=>if T.own i=v then T.L i c else 0)
theorem Inv.dirO (I:Inv m n col rhs T){c i:Nat}(hc:c<n)(hi:i<m):dir m T c (T.own i)=- T.L i c:=by
 unfold dir
 rw[YF (I.ne hi hc),sm_one (k:=i) hi fun k hk hne=>YF fun z=>hne (I.ownInj hk hi z),YM rfl]
 omega
theorem Inv.dirH (I:Inv m n col rhs T){c j:Nat}(hc:c<n)(hj:j<n):dir m T c (T.hd j)=if j=c then T.b else 0:=by
 unfold dir
 rw[sm_zero (f:=fun i=>if T.own i=T.hd j then T.L i c else 0) fun k hk=>YF (I.ne hk hj)]
 by_cases e:j=c
 ·subst e
  rw[YM rfl,YM rfl]
  omega
 ·rw[YF e,YF fun z=>e (I.hdInj hj hc z)]
  omega
theorem Inv.dirSol (I:Inv m n col rhs T){c:Nat}(hc:c<n){r:Nat}(hr:r<m):sm (n+m) (fun v=>dir m T c v*col v r)=0:=by
 rw[I.part]
 have e1:sm m (fun i=>dir m T c (T.own i)*col (T.own i) r)=(-1)*sm m (fun i=>T.L i c*bas col T i r):=by
  rw[<-Yw]
  refine Y5 fun i hi=>?_
  rw[I.dirO hc hi]
  show _=-1*(T.L i c*col (T.own i) r)
  grind
 have e2:sm n (fun j=>dir m T c (T.hd j)*col (T.hd j) r)=T.b*col (T.hd c) r:=by
  rw[sm_one (k:=c) hc fun j hj hne=>by rw[I.dirH hc hj,YF hne,zo],I.dirH hc hc,YM rfl]
 have e3:=I.eqs c (JI hc) r hr
 rw[Wq hc] at e3
 rw[e1,e2,e3]
 omega
end
end Sv
namespace Sv
section
variable {m n lk i0:Nat}{col:Nat->Vec}{rhs:Vec}{T:Tab}{p c:Nat}
structure Step (m n lk i0:Nat)(T:Tab)(p c:Nat):Prop where
 hp:p<m
 hc:c<n
 nl:T.hd c≠lk
 help:0<T.L i0 c
 first:∀ j,j<n->T.hd j≠lk->0<T.L i0 j->T.hd c<=T.hd j
 el:T.own p<=lk
 key:0<T.L p c
 least:∀ i,i<m->T.own i<=lk->0<T.L i c->T.L p n*T.L i c<T.L i n*T.L p c \/ (T.L p n*T.L i c=T.L i n*T.L p c/\T.own p<=T.own i)
def Feas (m n lk:Nat)(T:Tab):Prop:=∀ i,i<m->T.own i<=lk->0<=T.L i n
theorem C6 {a x:Int}(ha:0<a)(h:0<=a*x):0<=x:=by
 apply YU
 intro z
 have:=Int.mul_neg_of_pos_of_neg ha (show x<0 by omega)
 omega
theorem Inv.end_ne (I:Inv m n col rhs T)(s:Step m n lk i0 T p c){i:Nat}(hi:i<m)(h:i≠p):T.b*(Sv.piv T p c).L i n=T.L i n*T.L p c - T.L i c*T.L p n :=
 I.newL_mul s.hp s.hc hi (YE n) h (by have:=s.hc;omega)
theorem Z4y (s:Step m n lk i0 T p c):(piv T p c).L p n=T.L p n:=by
 show newL T p c p n=_
 unfold newL
 rw[YM rfl,YF (by have:=s.hc;omega)]
theorem own_p:(piv T p c).own p=T.hd c:=YM rfl
theorem own_ne {i:Nat}(h:i≠p):(piv T p c).own i=T.own i:=YF h
theorem Step.feas (I:Inv m n col rhs T)(s:Step m n lk i0 T p c)(F:Feas m n lk T):Feas m n lk (piv T p c):=fun i hi ho=>by
 by_cases e:i=p
 ·subst e
  rw[Z4y s]
  exact F i hi s.el
 ·rw[own_ne e] at ho
  have h:=I.end_ne s hi e
  have h0:=F i hi ho
  have h1:=F p s.hp s.el
  refine C6 I.pos ?_
  rw[h]
  by_cases q:0<T.L i c
  ·rcases s.least i hi ho q with z | ⟨z,_⟩
   ·rw[XF (T.L i c)];omega
   ·rw[XF (T.L i c)];omega
  ·have a1:0<=T.L i n*T.L p c:=qu h0 (by have:=s.key;omega)
   have a2:T.L i c*T.L p n<=0:=GG (by omega) h1
   omega
structure Run (m n lk i0:Nat)(col:Nat->Vec)(rhs:Vec)(K:Nat)(S:Nat->Tab)(P C:Nat->Nat):Prop where
 h0:i0<m
 I0:Inv m n col rhs (S 0)
 F0:Feas m n lk (S 0)
 st:∀ k,k<K->Step m n lk i0 (S k) (P k) (C k)
 stay:∀ k,k<K->P k≠i0
 nx:∀ k,k<K->S (k+1)=piv (S k) (P k) (C k)
variable {K:Nat}{S:Nat->Tab}{P C:Nat->Nat}
theorem Run.inv (R:Run m n lk i0 col rhs K S P C):∀ k,k<=K->Inv m n col rhs (S k)/\Feas m n lk (S k)
 | 0,_=>⟨R.I0,R.F0⟩
 | k+1,h=>by
  obtain⟨I,F⟩:=R.inv k (by omega)
  have s:=R.st k (by omega)
  rw[R.nx k (by omega)]
  exact⟨I.piv s.hp s.hc s.key,s.feas I F⟩
theorem Run.down (R:Run m n lk i0 col rhs K S P C){a:Nat}:∀ d,a+d<=K->(S (a+d)).L i0 n*(S a).b<=(S a).L i0 n*(S (a+d)).b/\((∃ l,a<=l/\l<a+d/\0<(S l).L (P l) n)->(S (a+d)).L i0 n*(S a).b<(S a).L i0 n*(S (a+d)).b)
 | 0,_=>⟨Y1a _,fun ⟨l,h1,h2,_⟩=>by omega⟩
 | d+1,h=>by
  obtain⟨h1,h2⟩:=R.down (a:=a) d (by omega)
  obtain⟨I,F⟩:=R.inv (a+d) (by omega)
  obtain⟨Ia,_⟩:=R.inv a (by omega)
  have s:=R.st (a+d) (by omega)
  have e:=I.end_ne s R.h0 (XN (R.stay (a+d) (by omega)))
  have eb:(piv (S (a+d)) (P (a+d)) (C (a+d))).b=(S (a+d)).L (P (a+d)) (C (a+d)):=rfl
  rw[<-Y0y,R.nx (a+d) (by omega),eb]
  have hn:=F (P (a+d)) s.hp s.el
  have hh:=s.help
  have hk:=s.key
  have hb:=I.pos
  have ha:=Ia.pos
  have hd:0<=(S (a+d)).L i0 (C (a+d))*(S (a+d)).L (P (a+d)) n:=qu (by omega) hn
  have hds:0<(S (a+d)).L (P (a+d)) n->0<(S (a+d)).L i0 (C (a+d))*(S (a+d)).L (P (a+d)) n:=fun z=>YY hh z
  have hs:(∃ l,a<=l/\l<a+d+1/\0<(S l).L (P l) n)->(∃ l,a<=l/\l<a+d/\0<(S l).L (P l) n) \/ 0<(S (a+d)).L (P (a+d)) n:=fun ⟨l,l1,l2,l3⟩=>by
   by_cases q:l=a+d
   ·subst q;exact .inr l3
   ·exact .inl ⟨l,l1,by omega,l3⟩
  generalize (piv (S (a+d)) (P (a+d)) (C (a+d))).L i0 n=x' at *
  generalize (S (a+d)).L i0 n=x at *
  generalize (S (a+d)).b=b at *
  generalize (S (a+d)).L (P (a+d)) (C (a+d))=b' at *
  generalize (S a).b=ba at *
  generalize (S a).L i0 n=xa at *
  generalize (S (a+d)).L i0 (C (a+d))*(S (a+d)).L (P (a+d)) n=t at *
  have e1:b*(x'*ba)=x*ba*b' - t*ba:=by
   have:b*(x'*ba)=(b*x')*ba:=by grind
   rw[this,e];grind
  have e2:b*(xa*b')=(xa*b)*b':=by grind
  have m1:x*ba*b'<=xa*b*b':=JS h1 (by omega)
  have m2:0<=t*ba:=qu hd (by omega)
  constructor
  ·exact Y0n (show b*(x'*ba)<=b*(xa*b') by omega) hb
  ·intro z
   rcases hs z with z | z
   ·have m3:x*ba*b'<xa*b*b':=zB (h2 z) hk
    exact z9 (show b*(x'*ba)<b*(xa*b') by omega) (by omega)
   ·have m3:0<t*ba:=YY (hds z) ha
    exact z9 (show b*(x'*ba)<b*(xa*b') by omega) (by omega)
def isOwn (m:Nat)(T:Tab)(r:Nat):Prop:=∃ i,i<m/\T.own i=r
def Zr (m n:Nat)(T:Tab)(r:Nat):Prop:=∀ i,i<m->T.own i=r->T.L i n=0
theorem Jp {r:Nat}(h:isOwn m T r)(hr:r≠T.own p):isOwn m (piv T p c) r:=by
 obtain⟨i,hi,rfl⟩:=h
 have:i≠p:=fun z=>hr (by rw[z])
 exact⟨i,hi,own_ne this⟩
theorem Cj {r:Nat}(h:¬ isOwn m T r)(hr:r≠T.hd c):¬ isOwn m (piv T p c) r:=fun ⟨i,hi,e⟩=>by
 by_cases q:i=p
 ·subst q
  rw[own_p] at e
  exact hr e.symm
 ·rw[own_ne q] at e
  exact h ⟨i,hi,e⟩
theorem Z6i (I:Inv m n col rhs T)(s:Step m n lk i0 T p c)(h0:T.L p n=0){r:Nat}:(Zr m n T r->Zr m n (piv T p c) r)/\(Zr m n (piv T p c) r->Zr m n T r):=by
 have hb:=I.pos
 have hk:=s.key
 refine⟨fun h i hi e=>?_,fun h i hi e=>?_⟩
 ·by_cases q:i=p
  ·subst q
   rw[Z4y s];exact h0
  ·rw[own_ne q] at e
   have:=I.end_ne s hi q
   rw[h i hi e,h0] at this
   refine Mp hb ?_
   rw[this];simp
 ·by_cases q:i=p
  ·subst q;exact h0
  ·have:=I.end_ne s hi q
   rw[h i hi (by rw[own_ne q];exact e),h0] at this
   refine Mp hk ?_
   have e2:T.L p c*T.L i n=T.L i n*T.L p c:=XF ..
   rw[e2]
   simp at this
   simp
   omega
theorem Run.Zall (R:Run m n lk i0 col rhs K S P C){a d0:Nat}(hK:a+d0<=K)(hz:∀ l,a<=l->l<a+d0->(S l).L (P l) n=0){r:Nat}:∀ d,d<=d0->(Zr m n (S (a+d)) r ↔ Zr m n (S a) r)
 | 0,_=>Iff.rfl
 | d+1,h=>by
  have ih:=R.Zall hK hz (r:=r) d (by omega)
  obtain⟨I,_⟩:=R.inv (a+d) (by omega)
  obtain⟨z1,z2⟩:=Z6i I (R.st (a+d) (by omega)) (hz (a+d) (by omega) (by omega)) (r:=r)
  rw[<-Y0y,R.nx (a+d) (by omega)]
  exact⟨fun h=>ih.mp (z2 h),fun h=>z1 (ih.mpr h)⟩
theorem Run.keeps (R:Run m n lk i0 col rhs K S P C){k r:Nat}(h:isOwn m (S k) r):∀ d,k+d<=K->(∀ l,k<=l->l<k+d->(S l).own (P l)≠r)->isOwn m (S (k+d)) r
 | 0,_,_=>h
 | d+1,hK,hl=>by
  have ih:=R.keeps h d (by omega) fun l h1 h2=>hl l h1 (by omega)
  rw[<-Y0y,R.nx (k+d) (by omega)]
  exact Jp ih (XN (hl (k+d) (by omega) (by omega)))
theorem Run.keepsN (R:Run m n lk i0 col rhs K S P C){k r:Nat}(h:¬ isOwn m (S k) r):∀ d,k+d<=K->(∀ l,k<=l->l<k+d->(S l).hd (C l)≠r)->¬ isOwn m (S (k+d)) r
 | 0,_,_=>h
 | d+1,hK,hl=>by
  have ih:=R.keepsN h d (by omega) fun l h1 h2=>hl l h1 (by omega)
  rw[<-Y0y,R.nx (k+d) (by omega)]
  exact Cj ih (XN (hl (k+d) (by omega) (by omega)))
theorem Z1l (f:Nat->Nat)(a:Nat):∀ d,0<d->∃ k,a<=k/\k<a+d/\∀ l,a<=l->l<a+d->f l<=f k
 | 0,h=>by omega
 | 1,_=>⟨a,by omega,by omega,fun l h1 h2=>by rw[show l=a by omega];exact YE _⟩
 | d+2,_=>by
  obtain⟨k,h1,h2,h3⟩:=Z1l f a (d+1) (by omega)
  by_cases q:f k<=f (a+d+1)
  ·refine⟨a+d+1,by omega,by omega,fun l l1 l2=>?_⟩
   by_cases e:l=a+d+1
   ·rw[e];exact YE _
   ·exact XQ (h3 l l1 (by omega)) q
  ·refine⟨k,h1,by omega,fun l l1 l2=>?_⟩
   by_cases e:l=a+d+1
   ·rw[e];omega
   ·exact h3 l l1 (by omega)
theorem Run.once (R:Run m n lk i0 col rhs K S P C){a d:Nat}(hd:0<d)(hK:a+d<=K)(same:∀ i,i<m->(S a).own i=(S (a+d)).own i):False:=by
 obtain⟨Ia,Fa⟩:=R.inv a (by omega)
 obtain⟨Ib,Fb⟩:=R.inv (a+d) hK
 have eb:(S a).b=(S (a+d)).b:=by
  rw[<-Ia.dt,<-Ib.dt]
  refine Xh fun k r hk hr=>?_
  show col ((S a).own k) r=col ((S (a+d)).own k) r
  rw[same k hk]
 have ee:(S a).L i0 n=(S (a+d)).L i0 n:=by
  rw[<-Ia.phi R.h0 (YE n),<-Ib.phi R.h0 (YE n)]
  refine Xh fun k r hk hr=>?_
  by_cases e:k=i0
  ·subst e
   rw[Yi,Yi]
   unfold colOf
   rw[YF (by omega),YF (by omega)]
  ·rw[Y8 e,Y8 e]
   show col ((S a).own k) r=col ((S (a+d)).own k) r
   rw[same k hk]
 have hz:∀ l,a<=l->l<a+d->(S l).L (P l) n=0:=fun l h1 h2=>by
  have s:=R.st l (by omega)
  have f:=(R.inv l (by omega)).2 (P l) s.hp s.el
  apply YU
  intro z
  have:=(R.down (a:=a) d hK).2 ⟨l,h1,h2,by omega⟩
  rw[<-ee,<-eb] at this
  omega
 have own_iff:∀ r,isOwn m (S a) r->isOwn m (S (a+d)) r:=fun r ⟨i,hi,e⟩=>⟨i,hi,by rw[<-same i hi];exact e⟩
 have own_iff':∀ r,isOwn m (S (a+d)) r->isOwn m (S a) r:=fun r ⟨i,hi,e⟩=>⟨i,hi,by rw[same i hi];exact e⟩
 obtain⟨k1,h11,h12,hmax⟩:=Z1l (fun k=>(S k).hd (C k)) a d hd
 have s1:=R.st k1 (by omega)
 obtain⟨I1,F1⟩:=R.inv k1 (by omega)
 have not1:¬ isOwn m (S k1) ((S k1).hd (C k1)):=fun ⟨i,hi,e⟩=>I1.ne hi s1.hc e
 have ⟨k2,h21,h22,h23⟩:∃ k,a<=k/\k<a+d/\(S k).own (P k)=(S k1).hd (C k1):=by
  apply YU
  intro hn
  have hne:∀ l,a<=l->l<a+d->(S l).own (P l)≠(S k1).hd (C k1):=fun l l1 l2 z=>hn ⟨l,l1,l2,z⟩
  have o1:isOwn m (S (k1+1)) ((S k1).hd (C k1)):=⟨P k1,s1.hp,by rw[R.nx k1 (by omega)];exact own_p⟩
  have o2:=R.keeps o1 (a+d - (k1+1)) (by omega) fun l l1 l2=>hne l (by omega) (by omega)
  rw[show k1+1+(a+d - (k1+1))=a+d by omega] at o2
  have o3:=R.keeps (own_iff' _ o2) (k1 - a) (by omega) fun l l1 l2=>hne l (by omega) (by omega)
  rw[show a+(k1 - a)=k1 by omega] at o3
  exact not1 o3
 have s2:=R.st k2 (by omega)
 obtain⟨I2,F2⟩:=R.inv k2 (by omega)
 have row:=I1.row R.h0 (dir m (S k2) (C k2)) fun r hr=>I2.dirSol s2.hc hr
 have ho:∀ k,k<=K->(S k).own i0=(S 0).own i0:=fun k=>by
  induction k with
  | zero=>intro _;rfl
  | succ k ih =>
   intro h
   rw[R.nx k (by omega),own_ne (XN (R.stay k (by omega)))]
   exact ih (by omega)
 have e12:(S k1).own i0=(S k2).own i0:=by rw[ho k1 (by omega),ho k2 (by omega)]
 rw[e12,I2.dirO s2.hc R.h0] at row
 have pos:0<sm n (fun j=>(S k1).L i0 j*dir m (S k2) (C k2) ((S k1).hd j)):=by
  have:=YY I1.pos s2.help
  have e:(S k1).b * -(S k2).L i0 (C k2)=-((S k1).b*(S k2).L i0 (C k2)):=by grind
  rw[e] at row
  omega
 obtain⟨j,hj,hp⟩:=Kt pos
 rcases I2.cover (I1.hdLt hj) with ⟨i,hi,e⟩ | ⟨j',hj',e⟩
 ·rw[<-e,I2.dirO s2.hc hi] at hp
  have own2:isOwn m (S k2) ((S k1).hd j):=⟨i,hi,e⟩
  have notown1:¬ isOwn m (S k1) ((S k1).hd j):=fun ⟨i',hi',e'⟩=>I1.ne hi' hj e'
  have ⟨k3,h31,h32,h33⟩:∃ k,a<=k/\k<a+d/\(S k).hd (C k)=(S k1).hd j:=by
   apply YU
   intro hn
   have hne:∀ l,a<=l->l<a+d->(S l).hd (C l)≠(S k1).hd j:=fun l l1 l2 z=>hn ⟨l,l1,l2,z⟩
   have o2:=R.keepsN notown1 (a+d - k1) (by omega) fun l l1 l2=>hne l (by omega) (by omega)
   rw[show k1+(a+d - k1)=a+d by omega] at o2
   have o3:=R.keepsN (fun z=>o2 (own_iff _ z)) (k2 - a) (by omega) fun l l1 l2=>hne l (by omega) (by omega)
   rw[show a+(k2 - a)=k2 by omega] at o3
   exact o3 own2
  have hle:(S k1).hd j<=(S k1).hd (C k1):=by rw[<-h33];exact hmax k3 h31 h32
  have s3:=R.st k3 (by omega)
  have hnl:(S k1).hd j≠lk:=by rw[<-h33];exact s3.nl
  by_cases q:i=P k2
  ·
   subst q
   have ej:(S k1).hd j=(S k1).hd (C k1):=by rw[<-e];exact h23
   have ec:j=C k1:=I1.hdInj hj s1.hc ej
   subst ec
   have:=YY s1.help s2.key
   have e':(S k1).L i0 (C k1) * -(S k2).L (P k2) (C k2)=-((S k1).L i0 (C k1)*(S k2).L (P k2) (C k2)):=by grind
   rw[e'] at hp
   omega
  ·have hlt:(S k1).hd j<(S k1).hd (C k1):=by
    rcases Nat.lt_or_ge ((S k1).hd j) ((S k1).hd (C k1)) with z | z
    ·exact z
    ·have:(S k2).own i=(S k2).own (P k2):=by rw[e,h23];omega
     exact absurd (I2.ownInj hi s2.hp this) q
   have l1:(S k1).L i0 j<=0:=by
    apply YU
    intro z
    have:=s1.first j hj hnl (by omega)
    omega
   have l2:0<(S k2).L i (C k2):=by
    apply YU
    intro z
    have:(S k1).L i0 j * -(S k2).L i (C k2)<=0:=GG l1 (by omega)
    omega
   have elr:(S k2).own i<=lk:=by rw[e];have:=s2.el;rw[h23] at this;omega
   have z3:Zr m n (S k3) ((S k1).hd j):=fun x hx ex=>absurd (by rw[ex,h33]) ((R.inv k3 (by omega)).1.ne hx s3.hc)
   have za:=(R.Zall hK hz (r:=(S k1).hd j) (k3 - a) (by omega))
   rw[show a+(k3 - a)=k3 by omega] at za
   have zb:=(R.Zall hK hz (r:=(S k1).hd j) (k2 - a) (by omega))
   rw[show a+(k2 - a)=k2 by omega] at zb
   have zi:=(zb.mpr (za.mp z3)) i hi e
   have zp:=hz k2 h21 h22
   rcases s2.least i hi elr l2 with z | ⟨_,z⟩
   ·rw[zi,zp] at z
    simp at z
   ·rw[e,h23] at z
    omega
 ·rw[<-e,I2.dirH s2.hc hj'] at hp
  by_cases q:j'=C k2
  ·subst q
   rw[YM rfl] at hp
   have l1:0<(S k1).L i0 j:=by
    apply YU
    intro z
    have:(S k1).L i0 j*(S k2).b<=0:=GG (by omega) (by have:=I2.pos;omega)
    omega
   have h1:=s1.first j hj (by rw[<-e];exact s2.nl) l1
   have h2:=hmax k2 h21 h22
   have:(S k2).own (P k2)=(S k2).hd (C k2):=by
    rw[h23]
    have h1':(S k1).hd (C k1)<=(S k1).hd j:=h1
    have h2':(S k2).hd (C k2)<=(S k1).hd (C k1):=h2
    rw[e] at *
    omega
   exact I2.ne s2.hp s2.hc this
  ·rw[YF q] at hp
   simp at hp
theorem Z0f:∀ (M:Nat) (f:Nat->Nat),(∀ i,i<=M->f i<M)->∃ a d,0<d/\a+d<=M/\f a=f (a+d)
 | 0,f,h=>absurd (h 0 (by omega)) (by omega)
 | M+1,f,h=>by
  by_cases q:∃ i,i<=M/\f i=f (M+1)
  ·obtain⟨i,hi,e⟩:=q
   exact⟨i,M+1 - i,by omega,by omega,by rw[show i+(M+1 - i)=M+1 by omega];exact e⟩
  ·have hne:∀ i,i<=M->f i≠f (M+1):=fun i hi z=>q ⟨i,hi,z⟩
   obtain⟨a,d,h1,h2,h3⟩:=Z0f M (fun i=>if f i<f (M+1) then f i else f i - 1) fun i hi=>by
    have:=hne i hi
    have:=h i (by omega)
    have:=h (M+1) (by omega)
    show (if f i<f (M+1) then f i else f i - 1)<M
    split <;> omega
   refine⟨a,d,h1,by omega,?_⟩
   have n1:=hne a (by omega)
   have n2:=hne (a+d) (by omega)
   have h3:(if f a<f (M+1) then f a else f a - 1)=if f (a+d)<f (M+1) then f (a+d) else f (a+d) - 1:=h3
   split at h3 <;> split at h3 <;> omega
def code (N:Nat):Nat->(Nat->Nat)->Nat
 | 0,_=>0
 | k+1,f=>code N k f+f k*N ^ k
theorem Q2 {N:Nat}:∀ {k:Nat} {f:Nat->Nat},(∀ i,i<k->f i<N)->code N k f<N ^ k
 | 0,_,_=>by show 0<1;decide
 | k+1,f,h=>by
  have h1:=Q2 (k:=k) (f:=f) fun i hi=>h i (by omega)
  have h2:=h k (by omega)
  show code N k f+f k*N ^ k<N ^ (k+1)
  rw[Y18]
  have h3:(f k+1)*N ^ k<=N*N ^ k:=GJ _ h2
  rw[Nat.add_mul] at h3
  rw[Y04 (N ^ k)]
  omega
theorem Kk {N:Nat}:∀ {k:Nat} {f g:Nat->Nat},(∀ i,i<k->f i<N)->(∀ i,i<k->g i<N)->code N k f=code N k g->∀ i,i<k->f i=g i
 | 0,_,_,_,_,_,i,hi=>by omega
 | k+1,f,g,hf,hg,e,i,hi=>by
  have a1:=Q2 (k:=k) (f:=f) fun i hi=>hf i (by omega)
  have a2:=Q2 (k:=k) (f:=g) fun i hi=>hg i (by omega)
  have e:code N k f+f k*N ^ k=code N k g+g k*N ^ k:=e
  have e1:code N k f=code N k g:=by
   have:=congrArg (· % N ^ k) e
   simp only [Nat.add_mul_mod_self_right] at this
   rwa [Nat.mod_eq_of_lt a1,Nat.mod_eq_of_lt a2] at this
  by_cases q:i=k
  ·subst q
   have:f i*N ^ i=g i*N ^ i:=by omega
   exact Y0f (by omega) this
  ·exact Kk (k:=k) (fun i hi=>hf i (by omega)) (fun i hi=>hg i (by omega)) e1 i (by omega)
theorem Run.short (R:Run m n lk i0 col rhs K S P C):K<(n+m) ^ m:=by
 rcases Nat.lt_or_ge K ((n+m) ^ m) with h | h
 ·exact h
 ·obtain⟨a,d,h1,h2,h3⟩:=Z0f ((n+m) ^ m) (fun k=>code (n+m) m (S k).own) fun k hk=>Q2 fun i hi=>(R.inv k (by omega)).1.ownLt hi
  exact absurd (R.once h1 (by omega) fun i hi=>Kk (fun i hi=>(R.inv a (by omega)).1.ownLt hi) (fun i hi=>(R.inv (a+d) (by omega)).1.ownLt hi) h3 i hi) id
end
end Sv
namespace Sv
section
variable {m n:Nat}{col:Nat->Vec}{rhs:Vec}{T:Tab}
def numAt (n:Nat)(T:Tab)(i v:Nat):Int:=sm n (fun j=>if T.hd j=v then T.L i j else 0)
def endOf (m n:Nat)(T:Tab)(v:Nat):Int:=sm m (fun i=>if T.own i=v then T.L i n else 0)
def coef (n:Nat)(T:Tab)(i v:Nat):Int:=(if v=T.own i then T.b else 0)+numAt n T i v
theorem Inv.numH (I:Inv m n col rhs T){i j:Nat}(hj:j<n):numAt n T i (T.hd j)=T.L i j:=by
 unfold numAt
 rw[sm_one (k:=j) hj fun k hk hne=>YF fun z=>hne (I.hdInj hk hj z),YM rfl]
theorem Inv.numO (I:Inv m n col rhs T){i k:Nat}(hk:k<m):numAt n T i (T.own k)=0:=sm_zero fun j hj=>YF (XN (I.ne hk hj))
theorem Inv.endO (I:Inv m n col rhs T){i:Nat}(hi:i<m):endOf m n T (T.own i)=T.L i n:=by
 unfold endOf
 rw[sm_one (k:=i) hi fun k hk hne=>YF fun z=>hne (I.ownInj hk hi z),YM rfl]
theorem Inv.endH (I:Inv m n col rhs T){j:Nat}(hj:j<n):endOf m n T (T.hd j)=0:=sm_zero fun i hi=>YF (I.ne hi hj)
theorem Inv.coefs (I:Inv m n col rhs T){i v:Nat}(hi:i<m)(hv:v<n+m):det m (put (bas col T) i (col v))=coef n T i v:=by
 unfold coef
 rcases I.cover hv with ⟨k,hk,rfl⟩ | ⟨j,hj,rfl⟩
 ·rw[I.numO hk]
  have:=I.phiO hi hk
  show det m (put (bas col T) i (bas col T k))=_
  rw[this]
  by_cases e:k=i
  ·subst e
   rw[YM rfl,YM rfl];omega
  ·rw[YF e,YF fun z=>e (I.ownInj hk hi z)];omega
 ·rw[I.numH hj,YF (XN (I.ne hi hj))]
  have:=I.phi hi (JI hj)
  rw[Wq hj] at this
  rw[this];omega
theorem Inv.lin (I:Inv m n col rhs T)(hc:∀ i r,i<m->r<m->col (n+i) r=if i=r then 1 else 0){i:Nat}(hi:i<m)(x:Vec):det m (put (bas col T) i x)=sm m (fun r=>x r*coef n T i (n+r)):=by
 have e:det m (put (bas col T) i x)=det m (put (bas col T) i (fun r=>sm m (fun k=>x k*col (n+k) r))):=by
  refine Xh fun k r hk hr=>?_
  by_cases q:k=i
  ·subst q
   rw[Yi,Yi,sm_one (k:=r) hr fun k hk hne=>by rw[hc k r hk hr,YF hne,GN],hc r r hr hr,YM rfl,qe]
  ·rw[Y8 q,Y8 q]
 rw[e,Tv hi]
 exact Y5 fun r hr=>by rw[I.coefs hi (by omega)]
theorem Inv.sol (I:Inv m n col rhs T){r:Nat}(hr:r<m):sm (n+m) (fun v=>endOf m n T v*col v r)=T.b*rhs r:=by
 rw[I.part]
 have e1:sm n (fun j=>endOf m n T (T.hd j)*col (T.hd j) r)=0:=sm_zero fun j hj=>by rw[I.endH hj,zo]
 have e2:sm m (fun i=>endOf m n T (T.own i)*col (T.own i) r)=sm m (fun i=>T.L i n*bas col T i r):=Y5 fun i hi=>by rw[I.endO hi];rfl
 have e3:=I.eqs n (YE n) r hr
 unfold colOf at e3
 rw[YF (by omega)] at e3
 rw[e1,e2,<-e3];omega
end
section
variable {n g:Nat}{A:Nat->Nat->Int}{pap gl:Nat->Int}
def colS (n g:Nat)(A:Nat->Nat->Int)(pap gl:Nat->Int):Nat->Vec:=fun v r=>if v<n then (if r<g then A r v else if r=g then pap v else gl v) else if v - n=r then 1 else 0
def rhsS (g:Nat):Vec:=fun r=>if r=g then 1 else 0
def T0 (n g:Nat)(A:Nat->Nat->Int)(pap gl:Nat->Int):Tab:=⟨1,fun i=>n+i,fun j=>j,fun i j=>if j<n then colS n g A pap gl j i else rhsS g i⟩
theorem Wf {i r:Nat}:colS n g A pap gl (n+i) r=if i=r then 1 else 0:=by
 unfold colS
 rw[YF (by omega)]
 have:n+i - n=i:=by omega
 rw[this]
theorem inv0:Inv (g+2) n (colS n g A pap gl) (rhsS g) (T0 n g A pap gl):=by
 refine⟨by show (0:Int)<1;decide,?_,fun j hj r hr=>?_,fun f=>?_⟩
 ·show det (g+2) _=1
  rw[<-Z2f (g+2)]
  exact Xh fun k r _ _=>Wf
 ·show 1*colOf n (colS n g A pap gl) (rhsS g) (T0 n g A pap gl) j r=sm (g+2) (fun i=>(if j<n then colS n g A pap gl j i else rhsS g i)*colS n g A pap gl (n+i) r)
  rw[sm_one (k:=r) hr fun k hk hne=>by rw[Wf,YF hne,GN],Wf,YM rfl]
  unfold colOf
  rw[qe,GR]
  split <;> rfl
 ·rw[Ku,Int.add_comm]
  rfl
theorem feas0:Feas (g+2) n (n+g) (T0 n g A pap gl):=fun i _ _=>by
 show 0<=if n<n then _ else rhsS g i
 rw[YF (by omega)]
 unfold rhsS
 split <;> omega
variable {T:Tab}
abbrev InvS (n g:Nat)(A:Nat->Nat->Int)(pap gl:Nat->Int)(T:Tab):Prop:=Inv (g+2) n (colS n g A pap gl) (rhsS g) T
theorem InvS.world (I:InvS n g A pap gl T){i w:Nat}(hi:i<g+2)(hw:w<n):coef n T i w=sm g (fun k=>A k w*coef n T i (n+k))+pap w*coef n T i (n+g)+gl w*coef n T i (n+g+1):=by
 rw[<-I.coefs hi (by omega),I.lin (fun i r _ _=>Wf) hi]
 show sm g _+colS n g A pap gl w g*_+colS n g A pap gl w (g+1)*_=_
 have e1:sm g (fun r=>colS n g A pap gl w r*coef n T i (n+r))=sm g (fun k=>A k w*coef n T i (n+k)):=Y5 fun r hr=>by
  unfold colS
  rw[YM hw,YM hr]
 have e2:colS n g A pap gl w g=pap w:=by unfold colS;rw[YM hw,YF (by omega),YM rfl]
 have e3:colS n g A pap gl w (g+1)=gl w:=by unfold colS;rw[YM hw,YF (by omega),YF (by omega)]
 rw[e1,e2,e3]
 rfl
theorem InvS.ends (I:InvS n g A pap gl T){i:Nat}(hi:i<g+2):T.L i n=coef n T i (n+g):=by
 rw[<-I.phi hi (YE n)]
 unfold colOf
 rw[YF (by omega),I.lin (fun i r _ _=>Wf) hi,sm_one (k:=g) (by omega) fun k hk hne=>by unfold rhsS;rw[YF hne,zo]]
 unfold rhsS
 rw[YM rfl,GR]
theorem InvS.lines (I:InvS n g A pap gl T):(∀ k,k<g->sm n (fun w=>A k w*endOf (g+2) n T w)+endOf (g+2) n T (n+k)=0)/\sm n (fun w=>pap w*endOf (g+2) n T w)+endOf (g+2) n T (n+g)=T.b/\sm n (fun w=>gl w*endOf (g+2) n T w)+endOf (g+2) n T (n+g+1)=0:=by
 have key:∀ (r:Nat) (a:Nat->Int),r<g+2->(∀ w,w<n->colS n g A pap gl w r=a w)->sm n (fun w=>a w*endOf (g+2) n T w)+endOf (g+2) n T (n+r)=T.b*rhsS g r:=fun r a hr ha=>by
  rw[<-I.sol hr,Ku]
  congr 1
  ·exact Y5 fun w hw=>by rw[ha w hw,XF]
  ·rw[sm_one (k:=r) hr fun k hk hne=>by rw[Wf,YF hne,GN],Wf,YM rfl,qe]
 refine⟨fun k hk=>?_,?_,?_⟩
 ·rw[key k (fun w=>A k w) (by omega) fun w hw=>by unfold colS;rw[YM hw,YM hk]]
  unfold rhsS
  rw[YF (by omega),GN]
 ·rw[key g pap (by omega) fun w hw=>by unfold colS;rw[YM hw,YF (by omega),YM rfl]]
  unfold rhsS
  rw[YM rfl,qe]
 ·have:=key (g+1) gl (by omega) fun w hw=>by unfold colS;rw[YM hw,YF (by omega),YF (by omega)]
  rw[show n+(g+1)=n+g+1 by omega] at this
  rw[this]
  unfold rhsS
  rw[YF (by omega),GN]
theorem Q1 (I:InvS n g A pap gl T){i lk v:Nat}(hv:v<n+(g+2))(h1:v≠T.own i)(h2:v≠lk)(hs:∀ j,j<n->T.hd j≠lk->T.L i j<=0):coef n T i v<=0:=by
 unfold coef
 rw[YF h1]
 rcases I.cover hv with ⟨k,hk,rfl⟩ | ⟨j,hj,rfl⟩
 ·rw[I.numO hk];omega
 ·rw[I.numH hj]
  have:=hs j hj h2
  omega
theorem InvS.none (I:InvS n g A pap gl T){i ia:Nat}(hi:i<g+2)(ho:T.own i=n+g)(hia:ia<g+2)(hoa:T.own ia=n+g+1)(hs:∀ j,j<n->T.hd j≠n+g->T.L i j<=0) :
  (∀ k,k<g->numAt n T i (n+k)<=0)/\∀ w,w<n->pap w*T.b<=sm g (fun k=>A k w * -numAt n T i (n+k)):=by
 have hk:∀ k,k<g->coef n T i (n+k)=numAt n T i (n+k):=fun k hk=>by
  unfold coef
  rw[YF (by omega)];omega
 refine⟨fun k hk'=>?_,fun w hw=>?_⟩
 ·rw[<-hk k hk']
  exact Q1 I (by omega) (by omega) (lk:=n+g) (by omega) hs
 ·have e:=I.world hi hw
  have h:=Q1 I (v:=w) (by omega) (by omega) (lk:=n+g) (by omega) hs
  have e1:coef n T i (n+g)=T.b:=by
   unfold coef
   rw[YM ho.symm]
   have:=I.numO (i:=i) hi
   rw[ho] at this
   omega
  have e2:coef n T i (n+g+1)=0:=by
   unfold coef
   rw[YF (by omega)]
   have:=I.numO (i:=i) hia
   rw[hoa] at this
   omega
  have e3:sm g (fun k=>A k w*coef n T i (n+k))=- sm g (fun k=>A k w * -numAt n T i (n+k)):=by
   have:sm g (fun k=>A k w*coef n T i (n+k))=sm g (fun k=>(-1)*(A k w * -numAt n T i (n+k))):=Y5 fun k hk'=>by rw[hk k hk'];grind
   rw[this,Yw];omega
  rw[e1,e2,e3] at e
  omega
structure Most (n g:Nat)(A:Nat->Nat->Int)(pap gl:Nat->Int)(T:Tab)(i:Nat):Prop where
 x0:∀ w,w<n->0<=endOf (g+2) n T w
 fit:∀ k,k<g->sm n (fun w=>A k w*endOf (g+2) n T w)<=0
 lie:sm n (fun w=>pap w*endOf (g+2) n T w)=T.b
 val:sm n (fun w=>gl w*endOf (g+2) n T w)=- T.L i n
 y0:∀ k,k<g->numAt n T i (n+k)<=0
 show_:∀ w,w<n->gl w*T.b<=sm g (fun k=>A k w * -numAt n T i (n+k))+pap w * -T.L i n
theorem InvS.most (I:InvS n g A pap gl T)(F:Feas (g+2) n (n+g) T){i jl:Nat}(hi:i<g+2)(ho:T.own i=n+g+1)(hjl:jl<n)(hol:T.hd jl=n+g)(hs:∀ j,j<n->T.hd j≠n+g->T.L i j<=0):Most n g A pap gl T i:=by
 obtain⟨l1,l2,l3⟩:=I.lines
 have x0:∀ v,v<=n+g->0<=endOf (g+2) n T v:=fun v hv=>by
  rcases I.cover (v:=v) (by omega) with ⟨k,hk,rfl⟩ | ⟨j,hj,rfl⟩
  ·rw[I.endO hk];exact F k hk hv
  ·rw[I.endH hj];omega
 have hk:∀ k,k<g->coef n T i (n+k)=numAt n T i (n+k):=fun k hk=>by
  unfold coef
  rw[YF (by omega)];omega
 refine⟨fun w hw=>x0 w (by omega),fun k hk=>?_,?_,?_,fun k hk'=>?_,fun w hw=>?_⟩
 ·have:=l1 k hk
  have:=x0 (n+k) (by omega)
  omega
 ·have:=I.endH hjl
  rw[hol] at this
  rw[this] at l2
  omega
 ·have:=I.endO hi
  rw[ho] at this
  rw[this] at l3
  omega
 ·rw[<-hk k hk']
  exact Q1 I (by omega) (by omega) (lk:=n+g) (by omega) hs
 ·have e:=I.world hi hw
  have h:=Q1 I (v:=w) (by omega) (by omega) (lk:=n+g) (by omega) hs
  have e1:=I.ends hi
  have e2:coef n T i (n+g+1)=T.b:=by
   unfold coef
   rw[YM ho.symm]
   have:=I.numO (i:=i) hi
   rw[ho] at this
   omega
  have e3:sm g (fun k=>A k w*coef n T i (n+k))=- sm g (fun k=>A k w * -numAt n T i (n+k)):=by
   have:sm g (fun k=>A k w*coef n T i (n+k))=sm g (fun k=>(-1)*(A k w * -numAt n T i (n+k))):=Y5 fun k hk'=>by rw[hk k hk'];grind
   rw[this,Yw];omega
  rw[<-e1,e2,e3] at e
  have e4:pap w * -T.L i n=-(pap w*T.L i n):=by grind
  omega
theorem InvS.bounded (I:InvS n g A pap gl T)(hpap:∀ w,w<n->0<=pap w)(hgl:∀ w,w<n->pap w=0->gl w=0){i jl c:Nat}(hi:i<g+2)(ho:T.own i=n+g+1)(hjl:jl<n)(hol:T.hd jl=n+g)(hc:c<n)(hcl:T.hd c≠n+g)(hh:0<T.L i c) :
  ∃ k,k<g+2/\T.own k<=n+g/\0<T.L k c:=by
 apply YU
 intro hn
 have hle:∀ k,k<g+2->T.own k<=n+g->T.L k c<=0:=fun k h1 h2=>by
  apply YU
  intro z
  exact hn ⟨k,h1,h2,by omega⟩
 have x0:∀ v,v<=n+g->0<=dir (g+2) T c v:=fun v hv=>by
  rcases I.cover (v:=v) (by omega) with ⟨k,hk,rfl⟩ | ⟨j,hj,rfl⟩
  ·rw[I.dirO hc hk]
   have:=hle k hk hv
   omega
  ·rw[I.dirH hc hj]
   have:=I.pos
   split <;> omega
 have row:∀ (r:Nat) (a:Nat->Int),r<g+2->(∀ w,w<n->colS n g A pap gl w r=a w)->sm n (fun w=>a w*dir (g+2) T c w)+dir (g+2) T c (n+r)=0:=fun r a hr ha=>by
  rw[<-I.dirSol hc hr,Ku]
  congr 1
  ·exact Y5 fun w hw=>by rw[ha w hw,XF]
  ·rw[sm_one (k:=r) hr fun k hk hne=>by rw[Wf,YF hne,GN],Wf,YM rfl,qe]
 have r1:=row g pap (by omega) fun w hw=>by unfold colS;rw[YM hw,YF (by omega),YM rfl]
 have r2:=row (g+1) gl (by omega) fun w hw=>by unfold colS;rw[YM hw,YF (by omega),YF (by omega)]
 have hl:dir (g+2) T c (n+g)=0:=by
  rw[<-hol,I.dirH hc hjl,YF fun z=>hcl (by rw[<-z];exact hol)]
 have hz:∀ w,w<n->pap w*dir (g+2) T c w=0:=fun w hw=>by
  apply YU
  intro z
  have h1:∀ x,x<n->0<=pap x*dir (g+2) T c x:=fun x hx=>qu (hpap x hx) (x0 x (by omega))
  rw[hl,Y3 (k:=w) hw] at r1
  have h2:0<=sm n (fun i=>if i=w then 0 else pap i*dir (g+2) T c i):=Y4 fun x hx=>by
   split
   ·omega
   ·exact h1 x hx
  have:=h1 w hw
  omega
 have hg:sm n (fun w=>gl w*dir (g+2) T c w)=0:=sm_zero fun w hw=>by
  by_cases q:pap w=0
  ·rw[hgl w hw q,zo]
  ·have:=hz w hw
   rcases Int.mul_eq_zero.mp this with z | z
   ·exact absurd z q
   ·rw[z,GN]
 have ha:=I.dirO hc hi
 rw[ho] at ha
 rw[hg,show n+(g+1)=n+g+1 by omega,ha] at r2
 omega
end
end Sv
namespace Sb
open PySem PySem.Spec PyProof.Rows L2
theorem N5 {α β:Type}{R:α->β->Prop}:∀ {xs:List α} {us:List β},xs.length=us.length->(∀ (j:Nat) (x:α) (u:β),xs[j]?=some x->us[j]?=some u->R x u)->Paired R xs us
 | [],[],_,_=>.nil
 | [],_::_,h,_=>by simp at h
 | _::_,[],h,_=>by simp at h
 | x::xs,u::us,h,hr=>.cons (hr 0 x u rfl rfl) (N5 (by simpa using h) fun j y w e1 e2=>hr (j+1) y w (by simpa using e1) (by simpa using e2))
section
variable {X:Cx}{K:W.Frag}
theorem Z0n {p:Addr}{u v:V}{σ:L2.St}{H:Hp}{A B:L2.St->Hp->Prop}{t:TT}(hp:SqT K H p [u,v])(h:t ((σ.set 0 (some u)).set 1 (some v)) H fun b H5=>if b=true then A ((σ.set 0 (some u)).set 1 (some v)) H5 else B ((σ.set 0 (some u)).set 1 (some v)) H5) :
  gTup K 2 (gCons (gName 0) (gCons (gName 1) gNil)) (.ref p) σ H fun σ4 H4=>t σ4 H4 fun b H5=>if b=true then A σ4 H5 else B σ4 H5 :=
 ⟨p,[u,v],rfl,hp,rfl,u,[v],rfl,v,[],rfl,rfl,h⟩
theorem Nz {e:Expr}{f:Str}{pos:Pos}{ta:TE}(he:PE X e ta)(hb:attributeBase e f X.env (eval e X.env)=eval e X.env)(h:X.K=K:=by rfl):PE X (.Attribute e f pos) (tFld K ta f):=h ▸ Yj he hb
def tLR1 (ta:TA):TE:=fun σ H Q=>ta σ H fun vs H1=>∃ n:Nat,vs=[.int (n:Int)]/\n<=1000/\∀ l,H1 l=none->Q (.ref l) (upd H1 l (.lst ((List.range n).map fun (k:Nat)=>V.int (k:Int))))
def tLR2 (ta:TA):TE:=fun σ H Q=>ta σ H fun vs H1=>∃ i n:Nat,vs=[.int (i:Int),.int ((i+n:Nat):Int)]/\i<=1000/\n<=1000/\∀ l,H1 l=none->Q (.ref l) (upd H1 l (.lst ((List.range n).map fun k=>V.int ((i+k:Nat):Int))))
theorem Ur {pins:List (Addr × Obj)}{σ:L2.St}{H:Hp}{s:Shared}{Q:VK}{i n:Nat}{t u v:Tok}{tk:Nat}(hc:X.calm=true)(I:Inv X pins σ H s)(hi:i<=1000)(hn:n<=1000)
  (q:∀ l,H l=none->Q (.ref l) (upd H l (.lst ((List.range n).map fun k=>V.int ((i+k:Nat):Int))))) :
  wpAny (model X.prog X.w) X.A (call (.type "list") [.ref s.heap.objs.size]) (EP X pins σ Q) X.xe { s with heap:=s.heap.push { cls:=.type "range",data:=.fields #[.int (i:Int) t,.int ((i+n:Nat):Int) u,.int 1 v] },toks:=tk }:=by
 have I1:Inv X pins σ H { s with heap:=s.heap.push { cls:=.type "range",data:=.fields #[.int (i:Int) t,.int ((i+n:Nat):Int) u,.int 1 v] },toks:=tk }:=I.kept fun b o e=>YA _ e
 refine M7 (n:=n) (I1.ok.hd hc) (fun p hp=>(I1.pin p (YJ _ hp)).1) (IsRange.new ..) (small_one (by omega) (by omega) (by omega) (by omega)) ?_ (by omega) fun h' tk' acc c' kp e items=>?_
 ·rw[rangeSize_one]
  split <;> omega
 ·refine⟨.ref _,_,I1.laid (t':=tk') (o:=.lst ((List.range n).map fun k=>V.int ((i+k:Nat):Int))) kp (YE _) ?_,rfl,q _ (I1.hok.fresh (YE _))⟩
  obtain⟨hsz,hat⟩:=items
  refine⟨by rw[YC,List.length_range];exact XQ hn (by decide),acc.toList,c',?_,by simpa using e⟩
  refine N5 (by simp[hsz]) fun j x u' e1 e2=>?_
  rw[YD] at e1
  cases e3:(List.range n)[j]? with
  | none=>rw[e3] at e1;cases e1
  | some k =>
   rw[e3] at e1
   cases e1
   have hk:k=j:=by
    have:=YG.mp e3
    obtain⟨_,h2⟩:=this
    rw[<-h2]
    simp
   subst hk
   obtain⟨t',e4⟩:=hat k u' (by simpa using e2)
   refine⟨t',?_⟩
   rw[e4]
   congr 1
   omega
theorem Du {a b:Expr}{ta:TA}{p p' pos pos':Pos}(hc:X.calm=true)(hgL:Gl X "list")(hmL:X.mg "list"=none)(hgR:Gl X "range")(hmR:X.mg "range"=none)(ha:PA X [a,b] ta)
  (hs:starEach [a,b] X.env=[(false,eval a X.env),(false,eval b X.env)]:=by rfl) (hs2:starEach [b] X.env=[(false,eval b X.env)]:=by rfl)
  (hs0:starEach [.Call (.Name "range" p') [a,b] [] pos'] X.env=[(false,eval (.Call (.Name "range" p') [a,b] [] pos') X.env)]:=by rfl) :
  PE X (.Call (.Name "list" p) [.Call (.Name "range" p') [a,b] [] pos'] [] pos) (tLR2 ta):=by
 intro pins s σ H Q I h
 refine GZ (W3 I hgL hmL XV ?_)
 refine XR ?_ (by rw[hs0];rfl) rfl
 rw[hs0]
 show wpAny _ _ (spliced ((false,eval (.Call (.Name "range" p') [a,b] [] pos') X.env)::[])) _ _ s
 refine Y0c (Call_ (W3 I hgR hmR boot_range (XR (thn (ha pos' pins s σ H _ I h) fun us s1 ⟨vs,H1,I1,r1,q1⟩=>?_) (by rw[hs,hs2]) (by rw[hs2];rfl))))
 obtain⟨i,n,e,hi,hn,q⟩:=q1
 subst e
 obtain⟨t0,u0,e0,rt,ru⟩:=Mt r1
 obtain⟨t,rfl⟩:=rt
 obtain⟨u,rfl⟩:=ru
 subst e0
 refine call_range_2 ?_
 refine Y0r ?_
 exact Ur hc I1 hi hn q
theorem Dv {a:Expr}{ta:TA}{p p' pos pos':Pos}(hc:X.calm=true)(hgL:Gl X "list")(hmL:X.mg "list"=none)(hgR:Gl X "range")(hmR:X.mg "range"=none)(ha:PA X [a] ta)
  (hs:starEach [a] X.env=[(false,eval a X.env)]:=by rfl)
  (hs0:starEach [.Call (.Name "range" p') [a] [] pos'] X.env=[(false,eval (.Call (.Name "range" p') [a] [] pos') X.env)]:=by rfl) :
  PE X (.Call (.Name "list" p) [.Call (.Name "range" p') [a] [] pos'] [] pos) (tLR1 ta):=by
 intro pins s σ H Q I h
 refine GZ (W3 I hgL hmL XV ?_)
 refine XR ?_ (by rw[hs0];rfl) rfl
 rw[hs0]
 show wpAny _ _ (spliced ((false,eval (.Call (.Name "range" p') [a] [] pos') X.env)::[])) _ _ s
 refine Y0c (Call_ (W3 I hgR hmR boot_range (XR (thn (ha pos' pins s σ H _ I h) fun us s1 ⟨vs,H1,I1,r1,q1⟩=>?_) hs rfl)))
 obtain⟨n,e,hn,q⟩:=q1
 subst e
 obtain⟨t0,e0,rt⟩:=Ta r1
 obtain⟨t,rfl⟩:=rt
 subst e0
 refine call_range_1 ?_
 refine Y0r ?_
 have:=Ur (i:=0) (n:=n) (t:=s1.toks) (u:=t) (v:=s1.toks+1) (tk:=s1.toks+1+1) (Q:=Q) hc I1 (by decide) hn (by simpa using q)
 simpa using this
end
theorem Pk:∀ (names:List (Str × NameKind)) (n:Nat) (acc:List (Str × Addr)) (h:Heap),(names.filter fun y=>y.2 == .cell)=[]->cellsFrom n names acc=acc/\pushCells h names=h
 | [],_,_,_,_=>⟨rfl,rfl⟩
 | (m,k)::r,n,acc,h,e=>by
  by_cases hk:(k == NameKind.cell)=true
  ·rw[zT (a:=(m,k)) (l:=r) (p:=fun y:Str × NameKind=>y.2 == .cell) hk] at e
   cases e
  ·rw[zU (a:=(m,k)) (l:=r) (p:=fun y:Str × NameKind=>y.2 == .cell) hk] at e
   unfold cellsFrom pushCells
   rw[YF hk,YF hk]
   exact Pk r n acc h e
theorem Sq {x:Str}:∀ (names:List (Str × NameKind)) (n:Nat) (acc:List (Str × Addr)) (h:Heap),(names.filter fun y=>y.2 == .cell)=[(x,.cell)]->cellsFrom n names acc=(x,n)::acc/\pushCells h names=h.push { cls:=.type "cell",data:=.cell none }
 | [],_,_,_,e=>by cases e
 | (m,k)::r,n,acc,h,e=>by
  by_cases hk:(k == NameKind.cell)=true
  ·rw[zT (a:=(m,k)) (l:=r) (p:=fun y:Str × NameKind=>y.2 == .cell) hk] at e
   injection e with e1 e2
   cases e1
   unfold cellsFrom pushCells
   rw[YM hk,YM hk]
   exact Pk r _ _ _ e2
  ·rw[zU (a:=(m,k)) (l:=r) (p:=fun y:Str × NameKind=>y.2 == .cell) hk] at e
   unfold cellsFrom pushCells
   rw[YF hk,YF hk]
   exact Sq r n acc h e
theorem Z1e {M:Model}{A:Around}{E:Value->Shared->Prop}{s:Shared}{scope:Scope}{globals:Addr}{cl:List (Str × Addr)}{qual:Str}{func:Option Addr}{code:Value}{outer:Env}{builtins:Addr}{Q:Env->Shared->Prop}{x:Str}
  (hone:(scope.names.filter fun y=>y.2 == .cell)=[(x,.cell)])
  (hQ:∀ h',h'=(s.heap.push { cls:=.type "dict",data:=.dict #[] }).push { cls:=.type "cell",data:=.cell none }->Q (newEnv scope s.heap.objs.size globals ((x,s.heap.objs.size+1)::cl) qual func code (some outer) builtins) { s with heap:=h' }) :
  wpAny M A (newFunctionEnv scope globals cl [] qual func code (some outer) builtins) Q E s:=by
 simp only [newFunctionEnv,Option.isSome_some,zK]
 refine YB (wpAny_alloc ?_)
 refine YB (wpAny_layCells _ (fun name kind cells=>by cases hkc:kind == NameKind.cell <;> simp[hkc]) _ _ _ _ ?_)
 rw[show ({ s with heap:=s.heap.push { cls:=.type "dict",data:=.dict #[] } }:Shared).heap.objs.size=s.heap.objs.size+1 from XL ..]
 rw[(Sq scope.names (s.heap.objs.size+1) cl (s.heap.push { cls:=.type "dict",data:=.dict #[] }) hone).1,(Sq scope.names (s.heap.objs.size+1) cl (s.heap.push { cls:=.type "dict",data:=.dict #[] }) hone).2]
 refine YB ?_
 rw[Y0h]
 exact YQ (YQ (hQ _ rfl))
theorem Vu {x:Str}{n:Addr}{cl:List (Str × Addr)}{y:Str}{c:Addr}(h:((x,n)::cl).lookup y=some c):(y=x/\c=n) \/ (y≠x/\cl.lookup y=some c):=by
 rw[XZ] at h
 cases hb:y == x with
 | true=>rw[hb] at h;cases h;exact .inl ⟨qh.mp hb,rfl⟩
 | false=>rw[hb] at h;exact .inr ⟨JE.mp hb,h⟩
theorem Z4w {x:Str}{n:Addr}{cl:List (Str × Addr)}{y:Str}(h:y≠x):((x,n)::cl).lookup y=cl.lookup y:=by
 rw[XZ,JE.mpr h]
theorem Fh {x:Str}{n:Addr}{cl:List (Str × Addr)}:((x,n)::cl).lookup x=some n:=by
 rw[XZ,qa]
def compCxC (X:Cx)(N:List Str)(scope:Scope)(x:Str)(cl:List (Str × Addr))(C:Addr)(fp:List Addr)(s:Shared)(H:Hp):Cx :=
 { compCx X N scope ((x,C+1)::cl) C fp s H with fn:=fun y=>y == x }
section
variable {X:Cx}{pins:List (Addr × Obj)}{σ:L2.St}{H:Hp}{s:Shared}{N:List Str}{scope:Scope}{cl:List (Str × Addr)}{fp:List Addr}{k:Nat}{fv:List Nat}{x:Str}
theorem Z0r (hone:(scope.names.filter fun y=>y.2 == .cell)=[(x,.cell)]){y:Str × NameKind}(hy:y∈scope.names)(hc:y.2=.cell):y.1=x:=by
 have:y∈scope.names.filter fun y=>y.2 == .cell:=zI.mpr ⟨hy,by rw[hc];rfl⟩
 rw[hone] at this
 rw[JP.mp this]
theorem Z2i (I:Inv X pins σ H s)(hc:X.calm=true)(hf:∀ b∈fp,FpOk X pins H b)(hl:∀ b∈fp,b<s.heap.objs.size)(hkind:scope.kind=.function)(hone:(scope.names.filter fun y=>y.2 == .cell)=[(x,.cell)])
  (h1:∀ y c,cl.lookup y=some c->X.env.cells.lookup y=some c) (h2:∀ y∈scope.names,y.2=.free->∃ c,cl.lookup y.1=some c):(compCxC X N scope x cl s.heap.objs.size fp s H).Ok where
 mod:=I.ok.mod
 kind:=hkind
 glob:=I.ok.glob
 blt:=I.ok.blt
 above:=YE _
 inj:=fun y z c a b=>by
  have old:∀ {n:Str} {d:Addr},cl.lookup n=some d->d<s.heap.objs.size:=fun {n d} e=>by
   obtain⟨v,ic⟩:=I.cell n d (h1 n d e)
   exact ic.lt
  rcases Vu a with ⟨ey,ec⟩ | ⟨ny,a'⟩
  ·rcases Vu b with ⟨ez,_⟩ | ⟨nz,b'⟩
   ·rw[ey,ez]
   ·have:=old b';rw[ec] at this;exact absurd this (jn.mpr (zf _))
  ·rcases Vu b with ⟨ez,ec⟩ | ⟨nz,b'⟩
   ·have:=old a';rw[ec] at this;exact absurd this (jn.mpr (zf _))
   ·exact I.ok.inj y z c (h1 y c a') (h1 z c b')
 has:=fun z hz=>by
  have:∃ y∈scope.names,y.1=z/\(y.2=.free \/ y.2=.cell):=by
   rcases hz with q | q
   ·exact Xi (.inl rfl) q
   ·exact Xi (.inr rfl) q
  obtain⟨y,hy,e,q⟩:=this
  by_cases hx:z=x
  ·exact⟨_,by rw[hx];exact Fh⟩
  ·rcases q with q | q
   ·obtain⟨c,hcl⟩:=h2 y hy q
    exact⟨c,(Z4w hx).trans (by rw[<-e];exact hcl)⟩
   ·exact absurd (e.symm.trans (Z0r hone hy q)) hx
 cab:=fun y c z e=>by
  have hy:y=x:=qh.mp z
  subst hy
  have e':((y,s.heap.objs.size+1)::cl).lookup y=some c:=e
  rw[Fh] at e'
  cases e'
  exact zf _
 hd:=fun _=>I.ok.hd hc
 frames:=I.ok.frames
 stk:=.inl rfl
 exf:=fun b hb=>⟨XA (hl b hb),fun y c e=>by
  rcases Vu e with ⟨_,rfl⟩ | ⟨_,e⟩
  ·exact fun z=>absurd (hl b hb) (jn.mpr (by rw[<-z];exact zf _))
  ·exact (hf b hb).2.2.2.2.1 y c (h1 y c e)⟩
 bs:=I.bs
 bsz:=XQ I.ok.bsz I.sz
 noex:=fun b o e hb=>by
  rcases (hf b hb).2.2.2.1 with z | z
  ·exact I.ok.noex b o e z
  ·exact absurd (YW (YH (I.ok.bs b o e).1) z) (XO _)
 exfs:=fun b hb z=>(YS.mp (I.stkSub b z)).elim (fun e=>(hf b hb).2.1 e) fun e=>(hf b hb).2.2.1 e
 funs:=I.stack
 frf:=I.stkFree
theorem Cr (I:Inv X pins σ H s)(hc:X.calm=true)(hf:∀ b∈fp,FpOk X pins H b)(hl:∀ b∈fp,b<s.heap.objs.size)(hkind:scope.kind=.function)(hone:(scope.names.filter fun y=>y.2 == .cell)=[(x,.cell)])(hx:scope.names.lookup x=some .cell)
  (h1:∀ y c,cl.lookup y=some c->X.env.cells.lookup y=some c) (h2:∀ y∈scope.names,y.2=.free->∃ c,cl.lookup y.1=some c)
  (hN:N.length=k+fv.length) (hfv:fv.map (fun j=>X.N[j]?)=(N.drop k).map some) (hk:(N.drop k).map X.env.kindOf=(N.drop k).map fun _=>some .cell) (hfl:∀ y∈N.drop k,scope.names.lookup y=some .free)
  {h':Heap} {tk:Nat} (hn:h'.Ns s.heap.objs.size fun _=>none) (hcn:h'.IsCell (s.heap.objs.size+1) none) (hb:∀ b o,s.heap.get? b=some o->h'.get? b=some o) :
  Inv (compCxC X N scope x cl s.heap.objs.size fp s H) [] (comp0 k fv σ) H { s with heap:=h',toks:=tk } where
 ok:=Z2i I hc hf hl hkind hone h1 h2
 os:=rfl
 bare:=I.bare
 base:=Un.kept hb
 loc:=⟨_,hn,fun i y v e1 e2 e3=>by
  have hik:k<=i:=by
   apply Y0B
   intro z
   have:(comp0 k fv σ)[i]?=some none:=by
    unfold comp0
    rw[JD (by simpa using z)]
    simp[z]
   rw[this] at e2
   cases e2
  obtain⟨j,rfl⟩:∃ j,i=k+j:=⟨i - k,by omega⟩
  have e2':(fv.map fun j=>σ.getD j none)[j]?=some (some v):=by
   have:(comp0 k fv σ)[k+j]?=(fv.map fun j=>σ.getD j none)[j]?:=by
    unfold comp0
    rw[XW (by simp)]
    simp
   rw[<-this]
   exact e2
  rw[YD] at e2'
  cases hj:fv[j]? with
  | none=>rw[hj] at e2';cases e2'
  | some m =>
   rw[hj] at e2'
   have e4:σ.getD m none=some v:=YK e2'
   have e5:(N.drop k)[j]?=some y:=by rw[Y0g];exact e1
   have e6:X.N[m]?=some y:=by
    have a:=congrArg (fun l=>l[j]?) hfv
    simp only [YD,hj,e5,GT] at a
    exact YK a
   have e7:X.env.kindOf y=some .cell:=by
    have a:=congrArg (fun l=>l[j]?) hk
    simp only [YD,e5,GT] at a
    exact YK a
   have e8:σ[m]?=some (some v):=by
    cases q:σ[m]? with
    | none=>rw[List.getD,q] at e4;cases e4
    | some o=>rw[List.getD,q] at e4;rw[show o=some v from e4]
   obtain⟨m0,hm0,hl0⟩:=I.loc
   obtain⟨u,ru,lk⟩:=hl0 m y v e6 e8 (.inr (.inl e7))
   refine⟨u,ru,?_⟩
   rcases lk with ⟨z,_⟩ | ⟨_,c,hcc,ic⟩
   ·rw[e7] at z;cases z
   ·have mem:y∈N.drop k:=YL e5
    have fr:=hfl y mem
    have nyx:y≠x:=fun z=>by rw[z,hx] at fr;cases fr
    obtain⟨c',hc'⟩:=h2 (y,.free) (Qu fr) rfl
    have ec:=h1 y c' hc'
    rw[hcc] at ec
    cases ec
    refine .inr ⟨.inl (Vo I.ok.kind fr e7),c,(Z4w nyx).trans hc',?_⟩
    obtain⟨o,ho,hd⟩:=ic
    exact⟨o,hb _ _ ho,hd⟩⟩
 cell:=fun y c e=>by
  rcases Vu e with ⟨_,rfl⟩ | ⟨_,e⟩
  ·exact⟨_,hcn⟩
  ·obtain⟨v,o,ho,hd⟩:=I.cell y c (h1 y c e)
   exact⟨v,o,hb _ _ ho,hd⟩
 free:=I.hok.fresh (YE _)
 freeC:=fun y c e=>by
  rcases Vu e with ⟨_,rfl⟩ | ⟨_,e⟩
  ·exact I.hok.fresh (zf _)
  ·exact I.freeC y c (h1 y c e)
 pin:=fun p hp=>by
  obtain⟨a1,a2,a3,a4,a5⟩:=I.pin p (YJ _ ((JU.mp hp).elim id fun z=>nomatch z))
  exact⟨hb _ _ a1,a2,XA (YH a1),fun z=>(YS.mp (I.stkSub p.1 z)).elim a3 a4,a5⟩
 hok:=I.hok.kept hb
 len:=by
  show (comp0 k fv σ).length=N.length
  unfold comp0
  simp[hN]
end
section
variable {X:Cx}
theorem Ki {elt iter tg:Expr}{ifs:List Expr}{scope:Scope}{pos:Pos}{g:TG}{tt:TT}{te:TE}{N:List Str}{k:Nat}{fv:List Nat}{cl:List (Str × Addr)}{x0:Str}
  {pins:List (Addr × Obj)} {σ:L2.St} {H:Hp} {s:Shared} {it:Addr} {fp:List Addr} {tn:Nat->Heap->Prop} {J:It} {Q:VK} {RR:Value->Addr->Result->Shared->Prop} {E:Value->Shared->Prop}
  (hc:X.calm=true) (hg:∀ cl C fp s H,PG (compCxC X N scope x0 cl C fp s H) tg g) (ht:∀ cl C fp s H,PTs (compCxC X N scope x0 cl C fp s H) ifs tt) (he:∀ cl C fp s H,PE (compCxC X N scope x0 cl C fp s H) elt te)
  (hw:∀ r x H Q,g x (List.replicate k none++r) H Q->g x (List.replicate k none++r) H fun σ4 H4=>Q σ4 H4/\Weaker σ4 (List.replicate k none++r))
  (hN:N.length=k+fv.length) (hfv:fv.map (fun j=>X.N[j]?)=(N.drop k).map some) (hk:(N.drop k).map X.env.kindOf=(N.drop k).map fun _=>some .cell) (hfl:∀ y∈N.drop k,scope.names.lookup y=some .free)
  (hone:(scope.names.filter fun y=>y.2 == .cell)=[(x0,.cell)]) (hx0:scope.names.lookup x0=some .cell) (hkind:scope.kind=.function) (h1:∀ y c,cl.lookup y=some c->X.env.cells.lookup y=some c) (h2:∀ y∈scope.names,y.2=.free->∃ c,cl.lookup y.1=some c)
  (I:Inv X pins σ H s) (T:Turn X.prog X.w X.K tg J fp it tn) (st:tn 0 s.heap) (f:∀ b∈fp,FpOk X pins H b)
  (body:∀ d,H d=none->∃ (n:Nat) (W:Nat->List V->Hp->Prop),n<=sizeLine/\W 0 [] (upd H d (.lst [])) ∧
   (∀ i ys H2,i<n->W i ys H2->H2 d=some (.lst ys)->J.go i H2/\∀ x H3,J.yld i H2 x H3->g x (comp0 k fv σ) H3 fun σ4 H4=>tt σ4 H4 fun b H5 =>
    if b=true then te σ4 H5 fun y H6=>H6 d=some (.lst ys)/\W (i+1) (ys++[y]) (upd H6 d (.lst (ys++[y]))) else H5 d=some (.lst ys)/\W (i+1) ys H5) ∧
   (∀ ys H2,W n ys H2->H2 d=some (.lst ys)->J.stop n H2/\Q (.ref d) H2))
  (hR:∀ (D C:Addr) (H':Hp) (s':Shared),(∃ m,s'.heap.Ns C m)->FpOk X pins H' C->Q (.ref D) H'->(∀ h',Heap.SameBut C s'.heap h'->Inv X pins σ H' { s' with heap:=h' })->RR (.ref D) C (.ok .next) s') :
  wpAny (model X.prog X.w) X.A (newList []) (fun acc s3=>wpAny (model X.prog X.w) X.A (newFunctionEnv scope X.env.globals cl [] X.env.qual none .none (some X.env)) (fun cenv s4 =>
   codeAny (model X.prog X.w) X.A (.compStart (.ListComp elt [⟨tg,iter,ifs,0⟩] scope pos) 0 (.ref it) acc { cenv with scope:=relabel scope X.env }) (RR acc cenv.locals) s4) E s3) E s:=by
 refine JW ?_
 have I3:=I.lnew (its:=[]) (ys:=[]) (t':=s.toks) .nil (JY _)
 have fresh:=I.fresh
 generalize hD:s.heap.objs.size=D at I3 fresh ⊢
 have f3:∀ b∈fp,FpOk X pins (upd H D (.lst [])) b:=fun b hb=>by
  refine⟨?_,(f b hb).2⟩
  have hne:b≠D:=by
   obtain⟨o,e,_⟩:=T.obj 0 _ st b hb
   rw[<-hD]
   exact XA (YH e)
  rw[Zf hne]
  exact (f b hb).1
 have up3:∀ b o,s.heap.get? b=some o->(s.heap.push { cls:=.type "list",data:=.seq ([]:List Value).toArray }).get? b=some o:=fun b o e=>YA _ e
 have st3:tn 0 (s.heap.push { cls:=.type "list",data:=.seq ([]:List Value).toArray }):=T.keep 0 _ _ st fun b _ o e=>up3 b o e
 have hl3:∀ b∈fp,b<(s.heap.push { cls:=.type "list",data:=.seq ([]:List Value).toArray }).objs.size:=fun b hb=>by
  obtain⟨o,e,_⟩:=T.obj 0 _ st3 b hb
  exact YH e
 obtain⟨n,W,hn,w0,step,fin⟩:=body D fresh
 generalize hS3:({ s with heap:=s.heap.push { cls:=.type "list",data:=.seq ([]:List Value).toArray },toks:=s.toks }:Shared)=s3 at I3
 have eS3:s3.heap=s.heap.push { cls:=.type "list",data:=.seq ([]:List Value).toArray }:=by rw[<-hS3]
 rw[<-eS3] at st3 hl3
 refine Z1e hone (fun h4 eh4=>?_)
 have old:∀ b o,s3.heap.get? b=some o->h4.get? b=some o:=fun b o e=>by rw[eh4];exact YA _ (YA _ e)
 have hns:h4.Ns s3.heap.objs.size (fun _=>none):=by rw[eh4];exact (Heap.Ns.new s3.heap (.type "dict")).keeps fun b o e=>YA _ e
 have hcn:h4.IsCell (s3.heap.objs.size+1) none:=by
  rw[eh4]
  rw[<-XL s3.heap { cls:=.type "dict",data:=.dict #[] }]
  exact⟨_,YO _ rfl,rfl⟩
 clear eh4
 have I4:=Cr (N:=N) (tk:=s3.toks) I3 hc f3 hl3 hkind hone hx0 h1 h2 hN hfv hk hfl (h':=h4) hns hcn old
 have st4:tn 0 h4:=T.keep 0 _ _ st3 fun b _ o e=>old b o e
 have hCn:s3.heap.get? s3.heap.objs.size=none:=by
  cases e:s3.heap.get? s3.heap.objs.size with
  | none=>rfl
  | some o=>exact absurd (YH e) (XO _)
 generalize hC:s3.heap.objs.size=C at I4 hCn ⊢
 have stat:∀ {H':Hp} {ps:List (Addr × Obj)},(∀ b∈fp,H' b=none)->(∀ p∈ps,p.1 ∉ fp)->∀ b∈fp,FpOk (compCxC X N scope x0 cl C fp s3 (upd H D (.lst []))) ps H' b:=fun {H' ps} hn hp b hb =>
  ⟨hn b hb,by rw[<-hC];exact XA (hl3 b hb),fun z=>(YS.mp (I3.stkSub b z)).elim (fun e=>(f3 b hb).2.1 e) fun e=>(f3 b hb).2.2.1 e,.inl hb,fun x c e=>(Vu e).elim (fun z q=>absurd (hl3 b hb) (jn.mpr (by rw[<-q,z.2,<-hC];exact zf _))) (fun z=>(f3 b hb).2.2.2.2.1 x c (h1 x c z.2)),fun p q z=>(JU.mp q).elim (fun q=>(f3 b hb).2.2.2.2.2 p (YJ _ q) z) fun q=>hp p q (by rw[z];exact hb)⟩
 have loop:∀ s4:Shared,s4={ s3 with heap:=h4,toks:=s3.toks } →
   codeAny (model X.prog X.w) X.A (.compLoop (.ListComp elt [⟨tg,iter,ifs,0⟩] scope pos) 0 (.ref it) (.ref D) (compEnvC scope ((x0,C+1)::cl) C X.env)) (RR (.ref D) C) s4:=by
  rintro s4 rfl
  refine Nh (fun m s'=>∃ i ys H',Inv (compCxC X N scope x0 cl C fp s3 (upd H D (.lst []))) [] (comp0 k fv σ) H' s'/\tn i s'.heap/\(∀ b∈fp,H' b=none)/\i<=n/\m=n+1 - i/\ys.length<=i/\H' D=some (.lst ys)/\W i ys H') ?_ (n+1)
   ⟨0,[],_,I4,st4,fun b hb=>(f3 b hb).1,JY _,rfl,YE _,Zc,w0⟩
  rintro m s5 ⟨i,ys,H5,I5,st5,fr5,hi,rfl,hys,hD5,w5⟩
  by_cases hlt:i<n
  ·obtain⟨go,stp⟩:=step i ys H5 hlt w5 hD5
   refine thn (T.item (compCxC X N scope x0 cl C fp s3 (upd H D (.lst []))) rfl rfl rfl rfl i [] s5 _ H5 noX I5 (stat fr5 (by simp)) st5 go) fun r s6 ⟨u,er,h6⟩=>?_
   subst er
   refine thn h6 fun _ s7 ⟨x,H7,I7,r7,y7,st7,fr7⟩=>?_
   have I7':=I7.pinned (stat fr7 (by simp)) (T.obj _ _ st7)
   refine thn (hg cl C fp s3 _ _ s7 _ H7 x u _ I7' r7 (hw _ x H7 _ (stp x H7 y7))) fun _ s8 ⟨σ8,H8,I8,q8,wk⟩=>?_
   refine thn (ht cl C fp s3 _ _ s8 σ8 H8 _ I8 q8) fun ok s9 ⟨H9,I9,q9⟩=>?_
   have back:∀ {σ':L2.St} {H':Hp} {s':Shared},Inv (compCxC X N scope x0 cl C fp s3 (upd H D (.lst []))) ([]++pinsAt fp s7.heap) σ' H' s'->Weaker σ' (comp0 k fv σ) →
     Inv (compCxC X N scope x0 cl C fp s3 (upd H D (.lst []))) [] (comp0 k fv σ) H' s'/\tn (i+1) s'.heap/\∀ b∈fp,H' b=none:=fun {σ' H' s'} I' wk'=>by
    refine⟨I'.unpinned.weak wk'.1 wk'.2,T.keep _ _ _ st7 fun b hb o e=>(I'.pin (b,o) (XJ _ (XJ _ (Xo hb e)))).1,fun b hb=>?_⟩
    obtain⟨o,e,_⟩:=T.obj _ _ st7 b hb
    exact (I'.pin (b,o) (XJ _ (XJ _ (Xo hb e)))).2.1
   cases ok with
   | false =>
    rw[YF YT] at q9 ⊢
    obtain⟨hD9,w9⟩:=q9
    obtain⟨a1,a2,a3⟩:=back I9 wk
    exact⟨n+1 - (i+1),by omega,i+1,ys,H9,a1,a2,a3,hlt,rfl,Nat.le_succ_of_le hys,hD9,w9⟩
   | true =>
    rw[YM rfl] at q9 ⊢
    refine thn (he cl C fp s3 _ _ s9 σ8 H9 _ I9 q9) fun y s10 ⟨yv,H10,I10,r10,hD10,w10⟩=>?_
    refine thn (Xg _ s10 σ8 H10 (.ref D) [yv] (.ref D) [y] (fun _ H'=>H'=upd H10 D (.lst (ys++[yv]))) I10 rfl (.cons r10 .nil) ⟨D,ys,yv,rfl,rfl,hD10,JZ hys (YW hlt hn),rfl⟩) fun _ s11 ⟨_,H11,I11,_,e11⟩=>?_
    subst e11
    obtain⟨a1,a2,a3⟩:=back I11 wk
    exact⟨n+1 - (i+1),by omega,i+1,ys++[yv],_,a1,a2,a3,hlt,rfl,by rw[XD];show ys.length+1<=i+1;omega,Zc,w10⟩
  ·obtain rfl:i=n:=Nat.le_antisymm hi (jn.mp hlt)
   obtain⟨stop,q⟩:=fin ys H5 w5 hD5
   refine thn (T.done (compCxC X N scope x0 cl C fp s3 (upd H D (.lst []))) rfl rfl rfl rfl i [] s5 _ H5 noX I5 (stat fr5 (by simp)) st5 stop) fun r s6 ⟨er,I6⟩=>?_
   subst er
   refine hR D C H5 s6 ?_ (I3.fpOk (by rw[hC];exact YE _) I6.free) q fun h' hs'=>?_
   ·obtain⟨m,hm,_⟩:=I6.loc
    exact⟨m,hm⟩
   ·have hs2:∀ b,b≠C->h'.get? b=s6.heap.get? b:=fun b hb=>hs'.2 b hb
    refine I3.call' (s':={ s6 with heap:=h' }) (ch:=fp) ?_ (Bg I6.base hCn hs2) (Fp I6.hok I6.free hs2) I6.bare fun b hb=>?_
    ·exact I6.os
    ·exact⟨(f3 b hb).2.2.2.1,(f3 b hb).2.1,(f3 b hb).2.2.2.2.1,(f3 b hb).2.2.2.2.2⟩
 exact codeAny_compStart_list (loop _ rfl) (T.self _ 0 _ _ _ st4 (loop _ rfl))
theorem Z0l {elt iter tg:Expr}{ifs:List Expr}{scope:Scope}{pos:Pos}{wi:TI}{g:TG}{tt:TT}{te:TE}{N:List Str}{k:Nat}{fv:List Nat}{x0:Str}
  (hc:X.calm=true) (hi:PI X tg iter wi) (hg:∀ cl C fp s H,PG (compCxC X N scope x0 cl C fp s H) tg g) (ht:∀ cl C fp s H,PTs (compCxC X N scope x0 cl C fp s H) ifs tt) (he:∀ cl C fp s H,PE (compCxC X N scope x0 cl C fp s H) elt te)
  (hw:∀ r x H Q,g x (List.replicate k none++r) H Q->g x (List.replicate k none++r) H fun σ4 H4=>Q σ4 H4/\Weaker σ4 (List.replicate k none++r))
  (hN:N.length=k+fv.length:=by rfl) (hfv:fv.map (fun j=>X.N[j]?)=(N.drop k).map some:=by rfl) (hk:(N.drop k).map X.env.kindOf=(N.drop k).map (fun _=>some .cell):=by rfl)
  (hfl:∀ y∈N.drop k,scope.names.lookup y=some .free:=by decide +kernel) (hfr:∀ y∈scope.names,y.2=.free->y.1∈N.drop k:=by decide +kernel)
  (hone:(scope.names.filter fun y=>y.2 == .cell)=[(x0,.cell)]:=by decide +kernel) (hx0:scope.names.lookup x0=some .cell:=by decide +kernel) (hkind:scope.kind=.function:=by rfl) (hnames:∀ y∈scope.names,y.2=.local->scope.names.lookup y.1=some .local:=by decide +kernel)
  (hs:∀ x,foldedSetIterable iter X.env x=pure x:=by intro _;rfl):PE X (.ListComp elt [⟨tg,iter,ifs,0⟩] scope pos) (tComp wi g tt te k fv):=by
 intro pins s σ H Q I h
 have kc:∀ y∈N.drop k,X.env.kindOf y=some .cell:=fun y hy=>by
  obtain⟨j,hj⟩:=XB hy
  have a:=congrArg (fun l=>l[j]?) hk
  simp only [YD,hj,GT] at a
  exact YK a
 obtain⟨cl,hclos,h1,h2⟩:=V6 (env:=X.env) (scope:=scope) fun y hy hf=>I.ok.has y.1 (.inl (kc y.1 (hfr y hy hf)))
 rw[eval_ListComp]
 refine zG (use:=none) rfl hs hclos hkind hnames (thn (hi pins s σ H _ I h) fun xv s1 h1'=>thn h1' fun itv s2 h2'=>?_)
 obtain⟨it,fp,tn,J,H2,e,I2,T,st2,f2,body⟩:=h2'
 subst e
 exact Ki (RR:=fun acc C=>compPost (model X.prog X.w) X.A X.xe none (EP X pins σ Q) acc C) hc hg ht he hw hN hfv hk hfl hone hx0 hkind h1 h2 I2 T st2 f2 body fun D C H' s' ⟨m,hm⟩ _ q iv=>⟨m,hm,fun h' hs'=>⟨.ref D,H',iv h' hs',rfl,q⟩⟩
end
section
variable {X:Cx}{K:W.Frag}{tg l:Expr}{tl:TE}
theorem Z0i (hl:PE X l tl)(h:X.K=K:=by rfl):PI X tg l (iList K tl):=h ▸ Xq hl
end
theorem Cq (o:Obj)(f):(o.mapFields f).dict=o.dict:=by
 obtain⟨c,d,dt,sl⟩:=o
 cases dt <;> rfl
def TrD (h B:Heap)(e:Addr)(c:Value)(dd:Option Addr)(fl:Value):Prop :=
 ∃ (oe:Obj) (vs:Array Value) (T:Addr) (oT:Obj) (ts:Array Value),(h.get? e=some oe/\oe.cls=c/\oe.dict=dd/\oe.data=.fields vs/\vs[1]?=some (.ref T)/\vs[2]?=some .none)/\(B.get? T=none/\T≠e)/\(h.get? T=some oT/\oT.data=.fields ts/\ts[3]?=some fl)
theorem TrD.obj {h B:Heap}{e:Addr}{c:Value}{dd:Option Addr}{fl:Value}(x:TrD h B e c dd fl):∃ oe vs,h.get? e=some oe/\oe.cls=c/\oe.dict=dd/\oe.data=.fields vs:=by
 obtain⟨oe,vs,_,_,_,⟨e1,e2,e3,e4,_⟩,_⟩:=x
 exact⟨oe,vs,e1,e2,e3,e4⟩
def FlyD (B:Heap)(l:List Env)(e:Addr)(c:Value)(dd:Option Addr)(h:Heap):Prop:=B.StaysIn h/\B.get? e=none/\h.FunFrames B l/\TrD h B e c dd .none
def HeldD (B:Heap)(l:List Env)(e:Addr)(c:Value)(dd:Option Addr)(L:Addr)(h:Heap):Prop:=B.StaysIn h/\B.get? e=none/\h.FunFrames B l/\TrD h B e c dd (rawInt L)
section
variable {M:Model}{A:Around}{E:Value->Shared->Prop}{s:Shared}{B:Heap}{env:Env}{outer:List Env}{L e:Addr}{c:Value}{dd:Option Addr}{Q:Unit->Shared->Prop}
theorem Z2a {oe:Obj}{vs:Array Value}{hd0:Value}{nx:Bool}(fr:A.frames=some (env::outer))(ff:s.heap.FunFrames B (env::outer))(lf:env.frame=some L)(he:s.heap.get? e=some oe)(kb:B.StaysIn s.heap)(nb:B.get? e=none)(d0:oe.data=.fields vs)(sz:1<vs.size)(hc:vs[2]?=some .none)
  (hq:∀ h',HeldD B (env::outer) e oe.cls oe.dict L h'->s.heap.UpToSlots h'->Q () { s with heap:=h' }) :
  wpAny M A (do let a <-frameOf env;let pl <-entryPlaceOf L nx;let b <-EntryCells.newEntry hd0 a .none (rawInt L) .none pl;setField (.ref e) 1 b) Q E s:=by
 have ne:e ∉ (env::outer).filterMap (·.frame):=fun z=>by
  obtain⟨_,o,ho,nf⟩:=ff.mem z
  rw[he] at ho
  cases ho
  exact nf vs d0
 refine YB (wpAny_frameOf_fun fr ff lf fun g1 so=>?_)
 refine YB (wpAny_entryPlaceOf fun pl ip=>?_)
 unfold EntryCells.newEntry newFields
 refine YB (JW ?_ (ip.sizeOk5 _ _ _ _ _))
 have e1:g1.get? e=some oe:=(so.2.1 e ne).trans he
 have kb1:B.StaysIn g1:=fun b o q=>(so.2.1 b fun z=>by rw[(ff.mem z).1] at q;cases q).trans (kb b o q)
 generalize hN:({ cls:=Value.type "traceback",dict:=none,data:=.fields ([hd0,.ref L,.none,rawInt L,.none]++(if pl.isEmpty then List.replicate 6 Value.none else pl)).toArray }:Obj)=N
 have e2:=YA (h:=g1) N e1
 have nT:g1.objs.size≠e:=qo (YH e1)
 have d3:=qp d0 (·.setIfInBounds 1 (Value.ref g1.objs.size))
 have e3:=JH (Obj.mapFields (·.setIfInBounds 1 (Value.ref g1.objs.size))) e2 (zx d3)
 have kp:∀ b o,b≠e->g1.get? b=some o->((g1.push N).update e (Obj.mapFields (·.setIfInBounds 1 (Value.ref g1.objs.size)))).get? b=some o:=fun b o q z=>by
  rw[XS _ _ (XN q)]
  exact YA _ z
 have nr:∀ b o,s.heap.get? b=some o->(∀ vs,o.data≠.fields vs)->b≠e:=fun b o z nf q=>by
  rw[q,he] at z
  cases z
  exact nf vs d0
 refine qd e2 d0 sz (hq _ ?_ ?_)
 ·have hT:((g1.push N).update e (Obj.mapFields (·.setIfInBounds 1 (Value.ref g1.objs.size)))).get? g1.objs.size=some N:=by
   rw[XS _ _ (XN nT)]
   exact YO g1 (by rw[<-hN];rfl)
  refine⟨fun b o q=>kp b o (fun z=>by rw[z,nb] at q;cases q) (kb1 b o q),nb,ff.of_keeps fun b o z nf=>?_,?_⟩
  ·obtain⟨sl,w⟩:=so.2.2 b o z
   exact⟨_,kp b _ (nr b o z nf) w,rfl⟩
  ·refine⟨_,_,g1.objs.size,N,([hd0,.ref L,.none,rawInt L,.none]++(if pl.isEmpty then List.replicate 6 Value.none else pl)).toArray,⟨e3,Y0p _ _,Cq _ _,d3,by simp[sz],by rw[Array.getElem?_setIfInBounds_ne (by decide)];exact hc⟩,⟨kb1.fresh,nT⟩,hT,by rw[<-hN],?_⟩
   first | (simp;done) | (rcases ip with rfl | ⟨_,_,_,_,_,_,_,rfl⟩ <;> simp)
 ·intro b o z nf
  obtain⟨sl,w⟩:=so.2.2 b o z
  exact⟨sl,kp b _ (nr b o z nf) w⟩
theorem Fi {l:List Env}{fl:Value}(kb:B.StaysIn s.heap)(nb:B.get? e=none)(ff:s.heap.FunFrames B l)(t:TrD s.heap B e c dd fl)(hq:∀ h',FlyD B l e c dd h'->s.heap.UpToSlots h'->Q () { s with heap:=h' }):wpAny M A (setFlight (.ref e) none) Q E s:=by
 obtain⟨oe,vs,T,oT,ts,⟨he,q1,q2,d0,h1⟩,⟨nT,Te⟩,hT,dT,h3⟩:=t
 have sz:3<ts.size:=(qz.mp h3).1
 have ot:∀ b,b≠T->(s.heap.update T (Obj.mapFields (·.setIfInBounds 3 ((none:Option Addr).elim Value.none fun f=>rawInt f)))).get? b=s.heap.get? b:=fun b q=>XS _ _ (XN q)
 have nr:∀ b o,s.heap.get? b=some o->(∀ vs,o.data≠.fields vs)->b≠T:=fun b o z nf q=>by
  rw[q,hT] at z
  cases z
  exact nf ts dT
 unfold setFlight
 refine YB (XH he d0 h1.1 ?_)
 rw[YM (by simp)]
 refine qd hT dT sz (hq _ ⟨fun b o q=>(ot b fun z=>by rw[z,nT] at q;cases q).trans (kb b o q),nb,ff.of_keeps fun b o z nf=>⟨o,(ot b (nr b o z nf)).trans z,rfl⟩,?_⟩ fun b o z nf=>⟨o.slots,(ot b (nr b o z nf)).trans z⟩)
 exact⟨oe,vs,T,_,_,⟨(ot e (XN Te)).trans he,q1,q2,d0,h1⟩,⟨nT,Te⟩,JH _ hT (zx (qp dT _)),qp dT _,by simp[sz]⟩
theorem Jf {oe:Obj}{vs:Array Value}(fr:A.frames=some (env::outer))(ff:s.heap.FunFrames B (env::outer))(lf:env.frame=some L)(he:s.heap.get? e=some oe)(kb:B.StaysIn s.heap)(nb:B.get? e=none)(d0:oe.data=.fields vs)(h1:vs[1]?=some .none)(hc:vs[2]?=some .none)
  (hq:∀ h',HeldD B (env::outer) e oe.cls oe.dict L h'->s.heap.UpToSlots h'->Q () { s with heap:=h' }):wpAny M A (noteFrame (.ref e) env) Q E s:=by
 unfold noteFrame
 simp only [lf]
 refine YB (XH he d0 h1 ?_)
 rw[YF (by decide)]
 exact Z2a fr ff lf he kb nb d0 (qz.mp h1).1 hc hq
theorem N8 (fr:A.frames=some (env::outer))(lf:env.frame=some L)(x:FlyD B (env::outer) e c dd s.heap)(hq:∀ h',HeldD B (env::outer) e c dd L h'->s.heap.UpToSlots h'->Q () { s with heap:=h' }):wpAny M A (noteFrame (.ref e) env) Q E s:=by
 obtain⟨kb,nb,ff,oe,vs,T,oT,ts,⟨he,rfl,rfl,d0,h1⟩,⟨nT,Te⟩,hT,dT,h3⟩:=x
 unfold noteFrame
 simp only [lf]
 refine YB (XH he d0 h1.1 ?_)
 rw[YM (by simp)]
 refine YB (XH hT dT h3 ?_)
 rw[YF (by simp[rawInt])]
 refine YB (qd hT dT (qz.mp h3).1 ?_)
 have ot:∀ b,b≠T->(s.heap.update T (Obj.mapFields (·.setIfInBounds 3 Value.none))).get? b=s.heap.get? b:=fun b q=>XS _ _ (XN q)
 have nr:∀ b o,s.heap.get? b=some o->(∀ vs,o.data≠.fields vs)->b≠T:=fun b o z nf q=>by
  rw[q,hT] at z
  cases z
  exact nf ts dT
 exact Z2a fr (ff.of_keeps fun b o z nf=>⟨o,(ot b (nr b o z nf)).trans z,rfl⟩) lf ((ot e (XN Te)).trans he) (fun b o q=>(ot b fun z=>by rw[z,nT] at q;cases q).trans (kb b o q)) nb d0 (qz.mp h1.1).1 h1.2
  fun h' x u=>hq h' x fun b o z nf=>u b o ((ot b (nr b o z nf)).trans z) nf
theorem K0 {oe:Obj}{vs:Array Value}(fr:A.frames=some (env::outer))(ff:s.heap.FunFrames B (env::outer))(lf:env.frame=some L)(he:s.heap.get? e=some oe)(kb:B.StaysIn s.heap)(nb:B.get? e=none)(d0:oe.data=.fields vs)(h1:vs[1]?=some .none)(hc:vs[2]?=some .none)
  (hq:∀ h',FlyD B outer e oe.cls oe.dict h'->s.heap.UpToSlots h'->Q () { s with heap:=h' }):wpAny M A (leaving env (.ref e)) Q E s:=by
 unfold leaving
 refine YB (Jf fr ff lf he kb nb d0 h1 hc fun h' x u=>Fi x.1 x.2.1 x.2.2.1 x.2.2.2 fun h2 y v=>hq h2 ⟨y.1,y.2.1,y.2.2.1.2.2,y.2.2.2⟩ (u.trans v))
theorem Jm (fr:A.frames=some (env::outer))(lf:env.frame=some L)(x:FlyD B (env::outer) e c dd s.heap)(hq:∀ h',FlyD B outer e c dd h'->s.heap.UpToSlots h'->Q () { s with heap:=h' }):wpAny M A (leaving env (.ref e)) Q E s:=by
 unfold leaving
 refine YB (N8 fr lf x fun h' x u=>Fi x.1 x.2.1 x.2.2.1 x.2.2.2 fun h2 y v=>hq h2 ⟨y.1,y.2.1,y.2.2.1.2.2,y.2.2.2⟩ (u.trans v))
end
abbrev newTupO (vs:List Value):Obj:={ cls:=.type "tuple",data:=.seq vs.toArray }
abbrev newExcO (C:Addr)(t:Addr)(dd:Option Addr):Obj:={ cls:=.ref C,dict:=dd,data:=.fields #[.ref t,.none,.none,.none,.bool false,.none] }
abbrev excHeap (h:Heap)(C:Addr)(vs:List Value):Heap:=(h.push (newTupO vs)).push (newExcO C h.objs.size none)
section
variable {P:Program}{w:World}{A:Around}{E:Value->Shared->Prop}{h:Heap}{g:Array GenState}{d:Drawn}{tk:Nat}{os:OsState}
variable {nm q:Str}{C N fI:Addr}{bs tl bB:List Value}{hdct:Bool}{sn:List Str}{sub:List Value}{ab:Bool}{col:Option Bool}{dd:Option Addr}{k0 k1 k2 k3 k5:Option Value}{B newId initId:String}{mN:Str->Option Value}{vs:List Value}{oI:Obj}
theorem Xc {b:Addr}{o:Obj}(e:h.get? b=some o):(excHeap h C vs).get? b=some o:=YA _ (YA _ e)
theorem Pd:(excHeap h C vs).get? (h.objs.size+1)=some (newExcO C h.objs.size none):=Heap.get?_push_at (XL ..).symm rfl
theorem Kr {Q:Fin->Shared->Prop}(F:ExcBaseFacts B newId initId bB)(T:OwnTail h bB tl)(hC:h.get? C=some (excClassObj nm q C N bs tl hdct sn sub ab col dd k0 k1 k2 k3 k5 newId))(hn:h.Ns N mN)(hi:mN "__init__"=some (.ref fI))
  (hf:h.get? fI=some oI) (hfc:oI.cls=.type "function") (hv:vs.length<=sizeLine)
  (hq:wpAny (model P w) A (call (.ref fI) (.ref (h.objs.size+1)::vs)) (fun r s'=>r=.none/\Q (.done (.ret (.ref (h.objs.size+1)))) s') E ⟨excHeap h C vs,g,d,tk,os⟩) :
  wpAny (model P w) A (Builtin.«type.__call__» ⟨.ref C::vs,[]⟩) Q E ⟨h,g,d,tk,os⟩:=by
 repeat (first | with_reducible refine GO hC ?_ | with_reducible refine wpAny_madeBy_exc hC ?_ | wp_step)
 refine codeAny_call_builtin_code (Code.quiet_builtin _ F.quiet) (wpAny_check_new_subT F T hC (codeAny_exc_new_subT F T hC ?_ hv))
 show wpAny _ _ _ _ _ _
 have hC1:(excHeap h C vs).get? C=_:=Xc hC
 have hg1:(excHeap h C vs).get? (h.objs.size+1)=_:=Pd
 have hn1:(excHeap h C vs).Ns N mN:=hn.keeps fun b o e=>Xc e
 have T1:OwnTail (excHeap h C vs) bB tl:=T.keeps fun b o e=>Xc e
 have cC:(Value.ref C::tl).contains (.ref C)=true:=by simp
 unfold isInstance
 repeat (first | with_reducible refine GO hg1 ?_ | (with_reducible refine Y02 hC1 ?_;rw[cC]) | wp_step)
 show wpAny _ _ (typeLookup (.ref C) _) _ _ _
 refine wpAny_typeLookup_tail hC1 hn1 T1 F.mroIs F.init.lookup ?_
 rw[hi]
 refine GA (YB ?_)
 unfold bindSpecial
 refine YB (wpAny_typeOf (T:="function") ⟨_,Xc hf,hfc⟩ ?_)
 rw[YM (by decide)]
 refine YQ (YB (GL hq (fun r s' ⟨hr,hQ⟩=>?_) fun _ _ x=>x))
 subst hr
 wp_walk
 exact hQ
theorem B0 {Q:Value->Shared->Prop}(F:ExcBaseFacts B newId initId bB)(T:OwnTail h bB tl)(hC:h.get? C=some (excClassObj nm q C N bs tl hdct sn sub ab col dd k0 k1 k2 k3 k5 newId))(hn:h.Ns N mN)(hi:mN "__init__"=some (.ref fI))
  (hf:h.get? fI=some oI) (hfc:oI.cls=.type "function") (hv:vs.length<=sizeLine)
  (hq:wpAny (model P w) (A.under (.builtin "type.__call__" ⟨.ref C::vs,[]⟩)) (call (.ref fI) (.ref (h.objs.size+1)::vs)) (fun r s'=>r=.none/\Q (.ref (h.objs.size+1)) s') E ⟨excHeap h C vs,g,d,tk,os⟩) :
  wpAny (model P w) A (call (.ref C) vs) Q E ⟨h,g,d,tk,os⟩:=by
 have f1:=tc_lookup
 have f2:=tc_bind (.ref C)
 have hT:(⟨h,g,d,tk,os⟩:Shared).TypeIs (.ref C) "type":=⟨_,hC,rfl⟩
 refine Y0d (codeAny_of_tree ?_)
 show wpAny _ _ (callAny (.ref C) _) _ _ _
 repeat (any_goals (first | assumption | with_reducible refine GO hC ?_ | wp_step))
 exact⟨rfl,codeAny_call_builtin_at (Code.quiet_builtin _ (by decide +kernel)) entry_typeCall (wpAny_check_type_call_sub hC (Kr F T hC hn hi hf hfc hv hq))⟩
end
theorem Z1b {K:W.Frag}{h:Heap}{N:Addr}{m:Str->Option Value}{n:Str}{v:Value}(X:K.In h)(G:h.Ns N m)(e:W.nsIn K N n=some (some v)):m n=some v:=by
 obtain⟨o,es,ep,ho,hd,_,hf⟩:=G
 unfold W.nsIn at e
 split at e
 ·rename_i c d es' n' sl q
  have z:=X _ _ q
  rw[ho] at z
  cases z
  cases hd
  split at e
  ·rename_i en he
   cases e
   rw[<-hf]
   unfold nsFind findBy
   rw[<-Y12,he]
   rfl
  ·split at e <;> cases e
 ·cases e
def excInI (K:W.Frag)(C fI:Addr):Bool:=match K.lookup C with
 | some ⟨.type "type",_,.cls cd,sl⟩=>(match cd.mro,sl.toList with
  | .ref C'::bm,[_,_,_,_,some (.builtin n),_]=>C' == C && (cd.hasDict && (n == "ValueError.__new__" && (!cd.hasDel && (W.tailIn K bmV bm && (W.nsOkIn K cd.ns && W.nsIn K cd.ns "__init__" == some (some (.ref fI)))))))
  | _,_=>false)
 | _=>false
structure ExcI (K:W.Frag)(mg:Str->Option Value)(x:Str)(C fI:Addr):Prop where
 ok:excInI K C fI=true
 fn:W.isFn K (.ref fI)=true
 bd:mg x=some (.ref C)
theorem ExcI.own {K:W.Frag}{mg:Str->Option Value}{x:Str}{C fI:Addr}{h:Heap}(O:ExcI K mg x C fI)(X:K.In h) :
  ∃ bm N nm q bs sn sub ab col dd k0 k1 k2 k3 k5 mN,h.get? C=some (excClassObj nm q C N bs bm true sn sub ab col dd k0 k1 k2 k3 k5 "ValueError.__new__")/\h.Ns N mN/\mN "__init__"=some (.ref fI)/\OwnTail h bmV bm:=by
 have q:=O.ok
 unfold excInI at q
 revert q
 split
 ·rename_i d0 c0 s0 hob
  split
  ·rename_i C1 rest y0 y1 y2 y3 nn y5 em es
   intro q
   rw[JN,JN,JN,JN,JN,JN] at q
   obtain⟨q1,q0,q2,q3,q4,q5,q6⟩:=q
   cases qh.mp q1
   cases qh.mp q2
   have q3':=Bool.not_eq_true' _ ▸ q3
   have q6':=qh.mp q6
   cases c0
   simp only at em q0 q3' q5 q6'
   subst em q0 q3'
   obtain⟨ll⟩:=s0
   have el:ll=[y0,y1,y2,y3,some (.builtin "ValueError.__new__"),y5]:=es
   subst el
   have G:h.Ns _ _:=.of_isNs (W.isNs_of_in X q5)
   exact⟨_,_,_,_,_,_,_,_,_,_,_,_,_,_,_,_,X _ _ hob,G,Z1b X G q6',W.tail_of_in X q4⟩
  ·intro q;cases q
 ·intro q;cases q
def excN (e C:Addr)(dd:Option Addr):HO:=.ext fun h=>∃ t,h.get? e=some (newExcO C t dd)
theorem Mh {P:Program}{w:World}{H:Hp}{h:Heap}{e C t:Addr}{dd:Option Addr}(x:h.get? e=some (newExcO C t dd)):ObjOk P w H h e (excN e C dd) :=
 ⟨⟨t,x⟩,⟨_,x⟩,fun _ _ ⟨t',e1⟩ k=>⟨t',k _ e1⟩⟩
theorem Rw {P:Program}{w:World}{H:Hp}{h:Heap}{e C:Addr}{dd:Option Addr}(x:HOk P w H h)(y:H e=some (excN e C dd)):∃ t,h.get? e=some (newExcO C t dd):=(x e _ y).1
def unT (H:Hp)(e:Addr):Hp:=fun b=>if b=e then none else H b
theorem Bh {H:Hp}{e:Addr}:unT H e e=none:=YM rfl
theorem Vn {H:Hp}{e b:Addr}(n:b≠e):unT H e b=H b:=YF n
def CXD (P:Program)(w:World):CXT:=fun outer H s E e s'=>∃ (a:Addr) (cls:Value) (dd:Option Addr) (H':Hp) (B:Heap),e=.ref a/\s'.os=s.os/\AllBare s'.gens/\FlyD B outer a cls dd s'.heap ∧
 Un (frs outer) [] H H' s.heap s'.heap/\HOk P w H' B/\(∀ b o,s.heap.get? b=some o->b ∉ frs outer->(∃ o',B.get? b=some o')/\(H b=none->B.get? b=some o))/\E cls dd H'
section
variable {M:Model}{A:Around}{E:Value->Shared->Prop}{env:Env}
variable {nm q:Str}{C N:Addr}{bs tl:List Value}{hdct:Bool}{sn:List Str}{sub:List Value}{ab:Bool}{col:Option Bool}{dd:Option Addr}{k0 k1 k2 k3 k5:Option Value}{newId:String}
theorem Dn {s:Shared}{x:Sem Value}{Q:Flow->Shared->Prop}(hb:tl.contains (.type "BaseException")=true)(hh:A.handled=none)
  (h:wpAny M A x (fun v s1=>∃ (e t:Addr) (dx:Option Addr),v=.ref e/\s1.heap.get? C=some (excClassObj nm q C N bs tl hdct sn sub ab col dd k0 k1 k2 k3 k5 newId)/\s1.heap.get? e=some (newExcO C t dx)/\E (.ref e) s1) E s) :
  wpAny M A (raiseStmt env (some x) none) Q E s:=by
 have cB:(Value.ref C::tl).contains (.type "BaseException")=true:=by rw[Y16,hb,Bool.or_true]
 unfold raiseStmt
 refine YB (GL h (fun v s1 h1=>?_) fun _ _ x=>x)
 obtain⟨e,t,dx,rfl,hC,he,hE⟩:=h1
 obtain⟨hp,g,d,tk,os⟩:=s1
 repeat (first | with_reducible refine GO he ?_ | with_reducible refine GO hC ?_ | (with_reducible refine Y02 hC ?_;rw[cB]) | wp_step)
 exact wpAny_raiseNew_none hh hE
end
section
variable {P:Program}{w:World}{K:W.Frag}{mg:Str->Option Value}{base:Heap}{N:List Str}{qual:Str}{scope:Scope}{f:Addr}{cd:Value}{A:Around}{outer:List Env}{s:Shared}{H:Hp}{E:XK}
theorem V5 {b:Addr}{o:Obj}(e:s.heap.get? b=some o)(hb:b ∉ frs outer):b ∉ frs (envOfC qual scope s.heap.objs.size f cd::outer):=fun z=>by
 rcases YS.mp (show b∈s.heap.objs.size::frs outer from z) with z | z
 ·rw[z] at e
  exact absurd (YH e) (XO _)
 ·exact hb z
theorem Pn {pins:List (Addr × Obj)}{σ:L2.St}{H2:Hp}{s2:Shared}{e C:Addr}{dd:Option Addr}(I:Inv (cxOf (CXD P w) P w K mg base N qual scope f cd A outer s H E) pins σ H2 s2)(he:H2 e=some (excN e C dd))(ne:∀ o,s.heap.get? e=some o->False)
  (q:E (.ref C) dd (unT H2 e)):(cxOf (CXD P w) P w K mg base N qual scope f cd A outer s H E).xe (.ref e) s2:=by
 obtain⟨t,ht⟩:=Rw I.hok he
 have nT:∀ b o,H2 b=some o->(∀ φ,o≠HO.ext φ)->b≠e:=fun b o z d y=>by
  rw[y,he] at z
  cases z
  exact d _ rfl
 have hB:∀ b o,s.heap.get? b=some o->b ∉ frs outer->(∃ o',(W.hideAll s2.heap (e::frs (envOfC qual scope s.heap.objs.size f cd::outer))).get? b=some o')/\(H b=none->(W.hideAll s2.heap (e::frs (envOfC qual scope s.heap.objs.size f cd::outer))).get? b=some o):=fun b o z hb=>by
  have nb:b ∉ e::frs (envOfC qual scope s.heap.objs.size f cd::outer):=fun y=>by
   rcases YS.mp y with y | y
   ·exact ne o (by rw[<-y];exact z)
   ·exact V5 z hb y
  refine⟨?_,fun n=>?_⟩
  ·obtain⟨o',z'⟩:=I.base.there b o z (by intro z;cases z)
   exact⟨o',Y0w _ z' nb⟩
  ·exact Y0w _ (I.base.keep b o z n hb (by intro z;cases z)) nb
 have un:Un (frs outer) [] H (unT H2 e) s.heap s2.heap:=by
  have u:Un (frs outer) [] H H2 s.heap s2.heap:=I.base
  refine⟨u.keep,u.slot,fun b o z n hx=>?_,u.there,fun b xs z=>?_,fun b o v z=>?_,fun b ps z=>?_⟩
  ·unfold unT
   split
   ·rfl
   ·exact u.free b o z n hx
  ·have y:=u.tups b xs z
   rw[Vn (nT b _ y fun φ d=>nomatch d)]
   exact y
  ·have y:=u.frzs b o v z
   rw[Vn (nT b _ y fun φ d=>nomatch d)]
   exact y
  ·obtain⟨m,y⟩:=u.tbls b ps z
   exact⟨m,by rw[Vn (nT b _ y fun φ d=>nomatch d)];exact y⟩
 have hok:HOk P w (unT H2 e) (W.hideAll s2.heap (e::frs (envOfC qual scope s.heap.objs.size f cd::outer))):=fun a o z=>by
  have na:a≠e:=fun y=>by rw[y,Bh] at z;cases z
  rw[Vn na] at z
  have nf:∀ b u,H2 b=some u->b≠e->b ∉ e::frs (envOfC qual scope s.heap.objs.size f cd::outer):=fun b u y nb y'=>by
   rcases YS.mp y' with y' | y'
   ·exact nb y'
   ·rw[I.stkFree b y'] at y;cases y
  refine (I.hok a o z).stay (fun b u hb y=>Y0w _ y ?_) (fun b y=>by rw[Vn (nT b _ y fun φ d=>nomatch d)];exact y) fun b xs y=>by rw[Vn (nT b _ y fun φ d=>nomatch d)];exact y
  rcases hb with rfl | hb
  ·exact nf _ _ z na
  ·exact nf _ _ hb (nT b _ hb fun φ d=>nomatch d)
 refine K0 (B:=W.hideAll s2.heap (e::frs (envOfC qual scope s.heap.objs.size f cd::outer))) I.ok.frames (W.funFrames_hide I.stack fun env z b hb=>YV _ (Y0a.mpr ⟨env,z,hb⟩)) (L:=s.heap.objs.size) rfl ht (fun b o z=>W.of_hideAll _ z)
  (W.hideAll_none _ XC) rfl rfl rfl fun h2 fl up=>?_
 refine⟨e,.ref C,dd,unT H2 e,_,rfl,I.os,I.bare,fl,?_,hok,hB,q⟩
 refine Kn (P:=P) (w:=w) un hB fl.1 up fun b hb=>?_
 obtain⟨_,o,z,d⟩:=I.funs.mem hb
 exact⟨o,z,d⟩
def tRaiseD (E:XK)(C:Addr)(sp:Sp)(t:TA):TS:=fun _ σ H=>t σ H fun vs H1=>vs.length<=sizeLine/\∀ e,H1 e=none->sp (.ref e::vs) (upd H1 e (excN e C none)) (fun v H2=>v=.non/\∃ dd,H2 e=some (excN e C dd)/\E (.ref C) dd (unT H2 e)) E0
theorem Dq {x:Str}{C fI:Addr}{fd:FuncData}{ps:List Str}{sp:Sp}{k:Nat}{e₀:Expr}{rest:List Expr}{t:TA}{np cpos pos:Pos}(O:ExcI K mg x C fI)(F:FnOk P w K mg base CX0 k fI fd ps sp)(hb:Binds K fd ps [])
  (hr:Room (k+1) (A.deeper (envOfC qual scope s.heap.objs.size f cd)) true) (hg:Gl (cxOf (CXD P w) P w K mg base N qual scope f cd A outer s H E) x) (ha:PA (cxOf (CXD P w) P w K mg base N qual scope f cd A outer s H E) (e₀::rest) t)
  (he:starEach (e₀::rest) (envOfC qual scope s.heap.objs.size f cd)=(false,eval e₀ (envOfC qual scope s.heap.objs.size f cd))::starEach rest (envOfC qual scope s.heap.objs.size f cd):=by rfl)
  (hplain:(backTo cpos (starEach rest (envOfC qual scope s.heap.objs.size f cd))).any (·.1)=false:=by rfl) (hd:(x == ("__debug__":Str))=false:=by decide) :
  PS (cxOf (CXD P w) P w K mg base N qual scope f cd A outer s H E) (.Raise (some (.Call (.Name x np) (e₀::rest) [] cpos)) none pos) (tRaiseD E C sp t):=by
 intro pins s1 σ H1 D I h
 obtain⟨tl,NN,nm,q,bs,sn,sub,ab,col,dd,k0,k1,k2,k3,k5,mN,hC,hN,hni,T⟩:=O.own I.ok.mod.kin
 rw[arm_exec_Raise]
 refine YB (zv (Dn (C:=C) (nm:=nm) (q:=q) (N:=NN) (bs:=bs) (tl:=tl) (hdct:=true) (sn:=sn) (sub:=sub) (ab:=ab) (col:=col) (dd:=dd) (k0:=k0) (k1:=k1) (k2:=k2) (k3:=k3) (k5:=k5) (newId:="ValueError.__new__")
  (T.hasType GP.hasBase) (hr.hd rfl) (YB (GL (wpAny_Call_ofName (Vv I hg O.bd ?_ hd)) (fun v s3 h3=>YB (zv (YQ h3))) fun _ _ x=>x))))
 have h2:=ha cpos pins s1 σ H1 _ I h
 replace h2:wpAny (model P w) (A.deeper (envOfC qual scope s.heap.objs.size f cd)) (spliced (backTo cpos (starEach (e₀::rest) (envOfC qual scope s.heap.objs.size f cd)))) _ _ s1:=h2
 rw[he] at h2
 show wpAny _ _ (callWith cpos (.ref C) [] (backTo cpos (starEach (e₀::rest) (envOfC qual scope s.heap.objs.size f cd))) (backToKw cpos (keywordEach [] (envOfC qual scope s.heap.objs.size f cd)))) _ _ _
 unfold callWith
 refine YB (GA (GL (?_:wpAny _ _ (evalArgs (.ref C) true (backTo cpos (starEach (e₀::rest) (envOfC qual scope s.heap.objs.size f cd))) []) (fun a s2=>a.kw=[]/\∃ vs H2,Inv (cxOf (CXD P w) P w K mg base N qual scope f cd A outer s H E) pins σ H2 s2/\Vals vs a.pos/\vs.length<=sizeLine/\∀ e,H2 e=none->sp (.ref e::vs) (upd H2 e (excN e C none)) (fun v H2=>v=.non/\∃ dd,H2 e=some (excN e C dd)/\E (.ref C) dd (unT H2 e)) E0) _ s1) (fun a s2 h3=>YB (zv ?_)) fun _ _ x=>x))
 ·rw[he]
  refine Calls.evalArgs_plain (GL h2 (fun us s2 h3=>?_) fun _ _ y=>y)
  obtain⟨vs,H2,I2,r,hl,q⟩:=h3
  exact⟨rfl,vs,H2,I2,r,hl,q⟩
 obtain⟨us,akw⟩:=a
 obtain⟨hkw,vs,H2,I2,r,hl,sq⟩:=h3
 obtain rfl:akw=[]:=hkw
 obtain⟨hp,g,d,tk,os⟩:=s2
 have hpl:(backTo cpos (starEach (e₀::rest) (envOfC qual scope s.heap.objs.size f cd))).any (·.1)=false:=by
  rw[he]
  show (false || (backTo cpos (starEach rest (envOfC qual scope s.heap.objs.size f cd))).any (·.1))=false
  rw[hplain]
  rfl
 simp only [hpl]
 have hC2:=I2.bk _ _ hC
 refine YB (wpAny_keeperOf_exc hC2 ?_)
 have fnI:(∃ oI,hp.get? fI=some oI/\oI.cls=.type "function"):=by
  have z:=qh.mp O.fn
  obtain⟨o,ho,hc⟩:=Option.map_eq_some_iff.mp z
  exact⟨o,I2.kIn _ _ ho,hc⟩
 obtain⟨oI,hfI,hfc⟩:=fnI
 have hl':us.length<=sizeLine:=by rw[<-r.length];exact hl
 have sz:s.heap.objs.size<=hp.objs.size:=I2.sz
 have hq0:=sq (hp.objs.size+1) (I2.hok.fresh (zf _))
 have I3:Inv (cxOf (CXD P w) P w K mg base N qual scope f cd A outer s H E) pins σ (upd H2 (hp.objs.size+1) (excN (hp.objs.size+1) C none)) ⟨excHeap hp C us,g,d,tk,os⟩ :=
  I2.laid (t':=tk) (fun b u e=>Xc e) (zf _) (Mh Pd)
 have r2:Vals (V.ref (hp.objs.size+1)::vs) (Value.ref (hp.objs.size+1)::us):=.cons rfl r
 have hlen:(Value.ref (hp.objs.size+1)::us++[]).length=ps.length:=by
  rw[qi,<-r2.length]
  exact F.len _ _ _ _ hq0
 refine YB (B0 GP (T.keeps I2.bk) hC2 (hN.keeps I2.bk) hni hfI hfc hl' (Y0d ?_))
 refine zX (F.run _ _ _ _ ⟨Value.ref (hp.objs.size+1)::us,[]⟩ (Value.ref (hp.objs.size+1)::us) _ _ E0 (hr.make C us []).loose ((I3.env0 rfl).make C us []) (by have z:=hb ⟨excHeap hp C us,g,d,tk,os⟩ (Value.ref (hp.objs.size+1)::us) I3.kIn hlen;rw[qi] at z;exact z) r2 hq0) fun r' s' hq'=>?_
 cases r' with
 | error e=>exact False.elim hq'
 | ok fl =>
  cases fl with
  | ret u =>
   obtain⟨v,H',I4,rv,ev,dx,q3,q4⟩:=I3.after hq'
   subst ev
   obtain⟨t',ht'⟩:=Rw I4.hok q3
   refine⟨rv,YB (GA (wpAny_point (YQ ⟨_,t',dx,rfl,I4.bk _ _ hC,ht',Pn I4 q3 (fun o z=>?_) q4⟩)))⟩
   exact absurd (YW (YH z) sz) (jn.mpr (zf _))
  | next=>exact False.elim hq'
  | brk=>exact False.elim hq'
  | cont=>exact False.elim hq'
end
def HasD (P:Program)(w:World)(K:W.Frag)(mg:Str->Option Value)(base:Heap)(k:Nat)(x:Str)(ps:List Str)(sp:Sp):Prop :=
 ∃ (f:Addr) (fd:FuncData),FnOk P w K mg base (CXD P w) k f fd ps sp true/\mg x=some (.ref f)/\W.keepIn K (.ref f)=true/\Binds K fd ps []
theorem Def.hasD {P:Program}{w:World}{K:W.Frag}{mg:Str->Option Value}{base:Heap}{k:Nat}{x:Str}{st:Stmt}{ps N:List Str}{sp:Sp}(D:Def K mg x st ps)(S:FnScope N ps (defScope st))(len:∀ vs H Q E,sp vs H Q E->vs.length=ps.length)
  (hbody:∀ (f:Addr) (cdv:Value) (A:Around) (outer:List Env) (s:Shared) (H:Hp) (vs:List V) (Q:VK) (E:XK),Room k (A.deeper (envOfC x (defScope st) s.heap.objs.size f cdv)) true->sp vs H Q E →
   ∃ t,PSs (cxOf (CXD P w) P w K mg base N x (defScope st) f cdv A outer s H E) (defBody st) t/\t { nx:=fun _ H'=>Q .non H',rt:=Q } (start N vs) H):HasD P w K mg base (k+1) x ps sp:=by
 obtain⟨f,fd,F,hm,b⟩:=D
 refine⟨f,fd,?_,hm,F.kp,b⟩
 obtain⟨oc,od,kV,doc,pm,an,cdv,ct,osl,rfl,lk,hcd⟩:=F.ex
 exact Z4x lk hcd S len fun A outer s H vs Q E hr hsp=>hbody f cdv A outer s H vs Q E hr hsp
def LandsD (X:Cx)(EX:L2.St->XK):Prop:=∀ (pins:List (Addr × Obj)) (σ:L2.St) (H:Hp) (s:Shared) (e:Value) (s':Shared),Inv X pins σ H s->CXD X.prog X.w X.stack H s (EX σ) e s'->X.xe e s'
section
variable {X:Cx}{k:Nat}{x:Str}{ps:List Str}{sp:Sp}{e:Expr}{es:List Expr}{t:TA}{p pos:Pos}{EX:L2.St->XK}
theorem Ny (h:HasD X.prog X.w X.K X.mg X.base k x ps sp)(hr:Room k X.A true)(hg:Gl X x)(hx:LandsD X EX)(ha:PA X (e::es) t)(hdb:(x == ("__debug__":Str))=false:=by decide)
  (he:starEach (e::es) X.env=(false,eval e X.env)::starEach es X.env:=by rfl) (hpl:(backTo pos (starEach es X.env)).any (·.1)=false:=by rfl) (hc:X.calm=true:=by rfl):PE X (.Call (.Name x p) (e::es) [] pos) (tUseX sp EX t):=by
 obtain⟨f,fd,F,hm,hk,hb⟩:=h
 intro pins s σ H Q I h
 refine GZ (Vv I hg hm ?_ hdb)
 refine W.callWith_K (h₀:=X.base) I.ok.mod.kin hk (thn (ha pos pins s σ H _ I h) fun us s1 ⟨vs,H1,I1,r,q⟩=>⟨I1.kIn,?_⟩) he hpl
 have hl:us.length=ps.length:=by rw[<-r.length];exact F.len _ _ _ _ q
 have bd:=hb s1 us I1.kIn (by rw[qi];exact hl)
 rw[qi] at bd
 refine Y0d (zX (F.run X.A X.stack s1 H1 ⟨us,[]⟩ us vs Q (EX σ) hr (I1.env0 hc) bd r q) fun r' s' hq=>?_)
 cases r' with
 | error e=>exact hx pins σ H1 s1 e s' I1 hq
 | ok fl =>
  cases fl with
  | ret u=>exact I1.after hq
  | next=>exact False.elim hq
  | brk=>exact False.elim hq
  | cont=>exact False.elim hq
end
section
variable {P:Program}{w:World}{K:W.Frag}{mg:Str->Option Value}{base:Heap}{N:List Str}{qual:Str}{scope:Scope}{f:Addr}{cd:Value}{A:Around}{outer:List Env}{s:Shared}{H:Hp}{E:XK}
theorem Qz:LandsD (cxOf (CXD P w) P w K mg base N qual scope f cd A outer s H E) (fun _=>E):=by
 intro pins σ H1 s1 e s' I hx
 obtain⟨a,cls,dd,H',B,rfl,os,bare,fl,un,hok,hB,q⟩:=hx
 replace fl:FlyD B (envOfC qual scope s.heap.objs.size f cd::outer) a cls dd s'.heap:=fl
 have u:Un (frs outer) [] H H1 s.heap s1.heap:=I.base
 have hB2:∀ b o,s.heap.get? b=some o->b ∉ frs outer->(∃ o',B.get? b=some o')/\(H b=none->B.get? b=some o):=fun b o z hb=>by
  have nb:=V5 (qual:=qual) (scope:=scope) (f:=f) (cd:=cd) z hb
  obtain⟨o1,z1⟩:=u.there b o z (by intro z;cases z)
  refine⟨(hB b o1 z1 nb).1,fun n=>?_⟩
  exact (hB b o (u.keep b o z n hb (by intro z;cases z)) nb).2 (u.free b o z n (by intro z;cases z))
 refine Jm I.ok.frames (L:=s.heap.objs.size) rfl fl fun h2 fl2 up=>?_
 refine⟨a,cls,dd,H',B,rfl,os.trans I.os,bare,fl2,?_,hok,hB2,q⟩
 have nf:∀ b∈frs outer,∃ o,s'.heap.get? b=some o/\∀ vs,o.data≠.fields vs:=fun b hb=>by
  obtain⟨_,o,z,d⟩:=fl.2.2.1.mem (b:=b) (YV _ hb)
  exact⟨o,z,d⟩
 refine Kn (P:=P) (w:=w) ⟨fun b o z n hb hx=>?_,fun b o z n hb hx=>?_,fun b o z n hx=>?_,fun b o z hx=>?_,fun b xs z=>un.tups b xs (u.tups b xs z),fun b o v z=>un.frzs b o v (u.frzs b o v z),fun b ps z=>?_⟩ hB2 fl2.1 up nf
 ·exact un.keep b o (u.keep b o z n hb hx) (u.free b o z n hx) (V5 z hb) hx
 ·obtain⟨sl,z1⟩:=u.slot b o z n hb hx
  obtain⟨sl2,z2⟩:=un.slot b _ z1 (u.free b o z n hx) (YV _ hb) hx
  exact⟨sl2,z2⟩
 ·obtain⟨o1,z1⟩:=u.there b o z hx
  exact un.free b o1 z1 (u.free b o z n hx) hx
 ·obtain⟨o1,z1⟩:=u.there b o z hx
  exact un.there b o1 z1 hx
 ·obtain⟨m1,z1⟩:=u.tbls b ps z
  obtain⟨m2,z2⟩:=un.tbls b _ z1
  exact⟨m1++m2,by rw[z2,Y11]⟩
end
section
variable {X:Cx}{pins:List (Addr × Obj)}{σ:L2.St}{H:Hp}{s:Shared}{a:Addr}
theorem Z1u {B:Heap}{H':Hp}{s':Shared}{h2:Heap}{t':Nat}{cls:Value}{dd:Option Addr}(I:Inv X pins σ H s)(os:s'.os=s.os)(bare:AllBare s'.gens)(fl:FlyD B X.stack a cls dd h2)(up:s'.heap.UpToSlots h2)(fl0:FlyD B X.stack a cls dd s'.heap)
  (un:Un (frs X.stack) [] H H' s.heap s'.heap) (hok:HOk X.prog X.w H' B) (hB:∀ b o,s.heap.get? b=some o->b ∉ frs X.stack->(∃ o',B.get? b=some o')/\(H b=none->B.get? b=some o)) :
  Inv X pins σ H' { s' with heap:=h2,toks:=t' }:=by
 refine Inv.call' (s':={ s' with heap:=h2,toks:=t' }) (ch:=[]) I os ?_ (hok.kept fl.1) bare (fun b z=>nomatch z)
 exact Kn (P:=X.prog) (w:=X.w) un hB fl.1 up fun b hb=>by
  obtain⟨_,o,e,d⟩:=fl0.2.2.1.mem hb
  exact⟨o,e,d⟩
end
section
variable {X:Cx}{x n:Str}{i:Nat}{C D:Addr}{body:List Stmt}{b₀:Stmt}{suite:List Stmt}{np hp pos:Pos}{tb:(L2.St->XK)->TS}{ts:TS}
def tTryD (C:Addr)(tb:(L2.St->XK)->TS)(ts:TS):TS:=fun Ds σ H=>tb (fun σ' cls _ H'=>cls=.ref C/\ts Ds σ' H') Ds σ H
theorem Z2w (hst:X.stack=X.env::X.outer)(hfr:X.env.frame=some X.env.locals)(c:CatchBy X.K C D)(hm:X.mg x=some (.ref D))(hg:Gl X x)
  (hb:∀ (pn:List (Addr × Obj)) (E:Value->Shared->Prop) (EX:L2.St->XK),LandsD (tryCx X pn E) EX->PSs (tryCx X pn E) body (tb EX)) (hs:∀ (a:Addr) (pn:List (Addr × Obj)) (E:Value->Shared->Prop),PSs (sutCx X a pn E) (b₀::suite) ts)
  (hd:(x == ("__debug__":Str))=false:=by decide):PS X (.Try body [.ExceptHandler (some (.Name x np)) none (b₀::suite) hp] [] [] pos) (tTryD C tb ts):=by
 intro pins s0 σ0 H0 Ds I0 h
 refine wpAny_Try_except ?_
 refine thn (hb (X.pn++pins) (fun e s₁=>wpAny (model X.prog X.w) X.A (noteFrame e X.env) (fun _ s₂=>wpAny (model X.prog X.w) X.A (setFlight e none) (fun _ s₃=>wpAny (model X.prog X.w) X.A (handleBy e X.env [.ExceptHandler (some (.Name x np)) none (b₀::suite) hp]) (SP X pins Ds) X.xe s₃) X.xe s₂) X.xe s₁)
  (fun σ' cls _ H'=>cls=.ref C/\ts Ds σ' H') ?_ [] s0 σ0 H0 Ds (Z47 I0) h) fun fl s1 q=>?_
 ·intro pins' σ H s e s' I hx
  obtain⟨a,cls,dd,H',B,rfl,os,bare,fl,un,hok,hB,rfl,hts⟩:=hx
  have IX:Inv X pins σ H s:=Vg I0.ok I
  replace fl:FlyD B X.stack a (.ref C) dd s'.heap:=fl
  have st2:∀ h2 t',FlyD B X.stack a (.ref C) dd h2->s'.heap.UpToSlots h2->Inv X pins σ H' { s' with heap:=h2,toks:=t' }:=fun h2 t' f2 u2=>Z1u IX os bare f2 u2 fl un hok hB
  have frm:X.A.frames=some (X.env::X.outer):=by rw[<-hst];exact I0.ok.frames
  have fl':FlyD B (X.env::X.outer) a (.ref C) dd s'.heap:=by rw[<-hst];exact fl
  refine N8 frm hfr fl' fun h4 held u4=>Fi held.1 held.2.1 held.2.2.1 held.2.2.2 fun h5 fl5 u5=>?_
  have u45:=u4.trans u5
  rw[<-hst] at fl5
  have I5:=st2 h5 s'.toks fl5 u45
  obtain⟨ob,_,hob,hoc,_⟩:=fl5.2.2.2.obj
  refine wpAny_handleBy_cons (codeAny_handlers_test (Vv (X:=sutCx X a (X.pn++pins) X.xe) (Fo I5) hg hm ?_ hd)) (by intro z;cases z)
  obtain⟨hh,g1,d1,t1,o1⟩:=s'
  refine Kb I5.kIn c hob hoc (codeAny_handlers_suite ?_)
  refine Fi fl5.1 fl5.2.1 fl5.2.2.1 fl5.2.2.2 fun h6 fl6 u6=>?_
  have I6:=st2 h6 t1 fl6 (u45.trans u6)
  refine thn (hs a (X.pn++pins) _ [] _ σ H' Ds (Fo I6) hts) fun f2 s2 q2=>?_
  exact Bl I0.ok q2
 ·have q':=Bk I0.ok q
  cases fl with
  | next=>exact zJ q'
  | brk=>exact q'
  | cont=>exact q'
  | ret u=>exact q'
end
theorem _root_.L2.Room.mark {k:Nat}{A:Around}{sr:Bool}{h:Option Value}(r:Room k A sr):Room k (A.mark h):=⟨(fun z=>nomatch z),r.dp,r.un⟩
section
variable {X:Cx}{pins pins' pn:List (Addr × Obj)}{σ:L2.St}{H:Hp}{s:Shared}{E:Value->Shared->Prop}{a C:Addr}{dd:Option Addr}
end
section
variable {X:Cx}{x n:Str}{i:Nat}{C D:Addr}{body:List Stmt}{b₀:Stmt}{suite:List Stmt}{np hp pos:Pos}{tb:(L2.St->XK)->TS}{ts:Addr->Option Addr->TS}
end
open PySem.W (Looks findIn specialIn takesIn mroIn clsIn)
open Builtin Builtin.ObjectAttr
section
variable {P:Program}{w:World}{A:Around}{E:Value->Shared->Prop}
theorem Ba {s:Shared}{e t:Addr}{C:Addr}{dd:Option Addr}{vs:List Value}{Q:Fin->Shared->Prop}(he:s.heap.get? e=some (newExcO C t dd))(hv:vs.length<=sizeLine)
  (h:Q (.done (.ret .none)) { s with heap:=(s.heap.push (newTupO vs)).update e (Obj.mapFields (·.setIfInBounds 0 (.ref s.heap.objs.size))) }):wpAny (model P w) A (Builtin.«BaseException.__init__» ⟨.ref e::vs,[]⟩) Q E s:=by
 unfold Builtin.«BaseException.__init__»
 dsimp only
 rw[YF (by simp)]
 unfold newTuple Builtin.BaseException.bexcPut
 have h1:=YA (h:=s.heap) (newTupO vs) he
 refine YB (JW (YB (YB (XH h1 rfl rfl (YB (qd h1 rfl (by show 0<6;decide) ?_))))) (by size_fits))
 exact Y0P (YQ h)
end
structure BaseI (K:W.Frag)(mg:Str->Option Value)(x:Str)(D:Addr):Prop where
 bd:mg x=some (.ref D)
 rd:W.readsIn K D (.type "type")=true
 ty:W.typeIn K (.ref D)=some (.type "type")
 fc:W.findCls K (.ref D) (.type "type") "__init__"=some (.val (.builtin "ValueError.__init__"))
def tBaseI (K:W.Frag)(mg:Str->Option Value)(t:TA):TE:=fun σ H Q=>t σ H fun vs H1=>∃ (e C fI:Addr) (dd:Option Addr) (xn:Str) (ws:List V),vs=.ref e::ws/\ws.length<=sizeLine/\H1 e=some (excN e C dd)/\ExcI K mg xn C fI/\Q .non H1
theorem Be {H:Hp}{a:Addr}{o:HO}(h:H a=some o):upd H a o=H:=by
 funext b
 unfold upd
 split
 ·rename_i z;rw[z,h]
 ·rfl
section
variable {X:Cx}{x:Str}{D:Addr}{e:Expr}{es:List Expr}{t:TA}{np apos pos:Pos}
theorem Z0m {pl:Sem Bool}(B:BaseI X.K X.mg x D)(hg:Gl X x)(ha:PA X (e::es) t)(hd:(x == ("__debug__":Str))=false:=by decide)
  (hst:starEach (e::es) X.env=(false,eval e X.env)::starEach es X.env:=by rfl) (hpl:(backTo pos (starEach es X.env)).any (·.1)=false:=by rfl)
  (ht:eval (.Call (.Attribute (.Name x np) "__init__" apos) (e::es) [] pos) X.env=(do
   let ov <-eval (.Name x np) X.env
   standAt apos.atName
   let (f,first) <-holding [ov] (getMethod ov "__init__" pl)
   callWith pos f first (backTo pos (starEach (e::es) X.env)) (backToKw pos (keywordEach [] X.env))):=by rfl) :
  PE X (.Call (.Attribute (.Name x np) "__init__" apos) (e::es) [] pos) (tBaseI X.K X.mg t):=by
 intro pins s σ H Q I h
 refine W.methodCall_KW (pl:=pl) (Vv I hg B.bd ?_ hd) ht
 have L0:=W.looks_typeIn (M:=model X.prog X.w) I.kIn B.ty
 have hga:findIn X.K (.type "type") "__getattribute__"=some (some (.builtin "type.__getattribute__")):=W.type_tga
 unfold getMethod specialOf
 refine YB (YB (L0.at ((Y0b I.kIn hga).at ?_)))
 dsimp only
 rw[YM W.canon_tga]
 refine YB (GL (Q:=fun v s'=>v=.builtin "ValueError.__init__"/\s'={ s with toks:=s.toks+1 }) (E:=X.xe) (W.cls_value I.kIn B.rd B.fc rfl ⟨rfl,rfl⟩) (fun v s' ⟨z1,z2⟩=>YQ ?_) fun _ _ z=>z)
 subst z1 z2
 refine jk (thn (ha pos pins _ σ H _ (I.tok _) h) fun us s1 ⟨vs,H1,I1,r,q⟩=>?_) hst hpl
 obtain⟨ea,C,fI,dd,xn,ws,rfl,hl,he,O,q⟩:=q
 cases r with
 | @cons _ u _ us' r1 r2 =>
  cases (show u=Value.ref ea from r1)
  obtain⟨t0,ht0⟩:=Rw I1.hok he
  obtain⟨tl,NN,nm,qn,bs,sn,sub,ab,col,dd',k0,k1,k2,k3,k5,mN,hC,hN,hni,T⟩:=O.own I1.kIn
  have hl':us'.length<=sizeLine:=by rw[<-r2.length];exact hl
  have I1':=I1
  obtain⟨hp,g,d,tk,os⟩:=s1
  refine Y0d (codeAny_call_builtin GP.init.plain GP.initEntry (wpAny_check_init_subT GP T hC ht0 rfl (Ba ht0 hl' ?_)))
  have e1:((hp.push (newTupO us')).update ea (Obj.mapFields (·.setIfInBounds 0 (.ref hp.objs.size)))).get? ea=some (newExcO C hp.objs.size dd):=by
   rw[JH _ (YA _ ht0) rfl]
   rfl
  have I2:=I1'.write (o:=excN ea C dd) (h':=(hp.push (newTupO us')).update ea (Obj.mapFields (·.setIfInBounds 0 (.ref hp.objs.size)))) (t':=tk) (x:=ea) (e:=ea) (by rw[he];trivial) (.inl rfl) (fun b u hb hu=>by
   rw[XS _ _ (XN hb)]
   exact YA _ hu) ⟨_,e1⟩ (Mh e1)
  rw[Be he] at I2
  exact⟨.non,H1,I2,rfl,q⟩
end
structure StoI (K:W.Frag)(C:Addr)(f:Str):Prop where
 sa:findIn K (.ref C) "__setattr__"=some (some (.builtin "object.__setattr__"))
 na:findIn K (.ref C) f=some none
theorem Lk {h:Heap}{tl:List Value}{v:Value}(T:OwnTail h bmV tl):refuseLoop v "__setattr__" tl=pure ():=by
 induction T with
 | base=>exact JV.passes v
 | own _ _ _ _ ih=>rw[refuseLoop_ref];exact ih
section
variable {P:Program}{w:World}{A:Around}{E:Value->Shared->Prop}{h:Heap}{g:Array GenState}{d:Drawn}{t:Nat}{os:OsState}{K:W.Frag}{mg:Str->Option Value}{xn f:Str}{C fI x t0:Addr}{v:Value}
theorem Dj {tk:Tok}{Q:Fin->Shared->Prop}(X:K.In h)(O:ExcI K mg xn C fI)(S:StoI K C f)(hx:h.get? x=some (newExcO C t0 none))
  (hq:∀ h' tk',h'.get? x=some (newExcO C t0 (some h.objs.size))->h'.Ns1 h.objs.size (fun y=>if y=f then some v else none)->(∀ b o,b≠x->h.get? b=some o->h'.get? b=some o)->Q (.done (.ret .none)) ⟨h',g,d,tk',os⟩) :
  wpAny (model P w) A (Builtin.«object.__setattr__» ⟨[.ref x,.str f tk,v],[]⟩) Q E ⟨h,g,d,t,os⟩:=by
 obtain⟨tl,NN,nm,qn,bs,sn,sub,ab,col,dd',k0,k1,k2,k3,k5,mN,hC,hN,hni,T⟩:=O.own X
 have hpass:=Lk (v:=.ref x) T
 have L1:=Y0b (M:=model P w) X S.na
 have hx0:=hx
 generalize ho:newExcO C t0 none=o at hx
 have hc:o.cls=.ref C:=by rw[<-ho]
 have hdn:o.dict=none:=by rw[<-ho]
 have hnc:∀ c,o.data≠.cls c:=fun c z=>by rw[<-ho] at z;cases z
 unfold Builtin.«object.__setattr__»
 repeat (first | rw[refuse_eq] | (rw[refuseLoop_ref,hpass]) | (with_reducible refine GO hx ?_;rw[hc]) | with_reducible refine wpAny_mroOf_exc hC ?_ | (refine YB (L1.at ?_)) | wp_step)
 rw[hdn,YF (by simp[typeHasDict])]
 split
 ·rename_i z
  cases z
 split
 ·rename_i c z
  exact absurd z (hnc c)
 subst ho
 have hx1:(h.push { cls:=.type "dict",data:=.dict #[] }).get? x=some (newExcO C t0 none):=YA _ hx
 have hxs:x≠h.objs.size:=XA (YH hx)
 refine YB (wpAny_alloc' (YB (wpAny_update' hx1 (YQ ?_))))
 have gd:((h.push { cls:=.type "dict",data:=.dict #[] }).update x fun o=>{ cls:=o.cls,dict:=some h.objs.size,data:=o.data,slots:=o.slots }).get? h.objs.size=some { cls:=.type "dict",data:=.dict #[] }:=(Heap.get?_update_ne _ _ _ _ hxs.symm).trans (Heap.get?_push_at rfl rfl)
 have nd:((h.push { cls:=.type "dict",data:=.dict #[] }).update x fun o=>{ cls:=o.cls,dict:=some h.objs.size,data:=o.data,slots:=o.slots }).Ns h.objs.size (fun _=>none):=⟨_,#[],_,gd,rfl,fun e he=>absurd he (by simp),fun _=>rfl⟩
 show wpAny _ _ (storeInDict h.objs.size (.str f tk) f v) _ _ _
 unfold storeInDict newKeyGuard
 refine YB (YQ (YB (wpAny_nsSet1 (Heap.Ns1.of_empty nd) fun h' hn' hs=>?_)))
 obtain⟨oD,esD,epD,hoD,hdD,hcD⟩:=hn'.count (Within.cons f v Within.nil)
 refine YB (wpAny_lookBehind hoD (by rw[hdD];exact pastItsLine_dict (XQ hcD (by rw[XY,jy,Y0q];omega))) ?_)
 wp_walk
 refine hq h' _ ?_ hn' fun b ob hbx hb=>?_
 ·refine (hs.2 x hxs).trans ((JH _ hx1 rfl).trans ?_)
  rfl
 ·exact (hs.2 b (XA (YH hb))).trans ((Heap.get?_update_ne _ _ _ _ hbx).trans (YA _ hb))
theorem Cu {M:Model}{nv:Value}{Q:Unit->Shared->Prop}(X:K.In h)(O:ExcI K mg xn C fI)(hx:h.get? x=some (newExcO C t0 none))(hq:Q () ⟨h,g,d,t,os⟩) :
  wpAny M A (checkBuiltinCall "object.__setattr__" ⟨[.ref x,nv,v],[]⟩) Q E ⟨h,g,d,t,os⟩:=by
 obtain⟨tl,NN,nm,qn,bs,sn,sub,ab,col,dd',k0,k1,k2,k3,k5,mN,hC,hN,hni,T⟩:=O.own X
 have cO:(Value.ref C::tl).contains (.type "object")=true:=by rw[Y16,T.hasType (b:=true) (by decide +kernel),Bool.or_true]
 have ha:=JV.args (.ref x) nv v
 simp only [checkBuiltinCall,JV.kind,JV.split]
 refine YB ?_
 unfold isInstance
 repeat (first | (with_reducible refine GO hx ?_) | (with_reducible refine Y02 hC ?_;rw[cO]) | wp_step)
 exact hq
theorem Bj {Q:Unit->Shared->Prop}(X:K.In h)(O:ExcI K mg xn C fI)(S:StoI K C f)(hx:h.get? x=some (newExcO C t0 none))
  (hq:∀ h' tk',h'.get? x=some (newExcO C t0 (some h.objs.size))->h'.Ns1 h.objs.size (fun y=>if y=f then some v else none)->(∀ b o,b≠x->h.get? b=some o->h'.get? b=some o)->Q () ⟨h',g,d,tk',os⟩) :
  wpAny (model P w) A (setAttr (.ref x) f v) Q E ⟨h,g,d,t,os⟩:=by
 have L1:=Y0b (M:=model P w) X S.sa
 have f3:=JV.slot.bind (.ref x)
 unfold setAttr callSpecial? specialOf
 refine YB (wpAny_mkText ?_)
 refine YB (YB (YB ?_))
 repeat (any_goals (first | assumption | (with_reducible refine GO hx ?_) | (refine YB (L1.at ?_)) | (refine L1.at ?_) | wp_step))
 refine codeAny_call_builtin JV.slot.plain JV.entry (Cu X O hx (Dj X O S hx fun h' tk' a b c=>?_))
 repeat (any_goals (first | assumption | wp_step))
 exact hq h' tk' a b c
end
section
variable {X:Cx}{o value:Expr}{f:Str}{pos pos':Pos}{ta tv:TE}
def sFldX (K:W.Frag)(mg:Str->Option Value)(ta tv:TE)(f:Str):TS:=fun D σ H=>tv σ H fun y H1=>ta σ H1 fun x H2=>∃ (e C fI:Addr) (xn:Str),x=.ref e/\H2 e=some (excN e C none)/\ExcI K mg xn C fI/\StoI K C f ∧
 ∀ d,H2 d=none->d≠e->D.nx σ (upd (upd H2 e (excN e C (some d))) d (.xd [(f,y)]))
theorem Z2x (ha:PE X o ta)(hv:PE X value tv)(hs:swapsWith value (some (.Attribute o f pos')) pos.line X.env=pure false):PS X (.Assign [.Attribute o f pos'] value pos) (sFldX X.K X.mg ta tv f):=by
 intro pins s σ H D I h
 refine jf (thn (hv pins s σ H _ I h) fun u s1 ⟨y,H1,I1,ry,q⟩=>thn (ha pins s1 σ H1 _ I1 q) fun ov s2 ⟨x,H2,I2,rx,e,C,fI,xn,ex,ea,O,S,q2⟩=>?_) hs
 subst ex
 obtain rfl:ov=Value.ref e:=rx
 obtain⟨t0,ht0⟩:=Rw I2.hok ea
 obtain⟨hp,g,d,tk,os⟩:=s2
 refine Bj I2.kIn O S ht0 fun h' tk' a b c=>?_
 have hne:hp.objs.size≠e:=qo (YH ht0)
 have I3:=I2.write (o:=excN e C (some hp.objs.size)) (h':=h') (t':=tk') (x:=e) (e:=e) (by rw[ea];trivial) (.inl rfl) (fun b' u hb hu=>c b' u hb hu) ⟨_,a⟩ (Mh a)
 have fr:H2 hp.objs.size=none:=I2.hok.fresh (YE _)
 have fr':upd H2 e (excN e C (some hp.objs.size)) hp.objs.size=none:=by rw[Zf hne];exact fr
 have nw:ObjOk X.prog X.w (upd (upd H2 e (excN e C (some hp.objs.size))) hp.objs.size (.xd [(f,y)])) h' hp.objs.size (.xd [(f,y)]):=by
  refine⟨_,b,fun z=>?_⟩
  by_cases hz:z=f
  ·subst hz
   rw[YM rfl]
   show RelO (List.lookup z [(z,y)]) (some u)
   rw[show List.lookup z [(z,y)]=some y from by simp[List.lookup]]
   exact ry
  ·rw[YF hz]
   show RelO (List.lookup z [(f,y)]) none
   rw[show List.lookup z [(f,y)]=none from by simp[List.lookup,JE.mpr hz]]
   trivial
 have I4:Inv X pins σ (upd (upd H2 e (excN e C (some hp.objs.size))) hp.objs.size (.xd [(f,y)])) ⟨h',g,d,tk',os⟩:=by
  refine Ck I3 fr' nw (fun ob z=>?_) (fun z=>?_) (fun y' cc z z'=>?_) (fun p hp' z=>?_)
  ·exact absurd (YW (YH z) I2.sz) (XO _)
  ·obtain⟨m,⟨o',_,_,ho',_⟩,_⟩:=I2.loc
   rw[<-z] at ho'
   exact absurd (YH ho') (XO _)
  ·obtain⟨v',o',ho',_⟩:=I2.cell y' cc z
   rw[z'] at ho'
   exact absurd (YH ho') (XO _)
  ·have e':=(I2.pin p hp').1
   rw[z] at e'
   exact absurd (YH e') (XO _)
 exact⟨σ,_,I4,q2 _ fr hne⟩
end
end Sb
namespace Sb
open PySem PySem.Spec PyProof.Rows L2
open PySem.W (Looks findIn specialIn takesIn mroIn clsIn)
open Builtin Builtin.ObjectAttr
section
variable {K:W.Frag}{C x dx:Addr}{P:Program}{w:World}{A:Around}{E:Value->Shared->Prop}{h:Heap}{g:Array GenState}{d:Drawn}{t:Nat}{os:OsState}{f:Str}{v:Value}{mA:Str->Option Value}{ox:Obj}
end
section
variable {X:Cx}{e:Expr}{f:Str}{pos:Pos}{ta:TE}
end
end Sb
namespace Sb
open PySem PySem.Spec PyProof.Rows L2
def ErrHere (K:W.Frag)(mg:Str->Option Value)(x q:Str)(st:Stmt):Prop:=∃ (C f:Addr) (fd:FuncData),ExcI K mg x C f/\Fun K "__init__" q st f fd/\Binds K fd ["self","multiples"] []/\StoI K C "multiples"/\ExcRead K C
theorem Z6d {K:W.Frag}{h:Heap}{mg:Str->Option Value}{x q:Str}{st:Stmt}{C f:Addr}{oc:Value}{od an:Option Addr}{sl:Array (Option Value)}{kV dc pm cd ct:Value}(X:K.In h)(G:h.Ns mainGlobals mg)(aC:W.nsIn K mainGlobals x=some (some (.ref C)))
  (a1:W.findIn K (.ref C) "__init__"=some (some (.ref f))) (i1:W.isFn K (.ref f)=true) (l1:K.lookup f=some ⟨oc,od,.func (W.fnOf "__init__" q (defArgs st) (defBody st) (defScope st) .none kV dc pm an cd ct),sl⟩) (c1:W.codeIn K cd q=true) (k1:W.keepIn K (.ref f)=true)
  (sa:W.findIn K (.ref C) "__setattr__"=some (some (.builtin "object.__setattr__"))) (na:W.findIn K (.ref C) "multiples"=some none)
  (ga:W.findIn K (.ref C) "__getattribute__"=some (some (.builtin "BaseException.__getattribute__"))) (gh:W.findIn K (.ref C) "__getattr__"=some none) (cl:W.findIn K (.ref C) "__class__"=some (some (.builtin "object.__class__"))) (gt:W.specialIn K (.builtin "object.__class__") "__get__"=some (some (.builtin "getset_descriptor.__get__")))
  (tk:W.takesIn K (.builtin "object.__class__")=some true) (mo:W.mroIn K C (.type "object")=some true) (be:W.subIn K (.ref C) (.type "BaseException")=some true)
  (ok:excInI K C f=true) (bd:∀ (us:List Value),us.length=2->bindArgs (W.fnOf "__init__" q (defArgs st) (defBody st) (defScope st) .none kV dc pm an cd ct) ⟨us,[]⟩=pure ((["self","multiples"]:List Str).zip us)):ErrHere K mg x q st :=
 ⟨C,f,_,⟨ok,i1,Y0s X G aC⟩,Sn l1 c1 k1,Binds.all bd,⟨sa,na⟩,⟨ga,gh,cl,gt,tk,mo,be⟩⟩
def BaseHere (K:W.Frag)(mg:Str->Option Value)(x:Str):Prop:=∃ D,BaseI K mg x D
theorem Z4e {K:W.Frag}{h:Heap}{mg:Str->Option Value}{x:Str}{D:Addr}(X:K.In h)(G:h.Ns mainGlobals mg)(a:W.nsIn K mainGlobals x=some (some (.ref D)))(r:W.readsIn K D (.type "type")=true)(t:W.typeIn K (.ref D)=some (.type "type"))
  (f:W.findCls K (.ref D) (.type "type") "__init__"=some (.val (.builtin "ValueError.__init__"))):BaseHere K mg x:=⟨D,Y0s X G a,r,t,f⟩
theorem Z1k {mg:Str->Option Value}{x:Str}{a b:Addr}(h1:mg x=some (.ref a))(h2:mg x=some (.ref b)):a=b:=by
 rw[h1] at h2
 injection h2 with h
 injection h
def CatchHere (K:W.Frag)(mg:Str->Option Value)(x y:Str):Prop:=∃ (C D:Addr),CatchBy K C D/\mg x=some (.ref C)/\mg y=some (.ref D)
theorem Z2l {K:W.Frag}{h:Heap}{mg:Str->Option Value}{x y:Str}{C D:Addr}(X:K.In h)(G:h.Ns mainGlobals mg)(a:W.nsIn K mainGlobals x=some (some (.ref C)))(b:W.nsIn K mainGlobals y=some (some (.ref D)))
  (n:W.instIn K (.ref D) (.type "tuple")=some false) (be:W.subIn K (.ref D) (.type "BaseException")=some true) (i:W.kitOne K (.type "int") (.ref D)=some false) (k:W.subIn K (.ref C) (.ref D)=some true):CatchHere K mg x y :=
 ⟨C,D,⟨n,be,i,k⟩,Y0s X G a,Y0s X G b⟩
def fM (K:W.Frag)(C:Addr):Sp:=fun vs H Q _=>∃ (e l:Addr) (xs:List V),vs=[.ref e,.ref l]/\H e=some (excN e C none)/\SqL K H l xs ∧
 ∀ (d l':Addr) (H':Hp),H l'=none->H d=none->H' e=some (excN e C (some d))->H' d=some (.xd [("multiples",.ref l')])->H' l'=some (.lst xs)->(∀ b o,H b=some o->b≠e->H' b=some o)->Q .non H'
theorem Z28 {H:Hp}{e l' d C:Addr}{xs:List V}{Q:VK}(he:H e=some (excN e C none))(hl':H l'=none)(hd:upd H l' (.lst xs) d=none)(hde:d≠e)
  (k:∀ (d l':Addr) (H':Hp),H l'=none->H d=none->H' e=some (excN e C (some d))->H' d=some (.xd [("multiples",.ref l')])->H' l'=some (.lst xs)->(∀ b o,H b=some o->b≠e->H' b=some o)->Q .non H') :
  Q .non (upd (upd (upd H l' (.lst xs)) e (excN e C (some d))) d (.xd [("multiples",.ref l')])):=by
 have ne:l'≠e:=fun z=>by rw[z,he] at hl';cases hl'
 have nd:d≠l':=fun z=>by rw[z,Zc] at hd;cases hd
 rw[Zf nd] at hd
 refine k d l' _ hl' hd ?_ Zc ?_ fun b o hb hne=>?_
 ·rw[Zf (XN hde),Zc]
 ·rw[Zf (XN nd),Zf ne,Zc]
 ·rw[Zf (fun z=>by rw[z,hd] at hb;cases hb),Zf hne,Zf (fun z=>by rw[z,hl'] at hb;cases hb)]
  exact hb
section
variable {X:Cx}{K:W.Frag}
end
theorem Pp {X:Cx}{K:W.Frag}(hK:X.K=K:=by rfl):CallR X (.type "list") (fun xs H Q=>∃ p ys,xs=[.ref p]/\(SqL K H p ys \/ SqT K H p ys)/\∀ l,H l=none->Q (.ref l) (upd H l (.lst ys))):=hK ▸ Yp
open PySem.W (Looks findIn specialIn takesIn mroIn clsIn)
section
variable {X:Cx}{e:Expr}{f:Str}{pos:Pos}{ta:TE}
end
section
variable {X:Cx}{K:W.Frag}
end
end Sb
namespace Sb
open PySem L2
def top (i:Nat):Stmt:=PySem.Challenge.pw_surebook_k32_learned_twice.main.body.getD i (.Pass ⟨0,0,0,0⟩)
abbrev kO:Stmt:=top 8
abbrev kF:Stmt:=top 9
abbrev lP:Stmt:=top 10
abbrev lM:Stmt:=top 11
abbrev mQ:Stmt:=top 12
abbrev mF:Stmt:=top 13
abbrev l8:Stmt:=top 14
abbrev lC:Stmt:=top 15
abbrev kJ:Stmt:=top 16
abbrev lA:Stmt:=top 17
abbrev kK:Stmt:=top 19
abbrev lJ:Stmt:=top 20
abbrev l6:Stmt:=top 21
abbrev mS:Stmt:=top 22
abbrev mV:Stmt:=top 23
abbrev m6:Stmt:=top 24
abbrev lD:Stmt:=top 25
abbrev mW:Stmt:=top 31
abbrev k9:Stmt:=top 32
abbrev mD:Stmt:=top 33
abbrev mK:Stmt:=top 34
abbrev lI:Stmt:=top 35
abbrev lY:Stmt:=top 36
abbrev kP:Stmt:=top 39
abbrev lQ:Stmt:=top 40
abbrev mO:Stmt:=top 41
abbrev k4:Stmt:=top 42
abbrev lH:Stmt:=top 43
abbrev kW:Stmt:=top 44
abbrev k7:Stmt:=top 45
abbrev kZ:Stmt:=top 46
abbrev mL:Stmt:=top 47
abbrev kX:Stmt:=top 48
abbrev lX:Stmt:=top 49
abbrev kR:Stmt:=top 51
abbrev l9:Stmt:=top 52
abbrev kD:Stmt:=top 53
abbrev mB:Stmt:=top 54
abbrev lU:Stmt:=top 57
abbrev kG:Stmt:=top 58
abbrev l5:Stmt:=top 60
abbrev mG:Stmt:=top 61
abbrev lK:Stmt:=top 63
abbrev kI:Stmt:=top 64
abbrev lE:Stmt:=top 65
abbrev lV:Stmt:=top 66
abbrev kY:Stmt:=top 67
abbrev mT:Stmt:=top 68
abbrev mX:Stmt:=top 70
abbrev lZ:Stmt:=top 71
abbrev m7:Stmt:=top 72
abbrev mP:Stmt:=top 73
abbrev m4:Stmt:=top 74
abbrev mH:Stmt:=top 75
abbrev lT:Stmt:=top 76
abbrev lS:Stmt:=top 77
abbrev lG:Stmt:=top 78
abbrev mJ:Stmt:=top 79
abbrev lO:Stmt:=top 81
abbrev mI:Stmt:=top 82
abbrev mU:Stmt:=top 83
abbrev mC:Stmt:=top 84
abbrev mY:Stmt:=top 85
abbrev lB:Stmt:=top 86
abbrev mM:Stmt:=top 87
abbrev mZ:Stmt:=top 88
abbrev mE:Stmt:=top 89
abbrev k8:Stmt:=top 90
abbrev k6:Stmt:=top 91
abbrev kS:Stmt:=top 92
abbrev mR:Stmt:=top 93
abbrev lN:Stmt:=top 94
abbrev kU:Stmt:=top 95
abbrev m5:Stmt:=top 96
abbrev kH:Stmt:=inClass (top 4) 0
abbrev kC:Stmt:=inClass (top 38) 0
structure Blt (mg:Str->Option Value):Prop where
 len:mg "len"=none
 abs:mg "abs"=none
 isinstance:mg "isinstance"=none
 int:mg "int"=none
 bool:mg "bool"=none
 tuple:mg "tuple"=none
 range:mg "range"=none
 zip:mg "zip"=none
 enumerate:mg "enumerate"=none
 any:mg "any"=none
 sum:mg "sum"=none
 list:mg "list"=none
 min:mg "min"=none
theorem D0 {ns:List Int}{k:Int}(h0:0<=k)(h1:k<((ns.map V.int).length:Int)):∃ z,atI (ns.map V.int) k=some (.int z):=by
 obtain⟨j,rfl⟩:=Int.eq_ofNat_of_zero_le h0
 rw[YC] at h1
 have hj:j<ns.length:=by omega
 exact⟨ns[j],Zh (by simp[hj])⟩
theorem Jo {n:Nat}{k:Int}(h0:0<=k)(h1:k<(n:Int)):ixN n k=some k.toNat:=by
 unfold ixN
 rw[YM h0,YM h1]
theorem Tn {j:Int}(h:(0:Int)<j):(0:Int)<j:=h
theorem Z4c {j:Int}(h0:0<=j)(h1:j<=1000):CPow 10 j:=⟨h0,by omega,by decide⟩
theorem Ug (t:Int):-(2 ^ 64)<t % 65537/\t % 65537<2 ^ 64:=by omega
section
variable {P:Program}{w:World}{K:W.Frag}{mg:Str->Option Value}{base:Heap}
def hZ (K:W.Frag):Sp:=fun vs H Q _=>∃ (a:Addr) (k:Int) (ns:List Int),vs=[.ref a,.int k]/\SqL K H a (ns.map V.int)/\0<=k/\k<=100000/\∀ z:Int,Q (.int z) H
theorem Z01:FnScope ["_law_script","_law_k","_law_seed","_law_some"] ["_law_script","_law_k"] (defScope mX):=fsc
theorem Z5y (D:Def K mg "_law_cell" mX ["_law_script","_law_k"])(T:Blt mg):Has P w K mg base 1 "_law_cell" ["_law_script","_law_k"] (hZ K):=by
 refine D.has fun f fd F=>F.ok Z01 (fun vs H Q E h=>?_) (fun cdv A outer s H vs Q E hr h=>?_)
 ·obtain⟨a,k,ns,rfl,_⟩:=h
  rfl
 ·obtain⟨a,k,ns,rfl,hS,hk,hk2,q⟩:=h
  have sc:=Z01
  refine⟨_,(Z9 (Yc (Zo N6 (pv 1) (Y1 Yb rfl T.len zu (Z0 (pv 0) Z8)) (Zt _))
    (Zd (Zi (Zj Y6 (pv 0) (pv 1) (fun _ _=>rfl))))
    Zu)
   (Z9 (Zk (i:=2) sc.nd rfl (Or.inl rfl) (Zn Zw (pv 1) Za))
   (Z9 (Yc (Zo Fe (Y1 Yb rfl T.len zu (Z0 (pv 0) Z8)) Za (Zt _))
    (Zd (Zk (i:=2) sc.nd rfl (Or.inl rfl) (Zn X1 (pv 2) (Zn Wn (Zj Y6 (pv 0) (Zn Wn (pv 1) (Y1 Yb rfl T.len zu (Z0 (pv 0) Z8))) (fun _ _=>rfl)) Za))))
    Zu)
   (Z9 (Zk (i:=3) sc.nd rfl (Or.inl rfl) (Zn Wn (Zn Zw (pv 2) Za) Za))
   (Zd (Zi (Zn Wn (Zn W9 (Zn Zw (pv 3) (Zn X1 (Zn X1 (pv 3) (Zn Zw Za (pv 1))) Za)) Za) Za))))))),?_⟩
  refine⟨_,rfl,_,rfl,a,_,rfl,.inl hS,_,_,rfl,rfl,_,rfl,?_⟩
  refine Xe (fun h=>?_) (fun h=>?_)
  ·have h':=XI h
   obtain⟨z,hz⟩:=D0 hk h'
   exact⟨_,rfl,_,rfl,a,_,_,_,rfl,rfl,hS,hz,q z⟩
  ·refine⟨_,rfl,_,_,rfl,rfl,C9 (by decide) (by decide),?_⟩
   refine⟨_,rfl,a,_,rfl,.inl hS,_,_,rfl,rfl,_,rfl,?_⟩
   refine Xe (fun h2=>?_) (fun h2=>?_)
   ·have h3:=XI h2
    obtain⟨z,hz⟩:=D0 (ns:=ns) (k:=k % ((ns.map V.int).length:Int)) (zN _ (by omega)) (zQ _ h3)
    refine⟨_,rfl,_,rfl,_,rfl,_,rfl,a,_,rfl,.inl hS,_,_,rfl,rfl,h3,a,_,_,_,rfl,rfl,hS,hz,_,_,rfl,rfl,Tn (by decide),_,_,rfl,rfl,?_⟩
    refine⟨_,rfl,_,_,rfl,rfl,C9 (by decide) (by decide),_,_,rfl,rfl,Tn (by decide),?_⟩
    exact⟨_,rfl,_,rfl,_,rfl,_,_,rfl,rfl,Ca (by decide) (by decide),_,_,rfl,rfl,_,_,rfl,rfl,_,_,rfl,rfl,Ca (Ug _).1 (Ug _).2,_,_,rfl,rfl,⟨by decide,by decide +kernel⟩,_,_,rfl,rfl,Tn (by decide),q _⟩
   ·refine⟨_,rfl,_,_,rfl,rfl,C9 (by decide) (by decide),_,_,rfl,rfl,Tn (by decide),?_⟩
    exact⟨_,rfl,_,rfl,_,rfl,_,_,rfl,rfl,Ca (by decide) (by decide),_,_,rfl,rfl,_,_,rfl,rfl,_,_,rfl,rfl,Ca (Ug _).1 (Ug _).2,_,_,rfl,rfl,⟨by decide,by decide +kernel⟩,_,_,rfl,rfl,Tn (by decide),q _⟩
def j8:Sp:=fun vs H Q _=>∃ (p q:Int),vs=[.int p,.int q]/\0<q/\q.natAbs.log2<9000/\∀ a H',H a=none->Same H H'->H' a=some (.tup [.int (nT p q),.int (nB p q)])->Q (.ref a) H'
theorem Np {p q:Int}(h:q≠0)(k:q.natAbs.log2<9000):(sg p q).natAbs.log2<9000:=by
 have h1:=Z6k (p:=p) h
 have h0:=Pw (p:=p) h
 have h2:(sg p q).natAbs≠0:=by omega
 have h3:q.natAbs≠0:=by omega
 exact (Y0R h2).mpr (JZ h1 ((Y0R h3).mp k))
def muLow (σ:St)(_:Hp):Nat:=match σ with
 | [_,_,_,some (.int y),_]=>y.toNat
 | _=>0
theorem Z4j:FnScope ["_law_top","_law_bottom","_law_one","_law_other","_law_rest"] ["_law_top","_law_bottom"] (defScope m4):=fsc
abbrev Z1 (P:Program)(w:World)(K:W.Frag)(mg:Str->Option Value)(base:Heap):Prop:=Has P w K mg base 2 "_law_low" ["_law_top","_law_bottom"] j8
theorem Z6p (D:Def K mg "_law_low" m4 ["_law_top","_law_bottom"])(T:Blt mg):Z1 P w K mg base:=by
 refine D.has fun f fd F=>F.ok Z4j (fun vs H Q E h=>?_) (fun cdv A outer s H vs Q E hr h=>?_)
 ·obtain⟨a,b,rfl,_⟩:=h
  rfl
 ·obtain⟨p,q,rfl,hq,hlog,k⟩:=h
  have sc:=Z4j
  refine⟨_,(Z9 (Zk (i:=2) sc.nd rfl (Or.inl rfl) (Y1 Km rfl T.abs Y0N (Z0 (pv 0) Z8)))
   (Z9 (Zk (i:=3) sc.nd rfl (Or.inl rfl) (pv 1))
   (Z9 (Ql JR (Zo Fe (pv 3) Za (Zt _))
    (Z9 (Zk (i:=4) sc.nd rfl (Or.inl rfl) (Zn Wn (pv 2) (pv 3)))
    (Z9 (Zk (i:=2) sc.nd rfl (Or.inl rfl) (pv 3))
    (Zd (Zk (i:=3) sc.nd rfl (Or.inl rfl) (pv 4))))))
   (Zd (Zi (Y9 (Z0 (Zn W9 (pv 0) (pv 2)) (Z0 (Zn W9 (pv 1) (pv 2)) Z8)))))))),?_⟩
  refine⟨_,rfl,_,rfl,_,rfl,?_⟩
  have hq':q≠0:=by omega
  have eg:Int.gcd (if p<0 then -p else p) q=Int.gcd p q:=by split <;> simp
  refine Ms (fun σ H'=>H'=H/\∃ (x y:Int) (r:Option V),σ=[some (.int p),some (.int q),some (.int x),some (.int y),r]/\0<=x/\0<=y/\Int.gcd x y=Int.gcd p q) muLow ⟨rfl,_,q,none,rfl,(by split <;> omega),by omega,eg⟩ ?_
   (fun σ H Q Q' f ⟨v,e,i,j,e1,e2,k,e3,z⟩=>⟨v,e,i,j,e1,e2,k,e3,f _ _ z⟩)
  rintro σ H' ⟨rfl,x,y,r,rfl,hx,hy,hg⟩
  refine⟨_,rfl,_,_,rfl,rfl,_,rfl,?_⟩
  refine Xe (fun h=>?_) (fun h=>?_)
  ·have h':0<y:=XI h
   refine⟨_,rfl,_,rfl,_,_,rfl,rfl,h',?_⟩
   refine⟨_,rfl,_,rfl,⟨rfl,y,x % y,_,rfl,hy,zN _ (by omega),gcd_step.trans hg⟩,?_⟩
   show (x % y).toNat<y.toNat
   have:=zQ x h'
   have:=zN x (show y≠0 by omega)
   omega
  ·have h':¬ 0<y:=fun z=>h (XX z)
   have e:=Z6a x y hx (by omega)
   rw[hg] at e
   have es:x=sg p q:=by
    unfold sg gI
    rw[YF (by omega),<-e]
   subst es
   refine⟨_,rfl,_,rfl,_,_,rfl,rfl,⟨Pw hq',Np hq' hlog⟩,_,rfl,_,rfl,_,_,rfl,rfl,⟨Pw hq',Np hq' hlog⟩,sz2,fun a ha=>?_⟩
   exact k a _ ha (Same.new ha) Zc
def h9 (K:W.Frag):Sp:=fun vs H Q _=>∃ (a:Addr) (at_:Nat) (ns:List Int),vs=[.ref a,.int (at_:Int)]/\SqL K H a (ns.map V.int)/\at_<=100/\∀ b H',H b=none->Same H H'->BagAt H' b 101->Q (.ref b) H'
theorem Z02:FnScope ["_law_script","_law_at","_law_cell_here"] ["_law_script","_law_at"] (defScope m7):=fsc
theorem Z5z (D:Def K mg "_law_bag" m7 ["_law_script","_law_at"])(gA:Has P w K mg base 1 "_law_cell" ["_law_script","_law_k"] (hZ K)):Has P w K mg base 2 "_law_bag" ["_law_script","_law_at"] (h9 K):=by
 refine D.has fun f fd F=>F.ok Z02 (fun vs H Q E h=>?_) (fun cdv A outer s H vs Q E hr h=>?_)
 ·obtain⟨a,at_,ns,rfl,_⟩:=h
  rfl
 ·obtain⟨a,at_,ns,rfl,hS,hat,k⟩:=h
  have sc:=Z02
  refine⟨_,(Z9 (Zk (i:=2) sc.nd rfl (Or.inl rfl) (Zg gA hr (Z0 (pv 0) (Z0 (pv 1) Z8))))
   (Z9 (Yc (PW.pt (Th (Zo Z6m (pv 2) (Zn M0 Za Za) (Zt _)) (U5 (Zo Z4t (pv 2) (Vy Xx (Zn M0 Za Za)) (Zt _)))))
    (Zd (Zi (Wl (Z0 (pv 2) (Z0 Za Z8)))))
    Zu)
   (Zd (Zi (Wl (Z0 (Zn Wn (pv 2) Za) (Z0 (Zn X1 (pv 1) Za) Z8))))))),?_⟩
  refine⟨_,rfl,_,rfl,a,_,ns,rfl,hS,by omega,by omega,fun z=>?_⟩
  have fin:∀ (x y:Int),0<=y->y<=101->∀ d,H d=none->Q (.ref d) (upd H d (.lst [.int x,.int y])):=fun x y y0 y1 d hd=>k d _ hd (Same.new hd) ⟨x,y,Zc,y0,by omega⟩
  refine⟨_,rfl,_,_,rfl,rfl,Z4c (by decide) (by decide),_,_,rfl,rfl,_,rfl,?_⟩
  refine Xe (fun h1=>?_) (fun h1=>?_)
  ·exact⟨_,rfl,sz2,fun d hd=>fin _ _ (by decide) (by decide) d hd⟩
  refine⟨_,rfl,_,_,rfl,rfl,Z4c (by decide) (by decide),_,rfl,_,_,rfl,rfl,_,rfl,?_⟩
  refine Xe (fun h2=>?_) (fun h2=>?_)
  ·exact⟨_,rfl,sz2,fun d hd=>fin _ _ (by decide) (by decide) d hd⟩
  ·exact⟨_,rfl,_,_,rfl,rfl,Tn (by decide),_,rfl,_,_,rfl,rfl,sz2,fun d hd=>fin _ _ (by omega) (by omega) d hd⟩
def jX:Sp:=fun vs H Q _=>∃ (b:Addr) (m:Int) (n:Nat),vs=[.ref b,.int m]/\BagAt H b n/\n<=1000000000/\0<m/\m.natAbs.log2<9000 ∧
 ∀ (r:Int) (H':Hp),0<=r->r<m->BagAt H' b (n+1)->SameX b H H'->Q (.int r) H'
theorem Bo:FnScope ["_law_bag_here","_law_many","_law_some"] ["_law_bag_here","_law_many"] (defScope mP):=fsc
abbrev Z2 (P:Program)(w:World)(K:W.Frag)(mg:Str->Option Value)(base:Heap):Prop:=Has P w K mg base 1 "_law_take" ["_law_bag_here","_law_many"] jX
theorem Z5m (D:Def K mg "_law_take" mP ["_law_bag_here","_law_many"]):Z2 P w K mg base:=by
 refine D.has fun f fd F=>F.ok Bo (fun vs H Q E h=>?_) (fun cdv A outer s H vs Q E hr h=>?_)
 ·obtain⟨b,m,n,rfl,_⟩:=h
  rfl
 ·obtain⟨b,m,n,rfl,⟨x,y,e,hy,hyn⟩,hn,hm,hlog,q⟩:=h
  have sc:=Bo
  have hL:SqL K H b [.int x,.int y]:=SqL.of e
  refine⟨_,(Z9 (Yc (Zo Xk (Zj Fk (pv 0) Za (fun _ _=>rfl)) Za (Zt _))
    (Z9 (Zk (i:=2) sc.nd rfl (Or.inl rfl) (Zn Wn (Zj Fl (pv 0) Za (fun _ _=>rfl)) (pv 1)))
    (Z9 (Uw (Zn W9 (Zj Fl (pv 0) Za (fun _ _=>rfl)) (pv 1)) (Sd (pv 0) Za V8))
    (Zd (Zi (pv 2)))))
    Zu)
   (Z9 (Uw (Zn Wn (Zn X1 (Zn X1 (Zn Zw (Zj Fl (pv 0) Za (fun _ _=>rfl)) Za) (Zn Zw (Zn Zw Za (Zj Fk (pv 0) Za (fun _ _=>rfl))) (Zj Fk (pv 0) Za (fun _ _=>rfl)))) Za) Za) (Sd (pv 0) Za V8))
   (Z9 (Uw (Zn X1 (Zj Fk (pv 0) Za (fun _ _=>rfl)) Za) (Sd (pv 0) Za V8))
   (Zd (Zi (Zn Wn (Zn Wn (Zn Zw (Zj Fl (pv 0) Za (fun _ _=>rfl)) Za) Za) (pv 1))))))),?_⟩
  refine⟨_,rfl,b,_,_,rfl,rfl,hL,rfl,_,rfl,?_⟩
  refine Xe (fun h=>?_) (fun h=>?_)
  ·refine⟨_,rfl,b,_,_,rfl,rfl,hL,_,rfl,_,_,rfl,rfl,hm,?_⟩
   refine⟨_,rfl,b,_,_,rfl,rfl,hL,_,rfl,_,_,rfl,rfl,⟨by omega,hlog⟩,_,rfl,b,_,_,0,rfl,rfl,e,rfl,?_⟩
   refine⟨_,rfl,?_⟩
   exact q _ _ (zN _ (by omega)) (zQ _ hm) ⟨_,y,Zc,hy,by omega⟩ (SameX.upd b H _)
  ·refine⟨_,rfl,b,_,_,rfl,rfl,hL,_,_,rfl,rfl,C9 (by decide) (by decide),_,rfl,b,_,_,rfl,rfl,hL,_,_,rfl,rfl,Ca (by decide) (by decide),_,rfl,b,_,_,rfl,rfl,hL,_,_,rfl,rfl,C9 (by omega) (by omega),_,_,rfl,rfl,_,_,rfl,rfl,_,_,rfl,rfl,Tn (by decide),_,rfl,b,_,_,0,rfl,rfl,e,rfl,?_⟩
   refine⟨_,rfl,b,_,_,rfl,rfl,SqL.of Zc,_,_,rfl,rfl,_,rfl,b,_,_,1,rfl,rfl,Zc,rfl,?_⟩
   refine⟨_,rfl,b,_,_,rfl,rfl,SqL.of Zc,_,_,rfl,rfl,C9 (by decide) (by decide),_,_,rfl,rfl,Tn (by decide),_,rfl,_,_,rfl,rfl,hm,?_⟩
   exact q _ _ (zN _ (by omega)) (zQ _ hm) ⟨_,y+1,Zc,by omega,by omega⟩ ((SameX.upd b H _).trans (SameX.upd b _ _))
def jB:Sp:=fun vs H Q _=>∃ (a b:Int),vs=[.int a,.int b]/\Q (.int (Int.gcd a b:Nat)) H
theorem Z4l:FnScope ["one","other","rest"] ["one","other"] (defScope kF):=fsc
def muGcd (σ:St)(_:Hp):Nat:=match σ with
 | [_,some (.int y),_]=>y.natAbs
 | _=>0
theorem Z3z {y:Int}(h:(!decide (V.int y=V.int 0))=true):y≠0:=by
 intro z
 subst z
 simp at h
theorem Z4a {y:Int}(h:¬ (!decide (V.int y=V.int 0))=true):y=0:=by
 apply YU
 intro z
 apply h
 have:¬ V.int y=V.int 0:=fun q=>z (V.int.inj q)
 simp[this]
theorem Z6r (D:Def K mg "common_divisor" kF ["one","other"])(T:Blt mg):Has P w K mg base 1 "common_divisor" ["one","other"] jB:=by
 refine D.has fun f fd F=>F.ok Z4l (fun vs H Q E h=>?_) (fun cdv A outer s H vs Q E hr h=>?_)
 ·obtain⟨a,b,rfl,_⟩:=h
  rfl
 ·obtain⟨a,b,rfl,q⟩:=h
  have sc:=Z4l
  refine⟨_,(Z9 (Ql JR (Zo Lq (pv 1) Za (Zt _))
    (Z9 (Zk (i:=2) sc.nd rfl (Or.inl rfl) (Zn Z36 (pv 0) (pv 1)))
    (Z9 (Zk (i:=0) sc.nd rfl (Or.inl rfl) (pv 1))
    (Zd (Zk (i:=1) sc.nd rfl (Or.inl rfl) (pv 2))))))
   (Zd (Zi (Y1 Km rfl T.abs Y0N (Z0 (pv 0) Z8))))),?_⟩
  refine Ms (fun σ H'=>H'=H/\∃ (x y:Int) (r:Option V),σ=[some (.int x),some (.int y),r]/\Int.gcd x y=Int.gcd a b) muGcd ⟨rfl,a,b,none,rfl,rfl⟩ ?_
   (fun σ H Q Q' f ⟨v,e,e1,k,e3,z⟩=>⟨v,e,e1,k,e3,f _ _ z⟩)
  rintro σ H' ⟨rfl,x,y,r,rfl,hg⟩
  refine⟨_,rfl,rfl,_,rfl,?_⟩
  refine Xe (fun h=>?_) (fun h=>?_)
  ·have h':y≠0:=Z3z h
   refine⟨_,rfl,_,rfl,_,_,rfl,rfl,h',?_⟩
   refine⟨_,rfl,_,rfl,⟨rfl,y,x.fmod y,_,rfl,(Co x y).trans hg⟩,?_⟩
   exact Z26 x h'
  ·have h':y=0:=Z4a h
   subst h'
   refine⟨_,rfl,_,rfl,?_⟩
   have e:(if x<0 then -x else x)=((Int.gcd a b:Nat):Int):=by
    rw[<-hg]
    simp
    split <;> omega
   rw[e]
   exact q
def eQ:Sp:=fun vs H Q _=>∃ (p q:Int),vs=[.int p,.int q]/\q≠0/\q.natAbs.log2<9000/\∀ a H',H a=none->Same H H'->H' a=some (.tup [.int (nT p q),.int (nB p q)])->Q (.ref a) H'
theorem L7:FnScope ["top","bottom","divisor"] ["top","bottom"] (defScope lP):=fsc
abbrev Z4 (P:Program)(w:World)(K:W.Frag)(mg:Str->Option Value)(base:Heap):Prop:=Has P w K mg base 2 "lowest" ["top","bottom"] eQ
theorem Z10 (D:Def K mg "lowest" lP ["top","bottom"])(eI:Has P w K mg base 1 "common_divisor" ["one","other"] jB):Z4 P w K mg base:=by
 refine D.has fun f fd F=>F.ok L7 (fun vs H Q E h=>?_) (fun cdv A outer s H vs Q E hr h=>?_)
 ·obtain⟨a,b,rfl,_⟩:=h
  rfl
 ·obtain⟨p,q,rfl,hq,hlog,k⟩:=h
  have sc:=L7
  refine⟨_,(Z9 (Zk (i:=2) sc.nd rfl (Or.inl rfl) (Zg eI hr (Z0 (pv 0) (Z0 (pv 1) Z8))))
   (Z9 (Xj (Yc (Zo N6 (pv 1) Za (Zt _))
    (Zd (Zk (i:=2) sc.nd rfl (Or.inl rfl) (Vy Xx (pv 2))))
    Zu))
   (Zd (Zi (Y9 (Z0 (Zn W9 (pv 0) (pv 2)) (Z0 (Zn W9 (pv 1) (pv 2)) Z8))))))),?_⟩
  refine⟨_,rfl,_,rfl,_,_,rfl,?_⟩
  refine⟨fun σ H'=>H'=H/\σ=[some (.int p),some (.int q),some (.int (sg p q))],?_,?_⟩
  ·refine⟨_,rfl,_,_,rfl,rfl,_,rfl,?_⟩
   refine Xe (fun h=>?_) (fun h=>?_)
   ·have h':q<0:=XI h
    refine⟨_,rfl,_,rfl,rfl,?_⟩
    have e:sg p q=-((Int.gcd p q:Nat):Int):=by unfold sg gI;rw[YM h']
    rw[e]
    rfl
   ·have h':¬ q<0:=fun z=>h (XX z)
    refine⟨rfl,?_⟩
    have e:sg p q=((Int.gcd p q:Nat):Int):=by unfold sg gI;rw[YF h']
    rw[e]
    rfl
  ·rintro σ H' ⟨rfl,rfl⟩
   refine⟨_,rfl,_,rfl,_,_,rfl,rfl,⟨Pw hq,Np hq hlog⟩,_,rfl,_,rfl,_,_,rfl,rfl,⟨Pw hq,Np hq hlog⟩,sz2,fun a ha=>?_⟩
   exact k a _ ha (Same.new ha) Zc
def eL (K:W.Frag)(op:Rat->Rat->Rat):Sp:=fun vs H Q _=>∃ (a b:Addr) (r s:Rat) (n:Nat),vs=[.ref a,.ref b]/\SqT K H a [.int r.1,.int r.2]/\SqT K H b [.int s.1,.int s.2]/\Good n r/\Good n s/\n<=4000 ∧
 ∀ c H',H c=none->Same H H'->H' c=some (.tup [.int (op r s).1,.int (op r s).2])->Q (.ref c) H'
theorem Wy {n:Nat}{x y:Int}(h:Bd n x)(k:Bd n y)(hn:n<=4000):(x*y).natAbs.log2<9000:=Bd.log (h.mul k) (by omega)
theorem Gi:FnScope ["_law_one","_law_other"] ["_law_one","_law_other"] (defScope mH):=fsc
abbrev Z7 (P:Program)(w:World)(K:W.Frag)(mg:Str->Option Value)(base:Heap):Prop:=Has P w K mg base 3 "_law_plus" ["_law_one","_law_other"] (eL K addR)
theorem Z3q (D:Def K mg "_law_plus" mH ["_law_one","_law_other"])(eC:Z1 P w K mg base):Z7 P w K mg base:=by
 refine D.has fun f fd F=>F.ok Gi (fun vs H Q E h=>?_) (fun cdv A outer s H vs Q E hr h=>?_)
 ·obtain⟨a,b,r,s,n,rfl,_⟩:=h
  rfl
 ·obtain⟨a,b,r,s,n,rfl,hA,hB,gr,gs,hn,k⟩:=h
  have sc:=Gi
  refine⟨_,(Zd (Zi (Zg eC hr (Z0 (Zn X1 (Zn Zw (Zj X6 (pv 0) Za (fun _ _=>rfl)) (Zj Yq (pv 1) Za (fun _ _=>rfl))) (Zn Zw (Zj X6 (pv 1) Za (fun _ _=>rfl)) (Zj Yq (pv 0) Za (fun _ _=>rfl)))) (Z0 (Zn Zw (Zj Yq (pv 0) Za (fun _ _=>rfl)) (Zj Yq (pv 1) Za (fun _ _=>rfl))) Z8))))),?_⟩
  exact⟨_,rfl,_,_,_,rfl,rfl,hA,_,rfl,_,_,_,rfl,rfl,hB,_,_,rfl,rfl,gr.b1.mulOk gs.b2 (by omega) (by omega),_,rfl,_,_,_,rfl,rfl,hB,_,rfl,_,_,_,rfl,rfl,hA,_,_,rfl,rfl,gs.b1.mulOk gr.b2 (by omega) (by omega),_,_,rfl,rfl,_,rfl,_,_,_,rfl,rfl,hA,_,rfl,_,_,_,rfl,rfl,hB,_,_,rfl,rfl,gr.b2.mulOk gs.b2 (by omega) (by omega),_,_,rfl,YY gr.pos gs.pos,Wy gr.b2 gs.b2 hn,k⟩
theorem Lb:FnScope ["_law_one","_law_other"] ["_law_one","_law_other"] (defScope lT):=fsc
theorem Z14 (D:Def K mg "_law_minus" lT ["_law_one","_law_other"])(eC:Z1 P w K mg base):Has P w K mg base 3 "_law_minus" ["_law_one","_law_other"] (eL K subR):=by
 refine D.has fun f fd F=>F.ok Lb (fun vs H Q E h=>?_) (fun cdv A outer s H vs Q E hr h=>?_)
 ·obtain⟨a,b,r,s,n,rfl,_⟩:=h
  rfl
 ·obtain⟨a,b,r,s,n,rfl,hA,hB,gr,gs,hn,k⟩:=h
  have sc:=Lb
  refine⟨_,(Zd (Zi (Zg eC hr (Z0 (Zn U8 (Zn Zw (Zj X6 (pv 0) Za (fun _ _=>rfl)) (Zj Yq (pv 1) Za (fun _ _=>rfl))) (Zn Zw (Zj X6 (pv 1) Za (fun _ _=>rfl)) (Zj Yq (pv 0) Za (fun _ _=>rfl)))) (Z0 (Zn Zw (Zj Yq (pv 0) Za (fun _ _=>rfl)) (Zj Yq (pv 1) Za (fun _ _=>rfl))) Z8))))),?_⟩
  exact⟨_,rfl,_,_,_,rfl,rfl,hA,_,rfl,_,_,_,rfl,rfl,hB,_,_,rfl,rfl,gr.b1.mulOk gs.b2 (by omega) (by omega),_,rfl,_,_,_,rfl,rfl,hB,_,rfl,_,_,_,rfl,rfl,hA,_,_,rfl,rfl,gs.b1.mulOk gr.b2 (by omega) (by omega),_,_,rfl,rfl,_,rfl,_,_,_,rfl,rfl,hA,_,rfl,_,_,_,rfl,rfl,hB,_,_,rfl,rfl,gr.b2.mulOk gs.b2 (by omega) (by omega),_,_,rfl,YY gr.pos gs.pos,Wy gr.b2 gs.b2 hn,k⟩
theorem La:FnScope ["_law_one","_law_other"] ["_law_one","_law_other"] (defScope lS):=fsc
theorem Z13 (D:Def K mg "_law_times" lS ["_law_one","_law_other"])(eC:Z1 P w K mg base):Has P w K mg base 3 "_law_times" ["_law_one","_law_other"] (eL K mulR'):=by
 refine D.has fun f fd F=>F.ok La (fun vs H Q E h=>?_) (fun cdv A outer s H vs Q E hr h=>?_)
 ·obtain⟨a,b,r,s,n,rfl,_⟩:=h
  rfl
 ·obtain⟨a,b,r,s,n,rfl,hA,hB,gr,gs,hn,k⟩:=h
  have sc:=La
  refine⟨_,(Zd (Zi (Zg eC hr (Z0 (Zn Zw (Zj X6 (pv 0) Za (fun _ _=>rfl)) (Zj X6 (pv 1) Za (fun _ _=>rfl))) (Z0 (Zn Zw (Zj Yq (pv 0) Za (fun _ _=>rfl)) (Zj Yq (pv 1) Za (fun _ _=>rfl))) Z8))))),?_⟩
  exact⟨_,rfl,_,_,_,rfl,rfl,hA,_,rfl,_,_,_,rfl,rfl,hB,_,_,rfl,rfl,gr.b1.mulOk gs.b1 (by omega) (by omega),_,rfl,_,_,_,rfl,rfl,hA,_,rfl,_,_,_,rfl,rfl,hB,_,_,rfl,rfl,gr.b2.mulOk gs.b2 (by omega) (by omega),_,_,rfl,YY gr.pos gs.pos,Wy gr.b2 gs.b2 hn,k⟩
end
theorem p6:(10:Int) ^ (6:Int).toNat=1000000:=by decide +kernel
theorem lg6:(2*(10:Int) ^ (6:Int).toNat+1).natAbs.log2<9000:=by decide +kernel
theorem Z6h {x:Int}(h1:-2000000<x)(h2:x<2000000):Bd 21 x:=by
 unfold Bd
 have e:(2:Nat) ^ 21=2097152:=by decide
 rw[e]
 omega
theorem Zv {n:Nat}(h:n<=1000):n<=sizeLine:=XQ h (by decide)
theorem Tk {r:Rat}(hp:0<r.2)(hc:Int.gcd r.1 r.2=1):nrm r.1 r.2=r:=by
 have e:=Xd r.1 r.2
 have hq:r.2≠0:=by omega
 refine Wj (M5 hq) hp (Z1i hq) hc ?_
 exact e
section
variable {P:Program}{w:World}{K:W.Frag}{mg:Str->Option Value}{base:Heap}
def fS:Sp:=fun vs H Q _=>∃ (i:Int),vs=[.int i]/\Q (.bl true) H
theorem G5:FnScope ["_law_found"] ["_law_found"] (defScope lZ):=fsc
theorem Z3c (D:Def K mg "_law_whole" lZ ["_law_found"])(T:Blt mg):Has P w K mg base 1 "_law_whole" ["_law_found"] fS:=by
 refine D.has fun f fd F=>F.ok G5 (fun vs H Q E h=>?_) (fun cdv A outer s H vs Q E hr h=>?_)
 ·obtain⟨i,rfl,_⟩:=h
  rfl
 ·obtain⟨i,rfl,q⟩:=h
  have sc:=G5
  refine⟨_,(Zd (Zi (Ux (Y1 V1 rfl T.isinstance XT (Z0 (pv 0) (Z0 (Ti T.int jg) Z8))) (Se (J7 (Y1 V1 rfl T.isinstance XT (Z0 (pv 0) (Z0 (Ti T.bool jd) Z8)))))))),?_⟩
  refine⟨_,rfl,_,_,_,_,rfl,TyOf.int i,Ud,_,rfl,Wt ?_⟩
  exact⟨_,rfl,_,_,_,_,rfl,TyOf.int i,Tr,_,rfl,q⟩
def i9 (K:W.Frag):Sp:=fun vs H Q _=>∃ (a:Addr) (r:Rat) (n:Nat),vs=[.ref a]/\SqT K H a [.int r.1,.int r.2]/\Good n r/\n<=8000/\∀ H',Same H H'->Q (.bl true) H'
theorem Bw:FnScope ["_law_found"] ["_law_found"] (defScope lG):=fsc
theorem Z5t (D:Def K mg "_law_is_ratio" lG ["_law_found"])(T:Blt mg)(gH:Has P w K mg base 1 "_law_whole" ["_law_found"] fS)(eC:Z1 P w K mg base):Has P w K mg base 3 "_law_is_ratio" ["_law_found"] (i9 K):=by
 refine D.has fun f fd F=>F.ok Bw (fun vs H Q E h=>?_) (fun cdv A outer s H vs Q E hr h=>?_)
 ·obtain⟨a,r,n,rfl,_⟩:=h
  rfl
 ·obtain⟨a,r,n,rfl,hA,g,hn,k⟩:=h
  have hU:=zy (Z1v hr)
  have sc:=Bw
  refine⟨_,(Z9 (Yc (PW.pt (Th (Vp (Xz (Y1 Xl rfl T.isinstance XT (Z0 (pv 0) (Z0 (Ti T.tuple YX) Z8))))) (U5 (Zo Lq (Y1 Yb rfl T.len zu (Z0 (pv 0) Z8)) Za (Zt _)))))
    (Zd (Zi Vz))
    Zu)
   (Z9 (Yc (PW.pt (Th (Vp (Xz (Zg gH hr (Z0 (Zj X6 (pv 0) Za (fun _ _=>rfl)) Z8)))) (Th (Vp (Xz (Zg gH hr (Z0 (Zj Yq (pv 0) Za (fun _ _=>rfl)) Z8)))) (U5 (Zo N6 (Zj Yq (pv 0) Za (fun _ _=>rfl)) Za (Zt _))))))
    (Zd (Zi Vz))
    Zu)
   (Zd (Zi (Xs (Z0q (K:=K) hU) (Zg eC hr (Z0 (Zj X6 (pv 0) Za (fun _ _=>rfl)) (Z0 (Zj Yq (pv 0) Za (fun _ _=>rfl)) Z8))) (pv 0) (Zt _)))))),?_⟩
  refine⟨_,rfl,_,_,_,_,rfl,hA,Ud,_,rfl,X9 ?_⟩
  refine⟨_,rfl,a,_,rfl,.inr hA,rfl,_,rfl,Fn rfl ?_⟩
  refine⟨_,rfl,_,_,_,rfl,rfl,hA,_,rfl,_,rfl,X9 ?_⟩
  refine⟨_,rfl,_,_,_,rfl,rfl,hA,_,rfl,_,rfl,X9 ?_⟩
  refine⟨_,rfl,_,_,_,rfl,rfl,hA,_,_,rfl,rfl,_,rfl,?_⟩
  have pos:=g.pos
  have e0:decide (r.2<1)=false:=JQ (by omega)
  rw[e0]
  refine X9 ?_
  refine⟨_,rfl,_,_,_,rfl,rfl,hA,_,rfl,_,_,_,rfl,rfl,hA,_,_,rfl,pos,g.b2.log (by omega),fun c H2 fc S2 e2=>?_⟩
  have en:=Tk pos g.cop
  have e2':H2 c=some (.tup ([r.1,r.2].map V.int)):=by
   rw[e2]
   show some (HO.tup [.int (nrm r.1 r.2).1,.int (nrm r.1 r.2).2])=_
   rw[en]
   rfl
  have hA2:SqT K H2 a ([r.1,r.2].map V.int):=Zl S2 hA
  refine⟨_,rfl,c,a,[r.1,r.2],[r.1,r.2],rfl,rfl,SqT.of e2',hA2,?_⟩
  rw[XX rfl]
  exact k _ S2
def fW (K:W.Frag):Sp:=fun vs H Q _=>∃ (a b:Addr) (r s:Rat) (n:Nat),vs=[.ref a,.ref b]/\SqT K H a [.int r.1,.int r.2]/\SqT K H b [.int s.1,.int s.2]/\Good n r/\Good n s/\0<s.1/\n<=4000/\∀ c H',H c=none->Same H H'->H' c=some (.tup [.int (nrm (r.1*s.2) (r.2*s.1)).1,.int (nrm (r.1*s.2) (r.2*s.1)).2])->Q (.ref c) H'
theorem L5:FnScope ["_law_one","_law_other","_law_top","_law_bottom"] ["_law_one","_law_other"] (defScope lO):=fsc
theorem Z0y (D:Def K mg "_law_parted" lO ["_law_one","_law_other"])(eC:Z1 P w K mg base):Has P w K mg base 3 "_law_parted" ["_law_one","_law_other"] (fW K):=by
 refine D.has fun f fd F=>F.ok L5 (fun vs H Q E h=>?_) (fun cdv A outer s H vs Q E hr h=>?_)
 ·obtain⟨a,b,r,s,n,rfl,_⟩:=h
  rfl
 ·obtain⟨a,b,r,s,n,rfl,hA,hB,gr,gs,hs,hn,k⟩:=h
  have sc:=L5
  refine⟨_,(Z9 (Zk (i:=2) sc.nd rfl (Or.inl rfl) (Zn Zw (Zj X6 (pv 0) Za (fun _ _=>rfl)) (Zj Yq (pv 1) Za (fun _ _=>rfl))))
   (Z9 (Zk (i:=3) sc.nd rfl (Or.inl rfl) (Zn Zw (Zj Yq (pv 0) Za (fun _ _=>rfl)) (Zj X6 (pv 1) Za (fun _ _=>rfl))))
   (Z9 (Yc (Zo N6 (pv 3) Za (Zt _))
    (Zd (Zi (Zg eC hr (Z0 (Vy Xx (pv 2)) (Z0 (Vy Xx (pv 3)) Z8)))))
    Zu)
   (Zd (Zi (Zg eC hr (Z0 (pv 2) (Z0 (pv 3) Z8)))))))),?_⟩
  have hp:=YY gr.pos hs
  refine⟨_,rfl,_,_,_,rfl,rfl,hA,_,rfl,_,_,_,rfl,rfl,hB,_,_,rfl,rfl,gr.b1.mulOk gs.b2 (by omega) (by omega),?_⟩
  refine⟨_,rfl,_,_,_,rfl,rfl,hA,_,rfl,_,_,_,rfl,rfl,hB,_,_,rfl,rfl,gr.b2.mulOk gs.b1 (by omega) (by omega),?_⟩
  refine⟨_,rfl,_,_,rfl,rfl,_,rfl,?_⟩
  refine Xe (fun h=>?_) (fun h=>?_)
  ·have:=XI h
   omega
  ·exact⟨_,rfl,_,rfl,_,_,rfl,hp,Wy gr.b2 gs.b1 hn,k⟩
end
section
variable {K:W.Frag}{H:Hp}{Q:VK}{a b:Addr}{rs ss:List Rat}
theorem RowAt.same {H':Hp}(h:RowAt K H a rs)(S:Same H H'):RowAt K H' a rs:=h.ext (Ext.same S)
end
theorem Z4v {z m:Int}(h0:0<=z)(h1:z<m):∃ i:Nat,z=(i:Int)/\(i:Int)<m:=⟨z.toNat,by omega,by omega⟩
theorem Fg {c:Nat}(h:c<=1000):(c:Int).natAbs.log2<9000:=by
 have e:(c:Int).natAbs=c:=by omega
 rw[e]
 rcases Y0e c with z | z
 ·subst z;decide
 ·exact JZ (Nat.log2_le_self c) (by omega)
theorem bdS {n:Nat}{x:Int}(h:x.natAbs<2 ^ n):Bd n x:=h
theorem Z60 {σ:L2.St}{H:Hp}{Q:Option Int->Hp->Prop}(h:Q none H):tNoPart σ H Q:=h
section
variable {P:Program}{w:World}{K:W.Frag}{mg:Str->Option Value}{base:Heap}
theorem N0:FnScope ["value"] ["value"] (defScope kO):=fsc
theorem C2 (D:Def K mg "is_whole" kO ["value"])(T:Blt mg):Has P w K mg base 1 "is_whole" ["value"] fS:=by
 refine D.has fun f fd F=>F.ok N0 (fun vs H Q E h=>?_) (fun cdv A outer s H vs Q E hr h=>?_)
 ·obtain⟨i,rfl,_⟩:=h
  rfl
 ·obtain⟨i,rfl,q⟩:=h
  have sc:=N0
  refine⟨_,(Zd (Zi (Ux (Y1 V1 rfl T.isinstance XT (Z0 (pv 0) (Z0 (Ti T.int jg) Z8))) (Se (J7 (Y1 V1 rfl T.isinstance XT (Z0 (pv 0) (Z0 (Ti T.bool jd) Z8)))))))),?_⟩
  refine⟨_,rfl,_,_,_,_,rfl,TyOf.int i,Ud,_,rfl,Wt ?_⟩
  exact⟨_,rfl,_,_,_,_,rfl,TyOf.int i,Tr,_,rfl,q⟩
theorem Mz:FnScope ["top","bottom"] ["top","bottom"] (defScope lM):=fsc
theorem Z0w (D:Def K mg "ratio" lM ["top","bottom"])(fK:Has P w K mg base 1 "is_whole" ["value"] fS)(eE:Z4 P w K mg base):Has P w K mg base 3 "ratio" ["top","bottom"] eQ:=by
 refine D.has fun f fd F=>F.ok Mz (fun vs H Q E h=>?_) (fun cdv A outer s H vs Q E hr h=>?_)
 ·obtain⟨p,q,rfl,_⟩:=h
  rfl
 ·obtain⟨p,q,rfl,hq,hlog,k⟩:=h
  have sc:=Mz
  refine⟨_,(Z9 (Yc (PW.pt (Th (Vp (Xz (Zg fK hr (Z0 (pv 0) Z8)))) (U5 (Vp (Xz (Zg fK hr (Z0 (pv 1) Z8)))))))
    (Zd Vb)
    Zu)
   (Z9 (Yc (Zo Xk (pv 1) Za (Zt _))
    (Zd Vb)
    Zu)
   (Zd (Zi (Zg eE hr (Z0 (pv 0) (Z0 (pv 1) Z8))))))),?_⟩
  refine⟨_,rfl,p,rfl,_,rfl,X9 ⟨_,rfl,q,rfl,_,rfl,X9 ?_⟩⟩
  refine⟨_,rfl,rfl,_,rfl,P0 (fun z=>hq (V.int.inj z)) ?_⟩
  exact⟨_,rfl,_,rfl,p,q,rfl,hq,hlog,k⟩
end
def fldsT (a b c d e:V):List (Str × V):=putF "lack" e (putF "bottom" d (putF "heads" c (putF "owners" b (putF "lines" a []))))
section
variable {a b c d e:V}
theorem Xv:(fldsT a b c d e).lookup ("lines":Str)=some a:=by
 unfold fldsT
 rw[Y7,YF (by decide +kernel),Y7,YF (by decide +kernel),Y7,YF (by decide +kernel),Y7,YF (by decide +kernel),Y7,YM rfl]
theorem X4:(fldsT a b c d e).lookup ("owners":Str)=some b:=by
 unfold fldsT
 rw[Y7,YF (by decide +kernel),Y7,YF (by decide +kernel),Y7,YF (by decide +kernel),Y7,YM rfl]
theorem Vh:(fldsT a b c d e).lookup ("heads":Str)=some c:=by
 unfold fldsT
 rw[Y7,YF (by decide +kernel),Y7,YF (by decide +kernel),Y7,YM rfl]
theorem Vi:(fldsT a b c d e).lookup ("bottom":Str)=some d:=by
 unfold fldsT
 rw[Y7,YF (by decide +kernel),Y7,YM rfl]
theorem Mg:(fldsT a b c d e).lookup ("lack":Str)=some e:=by
 unfold fldsT
 rw[Y7,YM rfl]
end
def ownI (m:Nat)(T:Sv.Tab):List Int:=(List.range m).map fun i=>(T.own i:Int)
def hdI (n:Nat)(T:Sv.Tab):List Int:=(List.range n).map fun j=>(T.hd j:Int)
def lineI (n:Nat)(T:Sv.Tab)(i:Nat):List Int:=(List.range (n+1)).map fun j=>T.L i j
theorem Vs {m:Nat}{T:Sv.Tab}{i:Nat}(h:i<m):(ownI m T)[i]?=some (T.own i:Int):=by unfold ownI;simp[h]
theorem Uz {n:Nat}{T:Sv.Tab}{j:Nat}(h:j<n):(hdI n T)[j]?=some (T.hd j:Int):=by unfold hdI;simp[h]
theorem Xu {n:Nat}{T:Sv.Tab}{i j:Nat}(h:j<=n):(lineI n T i)[j]?=some (T.L i j):=by unfold lineI;simp[show j<n+1 by omega]
theorem U7 (m:Nat)(T:Sv.Tab):(ownI m T).length=m:=by unfold ownI;simp
theorem Vw (n:Nat)(T:Sv.Tab):(hdI n T).length=n:=by unfold hdI;simp
theorem Yr (n:Nat)(T:Sv.Tab)(i:Nat):(lineI n T i).length=n+1:=by unfold lineI;simp
theorem X8 {xs:List Int}{i:Nat}{z:Int}(h:xs[i]?=some z):(xs.map V.int)[i]?=some (V.int z):=by rw[YD,h];rfl
def TabAt (C:Addr)(H:Hp)(p:Addr)(m n lk:Nat)(T:Sv.Tab):Prop:=∃ (dx la oa ha:Addr) (las:List Addr),H p=some (.ins C dx (fldsT (.ref la) (.ref oa) (.ref ha) (.int T.b) (.int (lk:Int))))/\H la=some (.lst (las.map V.ref))/\las.length=m ∧
 (∀ (i:Nat) (a:Addr),las[i]?=some a->H a=some (.lst ((lineI n T i).map V.int)))/\H oa=some (.lst ((ownI m T).map V.int))/\H ha=some (.lst ((hdI n T).map V.int))
theorem TabAt.same {C:Addr}{H H':Hp}{p:Addr}{m n lk:Nat}{T:Sv.Tab}(h:TabAt C H p m n lk T)(S:Same H H'):TabAt C H' p m n lk T:=by
 obtain⟨dx,la,oa,ha,las,h1,h2,h3,h4,h5,h6⟩:=h
 exact⟨dx,la,oa,ha,las,S _ _ h1,S _ _ h2,h3,fun i a e=>S _ _ (h4 i a e),S _ _ h5,S _ _ h6⟩
structure TabOk (m n:Nat)(T:Sv.Tab):Prop where
 oi:∀ i k,i<m->k<m->T.own i=T.own k->i=k
 hi:∀ i k,i<n->k<n->T.hd i=T.hd k->i=k
 ne:∀ i j,i<m->j<n->T.own i≠T.hd j
theorem TabOk.of {m n:Nat}{col:Nat->Sv.Vec}{rhs:Sv.Vec}{T:Sv.Tab}(I:Sv.Inv m n col rhs T):TabOk m n T:=⟨fun _ _ h1 h2 e=>I.ownInj h1 h2 e,fun _ _ h1 h2 e=>I.hdInj h1 h2 e,fun _ _ h1 h2=>I.ne h1 h2⟩
structure TabC (K:W.Frag)(mg:Str->Option Value)(C:Addr):Prop where
 cl:Cls K C
 nL:NoAttr K C "lines"
 nO:NoAttr K C "owners"
 nH:NoAttr K C "heads"
 nB:NoAttr K C "bottom"
 nK:NoAttr K C "lack"
 mgC:mg "Table"=some (.ref C)
theorem M9 {K:W.Frag}{H:Hp}{a:Addr}{ns:List Int}{z:Int}{Q:VK}(h:H a=some (.lst (ns.map V.int)))(q:Q (.bl (decide (z∈ns))) H):rIn K false (.int z) (.ref a) H Q:=by
 refine⟨a,_,rfl,.inl (SqL.of h),rfl,Ul _,?_⟩
 show Q (.bl (inV (.int z) (ns.map V.int))) H
 rw[Ts]
 exact q
theorem mem_ownI {m v:Nat}{T:Sv.Tab}:((v:Int)∈ownI m T) ↔ ∃ i,i<m/\T.own i=v:=by
 unfold ownI
 simp only [XE,GK]
 constructor
 ·rintro ⟨i,hi,e⟩
  exact⟨i,hi,by omega⟩
 ·rintro ⟨i,hi,e⟩
  exact⟨i,hi,by omega⟩
theorem mem_hdI {n v:Nat}{T:Sv.Tab}:((v:Int)∈hdI n T) ↔ ∃ i,i<n/\T.hd i=v:=by
 unfold hdI
 simp only [XE,GK]
 constructor
 ·rintro ⟨i,hi,e⟩
  exact⟨i,hi,by omega⟩
 ·rintro ⟨i,hi,e⟩
  exact⟨i,hi,by omega⟩
section
variable {P:Program}{w:World}{K:W.Frag}{mg:Str->Option Value}{base:Heap}{C:Addr}
def fF (C:Addr):Sp:=fun vs H Q _=>∃ (p:Addr) (m n lk i:Nat) (T:Sv.Tab),vs=[.ref p,.int (T.own i:Int)]/\TabAt C H p m n lk T/\TabOk m n T/\i<m/\m<=1000/\∀ a,H a=some (.lst ((lineI n T i).map V.int))->Q (.ref a) H
theorem L9:FnScope ["table","owner"] ["table","owner"] (defScope lQ):=fsc
theorem Z12 (D:Def K mg "line_of" lQ ["table","owner"])(tc:TabC K mg C):Has P w K mg base 1 "line_of" ["table","owner"] (fF C):=by
 refine D.has fun f fd F=>F.ok L9 (fun vs H Q E h=>?_) (fun cdv A outer s H vs Q E hr h=>?_)
 ·obtain⟨p,m,n,lk,i,T,rfl,_⟩:=h
  rfl
 ·obtain⟨p,m,n,lk,i,T,rfl,⟨dx,la,oa,ha,las,h1,h2,h3,h4,h5,h6⟩,ok,hi,hm,k⟩:=h
  have sc:=L9
  refine⟨_,(Zd (Zi (Zj Y6 (Yj (pv 0) rfl) (Uq JA zV zW (Qs (K:=K)) (Yj (pv 0) rfl) (Z0 (pv 1) Z8)) (fun _ _=>rfl)))),?_⟩
  have ea:las[i]?=some (las[i]'(by omega)):=by simp
  refine⟨_,rfl,p,C,dx,_,_,rfl,h1,tc.cl,tc.nL,Xv,_,rfl,p,C,dx,_,_,rfl,h1,tc.cl,tc.nO,X4,.inl ⟨rfl,_,SqL.of h5⟩,_,rfl,?_⟩
  refine⟨oa,ownI m T,_,i,rfl,rfl,SqL.of h5,Vs hi,fun k hk e=>?_,by rw[U7];exact hm,?_⟩
  ·rw[Vs (by omega)] at e
   have:=ok.oi k i (by omega) hi (by have:=YK e;omega)
   omega
  ·exact⟨la,_,_,_,rfl,rfl,SqL.of h2,Zh (by rw[YD,ea];rfl),k _ (h4 i _ ea)⟩
def iT (C:Addr):Sp:=fun vs H Q _=>∃ (p:Addr) (m n lk v:Nat) (T:Sv.Tab),vs=[.ref p,.int (v:Int)]/\TabAt C H p m n lk T/\TabOk m n T/\m<=1000/\n<=1000/\Q (.int (Sv.endOf m n T v)) H
theorem TabOk.endO {m n:Nat}{T:Sv.Tab}(h:TabOk m n T){i:Nat}(hi:i<m):Sv.endOf m n T (T.own i)=T.L i n:=by
 unfold Sv.endOf
 rw[Sv.sm_one (k:=i) hi fun k hk hne=>YF fun z=>hne (h.oi k i hk hi z),YM rfl]
theorem TabOk.numH {m n:Nat}{T:Sv.Tab}(h:TabOk m n T){i j:Nat}(hj:j<n):Sv.numAt n T i (T.hd j)=T.L i j:=by
 unfold Sv.numAt
 rw[Sv.sm_one (k:=j) hj fun k hk hne=>YF fun z=>hne (h.hi k j hk hj z),YM rfl]
theorem Mq {n:Nat}{T:Sv.Tab}{i:Nat}:atI ((lineI n T i).map V.int) (-1)=some (V.int (T.L i n)):=by
 unfold atI ixN
 rw[YC,Yr,YF (by decide),YM (by omega)]
 show ((lineI n T i).map V.int)[(-1+((n+1:Nat):Int)).toNat]?=_
 have:(-1+((n+1:Nat):Int)).toNat=n:=by omega
 rw[this]
 exact X8 (Xu (YE n))
theorem Gq:FnScope ["table","thing"] ["table","thing"] (defScope mO):=fsc
theorem Z3x (D:Def K mg "end_of" mO ["table","thing"])(tc:TabC K mg C)(fH:Has P w K mg base 1 "line_of" ["table","owner"] (fF C)):Has P w K mg base 2 "end_of" ["table","thing"] (iT C):=by
 refine D.has fun f fd F=>F.ok Gq (fun vs H Q E h=>?_) (fun cdv A outer s H vs Q E hr h=>?_)
 ·obtain⟨p,m,n,lk,v,T,rfl,_⟩:=h
  rfl
 ·obtain⟨p,m,n,lk,v,T,rfl,tab,ok,hm,hn,q⟩:=h
  obtain⟨dx,la,oa,ha,las,h1,h2,h3,h4,h5,h6⟩:=id tab
  have sc:=Gq
  refine⟨_,(Zd (Zi (Vc (Zo Wh (pv 1) (Yj (pv 0) rfl) rfl) (Zj Y6 (Zg fH hr (Z0 (pv 0) (Z0 (pv 1) Z8))) (Vy Xx Za) (fun _ _=>rfl)) Za))),?_⟩
  refine⟨_,rfl,_,rfl,p,C,dx,_,_,rfl,h1,tc.cl,tc.nO,X4,M9 h5 ⟨_,rfl,?_⟩⟩
  refine Xe (fun h=>?_) (fun h=>?_)
  ·obtain⟨i,hi,e⟩:=mem_ownI.mp (XI h)
   subst e
   refine⟨_,rfl,_,rfl,p,m,n,lk,i,T,rfl,tab,ok,hi,hm,fun a ea=>⟨_,rfl,?_⟩⟩
   refine⟨a,_,_,_,rfl,rfl,SqL.of ea,Mq,?_⟩
   rw[ok.endO hi] at q
   exact q
  ·have:Sv.endOf m n T v=0:=Sv.sm_zero fun i hi=>YF fun z=>h (XX (mem_ownI.mpr ⟨i,hi,z⟩))
   rw[this] at q
   exact q
def iM (C:Addr):Sp:=fun vs H Q _=>∃ (p:Addr) (m n lk i v:Nat) (T:Sv.Tab),vs=[.ref p,.int (T.own i:Int),.int (v:Int)]/\TabAt C H p m n lk T/\TabOk m n T/\i<m/\m<=1000/\n<=1000/\Q (.int (Sv.numAt n T i v)) H
theorem Gf:FnScope ["table","owner","thing"] ["table","owner","thing"] (defScope k4):=fsc
theorem Z3n (D:Def K mg "number_at" k4 ["table","owner","thing"])(tc:TabC K mg C)(fH:Has P w K mg base 1 "line_of" ["table","owner"] (fF C)):Has P w K mg base 2 "number_at" ["table","owner","thing"] (iM C):=by
 refine D.has fun f fd F=>F.ok Gf (fun vs H Q E h=>?_) (fun cdv A outer s H vs Q E hr h=>?_)
 ·obtain⟨p,m,n,lk,i,v,T,rfl,_⟩:=h
  rfl
 ·obtain⟨p,m,n,lk,i,v,T,rfl,tab,ok,hi,hm,hn,q⟩:=h
  obtain⟨dx,la,oa,ha,las,h1,h2,h3,h4,h5,h6⟩:=id tab
  have sc:=Gf
  refine⟨_,(Zd (Zi (Vc (Zo Wh (pv 2) (Yj (pv 0) rfl) rfl) (Zj Y6 (Zg fH hr (Z0 (pv 0) (Z0 (pv 1) Z8))) (Uq JA zV zW (Qs (K:=K)) (Yj (pv 0) rfl) (Z0 (pv 2) Z8)) (fun _ _=>rfl)) Za))),?_⟩
  refine⟨_,rfl,_,rfl,p,C,dx,_,_,rfl,h1,tc.cl,tc.nH,Vh,M9 h6 ⟨_,rfl,?_⟩⟩
  refine Xe (fun h=>?_) (fun h=>?_)
  ·obtain⟨j,hj,e⟩:=mem_hdI.mp (XI h)
   subst e
   refine⟨_,rfl,_,rfl,p,m,n,lk,i,T,rfl,tab,ok,hi,hm,fun a ea=>?_⟩
   refine⟨_,rfl,p,C,dx,_,_,rfl,h1,tc.cl,tc.nH,Vh,.inl ⟨rfl,_,SqL.of h6⟩,_,rfl,ha,hdI n T,_,j,rfl,rfl,SqL.of h6,Uz hj,fun k hk e=>?_,by rw[Vw];exact hn,?_⟩
   ·rw[Uz (by omega)] at e
    have:=ok.hi k j (by omega) hj (by have:=YK e;omega)
    omega
   ·refine⟨a,_,_,_,rfl,rfl,SqL.of ea,Zh (X8 (Xu (JI hj))),?_⟩
    rw[ok.numH hj] at q
    exact q
  ·have:Sv.numAt n T i v=0:=Sv.sm_zero fun j hj=>YF fun z=>h (XX (mem_hdI.mpr ⟨j,hj,z⟩))
   rw[this] at q
   exact q
def helps (lk:Nat)(T:Sv.Tab)(i j:Nat):Bool:=decide (0<T.L i j) && !decide (T.hd j=lk)
def foundI (n lk:Nat)(T:Sv.Tab)(i:Nat):List Int:=((List.range n).filter fun j=>helps lk T i j).map fun j=>(T.hd j:Int)
theorem Rf (n lk:Nat)(T:Sv.Tab)(i:Nat):foundI (n+1) lk T i=foundI n lk T i++if helps lk T i n then [(T.hd n:Int)] else []:=by
 unfold foundI
 rw[zt,qq,JG]
 congr 1
 cases h:helps lk T i n <;> simp[h]
def gG (C:Addr):Sp:=fun vs H Q _=>∃ (p:Addr) (m n lk i:Nat) (T:Sv.Tab),vs=[.ref p,.int (T.own i:Int)]/\TabAt C H p m n lk T/\TabOk m n T/\i<m/\m<=1000/\n<=1000 ∧
 ∀ H',Same H H'->(∀ c,c<n->helps lk T i c=true->(∀ j,j<n->helps lk T i j=true->T.hd c<=T.hd j)->Q (.int (c:Int)) H')/\((∀ j,j<n->helps lk T i j=false)->Q .non H')
theorem N1:FnScope ["table","owner","found"] ["table","owner"] (defScope lH):=fsc
theorem C3 (D:Def K mg "helping" lH ["table","owner"])(T0:Blt mg)(tc:TabC K mg C)(fH:Has P w K mg base 1 "line_of" ["table","owner"] (fF C)):Has P w K mg base 2 "helping" ["table","owner"] (gG C):=by
 refine D.has fun f fd F=>F.ok N1 (fun vs H Q E h=>?_) (fun cdv A outer s H vs Q E hr h=>?_)
 ·obtain⟨p,m,n,lk,i,T,rfl,_⟩:=h
  rfl
 ·obtain⟨p,m,n,lk,i,Tb,rfl,tab,ok,hi,hm,hn,k⟩:=h
  obtain⟨dx,la,oa,ha,las,h1,h2,h3,h4,h5,h6⟩:=id tab
  have sc:=N1
  have T:=T0
  have nd1:(["head","number","table"]:List Str).Nodup:=by decide +kernel
  refine⟨_,(Z9 (Wv (i:=2) (N:=["head","number","table"]) (k:=2) (fv:=[0]) sc.nd rfl (Or.inl rfl) rfl (Nx rfl T.zip (Z0 (Yj (pv 0) rfl) (Z0 (Zg fH hr (Z0 (pv 0) (Z0 (pv 1) Z8))) Z8)))
   (fun _ _ _ _ _=>V4 (n:=2) rfl (Yh (Zq (i:=0) nd1 rfl (Or.inl rfl)) (Yh (Zq (i:=1) nd1 rfl (Or.inl rfl)) Xr))) (fun _ _ _ _ _=>Rl (PW.pt (Z0b (Zo Fe (pv 1) Za (Zt _)) (F4 (Zo Lq (pv 0) (Nz (K:=K) (pv 2) rfl) (Zt _)))))) (fun _ _ _ _ _=>(pv 0)) V7)
   (Zd (Zi (Vc (Z0c (pv 2) (fun _=>rfl)) (Uq JA zV zW (Qs (K:=K)) (Yj (pv 0) rfl) (Z0 (Y1 (Cz (K:=K) rfl) rfl T.min PyProof.Rows.boot_min (Z0 (pv 2) Z8)) Z8)) Yn)))),?_⟩
  refine⟨_,rfl,p,C,dx,_,_,rfl,h1,tc.cl,tc.nH,Vh,_,rfl,_,rfl,p,m,n,lk,i,Tb,rfl,tab,ok,hi,hm,fun a ea=>?_⟩
  refine⟨ha,a,rfl,⟨_,SqL.of h6⟩,⟨_,SqL.of ea⟩,fun d hd=>?_⟩
  refine⟨n,fun j ys H2=>Same H H2/\ys=(foundI j lk Tb i).map V.int,Zv hn,⟨Same.new hd,rfl⟩,?_,?_⟩
  ·rintro j ys H2 hj ⟨S2,rfl⟩ hd2
   refine⟨⟨_,_,SqL.of (S2 _ _ h6),SqL.of (S2 _ _ ea),by rw[YC,Vw];exact hj,by rw[YC,Yr];omega⟩,?_⟩
   rintro x H3 ⟨pp,x0,y0,rfl,hp,rfl,fx,fy⟩
   have ex:x0=V.int (Tb.hd j:Int):=by
    have:=fx _ (SqL.of (S2 _ _ h6))
    rw[X8 (Uz hj)] at this
    exact (YK this).symm
   have ey:y0=V.int (Tb.L i j):=by
    have:=fy _ (SqL.of (S2 _ _ ea))
    rw[X8 (Xu (JI hj))] at this
    exact (YK this).symm
   subst ex ey
   have S3:Same H2 (upd H2 pp (.tup [.int (Tb.hd j:Int),.int (Tb.L i j)])):=Same.new hp
   have hd3:=S3 _ _ hd2
   have up:∀ zs,Same H (upd (upd H2 pp (.tup [.int (Tb.hd j:Int),.int (Tb.L i j)])) d (.lst zs)):=fun zs q o e=>by
    rw[Zf (Ze e hd)]
    exact S3 _ _ (S2 _ _ e)
   refine Z0n (SqT.of Zc) ?_
   have no:helps lk Tb i j=false->upd H2 pp (.tup [.int (Tb.hd j:Int),.int (Tb.L i j)]) d=some (.lst ((foundI j lk Tb i).map V.int))/\Same H (upd H2 pp (.tup [.int (Tb.hd j:Int),.int (Tb.L i j)]))/\(foundI j lk Tb i).map V.int=(foundI (j+1) lk Tb i).map V.int:=fun e=>by
    refine⟨hd3,S2.trans S3,?_⟩
    rw[Rf,e]
    simp
   refine⟨_,rfl,_,_,rfl,rfl,_,rfl,?_⟩
   refine Xe (fun h=>?_) (fun h=>?_)
   ·have hp1:0<Tb.L i j:=XI h
    refine⟨_,rfl,_,rfl,p,C,dx,_,_,rfl,S3 _ _ (S2 _ _ h1),tc.cl,tc.nK,Mg,rfl,_,rfl,?_⟩
    by_cases hl:Tb.hd j=lk
    ·refine Fn (by rw[hl]) ?_
     exact no (by unfold helps;simp[hl])
    ·refine Z1t (fun z=>hl (by have:=V.int.inj z;omega)) ?_
     have e:helps lk Tb i j=true:=by unfold helps;simp[hl,hp1]
     refine⟨_,rfl,hd3,up _,?_⟩
     rw[Rf,e,JG]
     rfl
   ·have hp1:¬ 0<Tb.L i j:=fun z=>h (XX z)
    exact no (by unfold helps;simp[hp1])
  ·rintro ys H2 ⟨S2,rfl⟩ hd2
   refine⟨⟨_,_,SqL.of (S2 _ _ h6),SqL.of (S2 _ _ ea),by rw[YC,Vw]⟩,?_⟩
   obtain⟨k1,k0⟩:=k H2 S2
   have memf:∀ z,z∈foundI n lk Tb i ↔ ∃ j,j<n/\helps lk Tb i j=true/\(Tb.hd j:Int)=z:=fun z=>by
    unfold foundI
    simp only [XE,zI,GK]
    constructor
    ·rintro ⟨j,⟨hj,hh⟩,e⟩
     exact⟨j,hj,hh,e⟩
    ·rintro ⟨j,hj,hh,e⟩
     exact⟨j,⟨hj,hh⟩,e⟩
   refine⟨_,rfl,!((foundI n lk Tb i).map V.int).isEmpty,?_,?_⟩
   ·exact .inl ⟨_,SqL.of hd2,rfl⟩
   ·refine Xe (fun h=>?_) (fun h=>?_)
    ·have hne:foundI n lk Tb i≠[]:=fun z=>by rw[z] at h;simp at h
     refine⟨_,rfl,p,C,dx,_,_,rfl,S2 _ _ h1,tc.cl,tc.nH,Vh,.inl ⟨rfl,_,SqL.of (S2 _ _ h6)⟩,_,rfl,d,_,rfl,SqL.of hd2,hne,fun M hM hle=>?_⟩
     obtain⟨c,hc,hh,rfl⟩:=(memf M).mp hM
     refine⟨ha,hdI n Tb,_,c,rfl,rfl,SqL.of (S2 _ _ h6),Uz hc,fun k hk e=>?_,by rw[Vw];exact hn,?_⟩
     ·rw[Uz (by omega)] at e
      have:=ok.hi k c (by omega) hc (by have:=YK e;omega)
      omega
     ·exact k1 c hc hh fun j hj hj2=>by
       have:=hle _ ((memf _).mpr ⟨j,hj,hj2,rfl⟩)
       omega
    ·refine k0 fun j hj=>?_
     cases e:helps lk Tb i j with
     | false=>rfl
     | true =>
      exfalso
      have:=(memf _).mpr ⟨j,hj,e,rfl⟩
      apply h
      cases q:foundI n lk Tb i with
      | nil=>rw[q] at this;cases this
      | cons=>rfl
end
structure Six (r:Rat):Prop where
 g:Good 21 r
 d:r.2 ∣ 6
theorem Z61 (p q:Int):nB p q ∣ q:=⟨sg p q,(Sg p q).symm⟩
theorem Ri {p q:Int}(h1:-2000000<p)(h2:p<2000000)(hq:q=1 \/ q=2 \/ q=3):Six (nrm p q):=by
 refine⟨Tl (Z6h h1 h2) (Z6h (by omega) (by omega)) (by omega),Y0Z (Z61 p q) ?_⟩
 rcases hq with rfl | rfl | rfl
 ·exact⟨6,rfl⟩
 ·exact⟨3,rfl⟩
 ·exact⟨2,rfl⟩
theorem Six.rep {r:Rat}(h:Six r):r.1*6=(r.1*(6:Int).fdiv r.2)*r.2/\Bd 24 (r.1*(6:Int).fdiv r.2):=by
 refine⟨Vm h.d,?_⟩
 have:Bd 3 ((6:Int).fdiv r.2):=by
  refine Bd.of_le (Mf (by decide) h.g.pos) ?_
  show (6:Int).natAbs<2 ^ 3
  decide
 exact h.g.b1.mul this
theorem Xf {n:Nat}{x:Int}(m:Nat)(h:x.natAbs<2 ^ m)(k:m<=n):Bd n x:=Bd.mono (m:=m) h k
theorem RepL.six {rs:List Rat}(h:∀ r∈rs,Six r):RepL 24 6 (wholeB rs 6) rs:=by
 refine⟨by decide,Xf 3 (by decide) (by decide),by unfold wholeB;rw[YC],fun i W r hW hr=>?_⟩
 unfold wholeB at hW
 rw[YD,hr] at hW
 cases hW
 have:=h r (YL hr)
 exact⟨this.rep.1,this.rep.2,this.g.low⟩
section
variable {P:Program}{w:World}{K:W.Frag}{mg:Str->Option Value}{base:Heap}
def fV (K:W.Frag):Sp:=fun vs H Q _=>∃ (b:Addr) (n:Nat),vs=[.ref b]/\BagAt H b n/\n<=1000000 ∧
 ∀ (a:Addr) (H':Hp) (r:Rat),BagAt H' b (n+3)->SameX b H H'->H' a=some (.tup [.int r.1,.int r.2])->Six r->Q (.ref a) H'
theorem My:FnScope ["_law_bag_here","_law_bottom"] ["_law_bag_here"] (defScope mC):=fsc
theorem Z0v (D:Def K mg "_law_small" mC ["_law_bag_here"])(eA:Z2 P w K mg base)(eC:Z1 P w K mg base) :
  Has P w K mg base 3 "_law_small" ["_law_bag_here"] (fV K):=by
 refine D.has fun f fd F=>F.ok My (fun vs H Q E h=>?_) (fun cdv A outer s H vs Q E hr h=>?_)
 ·obtain⟨b,n,rfl,_⟩:=h
  rfl
 ·obtain⟨b,n,rfl,hB,hn,k⟩:=h
  have sc:=My
  refine⟨_,(Z9 (Zk (i:=1) sc.nd rfl (Or.inl rfl) (Zj Y6 (Wl (Z0 Za (Z0 Za (Z0 Za (Z0 Za Z8))))) (Zg eA hr (Z0 (pv 0) (Z0 Za Z8))) (fun _ _=>rfl)))
   (Z9 (Yc (Zo Xk (Zg eA hr (Z0 (pv 0) (Z0 Za Z8))) Za (Zt _))
    (Zd (Zi (Zg eC hr (Z0 (Zn U8 (Zg eA hr (Z0 (pv 0) (Z0 (Zn X1 (Zn Zw Za (Zn M0 Za Za)) Za) Z8))) (Zn M0 Za Za)) (Z0 (pv 1) Z8)))))
    Zu)
   (Zd (Zi (Zg eC hr (Z0 (Zn U8 (Zg eA hr (Z0 (pv 0) (Z0 Za Z8))) Za) (Z0 (pv 1) Z8))))))),?_⟩
  refine⟨sz4,fun l hl=>?_⟩
  have S0:Same H (upd H l (.lst [.int 1,.int 1,.int 2,.int 3])):=Same.new hl
  have e0:upd H l (.lst [.int 1,.int 1,.int 2,.int 3]) l=some (.lst [.int 1,.int 1,.int 2,.int 3]):=Zc
  generalize upd H l (.lst [.int 1,.int 1,.int 2,.int 3])=H0 at *
  have hbl:l≠b:=by
   obtain⟨ys,e⟩:=hB.lst
   exact (Ze e hl).symm
  refine⟨_,rfl,b,_,n,rfl,hB.same S0,by omega,by decide,by decide +kernel,fun r1 H1 r10 r11 B1 S1=>?_⟩
  obtain⟨q,eq,hq⟩:∃ q:Int,atI [V.int 1,.int 1,.int 2,.int 3] r1=some (.int q)/\(q=1 \/ q=2 \/ q=3):=by
   have h:r1=0 \/ r1=1 \/ r1=2 \/ r1=3:=by omega
   rcases h with rfl | rfl | rfl | rfl
   ·exact⟨1,Zh (j:=0) rfl,.inl rfl⟩
   ·exact⟨1,Zh (j:=1) rfl,.inl rfl⟩
   ·exact⟨2,Zh (j:=2) rfl,.inr (.inl rfl)⟩
   ·exact⟨3,Zh (j:=3) rfl,.inr (.inr rfl)⟩
  refine⟨l,_,_,_,rfl,rfl,SqL.of (S1 _ _ e0 hbl),eq,?_⟩
  have bq:Bd 21 q:=Z6h (by omega) (by omega)
  refine⟨_,rfl,b,_,n+1,rfl,B1,by omega,by decide,by decide +kernel,fun r2 H2 r20 r21 B2 S2=>⟨rfl,_,rfl,?_⟩⟩
  refine Xe (fun h=>?_) (fun h=>?_)
  ·refine⟨_,rfl,_,_,rfl,rfl,Z4c (by decide) (by decide),_,_,rfl,rfl,Ca (by decide) (by decide),_,_,rfl,rfl,b,_,n+1+1,rfl,B2,by omega,by rw[p6];decide,lg6,fun r3 H3 r30 r31 B3 S3=>?_⟩
   rw[p6] at r31
   refine⟨_,_,rfl,rfl,Z4c (by decide) (by decide),_,_,rfl,rfl,_,rfl,_,_,rfl,by omega,bq.log (by decide),fun a H4 fa S4 e=>?_⟩
   rw[p6] at e
   exact k a H4 (nrm (r3 - 1000000) q) (B3.same S4) (((((SameX.of S0).trans S1).trans S2).trans S3).trans (SameX.of S4)) e (Ri (by omega) (by omega) hq)
  ·refine⟨_,rfl,b,_,n+1+1,rfl,B2,by omega,by decide,by decide +kernel,fun r3 H3 r30 r31 B3 S3=>⟨_,_,rfl,rfl,_,rfl,?_⟩⟩
   refine⟨_,_,rfl,by omega,bq.log (by decide),fun a H4 fa S4 e=>?_⟩
   exact k a H4 (nrm (r3 - 8) q) (B3.same S4) (((((SameX.of S0).trans S1).trans S2).trans S3).trans (SameX.of S4)) e (Ri (by omega) (by omega) hq)
def hG (K:W.Frag):Sp:=fun vs H Q _=>∃ (b:Addr) (c n:Nat),vs=[.ref b,.int c]/\BagAt H b n/\n<=100000/\c<=1000 ∧
 ∀ (a:Addr) (H':Hp) (rs:List Rat),BagAt H' b (n+3*c)->SameX b H H'->RowAt K H' a rs->rs.length=c->(∀ r∈rs,Six r)->Q (.ref a) H'
theorem Bp:FnScope ["_law_bag_here","_law_count"] ["_law_bag_here","_law_count"] (defScope mY):=fsc
theorem Z5n (D:Def K mg "_law_row" mY ["_law_bag_here","_law_count"])(T:Blt mg)(fP:Has P w K mg base 3 "_law_small" ["_law_bag_here"] (fV K)):Has P w K mg base 4 "_law_row" ["_law_bag_here","_law_count"] (hG K):=by
 refine D.has fun f fd F=>F.ok Bp (fun vs H Q E h=>?_) (fun cdv A outer s H vs Q E hr h=>?_)
 ·obtain⟨b,c,n,rfl,_⟩:=h
  rfl
 ·obtain⟨b,c,n,rfl,hB,hn,hc,k⟩:=h
  have sc:=Bp
  have nd1:(["_law_k","_law_bag_here"]:List Str).Nodup:=by decide +kernel
  refine⟨_,(Zd (Zi (Y0 Zz rfl T.tuple YX (Z0 (Yl (N:=["_law_k","_law_bag_here"]) (k:=1) (fv:=[0]) rfl (Yz rfl T.range (Z0 (pv 1) Z8))
   (fun _ _ _ _ _=>Zq (i:=0) nd1 rfl (Or.inl rfl)) (fun _ _ _ _ _=>Ye) (fun _ _ _ _ _=>(Zg fP hr (Z0 (pv 1) Z8))) Zx) Z8)))),?_⟩
  have hBl:=hB.lst
  refine⟨_,rfl,(c:Int),rfl,(by omega),(by omega),fun d hd=>?_⟩
  have hdb:d≠b:=by
   obtain⟨ys,e⟩:=hBl
   exact (Ze e hd).symm
  have et:(c:Int).toNat=c:=by omega
  rw[et]
  refine⟨c,fun i ys H2=>∃ rs,Rs K H2 rs ys/\rs.length=i/\(∀ r∈rs,Six r)/\BagAt H2 b (n+3*i)/\SameX b H H2,Zv hc,?_,?_,?_⟩
  ·exact⟨[],.nil,rfl,(fun _ h=>nomatch h),hB.upd (XN hdb),SameX.of (Same.new hd)⟩
  ·rintro i ys H2 hi ⟨rs,h1,h2,h3,h4,h5⟩ hd2
   refine⟨hi,?_⟩
   rintro x H3 ⟨rfl,rfl⟩
   refine Yk ?_
   refine⟨_,rfl,b,n+3*i,rfl,h4,by omega,fun a H4 r B4 S4 e4 g4=>?_⟩
   have E4:=Ext.bag S4 h4
   have hd4:H4 d=some (.lst ys):=S4 _ _ hd2 hdb
   have E5:Ext H4 (upd H4 d (.lst (ys++[.ref a]))):=Ext.upd hd4
   refine⟨hd4,rs++[r],(h1.ext (E4.trans E5)).snoc ⟨a,rfl,E5.sq (SqT.of e4)⟩,by rw[XD,h2];rfl,fun r' hr'=>?_,(B4.upd (XN hdb)).mono (by omega),?_⟩
   ·rcases JU.mp hr' with z | z
    ·exact h3 r' z
    ·rw[JP.mp z];exact g4
   ·exact fun q o e ne=>by
     have e2:=S4 q o (h5 q o e ne) ne
     rw[Zf (Ze e hd)]
     exact e2
  ·rintro ys H2 ⟨rs,h1,h2,h3,h4,h5⟩ hd2
   refine⟨YE _,d,ys,rfl,.inl ⟨SqL.of hd2,fun l hl=>?_⟩⟩
   have E:=Ext.new (o:=.tup ys) hl
   exact k l _ rs (h4.same (Same.new hl)) (h5.trans (SameX.of (Same.new hl))) ⟨ys,SqT.of Zc,h1.ext E⟩ h2 h3
structure WtsR (c:Nat)(Ws:List Int)(rs:List Rat):Prop where
 len:rs.length=c
 nn:∀ W∈Ws,0<=W
 pos:0<Ws.sum
 rep:RepL 10 Ws.sum Ws rs
def eX (K:W.Frag):Sp:=fun vs H Q _=>∃ (b:Addr) (c n:Nat),vs=[.ref b,.int c]/\BagAt H b n/\n<=100000/\1<=c/\c<=100 ∧
 ∀ (a:Addr) (H':Hp) (Ws:List Int) (rs:List Rat),BagAt H' b (n+c+1)->SameX b H H'->RowAt K H' a rs->WtsR c Ws rs->Q (.ref a) H'
theorem Qb:FnScope ["_law_bag_here","_law_count","_law_parts"] ["_law_bag_here","_law_count"] (defScope lB):=fsc
theorem J9 (D:Def K mg "_law_weights" lB ["_law_bag_here","_law_count"])(T:Blt mg)(eA:Z2 P w K mg base)(eC:Z1 P w K mg base) :
  Has P w K mg base 3 "_law_weights" ["_law_bag_here","_law_count"] (eX K):=by
 refine D.has fun f fd F=>F.ok Qb (fun vs H Q E h=>?_) (fun cdv A outer s H vs Q E hr h=>?_)
 ·obtain⟨b,c,n,rfl,_⟩:=h
  rfl
 ·obtain⟨b,c,n,rfl,hB,hn,hc1,hc,k⟩:=h
  have sc:=Qb
  have nd1:(["_law_k","_law_bag_here"]:List Str).Nodup:=by decide +kernel
  have nd2:(["_law_part","_law_parts"]:List Str).Nodup:=by decide +kernel
  refine⟨_,(Z9 (Zk (i:=2) sc.nd rfl (Or.inr rfl) (Yl (N:=["_law_k","_law_bag_here"]) (k:=1) (fv:=[0]) rfl (Yz rfl T.range (Z0 (pv 1) Z8))
   (fun _ _ _ _ _=>Zq (i:=0) nd1 rfl (Or.inl rfl)) (fun _ _ _ _ _=>Ye) (fun _ _ _ _ _=>(Zg eA hr (Z0 (pv 1) (Z0 Za Z8)))) Zx))
   (Z9 (Xj (Yc (Zo Xk (Y1 (Sr (K:=K) rfl) rfl T.sum jh (Z0 (pv 2) Z8)) Za (Zt _))
    (Zd (Uw Za (Sd (pv 2) (Zg eA hr (Z0 (pv 0) (Z0 (pv 1) Z8))) V8)))
    Zu))
   (Zd (Zi (Y0 Zz rfl T.tuple YX (Z0 (Yl (N:=["_law_part","_law_parts"]) (k:=1) (fv:=[2]) rfl (Xq (pv 2))
   (fun _ _ _ _ _=>Zq (i:=0) nd2 rfl (Or.inl rfl)) (fun _ _ _ _ _=>Ye) (fun _ _ _ _ _=>(Zg eC hr (Z0 (pv 0) (Z0 (Y1 (Sr (K:=K) rfl) rfl T.sum jh (Z0 (pv 1) Z8)) Z8)))) Zx) Z8)))))),?_⟩
  have hBl:=hB.lst
  refine⟨_,rfl,(c:Int),rfl,(by omega),(by omega),fun d hd=>?_⟩
  have hdb:d≠b:=by
   obtain⟨ys,e⟩:=hBl
   exact (Ze e hd).symm
  have et:(c:Int).toNat=c:=by omega
  rw[et]
  refine⟨c,fun i ys H2=>∃ ns:List Int,ys=ns.map V.int/\ns.length=i/\(∀ z∈ns,0<=z/\z<=4)/\BagAt H2 b (n+i)/\SameX b H H2,Zv (by omega),?_,?_,?_⟩
  ·exact⟨[],rfl,rfl,(fun _ h=>nomatch h),hB.upd (XN hdb),SameX.of (Same.new hd)⟩
  ·rintro i ys H2 hi ⟨ns,rfl,h2,h3,B2,S2⟩ hd2
   refine⟨hi,?_⟩
   rintro x H3 ⟨rfl,rfl⟩
   refine Yk ?_
   refine⟨_,rfl,b,_,_,rfl,B2,by omega,by decide,by decide +kernel,fun r H4 r0 r1 B4 S4=>?_⟩
   have hd4:H4 d=some (.lst (ns.map V.int)):=S4 _ _ hd2 hdb
   refine⟨hd4,ns++[r],by rw[JG];rfl,by rw[XD,h2];rfl,fun z hz=>?_,(B4.upd (XN hdb)).mono (by omega),?_⟩
   ·rcases JU.mp hz with z' | z'
    ·exact h3 z z'
    ·rw[JP.mp z'];omega
   ·exact fun q o e ne=>by
     have e2:=S4 q o (S2 q o e ne) ne
     rw[Zf (Ze e hd)]
     exact e2
  ·rintro ys H2 ⟨ns,rfl,h2,h3,B2,S2⟩ hd2
   refine⟨YE _,?_⟩
   refine⟨fun σ H'=>σ=[some (.ref b),some (.int c),some (.ref d)]/\∃ ms:List Int,ms.length=c/\(∀ z∈ms,0<=z/\z<=4)/\1<=ms.sum/\H' d=some (.lst (ms.map V.int))/\BagAt H' b (n+c+1)/\SameX b H H',?_,?_⟩
   ·refine⟨_,rfl,d,ns,rfl,SqL.of hd2,rfl,_,rfl,?_⟩
    refine Xe (fun h=>?_) (fun h=>?_)
    ·refine⟨_,rfl,_,rfl,_,rfl,b,_,_,rfl,B2,by omega,by omega,Fg (by omega),fun r H4 r0 r1 B4 S4=>?_⟩
     obtain⟨j,rfl,hj⟩:=Z4v r0 r1
     have hd4:H4 d=some (.lst (ns.map V.int)):=S4 _ _ hd2 hdb
     have hjn:j<ns.length:=by omega
     refine⟨d,_,_,j,rfl,rfl,hd4,?_,?_⟩
     ·rw[YC]
      exact Jo (by omega) (by omega)
     have em:(ns.map V.int).set j (V.int 1)=(ns.set j 1).map V.int:=by rw[je]
     rw[em]
     have h4:∀ z∈ns.set j 1,0<=z/\z<=4:=fun z hz=>by
      rcases Y0o hz with e | e
      ·exact h3 z e
      ·omega
     refine⟨rfl,ns.set j 1,by rw[qj];exact h2,h4,?_,Zc,(B4.upd (XN hdb)).mono (by omega),fun q o e ne=>?_⟩
     ·exact Jz _ (fun z hz=>(h4 z hz).1) ⟨1,by
       refine List.mem_iff_getElem?.mpr ⟨j,?_⟩
       rw[JO (by simpa using hjn)],by omega⟩
     ·rw[Zf (Ze e hd)]
      exact S4 q o (S2 q o e ne) ne
    ·have h0:ns.sum≠0:=fun z=>h (XX (by rw[z]))
     have:=(Ks ns 4 h3).1
     exact⟨rfl,ns,h2,h3,by omega,hd2,B2.mono (by omega),S2⟩
   ·rintro σ H5 ⟨rfl,ms,l4,h4,s1,hd5,B5,S5⟩
    have s2:ms.sum<=4*(c:Int):=by
     have:=(Ks _ 4 h4).2
     rw[l4] at this
     exact this
    refine⟨_,rfl,d,rfl,⟨_,SqL.of hd5⟩,fun e he=>?_⟩
    have hed:d≠e:=Ze hd5 he
    refine⟨c,fun i ys H2=>Same H5 H2/\Rs K H2 ((ms.map fun m=>nrm m ms.sum).take i) ys,Zv (by omega),⟨Same.new he,.nil⟩,?_,?_⟩
    ·rintro i ys H6 hi ⟨S6,R6⟩ he6
     have him:i<ms.length:=by omega
     refine⟨⟨_,V.int ms[i],SqL.of (S6 _ _ hd5),by simp[him]⟩,?_⟩
     rintro x H7 ⟨rfl,fx⟩
     have ex:x=V.int ms[i]:=by
      have:=fx _ (SqL.of (S6 _ _ hd5))
      rw[YD,show ms[i]?=some ms[i] by simp[him]] at this
      exact (YK this).symm
     subst ex
     refine Yk ?_
     have b2:Bd 10 ms.sum:=bdS (by omega)
     refine⟨_,rfl,_,rfl,d,ms,rfl,SqL.of (S6 _ _ hd5),ms[i],ms.sum,rfl,by omega,b2.log (by decide),fun a8 H8 f8 S8 e8=>?_⟩
     have he8:=S8 _ _ he6
     refine⟨he8,fun q o' e'=>?_,?_⟩
     ·rw[Zf (Ze e' he)]
      exact S8 _ _ (S6 _ _ e')
     ·rw[Y2 (show (ms.map fun m=>nrm m ms.sum)[i]?=some (nrm ms[i] ms.sum) by rw[YD,show ms[i]?=some ms[i] by simp[him]];rfl)]
      exact (R6.ext ((Ext.same S8).trans (Ext.upd he8))).snoc ⟨a8,rfl,(Ext.upd he8).sq (SqT.of e8)⟩
    ·rintro ys H6 ⟨S6,R6⟩ he6
     refine⟨⟨_,SqL.of (S6 _ _ hd5),by rw[YC];omega⟩,e,ys,rfl,.inl ⟨SqL.of he6,fun l hl'=>?_⟩⟩
     rw[YN (by rw[YC];omega)] at R6
     refine k l _ ms _ (((B5.same S6).same (Same.new hl')).mono (by omega)) ((S5.trans (SameX.of S6)).trans (SameX.of (Same.new hl'))) ⟨ys,SqT.of Zc,R6.ext (Ext.new hl')⟩ ⟨by rw[YC];exact l4,fun W hW=>(h4 W hW).1,by omega,⟨by omega,bdS (by omega),by rw[YC],fun i W r hW hr=>?_⟩⟩
     rw[YD,hW] at hr
     cases hr
     have:=h4 W (YL hW)
     exact⟨Nu (by omega),bdS (by omega),Yu (by omega)⟩
end
end Sb
namespace Sb
open Sv (sm Y5 Xm Yw sm_zero Y4 Y3 U0)
theorem N7 {c i:Nat}(h:i<c):(List.replicate c (1:Int)).getD i 0=1:=by simp[List.getD,h]
theorem Qa {c:Nat}{Ws:List Int}{o:Option (Nat->Bool)}(lW:Ws.length=c)(nn:∀ W∈Ws,0<=W):0<=(List.zipWith (·*·) Ws (cutZ o (List.replicate c 1))).sum ∧
  ∀ i,i<c->0<=Ws.getD i 0*(cutZ o (List.replicate c 1)).getD i 0:=by
 have h:∀ i,i<c->0<=Ws.getD i 0*(cutZ o (List.replicate c 1)).getD i 0:=fun i hi=>by
  rw[Wi,N7 hi]
  have:0<=Ws.getD i 0:=by
   have e:Ws.getD i 0=Ws[i]'(by omega):=by simp[List.getD,show i<Ws.length by omega]
   rw[e]
   exact nn _ (YZ _)
  split
  ·omega
  ·simp
 refine⟨?_,h⟩
 rw[Vl c _ _ lW (by rw[Xw];simp)]
 exact Y4 h
theorem Kv {c:Nat}{Ws Ro:List Int}{o:Option (Nat->Bool)}(lW:Ws.length=c)(lR:Ro.length=c)(nn:∀ W∈Ws,0<=W)(h0:(List.zipWith (·*·) Ws (cutZ o (List.replicate c 1))).sum=0):(List.zipWith (·*·) Ws (cutZ o Ro)).sum=0:=by
 have h:=(Qa (o:=o) lW nn).2
 rw[Vl c _ _ lW (by rw[Xw];simp)] at h0
 rw[Vl c _ _ lW (by rw[Xw];exact lR)]
 refine sm_zero fun i hi=>?_
 have hz:Ws.getD i 0*(cutZ o (List.replicate c 1)).getD i 0=0:=by
  rw[Y3 (k:=i) hi] at h0
  have h1:0<=sm c (fun j=>if j=i then 0 else Ws.getD j 0*(cutZ o (List.replicate c 1)).getD j 0):=Y4 fun j hj=>by
   split
   ·omega
   ·exact h j hj
  have:=h i hi
  omega
 rw[Wi,N7 hi] at hz
 rw[Wi]
 split
 ·rename_i q
  rw[YM q] at hz
  have:Ws.getD i 0=0:=by omega
  rw[this]
  simp
 ·simp
end Sb
namespace Sb
open PySem L2
theorem Md {n:Nat}{Zs:List Int}(h:∀ z∈Zs,Bd n z)(k:Nat):Bd n (Zs.getD k 0):=by
 simp only [List.getD]
 cases e:Zs[k]? with
 | none=>exact bd0 n
 | some z=>exact h z (YL e)
theorem RepL.scale {n:Nat}{D:Int}{Zs:List Int}{rs:List Rat}(h:RepL n D Zs rs){k:Int}{m:Nat}(hk:0<k)(bk:Bd m k):RepL (n+m) (D*k) (Zs.map fun z=>z*k) rs:=by
 refine⟨YY h.pos hk,h.bD.mul bk,by rw[YC,h.len],fun i W r hW hr=>?_⟩
 rw[YD] at hW
 cases e:Zs[i]? with
 | none=>rw[e] at hW;cases hW
 | some z =>
  rw[e] at hW
  cases hW
  obtain⟨a1,a2,a3⟩:=h.at_ i z r e hr
  exact⟨Va k a1,a2.mul bk,a3⟩
structure TabBd (N m n:Nat)(T:Sv.Tab):Prop where
 l:∀ i j,i<m->j<=n->Bd N (T.L i j)
 b:Bd N T.b
theorem Fq {a b c x y z:Int}(hy:0<y)(hx:0<x)(hz:0<z)(h1:a*y<=b*x)(h2:b*z<=c*y):a*z<=c*x:=by
 have e1:a*y*z<=b*x*z:=JS h1 (by omega)
 have e2:b*z*x<=c*y*x:=JS h2 (by omega)
 have:y*(a*z)<=y*(c*x):=by
  have f1:y*(a*z)=a*y*z:=by grind
  have f2:y*(c*x)=c*y*x:=by grind
  have f3:b*x*z=b*z*x:=by grind
  omega
 exact Y0n this hy
theorem K6 {a b c x y z:Int}(hy:0<y)(hx:0<x)(hz:0<z)(h1:a*y<b*x)(h2:b*z<=c*y):a*z<c*x:=by
 have e1:a*y*z<b*x*z:=zB h1 hz
 have e2:b*z*x<=c*y*x:=JS h2 (by omega)
 have:y*(a*z)<y*(c*x):=by
  have f1:y*(a*z)=a*y*z:=by grind
  have f2:y*(c*x)=c*y*x:=by grind
  have f3:b*x*z=b*z*x:=by grind
  omega
 exact z9 this (by omega)
theorem Z1y {a b c x y z:Int}(hy:0<y)(hx:0<x)(hz:0<z)(h1:a*y<=b*x)(h2:b*z<c*y):a*z<c*x:=by
 have e1:a*y*z<=b*x*z:=JS h1 (by omega)
 have e2:b*z*x<c*y*x:=zB h2 hx
 have:y*(a*z)<y*(c*x):=by
  have f1:y*(a*z)=a*y*z:=by grind
  have f2:y*(c*x)=c*y*x:=by grind
  have f3:b*x*z=b*z*x:=by grind
  omega
 exact z9 this (by omega)
def Ahead (n c:Nat)(T:Sv.Tab)(a b:Nat):Prop:=T.L a n*T.L b c<T.L b n*T.L a c \/ (T.L a n*T.L b c=T.L b n*T.L a c/\T.own a<=T.own b)
theorem Ahead.trans {n c:Nat}{T:Sv.Tab}{a b k:Nat}(ha:0<T.L a c)(hb:0<T.L b c)(hk:0<T.L k c)(h1:Ahead n c T a b)(h2:Ahead n c T b k):Ahead n c T a k:=by
 rcases h1 with h1 | ⟨h1,o1⟩
 ·rcases h2 with h2 | ⟨h2,_⟩
  ·exact .inl (K6 hb ha hk h1 (by omega))
  ·exact .inl (K6 hb ha hk h1 (by omega))
 ·rcases h2 with h2 | ⟨h2,o2⟩
  ·exact .inl (Z1y hb ha hk (by omega) h2)
  ·refine .inr ⟨?_,by omega⟩
   have e1:=Fq hb ha hk (show T.L a n*T.L b c<=T.L b n*T.L a c by omega) (show T.L b n*T.L k c<=T.L k n*T.L b c by omega)
   have e2:=Fq hb hk ha (show T.L k n*T.L b c<=T.L b n*T.L k c by omega) (show T.L b n*T.L a c<=T.L a n*T.L b c by omega)
   omega
def elig (lk c:Nat)(T:Sv.Tab)(k:Nat):Prop:=T.own k<=lk/\0<T.L k c
section
variable {P:Program}{w:World}{K:W.Frag}{mg:Str->Option Value}{base:Heap}{C:Addr}
def goB (n c:Nat)(T:Sv.Tab)(a b:Nat):Bool:=if T.L a n*T.L b c=T.L b n*T.L a c then decide (T.own a<T.own b) else decide (T.L a n*T.L b c<T.L b n*T.L a c)
def jA (C:Addr):Sp:=fun vs H Q _=>∃ (p:Addr) (m n lk c a b N:Nat) (T:Sv.Tab),vs=[.ref p,.int (c:Int),.int (a:Int),.int (b:Int)]/\TabAt C H p m n lk T/\a<m/\b<m/\c<n/\TabBd N m n T/\N<=8000/\Q (.bl (goB n c T a b)) H
theorem By:FnScope ["table","column","one","other","mine","theirs"] ["table","column","one","other"] (defScope kW):=fsc
theorem Z5v (D:Def K mg "goes_ahead" kW ["table","column","one","other"])(tc:TabC K mg C):Has P w K mg base 1 "goes_ahead" ["table","column","one","other"] (jA C):=by
 refine D.has fun f fd F=>F.ok By (fun vs H Q E h=>?_) (fun cdv A outer s H vs Q E hr h=>?_)
 ·obtain⟨p,m,n,lk,c,a,b,N,T,rfl,_⟩:=h
  rfl
 ·obtain⟨p,m,n,lk,c,a,b,N,T,rfl,⟨dx,la,oa,ha,las,h1,h2,h3,h4,h5,h6⟩,hA,hB,hc,bd,hN,q⟩:=h
  have sc:=By
  refine⟨_,(Z9 (Zk (i:=4) sc.nd rfl (Or.inl rfl) (Zn Zw (Zj Y6 (Zj Y6 (Yj (pv 0) rfl) (pv 2) (fun _ _=>rfl)) (Vy Xx Za) (fun _ _=>rfl)) (Zj Y6 (Zj Y6 (Yj (pv 0) rfl) (pv 3) (fun _ _=>rfl)) (pv 1) (fun _ _=>rfl))))
   (Z9 (Zk (i:=5) sc.nd rfl (Or.inl rfl) (Zn Zw (Zj Y6 (Zj Y6 (Yj (pv 0) rfl) (pv 3) (fun _ _=>rfl)) (Vy Xx Za) (fun _ _=>rfl)) (Zj Y6 (Zj Y6 (Yj (pv 0) rfl) (pv 2) (fun _ _=>rfl)) (pv 1) (fun _ _=>rfl))))
   (Z9 (Yc (Zo Xk (pv 4) (pv 5) (Zt _))
    (Zd (Zi (Xs N6 (Zj Y6 (Yj (pv 0) rfl) (pv 2) (fun _ _=>rfl)) (Zj Y6 (Yj (pv 0) rfl) (pv 3) (fun _ _=>rfl)) (Zt _))))
    Zu)
   (Zd (Zi (Xs N6 (pv 4) (pv 5) (Zt _))))))),?_⟩
  have ea:las[a]?=some (las[a]'(by omega)):=by simp
  have eb:las[b]?=some (las[b]'(by omega)):=by simp
  have la':=h4 a _ ea
  have lb':=h4 b _ eb
  have va:(las.map V.ref)[a]?=some (V.ref (las[a]'(by omega))):=by rw[YD,ea];rfl
  have vb:(las.map V.ref)[b]?=some (V.ref (las[b]'(by omega))):=by rw[YD,eb];rfl
  have atc:∀ i,atI ((lineI n T i).map V.int) (c:Int)=some (V.int (T.L i c)):=fun i=>Zh (X8 (Xu (JI hc)))
  refine⟨_,rfl,p,C,dx,_,_,rfl,h1,tc.cl,tc.nL,Xv,_,rfl,la,_,_,_,rfl,rfl,SqL.of h2,Zh va,_,rfl,_,_,_,_,rfl,rfl,SqL.of la',Mq,?_⟩
  refine⟨_,rfl,p,C,dx,_,_,rfl,h1,tc.cl,tc.nL,Xv,_,rfl,la,_,_,_,rfl,rfl,SqL.of h2,Zh vb,_,rfl,_,_,_,_,rfl,rfl,SqL.of lb',atc b,_,_,rfl,rfl,(bd.l a n hA (YE n)).mulOk (bd.l b c hB (JI hc)) (by omega) (by omega),?_⟩
  refine⟨_,rfl,p,C,dx,_,_,rfl,h1,tc.cl,tc.nL,Xv,_,rfl,la,_,_,_,rfl,rfl,SqL.of h2,Zh vb,_,rfl,_,_,_,_,rfl,rfl,SqL.of lb',Mq,?_⟩
  refine⟨_,rfl,p,C,dx,_,_,rfl,h1,tc.cl,tc.nL,Xv,_,rfl,la,_,_,_,rfl,rfl,SqL.of h2,Zh va,_,rfl,_,_,_,_,rfl,rfl,SqL.of la',atc a,_,_,rfl,rfl,(bd.l b n hB (YE n)).mulOk (bd.l a c hA (JI hc)) (by omega) (by omega),?_⟩
  refine⟨_,rfl,_,rfl,rfl,_,rfl,?_⟩
  unfold goB at q
  refine Xe (fun h=>?_) (fun h=>?_)
  ·have e:T.L a n*T.L b c=T.L b n*T.L a c:=V.int.inj (XI h)
   rw[YM e] at q
   refine⟨_,rfl,p,C,dx,_,_,rfl,h1,tc.cl,tc.nO,X4,_,rfl,oa,_,_,_,rfl,rfl,SqL.of h5,Zh (X8 (Vs hA)),_,rfl,p,C,dx,_,_,rfl,h1,tc.cl,tc.nO,X4,_,rfl,oa,_,_,_,rfl,rfl,SqL.of h5,Zh (X8 (Vs hB)),_,_,rfl,rfl,?_⟩
   have e2:decide ((T.own a:Int)<(T.own b:Int))=decide (T.own a<T.own b):=by simp
   show Q (.bl (decide ((T.own a:Int)<(T.own b:Int)))) H
   rw[e2]
   exact q
  ·have e:¬ T.L a n*T.L b c=T.L b n*T.L a c:=fun z=>h (XX (by show V.int _=V.int _;rw[z]))
   rw[YF e] at q
   exact⟨_,rfl,_,rfl,_,_,rfl,rfl,q⟩
def iP (C:Addr):Sp:=fun vs H Q _=>∃ (p:Addr) (m n lk c N:Nat) (T:Sv.Tab),vs=[.ref p,.int (c:Int)]/\TabAt C H p m n lk T/\c<n/\m<=1000/\TabBd N m n T/\N<=8000/\(∃ k,k<m/\elig lk c T k) ∧
 ∀ (H':Hp) (b:Nat),Same H H'->b<m->elig lk c T b->(∀ k,k<m->elig lk c T k->Ahead n c T b k)->Q (.int (b:Int)) H'
theorem Gk:FnScope ["table","column","first","place","owner"] ["table","column"] (defScope k7):=fsc
theorem Z3s (D:Def K mg "going_out" k7 ["table","column"])(T0:Blt mg)(tc:TabC K mg C)(iB:Has P w K mg base 1 "goes_ahead" ["table","column","one","other"] (jA C)):Has P w K mg base 2 "going_out" ["table","column"] (iP C):=by
 refine D.has fun f fd F=>F.ok Gk (fun vs H Q E h=>?_) (fun cdv A outer s H vs Q E hr h=>?_)
 ·obtain⟨p,m,n,lk,c,N,T,rfl,_⟩:=h
  rfl
 ·obtain⟨p,m,n,lk,c,N,Tb,rfl,tab,hc,hm,bd,hN,hex,k⟩:=h
  obtain⟨dx,la,oa,ha,las,h1,h2,h3,h4,h5,h6⟩:=id tab
  have sc:=Gk
  have T:=T0
  refine⟨_,(Z9 (Zk (i:=2) sc.nd rfl (Or.inl rfl) Yn)
   (Z9 (V3 JR rfl (Qn rfl T.enumerate (Z0 (Yj (pv 0) rfl) Z8)) (V4 (n:=2) rfl (Yh (Zq (i:=3) sc.nd rfl (Or.inl rfl)) (Yh (Zq (i:=4) sc.nd rfl (Or.inl rfl)) Xr)))
    (Zd (Yc (PW.pt (Z0b (Zo Z4t (pv 4) (Yj (pv 0) rfl) (Zt _)) (F4 (Zo Fe (Zj Y6 (Zj Y6 (Yj (pv 0) rfl) (pv 3) (fun _ _=>rfl)) (pv 1) (fun _ _=>rfl)) Za (Zt _)))))
     (Zd (Yc (PW.pt (Th (Zo Xn (pv 2) Yn (Zt _)) (U5 (Xz (Zg iB hr (Z0 (pv 0) (Z0 (pv 1) (Z0 (pv 3) (Z0 (pv 2) Z8)))))))))
      (Zd (Zk (i:=2) sc.nd rfl (Or.inl rfl) (pv 3)))
      Zu))
     Zu)))
   (Zd (Zi (pv 2))))),?_⟩
  have ol:=U7 m Tb
  refine⟨_,rfl,p,C,dx,_,_,rfl,h1,tc.cl,tc.nO,X4,oa,rfl,⟨_,SqL.of h5⟩,So (K:=K) (a:=oa) (xs:=(ownI m Tb).map V.int) (fun i σ H'=>Same H H'/\∃ x y:Option V,((∀ k,k<i->¬ elig lk c Tb k)/\σ=[some (.ref p),some (.int (c:Int)),some .non,x,y]) \/ ∃ b,b<i/\b<m/\elig lk c Tb b/\(∀ k,k<i->elig lk c Tb k->Ahead n c Tb b k)/\σ=[some (.ref p),some (.int (c:Int)),some (.int (b:Int)),x,y]) ⟨Same.refl _,none,none,.inl ⟨fun k hk=>by omega,rfl⟩⟩ (fun i σ H' _ h=>SqL.of (h.1 _ _ h5)) ?_ ?_⟩
  ·rintro i v σ H1 pp hi ⟨S1,x,y,inv⟩ hp
   have him:i<m:=by
    have:=(YG.mp hi).1
    rw[YC,ol] at this
    exact this
   rw[X8 (Vs him)] at hi
   cases hi
   have S2:Same H1 (upd H1 pp (.tup [.int (i:Int),.int (Tb.own i:Int)])):=Same.new hp
   have S02:=S1.trans S2
   have hst:∃ fv:V,σ=[some (.ref p),some (.int (c:Int)),some fv,x,y]:=by
    rcases inv with ⟨_,e⟩ | ⟨b,_,_,_,_,e⟩
    ·exact⟨_,e⟩
    ·exact⟨_,e⟩
   obtain⟨fv,hst⟩:=hst
   subst hst
   refine⟨pp,_,rfl,SqT.of Zc,rfl,_,_,rfl,_,_,rfl,rfl,?_⟩
   generalize upd H1 pp (.tup [.int (i:Int),.int (Tb.own i:Int)])=H2 at *
   have inv':((∀ k,k<i->¬ elig lk c Tb k)/\fv=.non) \/ ∃ b,b<i/\b<m/\elig lk c Tb b/\(∀ k,k<i->elig lk c Tb k->Ahead n c Tb b k)/\fv=.int (b:Int):=by
    rcases inv with ⟨h,e⟩ | ⟨b,g1,g2,g3,g4,e⟩
    ·injection e with _ e
     injection e with _ e
     injection e with e _
     injection e with e
     exact .inl ⟨h,e⟩
    ·injection e with _ e
     injection e with _ e
     injection e with e _
     injection e with e
     exact .inr ⟨b,g1,g2,g3,g4,e⟩
   have skip:¬ elig lk c Tb i->Same H H2/\∃ x y:Option V,((∀ k,k<i+1->¬ elig lk c Tb k)/\[some (V.ref p),some (V.int (c:Int)),some fv,some (V.int (i:Int)),some (V.int (Tb.own i:Int))]=[some (.ref p),some (.int (c:Int)),some .non,x,y]) \/ ∃ b,b<i+1/\b<m/\elig lk c Tb b/\(∀ k,k<i+1->elig lk c Tb k->Ahead n c Tb b k)/\[some (V.ref p),some (V.int (c:Int)),some fv,some (V.int (i:Int)),some (V.int (Tb.own i:Int))]=[some (.ref p),some (.int (c:Int)),some (.int (b:Int)),x,y]:=fun hne=>by
    refine⟨S02,some (.int (i:Int)),some (.int (Tb.own i:Int)),?_⟩
    rcases inv' with ⟨h,rfl⟩ | ⟨b,g1,g2,g3,g4,rfl⟩
    ·refine .inl ⟨fun k hk=>?_,rfl⟩
     by_cases q:k=i
     ·subst q;exact hne
     ·exact h k (by omega)
    ·refine .inr ⟨b,by omega,g2,g3,fun k hk hk2=>?_,rfl⟩
     by_cases q:k=i
     ·subst q;exact absurd hk2 hne
     ·exact g4 k (by omega) hk2
   refine⟨_,rfl,_,rfl,p,C,dx,_,_,rfl,S02 _ _ h1,tc.cl,tc.nK,Mg,_,_,rfl,rfl,_,rfl,?_⟩
   refine Xe (fun h=>?_) (fun h=>?_)
   ·have hle:Tb.own i<=lk:=by have:=XI h;omega
    have ei:las[i]?=some (las[i]'(by omega)):=by simp
    refine⟨_,rfl,p,C,dx,_,_,rfl,S02 _ _ h1,tc.cl,tc.nL,Xv,_,rfl,la,_,_,_,rfl,rfl,SqL.of (S02 _ _ h2),Zh (show (las.map V.ref)[i]?=_ by rw[YD,ei];rfl),_,rfl,_,_,_,_,rfl,rfl,SqL.of (S02 _ _ (h4 i _ ei)),Zh (X8 (Xu (JI hc))),_,_,rfl,rfl,_,rfl,?_⟩
    refine Xe (fun h'=>?_) (fun h'=>?_)
    ·have hpos:0<Tb.L i c:=XI h'
     have hel:elig lk c Tb i:=⟨hle,hpos⟩
     rcases inv' with ⟨hno,rfl⟩ | ⟨b,g1,g2,g3,g4,rfl⟩
     ·refine⟨_,rfl,rfl,_,rfl,K2 rfl ⟨_,rfl,S02,_,_,.inr ⟨i,by omega,him,hel,fun k hk hk2=>?_,rfl⟩⟩⟩
      by_cases q:k=i
      ·subst q;exact .inr ⟨rfl,YE _⟩
      ·exact absurd hk2 (hno k (by omega))
     ·refine⟨_,rfl,rfl,_,rfl,P0 (fun z=>nomatch z) ?_⟩
      refine⟨_,rfl,_,rfl,_,rfl,_,rfl,p,m,n,lk,c,i,b,N,Tb,rfl,tab.same S02,him,g2,hc,bd,hN,_,rfl,?_⟩
      refine Z46 (fun hg=>?_) (fun hg=>?_)
      ·have hib:Ahead n c Tb i b:=by
        unfold goB at hg
        split at hg
        ·rename_i e
         have:=XI hg
         exact .inr ⟨e,by omega⟩
        ·exact .inl (XI hg)
       refine⟨_,rfl,S02,_,_,.inr ⟨i,by omega,him,hel,fun k hk hk2=>?_,rfl⟩⟩
       by_cases q:k=i
       ·subst q;exact .inr ⟨rfl,YE _⟩
       ·exact Ahead.trans hpos g3.2 hk2.2 hib (g4 k (by omega) hk2)
      ·have hbi:Ahead n c Tb b i:=by
        unfold goB at hg
        split at hg
        ·rename_i e
         have:=Y17 hg
         exact .inr ⟨e.symm,by omega⟩
        ·rename_i e
         have:=Y17 hg
         exact .inl (by omega)
       refine⟨S02,_,_,.inr ⟨b,by omega,g2,g3,fun k hk hk2=>?_,rfl⟩⟩
       by_cases q:k=i
       ·subst q;exact hbi
       ·exact g4 k (by omega) hk2
    ·exact skip fun z=>h' (XX z.2)
   ·exact skip fun z=>h (XX (by have:=z.1;omega))
  ·rintro σ H1 ⟨S1,x,y,inv⟩
   rw[YC,ol] at inv
   rcases inv with ⟨hno,rfl⟩ | ⟨b,g1,g2,g3,g4,rfl⟩
   ·obtain⟨k',hk',he⟩:=hex
    exact absurd he (hno k' hk')
   ·exact⟨_,rfl,k H1 b S1 g2 g3 g4⟩
def eY:Sp:=fun vs H Q _=>∃ (a:Addr) (i:Nat) (v:V) (xs:List V),vs=[.ref a,.int (i:Int),v]/\H a=some (.lst xs)/\i<xs.length/\∀ (d:Addr) (H':Hp),H d=none->Same H H'->H' d=some (.lst (xs.set i v))->Q (.ref d) H'
theorem Qd:FnScope ["numbers","place","number","told"] ["numbers","place","number"] (defScope kZ):=fsc
theorem Jb (D:Def K mg "replaced" kZ ["numbers","place","number"])(T:Blt mg):Has P w K mg base 1 "replaced" ["numbers","place","number"] eY:=by
 refine D.has fun f fd F=>F.ok Qd (fun vs H Q E h=>?_) (fun cdv A outer s H vs Q E hr h=>?_)
 ·obtain⟨a,i,v,xs,rfl,_⟩:=h
  rfl
 ·obtain⟨a,i,v,xs,rfl,ha,hi,k⟩:=h
  have sc:=Qd
  refine⟨_,(Z9 (Zk (i:=3) sc.nd rfl (Or.inl rfl) (Y0 Yp rfl T.list XV (Z0 (pv 0) Z8)))
   (Z9 (Uw (pv 2) (Sd (pv 3) (pv 1) V8))
   (Zd (Zi (pv 3))))),?_⟩
  refine⟨_,rfl,a,_,rfl,.inl (SqL.of ha),fun d hd=>?_⟩
  refine⟨_,rfl,_,rfl,_,rfl,d,_,_,i,rfl,rfl,Zc,Jo (by omega) (by omega),?_⟩
  refine⟨_,rfl,k d _ hd (fun q o e=>?_) Zc⟩
  rw[Zf (Ze e hd),Zf (Ze e hd)]
  exact e
def freedI (xs zs:List Int)(c:Nat)(b:Int):List Int:=((List.range xs.length).map fun j=>(xs.getD j 0*zs.getD c 0 - xs.getD c 0*zs.getD j 0).fdiv b).set c (-xs.getD c 0)
def iQ:Sp:=fun vs H Q _=>∃ (a k:Addr) (c N:Nat) (b:Int) (xs zs:List Int),vs=[.ref a,.ref k,.int (c:Int),.int b]/\H a=some (.lst (xs.map V.int))/\H k=some (.lst (zs.map V.int))/\xs.length=zs.length/\c<xs.length/\xs.length<=1000/\(∀ z∈xs,Bd N z)/\(∀ z∈zs,Bd N z)/\Bd N b/\0<b/\N<=8000 ∧
 ∀ (d:Addr) (H':Hp),H d=none->Same H H'->H' d=some (.lst ((freedI xs zs c b).map V.int))->Q (.ref d) H'
theorem Gm:FnScope ["line","key_line","column","bottom","key","by","told"] ["line","key_line","column","bottom"] (defScope mL):=fsc
theorem Z3t (D:Def K mg "freed" mL ["line","key_line","column","bottom"])(T:Blt mg)(eG:Has P w K mg base 1 "replaced" ["numbers","place","number"] eY):Has P w K mg base 2 "freed" ["line","key_line","column","bottom"] iQ:=by
 refine D.has fun f fd F=>F.ok Gm (fun vs H Q E h=>?_) (fun cdv A outer s H vs Q E hr h=>?_)
 ·obtain⟨a,k,c,N,b,xs,zs,rfl,_⟩:=h
  rfl
 ·obtain⟨a,k,c,N,b,xs,zs,rfl,ha,hk,hl,hc,h1000,bx,bz,bb,hb,hN,kk⟩:=h
  have sc:=Gm
  have nd1:(["number","other","bottom","key","by"]:List Str).Nodup:=by decide +kernel
  refine⟨_,(Z9 (Zk (i:=4) sc.nd rfl (Or.inr rfl) (Zj Y6 (pv 1) (pv 2) (fun _ _=>rfl)))
   (Z9 (Zk (i:=5) sc.nd rfl (Or.inr rfl) (Zj Y6 (pv 0) (pv 2) (fun _ _=>rfl)))
   (Z9 (Wv (i:=6) (N:=["number","other","bottom","key","by"]) (k:=2) (fv:=[3,4,5]) sc.nd rfl (Or.inl rfl) rfl (Nx rfl T.zip (Z0 (pv 0) (Z0 (pv 1) Z8)))
   (fun _ _ _ _ _=>V4 (n:=2) rfl (Yh (Zq (i:=0) nd1 rfl (Or.inl rfl)) (Yh (Zq (i:=1) nd1 rfl (Or.inl rfl)) Xr))) (fun _ _ _ _ _=>Ye) (fun _ _ _ _ _=>(Zn W9 (Zn U8 (Zn Zw (pv 0) (pv 3)) (Zn Zw (pv 4) (pv 1))) (pv 2))) V7)
   (Zd (Zi (Zg eG hr (Z0 (pv 6) (Z0 (pv 2) (Z0 (Vy Xx (pv 5)) Z8))))))))),?_⟩
  have ex:∀ j,j<xs.length->xs[j]?=some (xs.getD j 0):=fun j hj=>by simp[List.getD,hj]
  have ez:∀ j,j<xs.length->zs[j]?=some (zs.getD j 0):=fun j hj=>by simp[List.getD,show j<zs.length by omega]
  have bxj:∀ j,Bd N (xs.getD j 0):=Md bx
  have bzj:∀ j,Bd N (zs.getD j 0):=Md bz
  refine⟨_,rfl,_,rfl,k,_,_,_,rfl,rfl,SqL.of hk,Zh (X8 (ez c hc)),?_⟩
  refine⟨_,rfl,_,rfl,a,_,_,_,rfl,rfl,SqL.of ha,Zh (X8 (ex c hc)),?_⟩
  refine⟨_,rfl,_,rfl,a,k,rfl,⟨_,SqL.of ha⟩,⟨_,SqL.of hk⟩,fun d hd=>?_⟩
  refine⟨xs.length,fun j ys H2=>Same H H2/\ys=(((List.range xs.length).map fun j=>(xs.getD j 0*zs.getD c 0 - xs.getD c 0*zs.getD j 0).fdiv b).take j).map V.int,Zv h1000,⟨Same.new hd,rfl⟩,?_,?_⟩
  ·rintro j ys H2 hj ⟨S2,rfl⟩ hd2
   refine⟨⟨_,_,SqL.of (S2 _ _ ha),SqL.of (S2 _ _ hk),by rw[YC];exact hj,by rw[YC];omega⟩,?_⟩
   rintro x H3 ⟨pp,x0,y0,rfl,hp,rfl,fx,fy⟩
   have e1:x0=V.int (xs.getD j 0):=by
    have:=fx _ (SqL.of (S2 _ _ ha))
    rw[X8 (ex j hj)] at this
    exact (YK this).symm
   have e2:y0=V.int (zs.getD j 0):=by
    have:=fy _ (SqL.of (S2 _ _ hk))
    rw[X8 (ez j hj)] at this
    exact (YK this).symm
   subst e1 e2
   have hpd:d≠pp:=Ze hd2 hp
   refine Rn (SqT.of Zc) ?_
   refine⟨_,rfl,_,rfl,_,_,rfl,rfl,(bxj j).mulOk (bzj c) (by omega) (by omega),_,rfl,_,rfl,_,_,rfl,rfl,(bxj c).mulOk (bzj j) (by omega) (by omega),_,_,rfl,rfl,_,rfl,_,_,rfl,rfl,⟨by omega,bb.log (by omega)⟩,by rw[Zf hpd];exact hd2,fun q o e=>?_,?_⟩
   ·have:=S2 _ _ e
    rw[Zf (Ze e hd),Zf (Ze this hp)]
    exact this
   ·rw[Tc _ (show (List.range xs.length)[j]?=some j by simp[hj]),JG]
    rfl
  ·rintro ys H2 ⟨S2,rfl⟩ hd2
   rw[YN (by simp)] at hd2
   refine⟨⟨_,_,SqL.of (S2 _ _ ha),SqL.of (S2 _ _ hk),by rw[YC]⟩,?_⟩
   refine⟨_,rfl,_,rfl,_,rfl,_,rfl,d,c,_,_,rfl,hd2,by simp;exact hc,fun d2 H3 f3 S3 e3=>?_⟩
   refine kk d2 H3 ?_ (S2.trans S3) ?_
   ·cases q:H d2 with
    | none=>rfl
    | some o=>rw[S2 _ _ q] at f3;cases f3
   ·rw[e3]
    unfold freedI
    rw[je]
end
end Sb
namespace Sv
section
variable {m n lk i0:Nat}{col:Nat->Vec}{rhs:Vec}{K:Nat}{S:Nat->Tab}{P C:Nat->Nat}
theorem Run.more (R:Run m n lk i0 col rhs K S P C){p c:Nat}(s:Step m n lk i0 (S K) p c)(h:p≠i0) :
  ∃ S' P' C',Run m n lk i0 col rhs (K+1) S' P' C'/\S' (K+1)=piv (S K) p c:=by
 refine⟨fun t=>if t<=K then S t else piv (S K) p c,fun t=>if t<K then P t else p,fun t=>if t<K then C t else c,⟨R.h0,?_,?_,fun k hk=>?_,fun k hk=>?_,fun k hk=>?_⟩,?_⟩
 ·show Inv m n col rhs (if 0<=K then S 0 else _)
  rw[YM (by omega)]
  exact R.I0
 ·show Feas m n lk (if 0<=K then S 0 else _)
  rw[YM (by omega)]
  exact R.F0
 ·show Step m n lk i0 (if k<=K then S k else _) (if k<K then P k else p) (if k<K then C k else c)
  rw[YM (by omega)]
  by_cases q:k<K
  ·rw[YM q,YM q]
   exact R.st k q
  ·have:k=K:=by omega
   subst this
   rw[YF q,YF q]
   exact s
 ·show (if k<K then P k else p)≠i0
  by_cases q:k<K
  ·rw[YM q]
   exact R.stay k q
  ·rw[YF q]
   exact h
 ·show (if k+1<=K then S (k+1) else piv (S K) p c)=piv (if k<=K then S k else _) (if k<K then P k else p) (if k<K then C k else c)
  by_cases q:k<K
  ·rw[YM (by omega),YM (by omega),YM q,YM q]
   exact R.nx k q
  ·have:k=K:=by omega
   subst this
   rw[YF (by omega),YM (by omega),YF q,YF q]
 ·show (if K+1<=K then _ else _)=_
  rw[YF (by omega)]
theorem Run.start (h0:i0<m){T:Tab}(I:Inv m n col rhs T)(F:Feas m n lk T):Run m n lk i0 col rhs 0 (fun _=>T) (fun _=>0) (fun _=>0) :=
 ⟨h0,I,F,fun k hk=>by omega,fun k hk=>by omega,fun k hk=>by omega⟩
end
end Sv
namespace Sb
open PySem L2
section
variable {P:Program}{w:World}{K:W.Frag}{mg:Str->Option Value}{base:Heap}{C:Addr}
theorem Xa (f:Str)(v:V):∀ fs:List (Str × V),(putF f v fs).length<=fs.length+1
 | []=>YE _
 | (g,x)::r=>by
  have:=Xa f v r
  unfold putF
  split
  ·simp
  ·simp only [XY]
   omega
def iO (C:Addr):Sp:=fun vs H Q _=>∃ (p dx:Addr) (a b c d e:V),vs=[.ref p,a,b,c,d,e]/\H p=some (.ins C dx [])/\∀ H',H' p=some (.ins C dx (fldsT a b c d e))->(∀ q o,H q=some o->q≠p->H' q=some o)->Q .non H'
theorem Z2u:FnScope ["self","lines","owners","heads","bottom","lack"] ["self","lines","owners","heads","bottom","lack"] (defScope kC):=fsc
theorem Z3g {f:Addr}{fd:FuncData}(F:Fun K "__init__" "Table.__init__" kC f fd)(tc:TabC K mg C):FnOk P w K mg base CX0 1 f fd ["self","lines","owners","heads","bottom","lack"] (iO C):=by
 refine F.ok Z2u (fun vs H Q E h=>?_) (fun cdv A outer s H vs Q E hr h=>?_)
 ·obtain⟨p,dx,a,b,c,d,e,rfl,_⟩:=h
  rfl
 ·obtain⟨p,dx,a,b,c,d,e,rfl,hp,k⟩:=h
  refine⟨_,Z9 (Qm (pv 0) (pv 1) rfl) (Z9 (Qm (pv 0) (pv 2) rfl) (Z9 (Qm (pv 0) (pv 3) rfl) (Z9 (Qm (pv 0) (pv 4) rfl) (Zd (Qm (pv 0) (pv 5) rfl))))),?_⟩
  refine⟨_,rfl,_,rfl,p,C,dx,_,rfl,hp,tc.cl,tc.nL,(by show 0<1000;decide),?_⟩
  refine⟨_,rfl,_,rfl,p,C,dx,_,rfl,Zc,tc.cl,tc.nO,(by show 1<1000;decide),?_⟩
  refine⟨_,rfl,_,rfl,p,C,dx,_,rfl,Zc,tc.cl,tc.nH,?_,?_⟩
  ·have z1:=Xa "owners" b (putF "lines" a [])
   have z2:=Xa "lines" a []
   simp only [jy] at z2
   omega
  refine⟨_,rfl,_,rfl,p,C,dx,_,rfl,Zc,tc.cl,tc.nB,?_,?_⟩
  ·have z1:=Xa "owners" b (putF "lines" a [])
   have z2:=Xa "lines" a []
   have z3:=Xa "heads" c (putF "owners" b (putF "lines" a []))
   simp only [jy] at z2
   omega
  refine⟨_,rfl,_,rfl,p,C,dx,_,rfl,Zc,tc.cl,tc.nK,?_,?_⟩
  ·have z1:=Xa "owners" b (putF "lines" a [])
   have z2:=Xa "lines" a []
   have z3:=Xa "heads" c (putF "owners" b (putF "lines" a []))
   have z4:=Xa "bottom" d (putF "heads" c (putF "owners" b (putF "lines" a [])))
   simp only [jy] at z2
   omega
  refine k _ Zc fun q o e hq=>?_
  rw[Zf hq,Zf hq,Zf hq,Zf hq,Zf hq]
  exact e
def HasT (P:Program)(w:World)(K:W.Frag)(mg:Str->Option Value)(base:Heap)(C:Addr):Prop:=∃ (f:Addr) (fd:FuncData),Mk K C f/\FnOk P w K mg base CX0 1 f fd ["self","lines","owners","heads","bottom","lack"] (iO C)/\Binds K fd ["self","lines","owners","heads","bottom","lack"] []
theorem Vj {n:Nat}{xs:List Int}{f:Nat->Int}(hl:xs.length=n)(h:∀ i,i<n->xs[i]?=some (f i)):xs=(List.range n).map f:=by
 apply Y0u
 intro i
 by_cases q:i<n
 ·rw[h i q]
  simp[q]
 ·rw[ji (by omega),ji (by simp;omega)]
theorem Z35 {m p c:Nat}{T:Sv.Tab}(hp:p<m):(ownI m T).set p (T.hd c:Int)=ownI m (Sv.piv T p c):=by
 refine Vj (by rw[qj,U7]) fun i hi=>?_
 show _=some ((Sv.up T.own p (T.hd c) i:Nat):Int)
 unfold Sv.up
 by_cases e:i=p
 ·subst e
  rw[JO (by rw[U7];exact hi),YM rfl]
 ·rw[JT (XN e),Vs hi,YF e]
theorem Z69 {n p c:Nat}{T:Sv.Tab}(hc:c<n):(hdI n T).set c (T.own p:Int)=hdI n (Sv.piv T p c):=by
 refine Vj (by rw[qj,Vw]) fun i hi=>?_
 show _=some ((Sv.up T.hd c (T.own p) i:Nat):Int)
 unfold Sv.up
 by_cases e:i=c
 ·subst e
  rw[JO (by rw[Vw];exact hi),YM rfl]
 ·rw[JT (XN e),Uz hi,YF e]
theorem Z45 {n p c:Nat}{T:Sv.Tab}(hc:c<n):(lineI n T p).set c T.b=lineI n (Sv.piv T p c) p:=by
 refine Vj (by rw[qj,Yr]) fun j hj=>?_
 show _=some (Sv.newL T p c p j)
 unfold Sv.newL
 rw[YM rfl]
 by_cases e:j=c
 ·subst e
  rw[JO (by rw[Yr];exact hj),YM rfl]
 ·rw[JT (XN e),Xu (by omega),YF e]
theorem Wo {n i j:Nat}{T:Sv.Tab}(h:j<=n):(lineI n T i).getD j 0=T.L i j:=by
 simp only [List.getD,Xu h]
 rfl
theorem Z1p {n p c i:Nat}{T:Sv.Tab}(hc:c<n)(h:i≠p):freedI (lineI n T i) (lineI n T p) c T.b=lineI n (Sv.piv T p c) i:=by
 unfold freedI
 refine Vj (by rw[qj];simp[Yr]) fun j hj=>?_
 show _=some (Sv.newL T p c i j)
 unfold Sv.newL
 rw[YF h,Yr]
 by_cases e:j=c
 ·subst e
  rw[JO (by simpa using hj),YM rfl,Wo (by omega)]
 ·rw[JT (XN e),YF e]
  simp only [YD,show (List.range (n+1))[j]?=some j by simp[hj],GT]
  rw[Wo (by omega),Wo (by omega),Wo (by omega),Wo (by omega)]
theorem Lz {N m n i:Nat}{T:Sv.Tab}(h:TabBd N m n T)(hi:i<m):∀ z∈lineI n T i,Bd N z:=fun z hz=>by
 unfold lineI at hz
 obtain⟨j,hj,rfl⟩:=XE.mp hz
 exact h.l i j hi (by have:=GK.mp hj;omega)
def jD (C:Addr):Sp:=fun vs H Q _=>∃ (p:Addr) (m n lk pl c N:Nat) (T:Sv.Tab),vs=[.ref p,.int (pl:Int),.int (c:Int)]/\TabAt C H p m n lk T/\pl<m/\c<n/\m<=900/\n<=900/\TabBd N m n T/\N<=8000/\0<T.b ∧
 ∀ (q:Addr) (H':Hp),Same H H'->TabAt C H' q m n lk (Sv.piv T pl c)->Q (.ref q) H'
theorem Z00:FnScope ["table","place","column","key_line","lines"] ["table","place","column"] (defScope kX):=fsc
theorem Z5x (D:Def K mg "exchanged" kX ["table","place","column"])(tc:TabC K mg C)(hT:HasT P w K mg base C)(j4:Has P w K mg base 2 "freed" ["line","key_line","column","bottom"] iQ)(eG:Has P w K mg base 1 "replaced" ["numbers","place","number"] eY):Has P w K mg base 3 "exchanged" ["table","place","column"] (jD C):=by
 refine D.has fun f fd F=>F.ok Z00 (fun vs H Q E h=>?_) (fun cdv A outer s H vs Q E hr h=>?_)
 ·obtain⟨p,m,n,lk,pl,c,N,T,rfl,_⟩:=h
  rfl
 ·obtain⟨p,m,n,lk,pl,c,N,T,rfl,tab,hp,hc,hm,hn,bd,hN,hb,k⟩:=h
  obtain⟨dx,la,oa,ha,las,h1,h2,h3,h4,h5,h6⟩:=id tab
  obtain⟨fI,fdI,tTableM,tTableG,tTableB⟩:=hT
  have tTableC:=tc.mgC
  have sc:=Z00
  have nd1:(["line","table","column","key_line"]:List Str).Nodup:=by decide +kernel
  refine⟨_,(Z9 (Zk (i:=3) sc.nd rfl (Or.inr rfl) (Zj Y6 (Yj (pv 0) rfl) (pv 1) (fun _ _=>rfl)))
   (Z9 (Wv (i:=4) (N:=["line","table","column","key_line"]) (k:=1) (fv:=[0,2,3]) sc.nd rfl (Or.inl rfl) rfl (Xq (Yj (pv 0) rfl))
   (fun _ _ _ _ _=>Zq (i:=0) nd1 rfl (Or.inl rfl)) (fun _ _ _ _ _=>Ye) (fun _ _ _ _ _=>(Zg j4 hr (Z0 (pv 0) (Z0 (pv 3) (Z0 (pv 2) (Z0 (Nz (K:=K) (pv 1) rfl) Z8)))))) Zx)
   (Zd (Zi (F6 tTableM tTableG (hr.mono (by decide)) rfl tTableC tTableB .nil F8 (Z0 (Zg eG hr (Z0 (pv 4) (Z0 (pv 1) (Z0 (Zg eG hr (Z0 (pv 3) (Z0 (pv 2) (Z0 (Yj (pv 0) rfl) Z8)))) Z8)))) (Z0 (Zg eG hr (Z0 (Yj (pv 0) rfl) (Z0 (pv 1) (Z0 (Zj Y6 (Yj (pv 0) rfl) (pv 2) (fun _ _=>rfl)) Z8)))) (Z0 (Zg eG hr (Z0 (Yj (pv 0) rfl) (Z0 (pv 2) (Z0 (Zj Y6 (Yj (pv 0) rfl) (pv 1) (fun _ _=>rfl)) Z8)))) (Z0 (Zj Y6 (pv 3) (pv 2) (fun _ _=>rfl)) (Z0 (Yj (pv 0) rfl) Z8)))))))))),?_⟩
  have ep:las[pl]?=some (las[pl]'(by omega)):=by simp
  have hkl:=h4 pl _ ep
  generalize las[pl]'(by omega)=kl at *
  refine⟨_,rfl,p,C,dx,_,_,rfl,h1,tc.cl,tc.nL,Xv,_,rfl,la,_,_,_,rfl,rfl,SqL.of h2,Zh (show (las.map V.ref)[pl]?=some (V.ref kl) by rw[YD,ep];rfl),?_⟩
  refine⟨_,rfl,p,C,dx,_,_,rfl,h1,tc.cl,tc.nL,Xv,la,rfl,⟨_,SqL.of h2⟩,fun d hd=>?_⟩
  refine⟨m,fun i ys H2=>Same H H2/\∃ ns:List Addr,ys=ns.map V.ref/\ns.length=i/\∀ (t:Nat) (a:Addr),ns[t]?=some a->a≠d/\H2 a=some (.lst ((freedI (lineI n T t) (lineI n T pl) c T.b).map V.int)),Zv (by omega),⟨Same.new hd,[],rfl,rfl,fun t a e=>by simp at e⟩,?_,?_⟩
  ·rintro i ys H2 hi ⟨S2,ns,rfl,l2,q2⟩ hd2
   have ei:las[i]?=some (las[i]'(by omega)):=by simp
   refine⟨⟨_,V.ref (las[i]'(by omega)),SqL.of (S2 _ _ h2),by simp⟩,?_⟩
   rintro x H3 ⟨rfl,fx⟩
   have ex:x=V.ref (las[i]'(by omega)):=by
    have:=fx _ (SqL.of (S2 _ _ h2))
    rw[YD,ei] at this
    exact (YK this).symm
   subst ex
   refine Yk ?_
   refine⟨_,rfl,_,rfl,_,rfl,_,rfl,p,C,dx,_,_,rfl,S2 _ _ h1,tc.cl,tc.nB,Vi,?_⟩
   refine⟨_,kl,c,N,T.b,lineI n T i,lineI n T pl,rfl,S2 _ _ (h4 i _ ei),S2 _ _ hkl,by rw[Yr,Yr],by rw[Yr];omega,by rw[Yr];omega,Lz bd hi,Lz bd hp,bd.b,hb,hN,fun a4 H4 f4 S4 e4=>?_⟩
   have hd4:=S4 _ _ hd2
   refine⟨hd4,fun q o e=>?_,ns++[a4],by rw[JG];rfl,by rw[XD,l2];rfl,fun t a e=>?_⟩
   ·rw[Zf (Ze e hd)]
    exact S4 _ _ (S2 _ _ e)
   ·by_cases q:t<ns.length
    ·rw[JD q] at e
     have:=q2 t a e
     refine⟨this.1,?_⟩
     rw[Zf this.1]
     exact S4 _ _ this.2
    ·rw[XW (by omega)] at e
     have hk0:t - ns.length=0:=by
      have:=(YG.mp e).1
      simp at this
      omega
     rw[hk0] at e
     cases e
     have hti:t=i:=by omega
     subst hti
     have hne:a4≠d:=fun z=>by rw[z] at f4;rw[f4] at hd2;cases hd2
     refine⟨hne,?_⟩
     rw[Zf hne]
     exact e4
  ·rintro ys H2 ⟨S2,ns,rfl,l2,q2⟩ hd2
   refine⟨⟨_,SqL.of (S2 _ _ h2),by simp[h3]⟩,?_⟩
   refine⟨_,rfl,_,rfl,_,rfl,_,rfl,_,rfl,p,C,dx,_,_,rfl,S2 _ _ h1,tc.cl,tc.nB,Vi,kl,c,_,_,rfl,S2 _ _ hkl,by rw[YC,Yr];omega,fun d1 H3 f3 S3 e3=>?_⟩
   refine⟨d,pl,_,_,rfl,S3 _ _ hd2,by rw[YC];omega,fun d2 H4 f4 S4 e4=>?_⟩
   have S04:=(S2.trans S3).trans S4
   refine⟨_,rfl,p,C,dx,_,_,rfl,S04 _ _ h1,tc.cl,tc.nO,X4,_,rfl,_,rfl,p,C,dx,_,_,rfl,S04 _ _ h1,tc.cl,tc.nH,Vh,_,rfl,ha,_,_,_,rfl,rfl,SqL.of (S04 _ _ h6),Zh (X8 (Uz hc)),oa,pl,_,_,rfl,S04 _ _ h5,by rw[YC,U7];omega,fun d3 H5 f5 S5 e5=>?_⟩
   have S05:=S04.trans S5
   refine⟨_,rfl,p,C,dx,_,_,rfl,S05 _ _ h1,tc.cl,tc.nH,Vh,_,rfl,_,rfl,p,C,dx,_,_,rfl,S05 _ _ h1,tc.cl,tc.nO,X4,_,rfl,oa,_,_,_,rfl,rfl,SqL.of (S05 _ _ h5),Zh (X8 (Vs hp)),ha,c,_,_,rfl,S05 _ _ h6,by rw[YC,Vw];omega,fun d6 H6 f6 S6 e6=>?_⟩
   have S06:=S05.trans S6
   refine⟨_,rfl,_,rfl,kl,_,_,_,rfl,rfl,SqL.of (S06 _ _ hkl),Zh (X8 (Xu (JI hc))),_,rfl,p,C,dx,_,_,rfl,S06 _ _ h1,tc.cl,tc.nK,Mg,fun x dx2 hx hdx hne=>?_⟩
   have SU:Same H6 (upd (upd H6 dx2 (.own x)) x (.ins C dx2 [])):=fun q o e=>by
    rw[Zf (Ze e hx),Zf (Ze e hdx)]
    exact e
   refine⟨x,dx2,_,_,_,_,_,rfl,Zc,fun H7 e7 S7=>⟨rfl,?_⟩⟩
   have SV:Same H6 H7:=fun q o e=>S7 q o (SU q o e) (Ze e hx)
   refine k x H7 (S06.trans SV) ⟨dx2,d2,d3,d6,ns.set pl d1,e7,SV _ _ (S6 _ _ (S5 _ _ (by rw[e4,je]))),by rw[qj];exact l2,fun i a e=>?_,SV _ _ (S6 _ _ (by rw[e5,<-Z35 hp,je])),SV _ _ (by rw[e6,<-Z69 hc,je])⟩
   by_cases q:i=pl
   ·subst q
    rw[JO (by omega)] at e
    cases e
    refine SV _ _ (S6 _ _ (S5 _ _ (S4 _ _ ?_)))
    rw[e3,<-Z45 hc,je]
   ·rw[JT (XN q)] at e
    refine SV _ _ (S6 _ _ (S5 _ _ (S4 _ _ (S3 _ _ ?_))))
    rw[(q2 i a e).2,Z1p hc q]
end
section
variable {P:Program}{w:World}{K:W.Frag}{mg:Str->Option Value}{base:Heap}{C:Addr}
def iR (C:Addr):Sp:=fun vs H Q _=>∃ (la:Addr) (m n:Nat) (las:List Addr) (T:Sv.Tab),vs=[.ref la]/\H la=some (.lst (las.map V.ref))/\las.length=m+2/\(∀ (i:Nat) (a:Addr),las[i]?=some a->H a=some (.lst ((lineI n T i).map V.int)))/\m<=900/\n<=900/\T.b=1/\(∀ i,T.own i=n+i)/\(∀ j,T.hd j=j) ∧
 ∀ (q:Addr) (H':Hp),Same H H'->TabAt C H' q (m+2) n (n+m) T->Q (.ref q) H'
theorem Gn:FnScope ["lines","width","owners"] ["lines"] (defScope kP):=fsc
theorem Z3u (D:Def K mg "first_table" kP ["lines"])(T0:Blt mg)(tc:TabC K mg C)(hT:HasT P w K mg base C):Has P w K mg base 3 "first_table" ["lines"] (iR C):=by
 refine D.has fun f fd F=>F.ok Gn (fun vs H Q E h=>?_) (fun cdv A outer s H vs Q E hr h=>?_)
 ·obtain⟨la,m,n,las,T,rfl,_⟩:=h
  rfl
 ·obtain⟨la,m,n,las,Tb,rfl,h2,h3,h4,hm,hn,hb,ho,hh,k⟩:=h
  obtain⟨fI,fdI,tTableM,tTableG,tTableB⟩:=hT
  have tTableC:=tc.mgC
  have sc:=Gn
  have T:=T0
  refine⟨_,(Z9 (Zk (i:=1) sc.nd rfl (Or.inl rfl) (Zn U8 (Y1 Yb rfl T.len zu (Z0 (Zj Y6 (pv 0) Za (fun _ _=>rfl)) Z8)) Za))
   (Z9 (Zk (i:=2) sc.nd rfl (Or.inl rfl) (Du rfl rfl T.list rfl T.range (Z0 (pv 1) (Z0 (Zn X1 (pv 1) (Y1 Yb rfl T.len zu (Z0 (pv 0) Z8))) Z8))))
   (Zd (Zi (F6 tTableM tTableG (hr.mono (by decide)) rfl tTableC tTableB .nil F8 (Z0 (pv 0) (Z0 (pv 2) (Z0 (Dv rfl rfl T.list rfl T.range (Z0 (pv 1) Z8)) (Z0 Za (Z0 (Zj Y6 (pv 2) (Vy Xx Za) (fun _ _=>rfl)) Z8)))))))))),?_⟩
  have e0:las[0]?=some (las[0]'(by omega)):=by simp
  have hl0:=h4 0 _ e0
  generalize las[0]'(by omega)=l0 at *
  have ew:((((lineI n Tb 0).map V.int).length:Nat):Int) - 1=(n:Int):=by rw[YC,Yr];omega
  refine⟨_,rfl,la,_,_,_,rfl,rfl,SqL.of h2,Zh (show (las.map V.ref)[0]?=some (V.ref l0) by rw[YD,e0];rfl),l0,_,rfl,.inl (SqL.of hl0),?_⟩
  refine⟨_,_,rfl,rfl,_,rfl,_,rfl,_,rfl,la,_,rfl,.inl (SqL.of h2),_,_,rfl,rfl,n,m+2,?_,by omega,by omega,fun o ho2=>?_⟩
  ·show [V.int _,V.int (_+_)]=_
   rw[ew,YC,h3]
   rfl
  refine⟨_,rfl,_,rfl,_,rfl,n,(by show [V.int _]=_;rw[ew]),by omega,fun e he=>?_⟩
  have hoe:o≠e:=fun z=>by rw[<-z,Zc] at he;cases he
  have xl:(List.map (fun k=>V.int ((n+k:Nat):Int)) (List.range (m+2))).length=m+2:=by simp
  refine⟨_,rfl,_,rfl,o,_,_,_,rfl,rfl,SqL.of ((Zf hoe).trans Zc),(show atI _ (-2)=some (V.int ((n+m:Nat):Int)) from ?_),fun x dx2 hx hdx hne=>?_⟩
  ·unfold atI ixN
   rw[xl,YF (by decide),YM (by omega)]
   show (List.map (fun k=>V.int ((n+k:Nat):Int)) (List.range (m+2)))[(-2+((m+2:Nat):Int)).toNat]?=_
   have:(-2+((m+2:Nat):Int)).toNat=m:=by omega
   rw[this]
   simp
  ·have S2:Same H (upd (upd H o (.lst ((List.range (m+2)).map fun k=>V.int ((n+k:Nat):Int)))) e (.lst ((List.range n).map fun (k:Nat)=>V.int (k:Int)))):=fun q z y=>by
    rw[Zf (Ze (show upd H o _ q=some z by rw[Zf (Ze y ho2)];exact y) he),Zf (Ze y ho2)]
    exact y
   have ho3:upd (upd H o (.lst ((List.range (m+2)).map fun k=>V.int ((n+k:Nat):Int)))) e (.lst ((List.range n).map fun (k:Nat)=>V.int (k:Int))) o=some (.lst ((ownI (m+2) Tb).map V.int)):=by
    rw[Zf hoe,Zc]
    unfold ownI
    simp[ho,Function.comp_def]
   have he3:upd (upd H o (.lst ((List.range (m+2)).map fun k=>V.int ((n+k:Nat):Int)))) e (.lst ((List.range n).map fun (k:Nat)=>V.int (k:Int))) e=some (.lst ((hdI n Tb).map V.int)):=by
    rw[Zc]
    unfold hdI
    simp[hh,Function.comp_def]
   generalize upd (upd H o (.lst ((List.range (m+2)).map fun k=>V.int ((n+k:Nat):Int)))) e (.lst ((List.range n).map fun (k:Nat)=>V.int (k:Int)))=H6 at *
   have SU:Same H6 (upd (upd H6 dx2 (.own x)) x (.ins C dx2 [])):=fun q o e=>by
    rw[Zf (Ze e hx),Zf (Ze e hdx)]
    exact e
   refine⟨x,dx2,_,_,_,_,_,rfl,Zc,fun H7 e7 S7=>⟨rfl,?_⟩⟩
   have SV:Same H6 H7:=fun q o e=>S7 q o (SU q o e) (Ze e hx)
   have S7':=S2.trans SV
   exact k x H7 S7' ⟨dx2,la,o,e,las,by rw[hb];exact e7,S7' _ _ h2,h3,fun i a y=>S7' _ _ (h4 i a y),SV _ _ ho3,SV _ _ he3⟩
end
section
variable {P:Program}{w:World}{K:W.Frag}{mg:Str->Option Value}{base:Heap}{C:Addr}
def DrEnd (m n lk i0 v:Nat)(col:Nat->Sv.Vec)(rhs:Sv.Vec)(Ex:Sv.Tab->Prop)(T:Sv.Tab):Prop :=
 Sv.Inv m n col rhs T/\Sv.Feas m n lk T/\Ex T/\((T.own i0=v/\∀ j,j<n->T.hd j≠lk->T.L i0 j<=0) \/ ∃ T1 c,T1.own i0=v/\Sv.Inv m n col rhs T1/\Sv.Step m n lk i0 T1 i0 c/\T=Sv.piv T1 i0 c)
def gY (C:Addr):Sp:=fun vs H Q _=>∃ (p:Addr) (m n lk i0 N v:Nat) (col:Nat->Sv.Vec) (rhs:Sv.Vec) (Ex:Sv.Tab->Prop) (T:Sv.Tab),vs=[.ref p,.int (v:Int)]/\TabAt C H p m n lk T/\i0<m/\m<=900/\n<=900/\N<=8000/\Sv.Inv m n col rhs T/\Sv.Feas m n lk T/\Ex T/\T.own i0=v ∧
 (∀ T',Sv.Inv m n col rhs T'->TabBd N m n T') ∧
 (∀ T' c,Sv.Inv m n col rhs T'->Sv.Feas m n lk T'->Ex T'->T'.own i0=v->c<n->T'.hd c≠lk->0<T'.L i0 c->∃ k,k<m/\elig lk c T' k) ∧
 (∀ T' pl c,Sv.Inv m n col rhs T'->Ex T'->Sv.Step m n lk i0 T' pl c->Ex (Sv.piv T' pl c)) ∧
 ∀ (q:Addr) (H':Hp) (T':Sv.Tab),Same H H'->TabAt C H' q m n lk T'->DrEnd m n lk i0 v col rhs Ex T'->Q (.ref q) H'
theorem Lg:FnScope ["table","owner","column"] ["table","owner"] (defScope lX):=fsc
theorem Z18 (D:Def K mg "driven" lX ["table","owner"])(tc:TabC K mg C)(jK:Has P w K mg base 2 "helping" ["table","owner"] (gG C))(iC:Has P w K mg base 3 "exchanged" ["table","place","column"] (jD C))(i4:Has P w K mg base 2 "going_out" ["table","column"] (iP C)):Has P w K mg base 4 "driven" ["table","owner"] (gY C):=by
 refine D.has fun f fd F=>F.ok Lg (fun vs H Q E h=>?_) (fun cdv A outer s H vs Q E hr h=>?_)
 ·obtain⟨p,m,n,lk,i0,N,v,col,rhs,Ex,T,rfl,_⟩:=h
  rfl
 ·obtain⟨p,m,n,lk,i0,N,v,col,rhs,Ex,T,rfl,tab,hi0,hm,hn,hN,I0,F0,X0,hv,hbd,hle,hkp,kk⟩:=h
  have sc:=Lg
  refine⟨_,(Z9 (Ql JR (Zo Wh (pv 1) (Yj (pv 0) rfl) rfl)
    (Z9 (Zk (i:=2) sc.nd rfl (Or.inl rfl) (Zg jK hr (Z0 (pv 0) (Z0 (pv 1) Z8))))
    (Z9 (Yc (Zo Xn (pv 2) Yn (Zt _))
     (Zd (Zi (pv 0)))
     Zu)
    (Zd (Zk (i:=0) sc.nd rfl (Or.inl rfl) (Zg iC hr (Z0 (pv 0) (Z0 (Zg i4 hr (Z0 (pv 0) (Z0 (pv 2) Z8))) (Z0 (pv 2) Z8)))))))))
   (Zd (Zi (pv 0)))),?_⟩
  refine⟨fun mm σ H'=>Same H H'/\∃ (q:Addr) (T':Sv.Tab) (x:Option V),σ=[some (.ref q),some (.int (v:Int)),x]/\TabAt C H' q m n lk T'/\((∃ k S P Cc,Sv.Run m n lk i0 col rhs k S P Cc/\T'=S k/\T'.own i0=v/\Ex T'/\mm=(n+m) ^ m - k) \/ (mm=0/\T'.own i0≠v/\(∃ c,c<n/\T'.hd c=v)/\DrEnd m n lk i0 v col rhs Ex T')),⟨_,Same.refl _,p,T,none,rfl,tab,.inl ⟨0,_,_,_,Sv.Run.start hi0 I0 F0,rfl,hv,X0,rfl⟩⟩,?_⟩
  rintro mm σ H1 ⟨S1,q,T',x,rfl,tab1,inv⟩
  obtain⟨dx,la,oa,ha,las,h1,h2,h3,h4,h5,h6⟩:=id tab1
  refine⟨_,rfl,_,rfl,q,C,dx,_,_,rfl,h1,tc.cl,tc.nO,X4,M9 h5 ?_⟩
  refine⟨_,rfl,?_⟩
  rcases inv with ⟨k,S,PP,Cc,R,rfl,hv',X',hmm⟩ | ⟨hmm,hv',⟨c,hc,hcv⟩,hend⟩
  ·have hsh:=R.short
   obtain⟨I',F'⟩:=R.inv k (YE k)
   refine Xe (fun _=>?_) (fun h=>absurd (XX (mem_ownI.mpr ⟨i0,hi0,hv'⟩)) h)
   refine⟨fun σ' H'=>_,fun σ' H' h=>h,?_⟩
   refine⟨_,rfl,_,rfl,q,m,n,lk,i0,S k,by rw[hv'];rfl,tab1,TabOk.of I',hi0,by omega,by omega,fun H2 S2=>⟨fun c hc hh hf=>?_,fun hno=>?_⟩⟩
   ·have tab2:=tab1.same S2
    have hd:∀ j,helps lk (S k) i0 j=true ↔ 0<(S k).L i0 j/\(S k).hd j≠lk:=fun j=>by unfold helps;simp
    obtain⟨hpos,hnl⟩:=(hd c).mp hh
    refine⟨_,rfl,rfl,_,rfl,P0 (by intro z;cases z) ?_⟩
    refine⟨_,rfl,_,rfl,_,rfl,q,m,n,lk,c,N,S k,rfl,tab2,hc,by omega,hbd _ I',hN,hle _ c I' F' X' hv' hc hnl hpos,fun H3 b S3 hb hel hah=>?_⟩
    refine⟨_,rfl,q,m,n,lk,b,c,N,S k,rfl,tab2.same S3,hb,hc,hm,hn,hbd _ I',hN,I'.pos,fun q2 H4 S4 tab4=>?_⟩
    have st:Sv.Step m n lk i0 (S k) b c:=⟨hb,hc,hnl,hpos,fun j hj hjl hjp=>hf j hj ((hd j).mpr ⟨hjp,hjl⟩),hel.1,hel.2,fun i hi h1 h2=>hah i hi ⟨h1,h2⟩⟩
    have SS:=((S1.trans S2).trans S3).trans S4
    by_cases e:b=i0
    ·subst e
     refine⟨0,by omega,SS,q2,_,_,rfl,tab4,.inr ⟨rfl,fun z=>?_,⟨c,hc,?_⟩,I'.piv hb hc hel.2,st.feas I' F',hkp _ _ _ I' X' st,.inr ⟨S k,c,hv',I',st,rfl⟩⟩⟩
     ·rw[Sv.own_p] at z
      exact I'.ne hb hc (hv'.trans z.symm)
     ·show Sv.up (S k).hd c ((S k).own b) c=v
      unfold Sv.up
      rw[YM rfl]
      exact hv'
    ·obtain⟨S',P',C',R',e'⟩:=R.more st e
     have hsh':=R'.short
     refine⟨(n+m) ^ m - (k+1),by omega,SS,q2,_,_,rfl,tab4,.inl ⟨k+1,S',P',C',R',e'.symm,?_,hkp _ _ _ I' X' st,rfl⟩⟩
     rw[Sv.own_ne (XN e)]
     exact hv'
   ·refine⟨_,rfl,rfl,_,rfl,K2 rfl ⟨_,rfl,kk q H2 (S k) (S1.trans S2) (tab1.same S2) ⟨I',F',X',.inl ⟨hv',fun j hj hl=>?_⟩⟩⟩⟩
    have:=hno j hj
    unfold helps at this
    simp[hl] at this
    exact this
  ·refine Xe (fun h=>?_) (fun h=>?_)
   ·obtain⟨i,hi,e⟩:=mem_ownI.mp (XI h)
    exact absurd (e.trans hcv.symm) (hend.1.ne hi hc)
   ·exact⟨_,rfl,kk q H1 T' S1 tab1 hend⟩
end
section
variable {P:Program}{w:World}{K:W.Frag}{mg:Str->Option Value}{base:Heap}
def hI (K:W.Frag):Sp:=fun vs H Q _=>∃ (i c:Nat) (o:Option (Nat->Bool)) (v:V),vs=[.int i,v]/\EvAt K H c o v/\i<c/\Q (.bl (inE o i)) H
theorem Z71 {H:Hp}{c i:Nat}{o:Option (Nat->Bool)}{v:V}{Q:VK}(h:EvAt K H c o v)(hi:i<c)(q:Q (.bl (inE o i)) H) :
  if decide (v=V.non)=true then Q (.bl true) H else rIn K false (.int i) v H Q:=by
 cases o with
 | none =>
  have e:v=.non:=h
  exact K2 e q
 | some p =>
  obtain⟨a,rfl,h⟩:=h
  refine P0 (by intro z;cases z) ⟨a,_,rfl,.inr h,rfl,Ul _,?_⟩
  show Q (.bl (inV (.int (i:Int)) ((evI c p).map V.int))) H
  rw[Ts]
  have e:decide ((i:Int)∈evI c p)=p i:=by
   rw[GS,zA,M6]
   simp[hi]
  rw[e]
  exact q
theorem Bx:FnScope ["world","event"] ["world","event"] (defScope mV):=fsc
theorem Z5u (D:Def K mg "is_in" mV ["world","event"]):Has P w K mg base 1 "is_in" ["world","event"] (hI K):=by
 refine D.has fun f fd F=>F.ok Bx (fun vs H Q E h=>?_) (fun cdv A outer s H vs Q E hr h=>?_)
 ·obtain⟨i,c,o,v,rfl,_⟩:=h
  rfl
 ·obtain⟨i,c,o,v,rfl,hv,hi,q⟩:=h
  have sc:=Bx
  refine⟨_,(Zd (Zi (Z6l (Xs Xn (pv 1) Yn (Zt _)) (Se (Xs Wh (pv 0) (pv 1) rfl))))),?_⟩
  refine⟨_,rfl,rfl,_,rfl,?_⟩
  have:=Z71 (Q:=Q) hv hi q
  refine Z46 (fun e=>?_) (fun e=>?_)
  ·rw[e] at this
   rw[YM rfl] at this
   exact this
  ·rw[e] at this
   rw[YF YT] at this
   exact⟨_,rfl,_,rfl,this⟩
def gZ (K:W.Frag):Sp:=fun vs H Q _=>∃ (a:Addr) (v:V) (rs:List Rat) (o:Option (Nat->Bool)),vs=[.ref a,v]/\RowAt K H a rs/\EvAt K H rs.length o v/\rs.length<=1000 ∧
 ∀ p H',Same H H'->RowAt K H' p (cutR o rs)->Q (.ref p) H'
theorem Z4n:FnScope ["row","event"] ["row","event"] (defScope m6):=fsc
theorem Z6t (D:Def K mg "cut" m6 ["row","event"])(T:Blt mg)(jJ:Has P w K mg base 1 "is_in" ["world","event"] (hI K))(eD:Con K mg "NOUGHT" (0,1)):Has P w K mg base 2 "cut" ["row","event"] (gZ K):=by
 refine D.has fun f fd F=>F.ok Z4n (fun vs H Q E h=>?_) (fun cdv A outer s H vs Q E hr h=>?_)
 ·obtain⟨a,v,rs,o,rfl,_⟩:=h
  rfl
 ·obtain⟨a,v,rs,o,rfl,⟨xs,hA,hRs⟩,hv,hl,k⟩:=h
  obtain⟨c_NOUGHT,m_NOUGHT,s_NOUGHT⟩:=eD
  have sc:=Z4n
  have nd1:(["world","worth","event"]:List Str).Nodup:=by decide +kernel
  refine⟨_,(Zd (Zi (Y0 Zz rfl T.tuple YX (Z0 (Yl (N:=["world","worth","event"]) (k:=2) (fv:=[1]) rfl (Z31 rfl T.enumerate (Z0 (pv 0) Z8))
   (fun _ _ _ _ _=>V4 (n:=2) rfl (Yh (Zq (i:=0) nd1 rfl (Or.inl rfl)) (Yh (Zq (i:=1) nd1 rfl (Or.inl rfl)) Xr))) (fun _ _ _ _ _=>Ye) (fun _ _ _ _ _=>(Vc (Xz (Zg jJ hr (Z0 (pv 0) (Z0 (pv 2) Z8)))) (pv 1) (Yx (v:=.ref c_NOUGHT) rfl m_NOUGHT rfl))) V7) Z8)))),?_⟩
  refine⟨_,rfl,a,rfl,⟨_,hA⟩,fun d hd=>?_⟩
  have lx:=hRs.len
  refine⟨rs.length,fun i ys H2=>Same H H2/\Rs K H2 ((cutR o rs).take i) ys,Zv hl,⟨Same.new hd,.nil⟩,?_,?_⟩
  ·rintro i ys H2 hi ⟨S2,R2⟩ hd2
   refine⟨⟨xs,Zl S2 hA,by omega⟩,?_⟩
   rintro x H3 ⟨p,x0,rfl,hp,rfl,fx⟩
   obtain⟨r,er,ix⟩:=hRs.back (fx xs (Zl S2 hA))
   have S3:Same H2 (upd H2 p (.tup [.int (i:Int),x0])):=Same.new hp
   have ix3:=ix.ext ((Ext.same S2).trans (Ext.same S3))
   refine Rn (SqT.of Zc) ?_
   refine⟨_,rfl,_,rfl,i,rs.length,o,v,rfl,(hv.same S2).same S3,hi,_,rfl,?_⟩
   have hpd:d≠p:=Ze hd2 hp
   have hd3:upd H2 p (.tup [.int (i:Int),x0]) d=some (.lst ys):=S3 _ _ hd2
   have fin:∀ y,IsR K (upd H2 p (.tup [.int (i:Int),x0])) (if inE o i then r else (0,1)) y →
     upd H2 p (.tup [.int (i:Int),x0]) d=some (.lst ys)/\Same H (upd (upd H2 p (.tup [.int (i:Int),x0])) d (.lst (ys++[y])))/\Rs K (upd (upd H2 p (.tup [.int (i:Int),x0])) d (.lst (ys++[y]))) ((cutR o rs).take (i+1)) (ys++[y]):=fun y hy=>by
    refine⟨hd3,fun q o' e=>?_,?_⟩
    ·rw[Zf (Ze e hd)]
     exact S3 _ _ (S2 _ _ e)
    ·rw[Y2 (V0 er)]
     have E5:Ext (upd H2 p (.tup [.int (i:Int),x0])) (upd (upd H2 p (.tup [.int (i:Int),x0])) d (.lst (ys++[y]))):=Ext.upd hd3
     exact (R2.ext ((Ext.same S3).trans E5)).snoc (hy.ext E5)
   refine Z46 (fun e=>?_) (fun e=>?_)
   ·exact⟨_,rfl,fin _ (by rw[e,YM rfl];exact ix3)⟩
   ·exact fin _ (by rw[e,YF YT];exact⟨_,rfl,s_NOUGHT _⟩)
  ·rintro ys H2 ⟨S2,R2⟩ hd2
   refine⟨⟨xs,Zl S2 hA,by omega⟩,d,ys,rfl,.inl ⟨SqL.of hd2,fun l hl'=>?_⟩⟩
   rw[YN (by rw[Yd];omega)] at R2
   exact k l _ (S2.trans (Same.new hl')) ⟨ys,SqT.of Zc,R2.ext (Ext.new hl')⟩
def jY (K:W.Frag):Sp:=fun vs H Q _=>∃ (a:Addr) (v:V) (xs:List V) (rs:List Rat) (o:Option (Nat->Bool)),vs=[.ref a,v]/\(SqL K H a xs \/ SqT K H a xs)/\Rs K H rs xs/\EvAt K H rs.length o v/\rs.length<=1000 ∧
 ∀ p H',Same H H'->RowAt K H' p (cutR o rs)->Q (.ref p) H'
theorem Bv:FnScope ["_law_row_here","_law_event_here"] ["_law_row_here","_law_event_here"] (defScope mU):=fsc
theorem Ph (rs:List Rat):cutR none rs=rs:=by
 apply Y0u
 intro i
 cases e:rs[i]? with
 | none=>rw[ji (by rw[Yd];exact (List.getElem?_eq_none_iff.mp e))]
 | some r=>rw[V0 e];rfl
abbrev Z5 (P:Program)(w:World)(K:W.Frag)(mg:Str->Option Value)(base:Heap):Prop:=Has P w K mg base 2 "_law_cut" ["_law_row_here","_law_event_here"] (jY K)
theorem Z5s (D:Def K mg "_law_cut" mU ["_law_row_here","_law_event_here"])(T:Blt mg):Z5 P w K mg base:=by
 refine D.has fun f fd F=>F.ok Bv (fun vs H Q E h=>?_) (fun cdv A outer s H vs Q E hr h=>?_)
 ·obtain⟨a,v,xs,rs,o,rfl,_⟩:=h
  rfl
 ·obtain⟨a,v,xs,rs,o,rfl,hA,hRs,hv,hl,k⟩:=h
  have sc:=Bv
  have nd1:(["_law_k","_law_row_here","_law_event_here"]:List Str).Nodup:=by decide +kernel
  refine⟨_,(Z9 (Yc (Zo Xn (pv 1) Yn (Zt _))
    (Zd (Zi (Y0 Zz rfl T.tuple YX (Z0 (pv 0) Z8))))
    Zu)
   (Zd (Zi (Y0 Zz rfl T.tuple YX (Z0 (Yl (N:=["_law_k","_law_row_here","_law_event_here"]) (k:=1) (fv:=[0,1]) rfl (Yz rfl T.range (Z0 (Y1 Yb rfl T.len zu (Z0 (pv 0) Z8)) Z8))
   (fun _ _ _ _ _=>Zq (i:=0) nd1 rfl (Or.inl rfl)) (fun _ _ _ _ _=>Ye) (fun _ _ _ _ _=>(Vc (Zo (Z0p (K:=K)) (pv 0) (pv 2) rfl) (Zj (Z70 (K:=K)) (pv 1) (pv 0) (fun _ _=>rfl)) (Y9 (Z0 Za (Z0 Za Z8))))) Zx) Z8))))),?_⟩
  have lx:=hRs.len
  refine⟨_,rfl,rfl,_,rfl,?_⟩
  cases o with
  | none =>
   have e:v=.non:=hv
   refine K2 e ?_
   refine⟨_,rfl,a,xs,rfl,?_⟩
   rcases hA with hA | hA
   ·exact .inl ⟨hA,fun l hl'=>k l _ (Same.new hl') ⟨xs,SqT.of Zc,by rw[Ph];exact hRs.ext (Ext.new hl')⟩⟩
   ·exact .inr ⟨hA,k a H (Same.refl _) ⟨xs,hA,by rw[Ph];exact hRs⟩⟩
  | some p =>
   obtain⟨e9,rfl,he9⟩:=hv
   refine P0 (by intro z;cases z) ?_
   refine⟨_,rfl,a,xs,rfl,hA,(xs.length:Int),rfl,(by omega),(by omega),fun d hd=>?_⟩
   have et:(xs.length:Int).toNat=xs.length:=by omega
   rw[et]
   refine⟨xs.length,fun i ys H2=>Same H H2/\Rs K H2 ((cutR (some p) rs).take i) ys,Zv (by omega),⟨Same.new hd,.nil⟩,?_,?_⟩
   ·rintro i ys H2 hi ⟨S2,R2⟩ hd2
    refine⟨hi,?_⟩
    rintro x H3 ⟨rfl,rfl⟩
    have e0:(0+(i:Int))=((i:Nat):Int):=by omega
    rw[e0]
    refine Yk ?_
    have hir:i<rs.length:=by omega
    have er:rs[i]?=some rs[i]:=by simp[hir]
    obtain⟨x0,ex,ix⟩:=hRs.at er
    have hA2:SqL K H3 a xs \/ SqT K H3 a xs:=hA.elim (fun z=>.inl (W5 S2 z)) fun z=>.inr (Zl S2 z)
    refine⟨_,rfl,_,rfl,e9,_,rfl,.inr (Zl S2 he9),rfl,Ul _,_,rfl,?_⟩
    have ev:inV (.int (i:Int)) ((evI rs.length p).map V.int)=inE (some p) i:=by
     rw[Ts,GS,zA,M6]
     show _ ↔ p i=true
     simp[hir]
    show if inV (.int (i:Int)) ((evI rs.length p).map V.int)=true then _ else _
    rw[ev]
    refine Z46 (fun e=>?_) (fun e=>?_)
    ·refine⟨_,rfl,_,rfl,a,xs,_,_,rfl,rfl,hA2,Zh ex,hd2,fun q o' e=>?_,?_⟩
     ·rw[Zf (Ze e hd)]
      exact S2 _ _ e
     ·rw[Y2 (V0 er),e,YM rfl]
      exact (R2.ext (Ext.upd hd2)).snoc ((ix.ext (Ext.same S2)).ext (Ext.upd hd2))
    ·refine⟨sz2,fun p hp=>?_⟩
     have S3:Same H3 (upd H3 p (.tup [.int 0,.int 1])):=Same.new hp
     have hd3:=S3 _ _ hd2
     refine⟨hd3,fun q o' e=>?_,?_⟩
     ·rw[Zf (Ze e hd)]
      exact S3 _ _ (S2 _ _ e)
     ·rw[Y2 (V0 er),e,YF YT]
      exact (R2.ext ((Ext.same S3).trans (Ext.upd hd3))).snoc ⟨p,rfl,(Ext.upd hd3).sq (SqT.of Zc)⟩
   ·rintro ys H2 ⟨S2,R2⟩ hd2
    refine⟨YE _,d,ys,rfl,.inl ⟨SqL.of hd2,fun l hl'=>?_⟩⟩
    rw[YN (by rw[Yd];omega)] at R2
    exact k l _ (S2.trans (Same.new hl')) ⟨ys,SqT.of Zc,R2.ext (Ext.new hl')⟩
def gJ (K:W.Frag):Sp:=fun vs H Q _=>∃ (c:Nat) (v:V) (o:Option (Nat->Bool)),vs=[.int c,v]/\EvAt K H c o v/\1<=c/\c<=1000/\∀ p H',Same H H'->RowAt K H' p (cutR o (List.replicate c (1,1)))->Q (.ref p) H'
theorem Ge:FnScope ["count","event"] ["count","event"] (defScope lD):=fsc
theorem Rs.rep {H:Hp}{r:Rat}{v:V}(h:IsR K H r v):∀ n:Nat,Rs K H (List.replicate n r) (List.replicate n v)
 | 0=>.nil
 | n+1=>.cons h (Rs.rep h n)
theorem Z3m (D:Def K mg "paper_of" lD ["count","event"])(iD:Has P w K mg base 2 "cut" ["row","event"] (gZ K))(j3:Con K mg "ONE" (1,1)):Has P w K mg base 3 "paper_of" ["count","event"] (gJ K):=by
 refine D.has fun f fd F=>F.ok Ge (fun vs H Q E h=>?_) (fun cdv A outer s H vs Q E hr h=>?_)
 ·obtain⟨c,v,o,rfl,_⟩:=h
  rfl
 ·obtain⟨c,v,o,rfl,hv,h2,hl,k⟩:=h
  obtain⟨c_ONE,m_ONE,s_ONE⟩:=j3
  have sc:=Ge
  refine⟨_,(Zd (Zi (Zg iD hr (Z0 (Zn F9 (Y9 (Z0 (Yx (v:=.ref c_ONE) rfl m_ONE rfl) Z8)) (pv 0)) (Z0 (pv 1) Z8))))),?_⟩
  refine⟨sz1,fun t ht=>⟨_,rfl,t,c,[.ref c_ONE],rfl,rfl,SqT.of Zc,by omega,by simp,by simpa using hl,fun p H1 S1' sq=>?_⟩⟩
  have S1:Same H (upd H t (.tup [.ref c_ONE])):=Same.new ht
  have et:(c:Int).toNat=c:=by omega
  have ef:(List.replicate (c:Int).toNat [V.ref c_ONE]).flatten=List.replicate c (V.ref c_ONE):=by rw[et];simp
  rw[ef] at sq
  have S2:=S1.trans S1'
  refine⟨_,rfl,p,v,List.replicate c (1,1),o,rfl,⟨_,sq,Rs.rep ⟨c_ONE,rfl,s_ONE _⟩ c⟩,?_,by simpa using hl,fun p' H' S' R'=>k p' H' (S2.trans S') R'⟩
  rw[XU]
  exact hv.same S2
def jE (K:W.Frag):Sp:=fun vs H Q _=>∃ (a:Addr) (xs:List V) (rs:List Rat) (n:Nat) (D:Int) (Ws:List Int),vs=[.ref a]/\(SqL K H a xs \/ SqT K H a xs)/\Rs K H rs xs/\RepL n D Ws rs/\n<=4000/\Q (.int (lcmB rs)) H
theorem Lh:FnScope ["several","least","one"] ["several"] (defScope kJ):=fsc
abbrev Z6 (P:Program)(w:World)(K:W.Frag)(mg:Str->Option Value)(base:Heap):Prop:=Has P w K mg base 2 "common_bottom" ["several"] (jE K)
theorem Z19 (D:Def K mg "common_bottom" kJ ["several"])(eI:Has P w K mg base 1 "common_divisor" ["one","other"] jB):Z6 P w K mg base:=by
 refine D.has fun f fd F=>F.ok Lh (fun vs H Q E h=>?_) (fun cdv A outer s H vs Q E hr h=>?_)
 ·obtain⟨a,xs,rs,n,D,Ws,rfl,_⟩:=h
  rfl
 ·obtain⟨a,xs,rs,n,D,Ws,rfl,hA,hRs,rep,hn,q⟩:=h
  have sc:=Lh
  refine⟨_,(Z9 (Zk (i:=1) sc.nd rfl (Or.inl rfl) Za)
   (Z9 (V3 JR rfl (Z0h (pv 0)) (Zq (i:=2) sc.nd rfl (Or.inl rfl))
    (Zd (Zk (i:=1) sc.nd rfl (Or.inl rfl) (Zn W9 (Zn Zw (pv 1) (Zj Yq (pv 2) Za (fun _ _=>rfl))) (Zg eI hr (Z0 (pv 1) (Z0 (Zj Yq (pv 2) Za (fun _ _=>rfl)) Z8)))))))
   (Zd (Zi (pv 1))))),?_⟩
  have lx:=hRs.len
  refine⟨_,rfl,Ft (K:=K) (a:=a) (xs:=xs) (fun i σ H'=>H'=H/\∃ x:Option V,σ=[some (.ref a),some (.int (lcmB (rs.take i))),x]) hA ⟨rfl,none,rfl⟩ (fun i σ H' _ h=>by rw[h.1];exact Same.refl _) ?_ ?_⟩
  ·rintro i x σ H1 hi ⟨rfl,x0,rfl⟩
   obtain⟨r,er,b,rfl,hb⟩:=hRs.back hi
   have g:=rep.good r (YL er)
   have lo:=(rep.take i).least
   have hg:((Int.gcd (lcmB (rs.take i)) r.2:Nat):Int)≠0:=by
    have:=Y05 r.2 (show lcmB (rs.take i)≠0 by have:=lo.pos;omega)
    omega
   have hgb:Bd n ((Int.gcd (lcmB (rs.take i)) r.2:Nat):Int):=g.b2.of_le' (Xb g.pos (jb _ _))
   refine⟨_,rfl,_,rfl,b,_,_,rfl,rfl,hb,_,_,rfl,rfl,lo.bD.mulOk g.b2 (by omega) (by omega),_,rfl,_,rfl,b,_,_,rfl,rfl,hb,_,_,rfl,_,_,rfl,rfl,⟨hg,hgb.log (by omega)⟩,?_⟩
   refine⟨rfl,some (.ref b),?_⟩
   rw[Cg er]
   rfl
  ·rintro σ H1 ⟨rfl,x0,rfl⟩
   rw[<-lx,YN (YE _)]
   exact⟨_,rfl,q⟩
def fL (K:W.Frag):Sp:=fun vs H Q _=>∃ (a:Addr) (D:Int) (xs:List V) (rs:List Rat) (n:Nat),vs=[.ref a,.int D]/\(SqL K H a xs \/ SqT K H a xs)/\Rs K H rs xs/\(∀ r∈rs,Good n r)/\Bd n D/\0<D/\n<=4000/\rs.length<=1000 ∧
 ∀ (d:Addr) (H':Hp),H d=none->Same H H'->H' d=some (.lst ((wholeB rs D).map V.int))->Q (.ref d) H'
theorem Px:FnScope ["several","bottom"] ["several","bottom"] (defScope lA):=fsc
theorem Dy (D:Def K mg "whole_by" lA ["several","bottom"]):Has P w K mg base 1 "whole_by" ["several","bottom"] (fL K):=by
 refine D.has fun f fd F=>F.ok Px (fun vs H Q E h=>?_) (fun cdv A outer s H vs Q E hr h=>?_)
 ·obtain⟨a,D,xs,rs,n,rfl,_⟩:=h
  rfl
 ·obtain⟨a,D,xs,rs,n,rfl,hA,hRs,g,bD,hD,hn,hl,k⟩:=h
  have sc:=Px
  have nd1:(["one","bottom"]:List Str).Nodup:=by decide +kernel
  refine⟨_,(Zd (Zi (Yl (N:=["one","bottom"]) (k:=1) (fv:=[1]) rfl (Z5c (pv 0))
   (fun _ _ _ _ _=>Zq (i:=0) nd1 rfl (Or.inl rfl)) (fun _ _ _ _ _=>Ye) (fun _ _ _ _ _=>(Zn Zw (Zj (Z68 (K:=K)) (pv 0) Za (fun _ _=>rfl)) (Zn W9 (pv 1) (Zj (Z67 (K:=K)) (pv 0) Za (fun _ _=>rfl))))) Zx))),?_⟩
  have lx:=hRs.len
  refine⟨_,rfl,a,xs,rfl,hA,fun J G d hd=>?_⟩
  refine⟨xs.length,fun i ys H2=>Same H H2/\ys=((wholeB rs D).take i).map V.int,Zv (by omega),⟨Same.new hd,rfl⟩,?_,?_⟩
  ·rintro i ys H2 hi ⟨S2,rfl⟩ hd2
   refine⟨G.go i H2 S2 hi,?_⟩
   intro x H3 hy
   obtain⟨rfl,ex⟩:=G.yld i H2 x H3 S2 hy
   obtain⟨r,er,ix⟩:=hRs.back ex
   obtain⟨b,rfl,hb⟩:=ix.ext (Ext.same S2)
   have gr:=g r (YL er)
   refine Yk ?_
   refine⟨_,rfl,b,_,_,rfl,rfl,hb,_,rfl,_,rfl,b,_,_,rfl,rfl,hb,_,_,rfl,rfl,⟨by have:=gr.pos;omega,gr.b2.log (by omega)⟩,_,_,rfl,rfl,gr.b1.mulOk (bD.of_le' (Mf hD gr.pos)) (by omega) (by omega),hd2,fun q o' e=>?_,?_⟩
   ·rw[Zf (Ze e hd)]
    exact S2 _ _ e
   ·have:(wholeB rs D)[i]?=some (r.1*D.fdiv r.2):=by unfold wholeB;rw[YD,er];rfl
    rw[Y2 this,JG]
    rfl
  ·rintro ys H2 ⟨S2,rfl⟩ hd2
   refine⟨G.stop H2 S2,?_⟩
   rw[YN (by unfold wholeB;rw[YC];omega)] at hd2
   exact k d H2 hd S2 hd2
end
section
variable {P:Program}{w:World}{K:W.Frag}{mg:Str->Option Value}{base:Heap}{C:Addr}
def rowZ (rs:List Rat):List Int:=wholeB rs (lcmB rs)
theorem V9 (rs:List Rat):(rowZ rs).length=rs.length:=by unfold rowZ wholeB;rw[YC]
def fR (K:W.Frag):Sp:=fun vs H Q _=>∃ (a:Addr) (e:Int) (xs:List V) (rs:List Rat) (n:Nat) (D:Int) (Ws:List Int),vs=[.ref a,.int e]/\(SqL K H a xs \/ SqT K H a xs)/\Rs K H rs xs/\RepL n D Ws rs/\n<=4000/\rs.length<=900 ∧
 ∀ (d:Addr) (H':Hp),H d=none->Same H H'->H' d=some (.lst ((rowZ rs++[e]).map V.int))->Q (.ref d) H'
theorem Sx:FnScope ["row","end"] ["row","end"] (defScope kR):=fsc
theorem Lr (D:Def K mg "whole_line" kR ["row","end"])(eB:Z6 P w K mg base)(fG:Has P w K mg base 1 "whole_by" ["several","bottom"] (fL K)):Has P w K mg base 3 "whole_line" ["row","end"] (fR K):=by
 refine D.has fun f fd F=>F.ok Sx (fun vs H Q E h=>?_) (fun cdv A outer s H vs Q E hr h=>?_)
 ·obtain⟨a,e,xs,rs,n,D,Ws,rfl,_⟩:=h
  rfl
 ·obtain⟨a,e,xs,rs,n,D,Ws,rfl,hA,hRs,rep,hn,hl,k⟩:=h
  have sc:=Sx
  refine⟨_,(Zd (Zi (Zn Z5i (Zg fG hr (Z0 (pv 0) (Z0 (Zg eB hr (Z0 (pv 0) Z8)) Z8))) (Wl (Z0 (pv 1) Z8))))),?_⟩
  have le:=rep.least
  refine⟨_,rfl,_,rfl,a,xs,rs,n,D,Ws,rfl,hA,hRs,rep,hn,a,lcmB rs,xs,rs,n,rfl,hA,hRs,rep.good,le.bD,le.pos,hn,by omega,fun d H1 fd1 S1 e1=>?_⟩
  refine⟨_,rfl,sz1,fun p hp=>?_⟩
  have e1':upd H1 p (.lst [.int e]) d=some (.lst ((rowZ rs).map V.int)):=by rw[Zf (Ze e1 hp)];exact e1
  refine⟨d,p,_,_,rfl,rfl,e1',Zc,?_,fun q hq=>?_⟩
  ·rw[YC,V9]
   exact Zv (show rs.length+1<=1000 by omega)
  have hqH:H q=none:=by
   cases z:H q with
   | none=>rfl
   | some o =>
    have z2:=S1 _ _ z
    rw[Zf (Ze z2 hp)] at hq
    rw[z2] at hq
    cases hq
  refine k q _ hqH (fun x o z=>?_) ?_
  ·have z2:=S1 _ _ z
   rw[Zf (Ze (show upd H1 p (.lst [.int e]) x=some o by rw[Zf (Ze z2 hp)];exact z2) hq),Zf (Ze z2 hp)]
   exact z2
  ·rw[Zc,JG]
   rfl
end
section
variable {P:Program}{w:World}{K:W.Frag}{mg:Str->Option Value}{base:Heap}{C:Addr}
def AOf (rss:List (List Rat))(k v:Nat):Int:=(rowZ (rss.getD k [])).getD v 0
def rowF (rs:List Rat)(v:Nat):Int:=(rowZ rs).getD v 0
def papR (c:Nat)(o:Option (Nat->Bool)):List Rat:=cutR o (List.replicate c (1,1))
def T0S (c:Nat)(rss:List (List Rat))(o:Option (Nat->Bool))(gs:List Rat):Sv.Tab:=Sv.T0 c rss.length (AOf rss) (rowF (papR c o)) (rowF gs)
def iH (K:W.Frag)(C:Addr):Sp:=fun vs H Q _=>∃ (l g:Addr) (ve:V) (c n:Nat) (rss:List (List Rat)) (o:Option (Nat->Bool)) (gs:List Rat),vs=[.int (c:Int),.ref l,ve,.ref g]/\RowsAt K H l rss/\EvAt K H c o ve/\RowAt K H g gs/\gs.length=c/\(∀ rs∈rss,rs.length=c/\∃ D Ws,RepL n D Ws rs)/\(∃ D Ws,RepL n D Ws gs)/\1<=n/\n<=4000/\1<=c/\c<=800/\rss.length<=800 ∧
 ∀ (q:Addr) (H':Hp),Same H H'->TabAt C H' q (rss.length+2) c (c+rss.length) (T0S c rss o gs)->Q (.ref q) H'
theorem Uc {c:Nat}{rs:List Rat}{e:Int}{F:Nat->Int}(hl:rs.length=c)(h:∀ j,j<c->F j=(rowZ rs).getD j 0)(he:F c=e):rowZ rs++[e]=(List.range (c+1)).map F:=by
 refine Vj (by simp[V9,hl]) fun i hi=>?_
 by_cases q:i<c
 ·rw[JD (by rw[V9];omega),h i q]
  simp[List.getD,show i<(rowZ rs).length by rw[V9];omega]
 ·have:i=c:=by omega
  subst this
  rw[XW (by rw[V9];omega),he]
  simp[V9,hl]
theorem G9:FnScope ["count","rows","event","goal","lines"] ["count","rows","event","goal"] (defScope l9):=fsc
theorem Z3h (D:Def K mg "start" l9 ["count","rows","event","goal"])(fA:Has P w K mg base 3 "whole_line" ["row","end"] (fR K))(f7:Has P w K mg base 3 "paper_of" ["count","event"] (gJ K))(g9:Has P w K mg base 3 "first_table" ["lines"] (iR C)):Has P w K mg base 4 "start" ["count","rows","event","goal"] (iH K C):=by
 refine D.has fun f fd F=>F.ok G9 (fun vs H Q E h=>?_) (fun cdv A outer s H vs Q E hr h=>?_)
 ·obtain⟨l,g,ve,c,n,rss,o,gs,rfl,_⟩:=h
  rfl
 ·obtain⟨l,g,ve,c,n,rss,o,gs,rfl,⟨as,hl,hp⟩,hv,hg,gl,hrs,⟨Dg,Wg,rg⟩,hn1,hn,hc2,hc,hm,k⟩:=h
  have sc:=G9
  have nd1:(["row"]:List Str).Nodup:=by decide +kernel
  refine⟨_,(Z9 (Wv (i:=4) (N:=["row"]) (k:=1) (fv:=[]) sc.nd rfl (Or.inl rfl) rfl (Xq (pv 1))
   (fun _ _ _ _ _=>Zq (i:=0) nd1 rfl (Or.inl rfl)) (fun _ _ _ _ _=>Ye) (fun _ _ _ _ _=>(Zg fA hr (Z0 (pv 0) (Z0 Za Z8)))) Zx)
   (Z9 (W8 (Uq JA GE GF Xg (pv 4) (Z0 (Zg fA hr (Z0 (Zg f7 hr (Z0 (pv 0) (Z0 (pv 2) Z8))) (Z0 Za Z8))) Z8)))
   (Z9 (W8 (Uq JA GE GF Xg (pv 4) (Z0 (Zg fA hr (Z0 (pv 3) (Z0 Za Z8))) Z8)))
   (Zd (Zi (Zg g9 hr (Z0 (pv 4) Z8))))))),?_⟩
  have lx:=JK hp
  refine⟨_,rfl,l,rfl,⟨_,SqL.of hl⟩,fun d hd=>?_⟩
  refine⟨as.length,fun i ys H2=>Same H H2/\∃ ns:List Addr,ys=ns.map V.ref/\ns.length=i/\∀ (t:Nat) (a:Addr),ns[t]?=some a->a≠d/\H2 a=some (.lst ((rowZ (rss.getD t [])++[0]).map V.int)),Zv (by omega),⟨Same.new hd,[],rfl,rfl,fun t a e=>by simp at e⟩,?_,?_⟩
  ·rintro i ys H2 hi ⟨S2,ns,rfl,l2,q2⟩ hd2
   have ei:as[i]?=some (as[i]'hi):=by simp
   have er:rss[i]?=some (rss[i]'(by omega)):=by simp
   refine⟨⟨_,V.ref (as[i]'hi),SqL.of (S2 _ _ hl),by simp⟩,?_⟩
   rintro x H3 ⟨rfl,fx⟩
   have ex:x=V.ref (as[i]'hi):=by
    have:=fx _ (SqL.of (S2 _ _ hl))
    rw[YD,ei] at this
    exact (YK this).symm
   subst ex
   refine Yk ?_
   obtain⟨xs,h1,h2⟩:=(Paired.getB hp ei er).same S2
   obtain⟨hrl,Dr,Wr,rr⟩:=hrs _ (YL er)
   refine⟨_,rfl,_,_,xs,_,n,Dr,Wr,rfl,.inr h1,h2,rr,hn,by omega,fun a4 H4 f4 S4 e4=>?_⟩
   have hd4:=S4 _ _ hd2
   have hne:a4≠d:=fun z=>by rw[z] at f4;rw[f4] at hd2;cases hd2
   refine⟨hd4,fun q o e=>?_,ns++[a4],by rw[JG];rfl,by rw[XD,l2];rfl,fun t a e=>?_⟩
   ·rw[Zf (Ze e hd)]
    exact S4 _ _ (S2 _ _ e)
   ·by_cases q:t<ns.length
    ·rw[JD q] at e
     have:=q2 t a e
     refine⟨this.1,?_⟩
     rw[Zf this.1]
     exact S4 _ _ this.2
    ·rw[XW (by omega)] at e
     have hk0:t - ns.length=0:=by
      have:=(YG.mp e).1
      simp at this
      omega
     rw[hk0] at e
     cases e
     have hti:t=i:=by omega
     subst hti
     refine⟨hne,?_⟩
     rw[Zf hne]
     have eg:rss.getD t []=rss[t]'(by omega):=by simp[List.getD,show t<rss.length by omega]
     rw[eg]
     exact e4
  ·rintro ys H2 ⟨S2,ns,rfl,l2,q2⟩ hd2
   refine⟨⟨_,SqL.of (S2 _ _ hl),by simp⟩,?_⟩
   have rpap:RepL n 1 (cutZ o (List.replicate c 1)) (papR c o):=((RepL.ones c).cut o).mono hn1
   have lpap:(papR c o).length=c:=by
    have:=rpap.len
    rw[Xw] at this
    simpa using this.symm
   refine⟨_,rfl,.inl ⟨rfl,_,SqL.of hd2⟩,_,rfl,_,rfl,c,ve,o,rfl,hv.same S2,hc2,by omega,fun p H3 S3 rp=>?_⟩
   obtain⟨xp,rp1,rp2⟩:=rp
   refine⟨p,1,xp,papR c o,n,_,_,rfl,.inr rp1,rp2,rpap,hn,by omega,fun a4 H4 f4 S4 e4=>?_⟩
   have hd4:=S4 _ _ (S3 _ _ hd2)
   have hne4:a4≠d:=fun z=>by rw[z] at f4;rw[S3 _ _ hd2] at f4;cases f4
   refine⟨d,_,_,rfl,rfl,hd4,?_,?_⟩
   ·rw[YC]
    exact Zv (show ns.length+1<=1000 by omega)
   have S14:Same H (upd H4 d (.lst (ns.map V.ref++[.ref a4]))):=fun q z y=>by
    rw[Zf (Ze y hd)]
    exact S4 _ _ (S3 _ _ (S2 _ _ y))
   have q4:∀ (t:Nat) (a:Addr),(ns++[a4])[t]?=some a->a≠d/\upd H4 d (.lst (ns.map V.ref++[.ref a4])) a=some (.lst ((if t<as.length then rowZ (rss.getD t [])++[0] else rowZ (papR c o)++[1]).map V.int)):=fun t a e=>by
    by_cases q:t<ns.length
    ·rw[JD q] at e
     have:=q2 t a e
     refine⟨this.1,?_⟩
     rw[Zf this.1,YM (by omega)]
     exact S4 _ _ (S3 _ _ this.2)
    ·rw[XW (by omega)] at e
     have hk0:t - ns.length=0:=by
      have:=(YG.mp e).1
      simp at this
      omega
     rw[hk0] at e
     cases e
     refine⟨hne4,?_⟩
     rw[Zf hne4,YF (by omega)]
     exact e4
   have hd5:upd H4 d (.lst (ns.map V.ref++[.ref a4])) d=some (.lst ((ns++[a4]).map V.ref)):=by rw[Zc,JG];rfl
   generalize upd H4 d (.lst (ns.map V.ref++[.ref a4]))=H5 at *
   obtain⟨xg,hg1,hg2⟩:=hg.same S14
   refine⟨_,rfl,.inl ⟨rfl,_,SqL.of hd5⟩,_,rfl,g,0,xg,gs,n,_,_,rfl,.inr hg1,hg2,rg,hn,by omega,fun a6 H6 f6 S6 e6=>?_⟩
   have hd6:=S6 _ _ hd5
   have hne6:a6≠d:=fun z=>by rw[z] at f6;rw[hd5] at f6;cases f6
   refine⟨d,_,_,rfl,rfl,hd6,?_,?_⟩
   ·rw[YC,XD]
    exact Zv (show ns.length+1+1<=1000 by omega)
   have S17:Same H (upd H6 d (.lst ((ns++[a4]).map V.ref++[.ref a6]))):=fun q z y=>by
    rw[Zf (Ze y hd)]
    exact S6 _ _ (S14 _ _ y)
   have hd7:upd H6 d (.lst ((ns++[a4]).map V.ref++[.ref a6])) d=some (.lst ((ns++[a4]++[a6]).map V.ref)):=by rw[Zc,JG (l₁:=ns++[a4])];rfl
   refine⟨_,rfl,d,rss.length,c,ns++[a4]++[a6],T0S c rss o gs,rfl,hd7,by simp;omega,fun t a e=>?_,by omega,by omega,rfl,fun _=>rfl,fun _=>rfl,fun q H8 S8 tab=>k q H8 (S17.trans S8) tab⟩
   have key:∀ (t:Nat) (a:Addr),(ns++[a4]++[a6])[t]?=some a->a≠d/\upd H6 d (.lst ((ns++[a4]).map V.ref++[.ref a6])) a=some (.lst ((if t<rss.length then rowZ (rss.getD t [])++[0] else if t=rss.length then rowZ (papR c o)++[1] else rowZ gs++[0]).map V.int))/\t<rss.length+2:=fun t a e=>by
    by_cases q:t<(ns++[a4]).length
    ·rw[JD q] at e
     have:=q4 t a e
     rw[XD] at q
     simp at q
     refine⟨this.1,?_,by omega⟩
     rw[Zf this.1,S6 _ _ this.2]
     by_cases q':t<rss.length
     ·rw[YM q',YM (by omega)]
     ·rw[YF q',YF (by omega),YM (by omega)]
    ·rw[XW (by omega)] at e
     have hk0:t - (ns++[a4]).length=0:=by
      have:=(YG.mp e).1
      simp at this
      simp
      omega
     rw[hk0] at e
     cases e
     simp at q hk0
     refine⟨hne6,?_,by omega⟩
     rw[Zf hne6,YF (by omega),YF (by omega)]
     exact e6
   obtain⟨_,e7,ht⟩:=key t a e
   rw[e7]
   congr 2
   unfold lineI
   by_cases q:t<rss.length
   ·rw[YM q]
    have er:rss[t]?=some (rss[t]'q):=by simp
    have eg:rss.getD t []=rss[t]'q:=by simp[List.getD,q]
    refine congrArg _ (Uc ?_ (fun j hj=>?_) ?_)
    ·rw[eg]
     exact (hrs _ (YL er)).1
    ·show (if j<c then Sv.colS c rss.length (AOf rss) (rowF (papR c o)) (rowF gs) j t else _)=_
     rw[YM hj]
     unfold Sv.colS
     rw[YM hj,YM q]
     rfl
    ·show (if c<c then _ else Sv.rhsS rss.length t)=_
     rw[YF (by omega)]
     unfold Sv.rhsS
     rw[YF (by omega)]
   ·rw[YF q]
    by_cases q':t=rss.length
    ·rw[YM q']
     refine congrArg _ (Uc lpap (fun j hj=>?_) ?_)
     ·show (if j<c then Sv.colS c rss.length (AOf rss) (rowF (papR c o)) (rowF gs) j t else _)=_
      rw[YM hj]
      unfold Sv.colS
      rw[YM hj,YF q,YM q']
      rfl
     ·show (if c<c then _ else Sv.rhsS rss.length t)=_
      rw[YF (by omega)]
      unfold Sv.rhsS
      rw[YM q']
    ·rw[YF q']
     refine congrArg _ (Uc gl (fun j hj=>?_) ?_)
     ·show (if j<c then Sv.colS c rss.length (AOf rss) (rowF (papR c o)) (rowF gs) j t else _)=_
      rw[YM hj]
      unfold Sv.colS
      rw[YM hj,YF q,YF q']
      rfl
     ·show (if c<c then _ else Sv.rhsS rss.length t)=_
      rw[YF (by omega)]
      unfold Sv.rhsS
      rw[YF q']
end
section
variable {P:Program}{w:World}{K:W.Frag}{mg:Str->Option Value}{base:Heap}{C:Addr}
def multR (c:Nat)(rss:List (List Rat))(T:Sv.Tab)(i:Nat)(b:Int):List Rat:=(List.range rss.length).map fun k=>nrm (-(Sv.numAt c T i (c+k))*lcmB (rss.getD k [])) (b*T.b)
theorem Bd.zero (n:Nat):Bd n 0:=jz n
theorem TabOk.numBd {m n N i:Nat}{T:Sv.Tab}(h:TabOk m n T)(bd:TabBd N m n T)(hi:i<m)(v:Nat):Bd N (Sv.numAt n T i v):=by
 by_cases q:∃ j,j<n/\T.hd j=v
 ·obtain⟨j,hj,rfl⟩:=q
  rw[h.numH hj]
  exact bd.l i j hi (by omega)
 ·have:Sv.numAt n T i v=0:=Sv.sm_zero fun j hj=>YF fun z=>q ⟨j,hj,z⟩
  rw[this]
  exact Bd.zero N
def iK (K:W.Frag)(C:Addr):Sp:=fun vs H Q _=>∃ (l p:Addr) (c m lk i n N:Nat) (b:Int) (rss:List (List Rat)) (T:Sv.Tab),vs=[.int (c:Int),.ref l,.ref p,.int (T.own i:Int),.int b]/\RowsAt K H l rss/\TabAt C H p m c lk T/\TabOk m c T/\TabBd N m c T/\0<T.b/\i<m/\m<=900/\c<=900/\rss.length<=900/\(∀ rs∈rss,∃ D Ws,RepL n D Ws rs)/\0<b/\Bd n b/\n<=4000/\n+N<=8800 ∧
 ∀ (q:Addr) (xs:List V) (H':Hp),H q=none->Same H H'->H' q=some (.lst xs)->Rs K H' (multR c rss T i b) xs->Q (.ref q) H'
theorem Gd:FnScope ["count","rows","table","owner","bottom","told","number","row","top"] ["count","rows","table","owner","bottom"] (defScope kD):=fsc
theorem Z3k (D:Def K mg "shown_multiples" kD ["count","rows","table","owner","bottom"])(T0:Blt mg)(tc:TabC K mg C)(iW:Has P w K mg base 2 "number_at" ["table","owner","thing"] (iM C))(eB:Z6 P w K mg base)(fN:Has P w K mg base 3 "ratio" ["top","bottom"] eQ):Has P w K mg base 4 "shown_multiples" ["count","rows","table","owner","bottom"] (iK K C):=by
 refine D.has fun f fd F=>F.ok Gd (fun vs H Q E h=>?_) (fun cdv A outer s H vs Q E hr h=>?_)
 ·obtain⟨l,p,c,m,lk,i,n,N,b,rss,T,rfl,_⟩:=h
  rfl
 ·obtain⟨l,p,c,m,lk,i0,n,N,b,rss,Tb,rfl,⟨as,hl,hp⟩,tab,ok,bd,hb,hi0,hm,hc,hrl,hrs,hb0,bb,hn,hN,kk⟩:=h
  obtain⟨dx,la,oa,ha,las,h1,h2,h3,h4,h5,h6⟩:=id tab
  have sc:=Gd
  have T:=T0
  have lx:=JK hp
  refine⟨_,(Z9 (Zk (i:=5) sc.nd rfl (Or.inl rfl) (Wl Z8))
   (Z9 (V3 JR rfl (Qn rfl T.enumerate (Z0 (pv 1) Z8)) (V4 (n:=2) rfl (Yh (Zq (i:=6) sc.nd rfl (Or.inl rfl)) (Yh (Zq (i:=7) sc.nd rfl (Or.inl rfl)) Xr)))
    (Z9 (Zk (i:=8) sc.nd rfl (Or.inl rfl) (Zn Zw (Vy Xx (Zg iW hr (Z0 (pv 2) (Z0 (pv 3) (Z0 (Zn X1 (pv 0) (pv 6)) Z8))))) (Zg eB hr (Z0 (pv 7) Z8))))
    (Zd (W8 (Uq JA GE GF Xg (pv 5) (Z0 (Zg fN hr (Z0 (pv 8) (Z0 (Zn Zw (pv 4) (Yj (pv 2) rfl)) Z8))) Z8))))))
   (Zd (Zi (pv 5))))),?_⟩
  refine⟨sz0,fun d hd=>?_⟩
  refine⟨_,rfl,l,rfl,⟨_,SqL.of ((Same.new hd) _ _ hl)⟩,So (K:=K) (a:=l) (xs:=as.map V.ref) (fun i σ H'=>Same H H'/\∃ (xs:List V) (x y z:Option V),H' d=some (.lst xs)/\Rs K H' ((multR c rss Tb i0 b).take i) xs/\σ=[some (.int (c:Int)),some (.ref l),some (.ref p),some (.int (Tb.own i0:Int)),some (.int b),some (.ref d),x,y,z]) ⟨Same.new hd,[],none,none,none,Zc,.nil,rfl⟩ (fun i σ H' _ h=>SqL.of (h.1 _ _ hl)) ?_ ?_⟩
  ·rintro i v σ H1 pp hi ⟨S1,xs,x,y,z,hd1,rs1,rfl⟩ hpp
   have him:i<as.length:=by
    have:=(YG.mp hi).1
    rw[YC] at this
    exact this
   have ei:as[i]?=some (as[i]'him):=by simp
   have er:rss[i]?=some (rss[i]'(by omega)):=by simp
   have eg:rss.getD i []=rss[i]'(by omega):=by simp[List.getD,show i<rss.length by omega]
   rw[YD,ei] at hi
   cases hi
   refine⟨pp,_,rfl,SqT.of Zc,rfl,_,_,rfl,_,_,rfl,rfl,?_⟩
   have S2:Same H1 (upd H1 pp (.tup [.int (i:Int),.ref (as[i]'him)])):=Same.new hpp
   generalize upd H1 pp (.tup [.int (i:Int),.ref (as[i]'him)])=H2 at *
   have S02:=S1.trans S2
   obtain⟨us,hu1,hu2⟩:=(Paired.getB hp ei er).same S02
   obtain⟨Dr,Wr,rr⟩:=hrs _ (YL er)
   have lcb:=rr.least
   refine⟨_,rfl,_,rfl,_,rfl,_,rfl,_,_,rfl,rfl,p,m,c,lk,i0,c+i,Tb,rfl,tab.same S02,ok,hi0,by omega,by omega,_,rfl,_,rfl,_,us,_,n,Dr,Wr,rfl,.inr hu1,hu2,rr,by omega,_,_,rfl,rfl,((ok.numBd bd hi0 (c+i)).neg).mulOk lcb.bD (by omega) (by omega),?_⟩
   refine⟨_,rfl,.inl ⟨rfl,_,SqL.of (S2 _ _ hd1)⟩,_,rfl,_,rfl,_,rfl,p,C,dx,_,_,rfl,S02 _ _ h1,tc.cl,tc.nB,Vi,_,_,rfl,rfl,bb.mulOk bd.b (by omega) (by omega),?_⟩
   have hq0:b*Tb.b≠0:=by
    have:=YY hb0 hb
    omega
   refine⟨_,_,rfl,hq0,(bb.mul bd.b).log (by omega),fun a H3 f3 S3 e3=>?_⟩
   have hd3:=S3 _ _ (S2 _ _ hd1)
   refine⟨d,xs,_,rfl,rfl,hd3,?_,?_⟩
   ·have:=rs1.len
    rw[GI] at this
    exact Zv (show xs.length+1<=1000 by omega)
   refine⟨fun q o e=>?_,xs++[.ref a],_,_,_,Zc,?_,rfl⟩
   ·rw[Zf (Ze e hd)]
    exact S3 _ _ (S02 _ _ e)
   ·have e4:(multR c rss Tb i0 b)[i]?=some (nrm (-(Sv.numAt c Tb i0 (c+i))*lcmB (rss.getD i [])) (b*Tb.b)):=by
     unfold multR
     rw[YD,zD (show i<rss.length by omega)]
     rfl
    rw[Y2 e4]
    refine Paired.appP ((rs1.ext (Ext.same (S2.trans S3))).ext (Ext.upd hd3)) (.cons ⟨a,rfl,?_⟩ .nil)
    refine SqT.of ?_
    rw[Zf (fun z=>by rw[z] at e3;rw[e3] at hd3;cases hd3),eg]
    exact e3
  ·rintro σ H1 ⟨S1,xs,x,y,z,hd1,rs1,rfl⟩
   rw[YN (by unfold multR;simp[lx])] at rs1
   exact⟨_,rfl,kk d xs H1 hd S1 hd1 rs1⟩
end
end Sb
namespace Sv
def sN:Nat->(Nat->Nat)->Nat
 | 0,_=>0
 | n+1,f=>sN n f+f n
def pN:Nat->(Nat->Nat)->Nat
 | 0,_=>1
 | n+1,f=>pN n f*f n
theorem Z4q {f g:Nat->Nat}:∀ {n:Nat},(∀ k,k<n->f k<=g k)->sN n f<=sN n g
 | 0,_=>YE _
 | n+1,h=>Nat.add_le_add (Z4q fun k hk=>h k (by omega)) (h n (by omega))
theorem pN_le {f g:Nat->Nat}:∀ {n:Nat},(∀ k,k<n->f k<=g k)->pN n f<=pN n g
 | 0,_=>YE _
 | n+1,h=>Nat.mul_le_mul (pN_le fun k hk=>h k (by omega)) (h n (by omega))
theorem sN_congr {f g:Nat->Nat}:∀ {n:Nat},(∀ k,k<n->f k=g k)->sN n f=sN n g
 | 0,_=>rfl
 | n+1,h=>by
  show sN n f+f n=sN n g+g n
  rw[sN_congr (n:=n) fun k hk=>h k (by omega),h n (by omega)]
theorem Z03 (f:Nat->Nat)(b:Nat):∀ n,sN n (fun k=>f k*b)=sN n f*b
 | 0=>by show 0=0*b;rw[Nat.zero_mul]
 | n+1=>by
  show sN n (fun k=>f k*b)+f n*b=(sN n f+f n)*b
  rw[Z03 f b n,Nat.add_mul]
theorem G0 {f:Nat->Int}:∀ {n:Nat},(sm n f).natAbs<=sN n (fun k=>(f k).natAbs)
 | 0=>by show (0:Int).natAbs<=0;decide
 | n+1=>by
  show (sm n f+f n).natAbs<=sN n (fun k=>(f k).natAbs)+(f n).natAbs
  have:=G0 (f:=f) (n:=n)
  have:=Int.natAbs_add_le (sm n f) (f n)
  omega
theorem sN_const {f:Nat->Nat}{M:Nat}:∀ {n:Nat},(∀ k,k<n->f k<=M)->sN n f<=n*M
 | 0,_=>JY _
 | n+1,h=>by
  have h1:=sN_const (n:=n) (f:=f) (M:=M) fun k hk=>h k (by omega)
  have h2:=h n (by omega)
  show sN n f+f n<=(n+1)*M
  rw[Y0H]
  omega
section
variable {m n:Nat}{col:Nat->Vec}{rhs:Vec}{T:Tab}
def isW (n v:Nat):Nat:=if v<n then 1 else 0
end
end Sv
namespace Sb
open PySem L2
theorem Nt {rs:List Rat}{v:Nat}{r:Rat}(h:rs[v]?=some r):rowF rs v=r.1*(lcmB rs).fdiv r.2:=by
 unfold rowF rowZ wholeB
 simp[List.getD,h]
theorem Nr {n:Nat}{D:Int}{Ws:List Int}{rs:List Rat}(h:RepL n D Ws rs)(v:Nat):Bd n (rowF rs v):=by
 unfold rowF
 exact Md (fun z hz=>(h.least).bdW z hz) v
theorem Ve (c:Nat)(o:Option (Nat->Bool)):(papR c o).length=c:=by unfold papR;rw[Yd];simp
theorem Vd (c:Nat)(o:Option (Nat->Bool)):RepL 1 1 (cutZ o (List.replicate c 1)) (papR c o):=(RepL.ones c).cut o
theorem Z5e {c v:Nat}{o:Option (Nat->Bool)}(hv:v<c):rowF (papR c o) v=if inE o v then lcmB (papR c o) else 0:=by
 rw[Nt (show (papR c o)[v]?=some (if inE o v then (1,1) else (0,1)) from V0 (by simp[hv]))]
 cases inE o v <;> simp
theorem Z34 {c v:Nat}{o:Option (Nat->Bool)}(hv:v<c):0<=rowF (papR c o) v:=by
 rw[Z5e hv]
 have:=(Vd c o).least.pos
 split <;> omega
theorem Dw {c v:Nat}{o:Option (Nat->Bool)}{rs:List Rat}(hv:v<c)(hl:rs.length=c)(h:rowF (papR c o) v=0):rowF (cutR o rs) v=0:=by
 rw[Z5e hv] at h
 have:=(Vd c o).least.pos
 have e:inE o v=false:=by
  cases q:inE o v with
  | false=>rfl
  | true=>rw[q,YM rfl] at h;omega
 rw[Nt (V0 (show rs[v]?=some (rs[v]'(by omega)) by simp)),e]
 simp
abbrev InvR (c:Nat)(rss:List (List Rat))(o:Option (Nat->Bool))(gs:List Rat)(T:Sv.Tab):Prop:=Sv.InvS c rss.length (AOf rss) (rowF (papR c o)) (rowF gs) T
def bitsOf (n c g:Nat):Nat:=(n+5)*min c (g+2)+1
end Sb
namespace Sv
theorem Ln (f:Nat->Nat):∀ n,pN (n+1) f=f 0*pN n (fun r=>f (r+1))
 | 0=>by show 1*f 0=f 0*1;omega
 | n+1=>by
  show pN (n+1) f*f (n+1)=f 0*(pN n (fun r=>f (r+1))*f (n+1))
  rw[Ln f n,Nat.mul_assoc]
theorem Gu (f:Nat->Nat)(k:Nat):∀ m,sN m (fun i=>f (skip k i))<=sN (m+1) f
 | 0=>JY _
 | m+1=>by
  show sN m (fun i=>f (skip k i))+f (skip k m)<=sN (m+1) f+f (m+1)
  by_cases h:m<k
  ·have e:skip k m=m:=by unfold skip;split <;> omega
   have e2:sN m (fun i=>f (skip k i))=sN m f:=sN_congr fun i hi=>by
    have:skip k i=i:=by unfold skip;split <;> omega
    rw[this]
   rw[e,e2]
   show sN m f+f m<=sN m f+f m+f (m+1)
   omega
  ·have e:skip k m=m+1:=by unfold skip;split <;> omega
   have:=Gu f k m
   rw[e]
   omega
theorem Z2e:∀ {m:Nat} {v:Mat} {w:Nat->Nat},(∀ r,r<m->sN m (fun k=>(v k r).natAbs)<=w r)->(det m v).natAbs<=pN m w
 | 0,_,_,_=>by show (1:Int).natAbs<=1;decide
 | m+1,v,w,h=>by
  have key:(sm (m+1) (fun k=>sgn k*v k 0*det m (minor v k))).natAbs<=sN (m+1) (fun k=>(v k 0).natAbs*pN m (fun r=>w (r+1))):=by
   refine XQ G0 (Z4q fun k hk=>?_)
   show (sgn k*v k 0*det m (minor v k)).natAbs<=_
   rw[qg,qg,G3,Nat.one_mul]
   refine Y0U _ (Z2e (m:=m) fun r hr=>?_)
   exact XQ (Gu (fun i=>(v i (r+1)).natAbs) k m) (h (r+1) (by omega))
  refine XQ key ?_
  rw[Z03,Ln]
  exact GJ _ (h 0 (by omega))
section
variable {m n:Nat}{col:Nat->Vec}{rhs:Vec}{T:Tab}
theorem Inv.sizeR (I:Inv m n col rhs T){B:Nat->Nat}(hc:∀ v r,v<n+m->r<m->(col v r).natAbs<=B r)(hr:∀ r,r<m->(rhs r).natAbs<=B r){i j:Nat}(hi:i<m)(hj:j<=n):(T.L i j).natAbs<=pN m (fun r=>m*B r):=by
 rw[<-I.phi hi hj]
 refine Z2e fun r hr'=>sN_const fun k hk=>?_
 by_cases e:k=i
 ·subst e
  rw[Yi]
  by_cases hjn:j<n
  ·rw[Wq hjn]
   exact hc _ _ (I.hdLt hjn) hr'
  ·unfold colOf
   rw[YF hjn]
   exact hr r hr'
 ·rw[Y8 e]
  exact hc _ _ (I.ownLt hk) hr'
theorem Inv.sizeBR (I:Inv m n col rhs T){B:Nat->Nat}(hc:∀ v r,v<n+m->r<m->(col v r).natAbs<=B r):T.b.natAbs<=pN m (fun r=>m*B r):=by
 rw[<-I.dt]
 exact Z2e fun r hr'=>sN_const fun k hk=>hc _ _ (I.ownLt hk) hr'
theorem pN_two (x:Nat->Nat):∀ m,pN m (fun r=>2 ^ x r)=2 ^ sN m x
 | 0=>rfl
 | m+1=>by
  show pN m (fun r=>2 ^ x r)*2 ^ x m=2 ^ (sN m x+x m)
  rw[pN_two x m,Y0Q]
end
end Sv
namespace Sb
open PySem L2
theorem Z2s {c ng:Nat}{nb:Nat->Nat}{rss:List (List Rat)}{o:Option (Nat->Bool)}{gs:List Rat}{T:Sv.Tab}(hrs:∀ (r:Nat) (rs:List Rat),rss[r]?=some rs->∃ D Ws,RepL (nb r) D Ws rs)(hgs:∃ D Ws,RepL ng D Ws gs)(hm:rss.length+2<=32)(I:InvR c rss o gs T):TabBd (Sv.sN rss.length (fun r=>nb r+5)+ng+12) (rss.length+2) c T:=by
 have hcol:∀ v r,v<c+(rss.length+2)->r<rss.length+2->(Sv.colS c rss.length (AOf rss) (rowF (papR c o)) (rowF gs) v r).natAbs<=2 ^ (if r<rss.length then nb r else if r=rss.length then 1 else ng):=fun v r _ _=>by
  have p1:1<=2 ^ (if r<rss.length then nb r else if r=rss.length then 1 else ng):=jz _
  unfold Sv.colS
  split
  ·split
   ·rename_i h
    have er:rss[r]?=some (rss[r]'h):=by simp
    have eg:rss.getD r []=rss[r]'h:=by simp[List.getD,h]
    obtain⟨D,Ws,rp⟩:=hrs r _ er
    have:=Nr rp v
    unfold AOf
    rw[eg]
    exact JI this
   ·split
    ·exact JI (Nr (Vd c o) v)
    ·obtain⟨D,Ws,rp⟩:=hgs
     exact JI (Nr rp v)
  ·split
   ·exact p1
   ·exact JY _
 have hrhs:∀ r,r<rss.length+2->(Sv.rhsS rss.length r).natAbs<=2 ^ (if r<rss.length then nb r else if r=rss.length then 1 else ng):=fun r _=>by
  have p1:1<=2 ^ (if r<rss.length then nb r else if r=rss.length then 1 else ng):=jz _
  unfold Sv.rhsS
  split
  ·exact jz _
  ·exact JY _
 have fin:∀ x,x<=Sv.pN (rss.length+2) (fun r=>(rss.length+2)*2 ^ (if r<rss.length then nb r else if r=rss.length then 1 else ng))->x<2 ^ (Sv.sN rss.length (fun r=>nb r+5)+ng+12):=fun x h=>by
  have h2:Sv.pN (rss.length+2) (fun r=>(rss.length+2)*2 ^ (if r<rss.length then nb r else if r=rss.length then 1 else ng))<=Sv.pN (rss.length+2) (fun r=>2 ^ ((if r<rss.length then nb r else if r=rss.length then 1 else ng)+5)):=Sv.pN_le fun r _=>by
   show (rss.length+2)*2 ^ _<=2 ^ (_+5)
   rw[Y0Q,Y04]
   exact Y0U _ (show rss.length+2<=2 ^ 5 by omega)
  rw[Sv.pN_two] at h2
  refine JZ (XQ h h2) (Nat.pow_lt_pow_right (by decide) ?_)
  show Sv.sN rss.length (fun r=>(if r<rss.length then nb r else if r=rss.length then 1 else ng)+5)+((if rss.length<rss.length then nb rss.length else if rss.length=rss.length then 1 else ng)+5)+((if rss.length+1<rss.length then nb (rss.length+1) else if rss.length+1=rss.length then 1 else ng)+5)<_
  have e:Sv.sN rss.length (fun r=>(if r<rss.length then nb r else if r=rss.length then 1 else ng)+5)=Sv.sN rss.length (fun r=>nb r+5):=Sv.sN_congr fun k hk=>by rw[YM hk]
  rw[e,YF (XO _),YM rfl,YF (by omega),YF (by omega)]
  omega
 exact⟨fun i j hi hj=>fin _ (I.sizeR hcol hrhs hi hj),fin _ (I.sizeBR hcol)⟩
section
variable {P:Program}{w:World}{K:W.Frag}{mg:Str->Option Value}{base:Heap}{C:Addr}
structure NoneT (c:Nat)(rss:List (List Rat))(o:Option (Nat->Bool))(gs:List Rat)(T:Sv.Tab):Prop where
 inv:InvR c rss o gs T
 lk:T.own rss.length=c+rss.length
 aim:T.own (rss.length+1)=c+rss.length+1
 no:∀ j,j<c->T.hd j≠c+rss.length->T.L rss.length j<=0
structure MostT (c:Nat)(rss:List (List Rat))(o:Option (Nat->Bool))(gs:List Rat)(T:Sv.Tab):Prop where
 inv:InvR c rss o gs T
 feas:Sv.Feas (rss.length+2) c (c+rss.length) T
 aim:T.own (rss.length+1)=c+rss.length+1
 lk:∃ jl,jl<c/\T.hd jl=c+rss.length
 no:∀ j,j<c->T.hd j≠c+rss.length->T.L (rss.length+1) j<=0
def loadsR (c g:Nat)(T:Sv.Tab):List Rat:=(List.range c).map fun v=>nrm (Sv.endOf (g+2) c T v) T.b
def valueR (c g:Nat)(gs:List Rat)(T:Sv.Tab):Rat:=nrm (-Sv.endOf (g+2) c T (c+g+1)) (lcmB gs*T.b)
theorem Sf {H H':Hp}{q:Addr}(S:Same H H')(h:H' q=none):H q=none:=by
 cases z:H q with
 | none=>rfl
 | some o =>
  have:=S _ _ z
  rw[h] at this
  cases this
def i5 (K:W.Frag):Sp:=fun vs H Q _=>∃ (l g:Addr) (ve:V) (c n N:Nat) (rss:List (List Rat)) (o:Option (Nat->Bool)) (as:List Rat),vs=[.int (c:Int),.ref l,ve,.ref g]/\RowsAt K H l rss/\EvAt K H c o ve/\RowAt K H g as/\as.length=c/\(∀ rs∈rss,rs.length=c/\∃ D Ws,RepL n D Ws rs)/\(∃ D Ws,RepL n D Ws as)/\1<=n/\n<=4000/\N<=8000/\n+N<=8800/\(∀ T':Sv.Tab,InvR c rss o (cutR o as) T'->TabBd N (rss.length+2) c T')/\1<=c/\c<=800/\rss.length+2<=32 ∧
 (∀ (T:Sv.Tab) (q t:Addr) (xs:List V) (H':Hp),H q=none->Same H H'->NoneT c rss o (cutR o as) T->H' q=some (.lst xs)->Rs K H' (multR c rss T rss.length 1) xs->SqT K H' t [.str "none",.ref q]->Q (.ref t) H') ∧
 (∀ (T:Sv.Tab) (q t va lo:Addr) (xs:List V) (H':Hp),H q=none->Same H H'->MostT c rss o (cutR o as) T->H' q=some (.lst xs)->Rs K H' (multR c rss T (rss.length+1) (lcmB (cutR o as))) xs->IsR K H' (valueR c rss.length (cutR o as) T) (.ref va)->RowAt K H' lo (loadsR c rss.length T)->SqT K H' t [.str "most",.ref va,.ref lo,.ref q]->Q (.ref t) H')
theorem Gb:FnScope ["count","rows","event","aim","goal","lack","table","bottom","value","loads"] ["count","rows","event","aim"] (defScope mB):=fsc
abbrev Z3 (P:Program)(w:World)(K:W.Frag)(mg:Str->Option Value)(base:Heap):Prop:=Has P w K mg base 5 "solve" ["count","rows","event","aim"] (i5 K)
theorem Z0u (D:Def K mg "solve" mB ["count","rows","event","aim"])(T0:Blt mg)(tc:TabC K mg C)(iD:Has P w K mg base 2 "cut" ["row","event"] (gZ K))(j1:Has P w K mg base 4 "start" ["count","rows","event","goal"] (iH K C))(iU:Has P w K mg base 4 "driven" ["table","owner"] (gY C))(eP:Has P w K mg base 4 "shown_multiples" ["count","rows","table","owner","bottom"] (iK K C))(eB:Z6 P w K mg base)(fN:Has P w K mg base 3 "ratio" ["top","bottom"] eQ)(jL:Has P w K mg base 2 "end_of" ["table","thing"] (iT C)):Z3 P w K mg base:=by
 refine D.has fun f fd F=>F.ok Gb (fun vs H Q E h=>?_) (fun cdv A outer s H vs Q E hr h=>?_)
 ·obtain⟨l,g,ve,c,n,N,rss,o,as,rfl,_⟩:=h
  rfl
 ·obtain⟨l,g,ve,c,n,N,rss,o,as,rfl,hR,hv,hg,gl,hrs,⟨Da,Wa,ra⟩,hn1,hn,hbits,hnN,hbd,hc2,hc,hm,kN,kM⟩:=h
  have sc:=Gb
  have T:=T0
  have nd1:(["world","table"]:List Str).Nodup:=by decide +kernel
  refine⟨_,(Z9 (Zk (i:=4) sc.nd rfl (Or.inl rfl) (Zg iD hr (Z0 (pv 3) (Z0 (pv 2) Z8))))
   (Z9 (Zk (i:=5) sc.nd rfl (Or.inl rfl) (Zn X1 (pv 0) (Y1 Yb rfl T.len zu (Z0 (pv 1) Z8))))
   (Z9 (Zk (i:=6) sc.nd rfl (Or.inr rfl) (Zg iU hr (Z0 (Zg j1 hr (Z0 (pv 0) (Z0 (pv 1) (Z0 (pv 2) (Z0 (pv 4) Z8))))) (Z0 (pv 5) Z8))))
   (Z9 (Yc (Zo Wh (pv 5) (Yj (pv 6) rfl) rfl)
    (Zd (Zi (Y9 (Z0 X7 (Z0 (Zg eP hr (Z0 (pv 0) (Z0 (pv 1) (Z0 (pv 6) (Z0 (pv 5) (Z0 Za Z8)))))) Z8)))))
    Zu)
   (Z9 (Zk (i:=6) sc.nd rfl (Or.inr rfl) (Zg iU hr (Z0 (pv 6) (Z0 (Zn X1 (pv 5) Za) Z8))))
   (Z9 (Zk (i:=7) sc.nd rfl (Or.inl rfl) (Zg eB hr (Z0 (pv 4) Z8)))
   (Z9 (Zk (i:=8) sc.nd rfl (Or.inl rfl) (Zg fN hr (Z0 (Vy Xx (Zg jL hr (Z0 (pv 6) (Z0 (Zn X1 (pv 5) Za) Z8)))) (Z0 (Zn Zw (pv 7) (Yj (pv 6) rfl)) Z8))))
   (Z9 (Zk (i:=9) sc.nd rfl (Or.inl rfl) (Y0 Zz rfl T.tuple YX (Z0 (Yl (N:=["world","table"]) (k:=1) (fv:=[6]) rfl (Yz rfl T.range (Z0 (pv 0) Z8))
   (fun _ _ _ _ _=>Zq (i:=0) nd1 rfl (Or.inl rfl)) (fun _ _ _ _ _=>Ye) (fun _ _ _ _ _=>(Zg fN hr (Z0 (Zg jL hr (Z0 (pv 1) (Z0 (pv 0) Z8))) (Z0 (Nz (K:=K) (pv 1) rfl) Z8)))) Zx) Z8)))
   (Zd (Zi (Y9 (Z0 X7 (Z0 (pv 8) (Z0 (pv 9) (Z0 (Zg eP hr (Z0 (pv 0) (Z0 (pv 1) (Z0 (pv 6) (Z0 (Zn X1 (pv 5) Za) (Z0 (pv 7) Z8)))))) Z8))))))))))))))),?_⟩
  have ev':EvAt K H as.length o ve:=by rw[gl];exact hv
  refine⟨_,rfl,_,rfl,g,ve,as,o,rfl,hg,ev',by omega,fun pg H1 S1 rg=>?_⟩
  obtain⟨ads,hl,hp⟩:=id hR
  have elen:(ads.map V.ref).length=rss.length:=by rw[YC];exact JK hp
  have gl':(cutR o as).length=c:=by rw[Yd];exact gl
  refine⟨_,rfl,_,rfl,l,_,rfl,.inl (SqL.of (S1 _ _ hl)),?_⟩
  rw[elen]
  refine⟨_,_,rfl,rfl,?_⟩
  refine⟨_,rfl,_,rfl,_,rfl,_,rfl,l,pg,ve,c,n,rss,o,cutR o as,rfl,⟨ads,S1 _ _ hl,Yy hp (Ext.same S1)⟩,hv.same S1,rg,gl',hrs,⟨_,_,ra.cut o⟩,hn1,by omega,hc2,hc,by omega,fun q2 H2 S2 tab2=>?_⟩
  refine⟨_,rfl,q2,rss.length+2,c,c+rss.length,rss.length,N,c+rss.length,Sv.colS c rss.length (AOf rss) (rowF (papR c o)) (rowF (cutR o as)),Sv.rhsS rss.length,(fun T'=>T'.own (rss.length+1)=c+rss.length+1),_,rfl,tab2,by omega,by omega,by omega,hbits,Sv.inv0,Sv.feas0,rfl,rfl,hbd,fun T' c' I' F' X' ho hc' hnl hpos=>⟨rss.length,by omega,by rw[ho];exact YE _,hpos⟩,fun T' pl c' I' X' st=>?_,fun q3 H3 T3 S3 tab3 ⟨I3,F3,X3,alt⟩=>?_⟩
  ·have:pl≠rss.length+1:=fun z=>by
    have:=st.el
    rw[z,X'] at this
    omega
   show (Sv.piv T' pl c').own (rss.length+1)=_
   rw[Sv.own_ne (XN this)]
   exact X'
  have S03:=(S1.trans S2).trans S3
  obtain⟨dx,la,oa,ha,las,h1,h2,h3,h4,h5,h6⟩:=id tab3
  refine⟨_,rfl,_,rfl,q3,C,dx,_,_,rfl,h1,tc.cl,tc.nO,X4,M9 h5 ⟨_,rfl,?_⟩⟩
  rcases alt with ⟨ho,hno⟩ | ⟨T1,c1,ho,I1,st,e3⟩
  ·refine Xe (fun _=>?_) (fun h=>absurd (XX (mem_ownI.mpr ⟨rss.length,by omega,ho⟩)) h)
   refine⟨_,rfl,_,rfl,_,rfl,_,rfl,l,q3,c,rss.length+2,c+rss.length,rss.length,n,N,1,rss,T3,by rw[ho];rfl,⟨ads,S03 _ _ hl,Yy hp (Ext.same S03)⟩,tab3,TabOk.of I3,hbd _ I3,I3.pos,by omega,by omega,by omega,by omega,fun rs hr=>(hrs rs hr).2,by decide,(show Bd n 1 from YW (show (1:Int).natAbs<2 ^ 1 by decide) (qf (by decide) hn1)),hn,hnN,fun q4 xs H4 f4 S4 e4 r4=>?_⟩
   refine⟨sz2,fun t ht=>?_⟩
   have S5:=Same.new (o:=.tup [.str "none",.ref q4]) ht
   exact kN T3 q4 t xs _ (Sf S03 f4) ((S03.trans S4).trans S5) ⟨I3,ho,X3,hno⟩ (S5 _ _ e4) (r4.ext (Ext.same S5)) (SqT.of Zc)
  ·subst e3
   have hlk:∃ jl,jl<c/\(Sv.piv T1 rss.length c1).hd jl=c+rss.length:=⟨c1,st.hc,by
    show Sv.up T1.hd c1 (T1.own rss.length) c1=_
    unfold Sv.up
    rw[YM rfl]
    exact ho⟩
   generalize Sv.piv T1 rss.length c1=T3 at *
   refine Xe (fun h=>?_) (fun _=>?_)
   ·obtain⟨i,hi,e⟩:=mem_ownI.mp (XI h)
    obtain⟨jl,hjl,ej⟩:=hlk
    exact absurd (e.trans ej.symm) (I3.ne hi hjl)
   ·have ok3:=TabOk.of I3
    refine⟨_,rfl,_,rfl,_,_,rfl,rfl,q3,rss.length+2,c,c+rss.length,rss.length+1,N,c+rss.length+1,Sv.colS c rss.length (AOf rss) (rowF (papR c o)) (rowF (cutR o as)),Sv.rhsS rss.length,(fun T'=>∃ jl,jl<c/\T'.hd jl=c+rss.length),T3,rfl,tab3,by omega,by omega,by omega,hbits,I3,F3,hlk,X3,hbd,fun T' c' I' F' X' ho' hc' hnl hpos=>?_,fun T' pl c' I' X' st'=>?_,fun q5 H5 T5 S5 tab5 ⟨I5,F5,X5,alt⟩=>?_⟩
    ·obtain⟨jl,hjl,ej⟩:=X'
     obtain⟨k,hk,h7,h8⟩:=Sv.InvS.bounded I' (fun v hv=>Z34 hv) (fun v hv z=>Dw hv gl z) (i:=rss.length+1) (by omega) ho' hjl ej hc' hnl hpos
     exact⟨k,hk,h7,h8⟩
    ·obtain⟨jl,hjl,ej⟩:=X'
     refine⟨jl,hjl,?_⟩
     show Sv.up T'.hd c' (T'.own pl) jl=_
     unfold Sv.up
     rw[YF (fun z=>st'.nl (by rw[<-z];exact ej))]
     exact ej
    have ho5:T5.own (rss.length+1)=c+rss.length+1/\∀ j,j<c->T5.hd j≠c+rss.length->T5.L (rss.length+1) j<=0:=by
     rcases alt with h | ⟨T6,c6,h7,_,st6,_⟩
     ·exact h
     ·have:=st6.el
      omega
    have S05:=S03.trans S5
    have bd5:=hbd _ I5
    have ok5:=TabOk.of I5
    have gr:=(ra.cut o).least
    obtain⟨xg,hg1,hg2⟩:=rg.same ((S2.trans S3).trans S5)
    obtain⟨dx5,la5,oa5,ha5,las5,t1,t2,t3,t4,t5,t6⟩:=id tab5
    refine⟨_,rfl,pg,xg,cutR o as,n,_,_,rfl,.inr hg1,hg2,ra.cut o,by omega,?_⟩
    have hq0:lcmB (cutR o as)*T5.b≠0:=by
     have:=YY gr.pos I5.pos
     omega
    refine⟨_,rfl,_,rfl,_,_,rfl,rfl,q5,rss.length+2,c,c+rss.length,c+rss.length+1,T5,rfl,tab5,ok5,by omega,by omega,_,rfl,_,rfl,_,rfl,q5,C,dx5,_,_,rfl,t1,tc.cl,tc.nB,Vi,_,_,rfl,rfl,gr.bD.mulOk bd5.b (by omega) (by omega),_,_,rfl,hq0,(gr.bD.mul bd5.b).log (by omega),fun va H6 f6 S6 e6=>?_⟩
    have S06:=S05.trans S6
    have t1':=S6 _ _ t1
    refine⟨_,rfl,(c:Int),rfl,(by omega),(by omega),fun d hd=>?_⟩
    have et:(c:Int).toNat=c:=by omega
    rw[et]
    refine⟨c,fun i ys H2=>Same H6 H2/\Rs K H2 ((loadsR c rss.length T5).take i) ys,Zv (by omega),⟨Same.new hd,.nil⟩,?_,?_⟩
    ·rintro i ys H7 hi ⟨S7,r7⟩ hd7
     refine⟨hi,?_⟩
     rintro x H8 ⟨rfl,rfl⟩
     refine Yk ?_
     have S57:=S6.trans S7
     refine⟨_,rfl,_,rfl,q5,rss.length+2,c,c+rss.length,i,T5,by rw[Int.zero_add];rfl,tab5.same S57,ok5,by omega,by omega,_,rfl,q5,C,dx5,_,_,rfl,S57 _ _ t1,tc.cl,tc.nB,Vi,_,_,rfl,by have:=I5.pos;omega,bd5.b.log (by omega),fun a8 H8 f8 S8 e8=>?_⟩
     have hd8:=S8 _ _ hd7
     refine⟨hd8,fun q z e=>?_,?_⟩
     ·rw[Zf (Ze e hd)]
      exact S8 _ _ (S7 _ _ e)
     ·have e4:(loadsR c rss.length T5)[i]?=some (nrm (Sv.endOf (rss.length+2) c T5 i) T5.b):=by
       unfold loadsR
       rw[YD,zD hi]
       rfl
      rw[Y2 e4]
      refine ((r7.ext (Ext.same S8)).ext (Ext.upd hd8)).snoc ⟨a8,rfl,SqT.of ?_⟩
      rw[Zf (fun z=>by rw[z] at e8;rw[e8] at hd8;cases hd8)]
      exact e8
    ·rintro ys H7 ⟨S7,r7⟩ hd7
     rw[YN (by unfold loadsR;simp)] at r7
     refine⟨YE _,d,ys,rfl,.inl ⟨SqL.of hd7,fun lo hlo=>?_⟩⟩
     have S8:=S7.trans (Same.new (o:=.tup ys) hlo)
     have row8:RowAt K (upd H7 lo (.tup ys)) lo (loadsR c rss.length T5):=⟨ys,SqT.of Zc,r7.ext (Ext.new hlo)⟩
     generalize upd H7 lo (.tup ys)=H8 at *
     have S08:=S06.trans S8
     have S58:=S6.trans S8
     refine⟨_,rfl,_,rfl,_,rfl,_,rfl,_,rfl,_,rfl,_,_,rfl,rfl,_,rfl,l,q5,c,rss.length+2,c+rss.length,rss.length+1,n,N,lcmB (cutR o as),rss,T5,by rw[ho5.1];rfl,⟨ads,S08 _ _ hl,Yy hp (Ext.same S08)⟩,tab5.same S58,ok5,bd5,I5.pos,by omega,by omega,by omega,by omega,fun rs hr=>(hrs rs hr).2,gr.pos,gr.bD,hn,hnN,fun q9 xs H9 f9 S9 e9 r9=>?_⟩
     refine⟨sz4,fun t ht=>?_⟩
     have SX:=Same.new (o:=.tup [.str "most",.ref va,.ref lo,.ref q9]) ht
     refine kM T5 q9 t va lo xs _ (Sf S08 f9) ((S08.trans S9).trans SX) ⟨I5,F5,ho5.1,X5,ho5.2⟩ (SX _ _ e9) (r9.ext (Ext.same SX)) ⟨va,rfl,SqT.of (SX _ _ (S9 _ _ (S8 _ _ e6)))⟩ ((row8.same S9).same SX) (SqT.of Zc)
end
open Sv (sm Y5 Xm Yw sm_zero Y4 Y3 U0)
theorem Z1q {c:Nat}{o:Option (Nat->Bool)}:lcmB (papR c o)=1:=by
 have h:∀ r∈papR c o,0<r.2:=fun r hr=>((Vd c o).good r hr).pos
 obtain⟨h1,_,h3⟩:=Sj h
 have h4:=h3 1 fun r hr=>by
  obtain⟨i,hi⟩:=XB hr
  have hc:i<c:=by
   have:=(YG.mp hi).1
   rw[Ve] at this
   exact this
  have e:(papR c o)[i]?=some (if inE o i then (1,1) else (0,1)):=V0 (by simp[hc])
  rw[e] at hi
  cases hi
  cases inE o i <;> exact Int.one_dvd 1
 have:=Xb (by decide) h4
 omega
theorem TabOk.endBd {m n N:Nat}{T:Sv.Tab}(h:TabOk m n T)(bd:TabBd N m n T)(v:Nat):Bd N (Sv.endOf m n T v):=by
 by_cases q:∃ i,i<m/\T.own i=v
 ·obtain⟨i,hi,rfl⟩:=q
  rw[h.endO hi]
  exact bd.l i n hi (YE _)
 ·have:Sv.endOf m n T v=0:=Sv.sm_zero fun i hi=>YF fun z=>q ⟨i,hi,z⟩
  rw[this]
  exact Bd.zero N
def endZ (c g:Nat)(T:Sv.Tab):List Int:=(List.range c).map fun v=>Sv.endOf (g+2) c T v
theorem Cf {c g N:Nat}{T:Sv.Tab}(pos:0<T.b)(ok:TabOk (g+2) c T)(bd:TabBd N (g+2) c T):RepL N T.b (endZ c g T) (loadsR c g T) :=
 RepL.of_map pos bd.b (List.range c) _ _ fun v _=>⟨Xd _ _,ok.endBd bd v,Yu (by omega)⟩
theorem Uj {r:Rat}{D W:Int}(hD:0<D)(hr:0<r.2)(h:r.1*D=W*r.2):(0<=r.1 ↔ 0<=W)/\(r.1<=0 ↔ W<=0)/\(r.1=0 ↔ W=0):=by
 have a1:0<r.1->0<W:=fun z=>by
  have h1:=YY z hD
  rw[h] at h1
  apply YU
  intro q
  have:=GG (show W<=0 by omega) (show 0<=r.2 by omega)
  omega
 have a2:r.1<0->W<0:=fun z=>by
  have h1:=YY (show 0 < -r.1 by omega) hD
  rw[Y0v,h] at h1
  apply YU
  intro q
  have:=qu (show 0<=W by omega) (show 0<=r.2 by omega)
  omega
 have a3:r.1=0->W=0:=fun z=>by
  rw[z,zo] at h
  rcases Int.mul_eq_zero.mp h.symm with q | q <;> omega
 omega
theorem MostT.sv {c:Nat}{rss:List (List Rat)}{o:Option (Nat->Bool)}{gs:List Rat}{T:Sv.Tab}(h:MostT c rss o gs T):Sv.Most c rss.length (AOf rss) (rowF (papR c o)) (rowF gs) T (rss.length+1):=by
 obtain⟨jl,hjl,ej⟩:=h.lk
 exact Sv.InvS.most h.inv h.feas (by omega) h.aim hjl ej h.no
theorem NoneT.sv {c:Nat}{rss:List (List Rat)}{o:Option (Nat->Bool)}{gs:List Rat}{T:Sv.Tab}(h:NoneT c rss o gs T):(∀ k,k<rss.length->Sv.numAt c T rss.length (c+k)<=0)/\∀ w,w<c->rowF (papR c o) w*T.b<=sm rss.length (fun k=>AOf rss k w * -Sv.numAt c T rss.length (c+k)) :=
 Sv.InvS.none h.inv (by omega) h.lk (ia:=rss.length+1) (by omega) h.aim h.no
end Sb
namespace Sb
open PySem L2
def TabHere (K:W.Frag)(mg:Str->Option Value):Prop:=∃ (C f:Addr) (fd:FuncData),TabC K mg C/\Mk K C f/\Fun K "__init__" "Table.__init__" kC f fd/\Binds K fd ["self","lines","owners","heads","bottom","lack"] []
theorem Z6y {us:List PySem.Value}(h:us.length=6):∃ a0 a1 a2 a3 a4 a5,us=[a0,a1,a2,a3,a4,a5]:=by
 match us,h with
 | [a0,a1,a2,a3,a4,a5],_=>exact⟨a0,a1,a2,a3,a4,a5,rfl⟩
theorem Z51 {K:W.Frag}{h:Heap}{mg:Str->Option Value}{C f:Addr}{oc:Value}{od an:Option Addr}{sl:Array (Option Value)}{kV dc pm cd ct:Value}(X:K.In h)(G:h.Ns mainGlobals mg)
  (aC:W.nsIn K mainGlobals "Table"=some (some (.ref C)))
  (a1:W.findIn K (.ref C) "__init__"=some (some (.ref f))) (i1:W.isFn K (.ref f)=true) (l1:K.lookup f=some ⟨oc,od,.func (W.fnOf "__init__" "Table.__init__" (defArgs kC) (defBody kC) (defScope kC) .none kV dc pm an cd ct),sl⟩) (c1:W.codeIn K cd "Table.__init__"=true) (k1:W.keepIn K (.ref f)=true)
  (pg:W.plainGet K C Str.empty=true) (hd:W.hasDictIn K C=true) (po:W.plainOver K C=true) (sa:W.findIn K (.ref C) "__setattr__"=some (some (.builtin "object.__setattr__"))) (mk:W.makesIn K C=true) (kc:W.keepIn K (.ref C)=true)
  (nL:W.findIn K (.ref C) "lines"=some none) (nO:W.findIn K (.ref C) "owners"=some none) (nH:W.findIn K (.ref C) "heads"=some none) (nB:W.findIn K (.ref C) "bottom"=some none) (nK:W.findIn K (.ref C) "lack"=some none):TabHere K mg :=
 ⟨C,f,_,⟨⟨pg,hd,po,sa⟩,nL,nO,nH,nB,nK,Y0s X G aC⟩,⟨mk,a1,i1,kc⟩,Sn l1 c1 k1,(Sn l1 c1 k1).binds fun _ _ _ _ _ _ us hl=>by obtain⟨a0,a1,a2,a3,a4,a5,rfl⟩:=Z6y hl;rfl⟩
def gM (K:W.Frag):Sp:=fun vs H Q _=>∃ (a b:Addr) (xs us:List V) (ws rs:List Rat) (n n':Nat) (D D':Int) (Ws Zs:List Int),vs=[.ref a,.ref b]/\(SqL K H a xs \/ SqT K H a xs)/\Rs K H ws xs/\(SqL K H b us \/ SqT K H b us)/\Rs K H rs us/\ws.length=rs.length/\rs.length<=1000/\RepL n D Ws ws/\RepL n' D' Zs rs/\n+n'+10<=4000 ∧
 ∀ c H',Same H H'->SqT K H' c [.int (sumR (List.zipWith mulR' ws rs)).1,.int (sumR (List.zipWith mulR' ws rs)).2]->Q (.ref c) H'
section
variable {P:Program}{w:World}{K:W.Frag}{mg:Str->Option Value}{base:Heap}
theorem Lc:FnScope ["_law_weights_here","_law_row_here","_law_come","_law_k"] ["_law_weights_here","_law_row_here"] (defScope mI):=fsc
theorem Z15 (D:Def K mg "_law_mean" mI ["_law_weights_here","_law_row_here"])(T:Blt mg)(eH:Z7 P w K mg base)(iX:Has P w K mg base 3 "_law_times" ["_law_one","_law_other"] (eL K mulR')) :
  Has P w K mg base 4 "_law_mean" ["_law_weights_here","_law_row_here"] (gM K):=by
 refine D.has fun f fd F=>F.ok Lc (fun vs H Q E h=>?_) (fun cdv A outer s H vs Q E hr h=>?_)
 ·obtain⟨a,b,xs,us,ws,rs,n,n',D,D',Ws,Zs,rfl,_⟩:=h
  rfl
 ·obtain⟨a,b,xs,us,ws,rs,n,n',D,D',Ws,Zs,rfl,hA,hWs,hB,hRs,hl,hl2,rw_,rr,hnn,k⟩:=h
  have sc:=Lc
  refine⟨_,(Z9 (Zk (i:=2) sc.nd rfl (Or.inl rfl) (Y9 (Z0 Za (Z0 Za Z8))))
   (Z9 (V3 JR rfl (Yz rfl T.range (Z0 (Y1 Yb rfl T.len zu (Z0 (pv 1) Z8)) Z8)) (Zq (i:=3) sc.nd rfl (Or.inl rfl))
    (Zd (Zk (i:=2) sc.nd rfl (Or.inl rfl) (Zg eH hr (Z0 (pv 2) (Z0 (Zg iX hr (Z0 (Zj Jn (pv 0) (pv 3) (fun _ _=>rfl)) (Z0 (Zj Jn (pv 1) (pv 3) (fun _ _=>rfl)) Z8))) Z8))))))
   (Zd (Zi (pv 2))))),?_⟩
  refine⟨sz2,fun p hp=>?_⟩
  have lx:=hWs.len
  have lu:=hRs.len
  have S0:Same H (upd H p (.tup [.int 0,.int 1])):=Same.new hp
  have rm:=rw_.mul rr hl
  have lz:(List.zipWith mulR' ws rs).length=rs.length:=by rw[JF];omega
  have anyS:∀ {c:Addr} {ys:List V} {H1:Hp},Same H H1->(SqL K H c ys \/ SqT K H c ys)->(SqL K H1 c ys \/ SqT K H1 c ys):=fun S h=>h.elim (fun z=>.inl (W5 S z)) fun z=>.inr (Zl S z)
  refine⟨_,rfl,b,us,rfl,anyS S0 hB,(us.length:Int),rfl,(by omega),(by omega),?_⟩
  have et:(us.length:Int).toNat=us.length:=by omega
  rw[et]
  refine Nb (lo:=0) (n:=us.length) (fun i σ H'=>Same H H'/\∃ (c:Addr) (x:Option V),σ=[some (.ref a),some (.ref b),some (.ref c),x]/\SqT K H' c [.int (sumR ((List.zipWith mulR' ws rs).take i)).1,.int (sumR ((List.zipWith mulR' ws rs).take i)).2]) ⟨S0,p,none,rfl,SqT.of Zc⟩ ?_ ?_
  ·rintro i σ H1 hi ⟨S1,c,x0,rfl,hc⟩
   have e0:(0+(i:Int))=((i:Nat):Int):=by omega
   rw[e0]
   have hir:i<ws.length:=by omega
   have his:i<rs.length:=by omega
   have er:ws[i]?=some ws[i]:=by simp[hir]
   have es:rs[i]?=some rs[i]:=by simp[his]
   obtain⟨x1,ex,ix⟩:=hWs.at er
   obtain⟨y1,ey,iy⟩:=hRs.at es
   obtain⟨a1,rfl,sq1⟩:=ix.ext (Ext.same S1)
   obtain⟨b1,rfl,sq2⟩:=iy.ext (Ext.same S1)
   refine⟨_,rfl,_,rfl,_,rfl,a,xs,_,_,rfl,rfl,anyS S1 hA,Zh ex,_,rfl,_,rfl,b,us,_,_,rfl,rfl,anyS S1 hB,Zh ey,?_⟩
   refine⟨a1,b1,ws[i],rs[i],n+n'+10,rfl,sq1,sq2,(rw_.good _ (YZ hir)).mono (by omega),(rr.good _ (YZ his)).mono (by omega),by omega,fun c2 H2 f2 S2 e2=>?_⟩
   have ez:(List.zipWith mulR' ws rs)[i]?=some (mulR' ws[i] rs[i]):=by rw[GW,er,es]
   refine⟨c,c2,_,mulR' ws[i] rs[i],n+n'+10,rfl,Zl S2 hc,SqT.of e2,(rm.take i).sumGood (k:=10) (by rw[GI];omega),(rm.good _ (YL ez)).mono (by omega),hnn,fun c3 H3 f3 S3 e3=>?_⟩
   refine⟨(S1.trans S2).trans S3,c3,_,rfl,?_⟩
   rw[Ps ez]
   exact SqT.of e3
  ·rintro σ H1 ⟨S1,c,x0,rfl,hc⟩
   rw[YN (by omega)] at hc
   exact⟨_,rfl,k c H1 S1 hc⟩
def gN (K:W.Frag):Sp:=fun vs H Q _=>∃ (b:Addr) (c n:Nat),vs=[.ref b,.int c]/\BagAt H b n/\n<=100000/\c<=1000 ∧
 ∀ (v:V) (H':Hp) (o:Option (Nat->Bool)),BagAt H' b (n+c+1)->SameX b H H'->EvAt K H' c o v->Q v H'
theorem Gp:FnScope ["_law_bag_here","_law_count"] ["_law_bag_here","_law_count"] (defScope mM):=fsc
theorem Z3w (D:Def K mg "_law_event" mM ["_law_bag_here","_law_count"])(T:Blt mg)(eA:Z2 P w K mg base):Has P w K mg base 2 "_law_event" ["_law_bag_here","_law_count"] (gN K):=by
 refine D.has fun f fd F=>F.ok Gp (fun vs H Q E h=>?_) (fun cdv A outer s H vs Q E hr h=>?_)
 ·obtain⟨b,c,n,rfl,_⟩:=h
  rfl
 ·obtain⟨b,c,n,rfl,hB,hn,hl,k⟩:=h
  have sc:=Gp
  have nd1:(["_law_k","_law_bag_here"]:List Str).Nodup:=by decide +kernel
  refine⟨_,(Z9 (Yc (Zo Xk (Zg eA hr (Z0 (pv 0) (Z0 Za Z8))) Za (Zt _))
    (Zd (Zi Yn))
    Zu)
   (Zd (Zi (Y0 Zz rfl T.tuple YX (Z0 (Yl (N:=["_law_k","_law_bag_here"]) (k:=1) (fv:=[0]) rfl (Yz rfl T.range (Z0 (pv 1) Z8))
   (fun _ _ _ _ _=>Zq (i:=0) nd1 rfl (Or.inl rfl)) (fun _ _ _ _ _=>Rl (Zo Xk (Zg eA hr (Z0 (pv 1) (Z0 Za Z8))) Za (Zt _))) (fun _ _ _ _ _=>(pv 0)) Zx) Z8))))),?_⟩
  refine⟨_,rfl,b,_,_,rfl,hB,by omega,by decide,by decide +kernel,fun z H1 z0 z1 B1 S1=>⟨rfl,_,rfl,?_⟩⟩
  refine Xe (fun h=>?_) (fun h=>?_)
  ·exact k _ _ none (B1.mono (by omega)) S1 rfl
  have hBl:=B1.lst
  refine⟨_,rfl,(c:Int),rfl,(by omega),(by omega),fun d hd=>?_⟩
  have hdb:d≠b:=by
   obtain⟨ys,e⟩:=hBl
   exact (Ze e hd).symm
  have et:(c:Int).toNat=c:=by omega
  rw[et]
  refine⟨c,fun i ys H2=>∃ p:Nat->Bool,ys=(evI i p).map V.int/\BagAt H2 b (n+1+i)/\SameX b H H2,Zv hl,?_,?_,?_⟩
  ·exact⟨fun _=>true,rfl,B1.upd (XN hdb),S1.trans (SameX.of (Same.new hd))⟩
  ·rintro i ys H2 hi ⟨p,rfl,B2,S2⟩ hd2
   refine⟨hi,?_⟩
   rintro x H3 ⟨rfl,rfl⟩
   have e0:(0+(i:Int))=((i:Nat):Int):=by omega
   rw[e0]
   refine Qq ?_
   refine⟨_,rfl,b,_,_,rfl,B2,by omega,by decide,by decide +kernel,fun r H4 r0 r1 B4 S4=>⟨rfl,_,rfl,?_⟩⟩
   have hd4:H4 d=some (.lst ((evI i p).map V.int)):=S4 _ _ hd2 hdb
   have ep:evI i p=evI i (fun j=>if j=i then decide (r=1) else p j):=Nf fun j hj=>by rw[YF (by omega)]
   refine Xe (fun h=>?_) (fun h=>?_)
   ·have h0:r=1:=by
     have:=XI h
     injection this
    refine⟨_,rfl,hd4,fun j=>if j=i then decide (r=1) else p j,?_,(B4.upd (XN hdb)).mono (by omega),?_⟩
    ·rw[Pe,YM (by simp[h0]),JG,<-ep]
     rfl
    ·exact fun q o e ne=>by
      have e2:=S4 q o (S2 q o e ne) ne
      rw[Zf (Ze (S1 q o e ne) hd)]
      exact e2
   ·have h0:¬ r=1:=fun z=>h (XX (by rw[z]))
    refine⟨hd4,fun j=>if j=i then decide (r=1) else p j,?_,B4.mono (by omega),S2.trans S4⟩
    rw[Pe,YF (by simp[h0]),qi,<-ep]
  ·rintro ys H2 ⟨p,rfl,B2,S2⟩ hd2
   refine⟨YE _,d,_,rfl,.inl ⟨SqL.of hd2,fun l hl'=>?_⟩⟩
   have S3:Same H2 (upd H2 l (.tup ((evI c p).map V.int))):=Same.new hl'
   exact k _ _ (some p) ((B2.same S3).mono (by omega)) (S2.trans (SameX.of S3)) ⟨l,rfl,SqT.of Zc⟩
end
open Sv (sm Y5 Xm Yw sm_zero Y4 Y3 U0)
end Sb
namespace Sb
open PySem L2
open Sv (sm Y5 Xm Yw sm_zero Y4 Y3 U0)
theorem Z41 {c:Nat}{rss:List (List Rat)}{T:Sv.Tab}{i j:Nat}{b:Int}(hj:j<rss.length):(multR c rss T i b)[j]?=some (nrm (-(Sv.numAt c T i (c+j))*lcmB rss[j]) (b*T.b)):=by
 unfold multR
 simp[List.getD,hj]
theorem Lv {c:Nat}{rss:List (List Rat)}{T:Sv.Tab}{i:Nat}{b:Int}:(multR c rss T i b).length=rss.length:=by unfold multR;simp
theorem Z40 {c i n:Nat}{rss:List (List Rat)}{T:Sv.Tab}{b:Int}(hrs:∀ rs∈rss,rs.length=c/\∃ D Ws,RepL n D Ws rs)(pos:0<T.b)(hb:0<b)(h:∀ k,k<rss.length->Sv.numAt c T i (c+k)<=0):∀ m∈multR c rss T i b,0<=m.1:=fun m hm=>by
 have p2:=YY hb pos
 obtain⟨j,hj⟩:=XB hm
 have hjl:j<rss.length:=by have:=(YG.mp hj).1;rw[Lv] at this;exact this
 rw[Z41 hjl] at hj
 cases hj
 obtain⟨_,D,Ws,rp⟩:=hrs _ (YZ hjl)
 have lp:=rp.least.pos
 have y:=h j hjl
 refine ((Uj p2 (Yu (by omega)).pos (Xd (-(Sv.numAt c T i (c+j))*lcmB rss[j]) (b*T.b))).1).mpr ?_
 exact qu (by omega) (by omega)
end Sb
namespace Sb
open PySem L2
open Sv (sm Y5 Xm Yw sm_zero Y4 Y3 U0)
def multY (c:Nat)(rss:List (List Rat))(T:Sv.Tab)(i:Nat):List Int:=(List.range rss.length).map fun k=>-(Sv.numAt c T i (c+k))*lcmB (rss.getD k [])
theorem Z1j {c n N i:Nat}{rss:List (List Rat)}{T:Sv.Tab}{b:Int}(hrs:∀ rs∈rss,rs.length=c/\∃ D Ws,RepL n D Ws rs)(pos:0<T.b)(ok:TabOk (rss.length+2) c T)(bd:TabBd N (rss.length+2) c T)(hi:i<rss.length+2)(hb:0<b)(bb:Bd n b):RepL (n+N) (b*T.b) (multY c rss T i) (multR c rss T i b):=by
 have p2:=YY hb pos
 refine RepL.of_map p2 (bb.mul bd.b) (List.range rss.length) _ _ fun k hk=>⟨Xd _ _,?_,Yu (by omega)⟩
 have hk':k<rss.length:=by simpa using hk
 have eg:rss.getD k []=rss[k]:=by simp[List.getD,hk']
 obtain⟨_,D,Ws,rp⟩:=hrs _ (YZ hk')
 have b1:=((ok.numBd bd hi (c+k)).neg).mul rp.least.bD
 rw[ja] at b1
 rw[eg]
 exact b1
end Sb
namespace Sb
open PySem PySem.Spec PyProof.Rows L2
section
variable {X:Cx}{K:W.Frag}
def rNeI (K:W.Frag):R2:=fun x y H Q=>∃ (a b:Addr) (ns ms:List Int),x=.ref a/\y=.ref b/\SqT K H a (ns.map V.int)/\SqT K H b (ms.map V.int)/\Q (.bl (!decide (ns=ms))) H
theorem Z5f (hu:X.A.units<cLine)(hK:X.K=K:=by rfl):OpR X (compareOp .NotEq) (rNeI K):=by
 subst hK
 intro pins s σ H x y v u Q I rx ry h
 obtain⟨a,b,ns,ms,rfl,rfl,ha,hb,q⟩:=h
 cases rx
 cases ry
 obtain⟨its,r1,p1,_⟩:=I.tuple ha
 obtain⟨its2,r2,p2,_⟩:=I.tuple hb
 have l1:=r1.length
 have l2:=r2.length
 rw[YC] at l1 l2
 refine SeqAt.RcNeAt.tuples (A:=X.A) (e:=fun j=>ns.getD j 0 == ms.getD j 0) p1 p2 hu (fun j h1 h2=>?_) _ _ _ _ ?_
 ·obtain⟨t,e1⟩:=Rv r1 (j:=j) (by simpa using h1)
  obtain⟨t',e2⟩:=Rv r2 (j:=j) (by simpa using h2)
  have e1':its.toArray[j]=Value.int (ns.getD j 0) t:=by simpa using e1
  have e2':its2.toArray[j]=Value.int (ms.getD j 0) t':=by simpa using e2
  rw[e1',e2']
  exact zk _ _ _ _
 ·rw[YR,YR,<-l1,<-l2,Z2m]
  exact⟨.bl _,H,I,rfl,q⟩
end
end Sb
namespace Sb
open PySem L2
section
variable {P:Program}{w:World}{K:W.Frag}{mg:Str->Option Value}{base:Heap}
theorem Gg:FnScope ["one","other"] ["one","other"] (defScope mF):=fsc
theorem Z3o (D:Def K mg "minus" mF ["one","other"])(eE:Z4 P w K mg base):Has P w K mg base 3 "minus" ["one","other"] (eL K subR):=by
 refine D.has fun f fd F=>F.ok Gg (fun vs H Q E h=>?_) (fun cdv A outer s H vs Q E hr h=>?_)
 ·obtain⟨a,b,r,s,n,rfl,_⟩:=h
  rfl
 ·obtain⟨a,b,r,s,n,rfl,hA,hB,gr,gs,hn,k⟩:=h
  have sc:=Gg
  refine⟨_,(Zd (Zi (Zg eE hr (Z0 (Zn U8 (Zn Zw (Zj X6 (pv 0) Za (fun _ _=>rfl)) (Zj Yq (pv 1) Za (fun _ _=>rfl))) (Zn Zw (Zj X6 (pv 1) Za (fun _ _=>rfl)) (Zj Yq (pv 0) Za (fun _ _=>rfl)))) (Z0 (Zn Zw (Zj Yq (pv 0) Za (fun _ _=>rfl)) (Zj Yq (pv 1) Za (fun _ _=>rfl))) Z8))))),?_⟩
  exact⟨_,rfl,_,_,_,rfl,rfl,hA,_,rfl,_,_,_,rfl,rfl,hB,_,_,rfl,rfl,gr.b1.mulOk gs.b2 (by omega) (by omega),_,rfl,_,_,_,rfl,rfl,hB,_,rfl,_,_,_,rfl,rfl,hA,_,_,rfl,rfl,gs.b1.mulOk gr.b2 (by omega) (by omega),_,_,rfl,rfl,_,rfl,_,_,_,rfl,rfl,hA,_,rfl,_,_,_,rfl,rfl,hB,_,_,rfl,rfl,gr.b2.mulOk gs.b2 (by omega) (by omega),_,_,rfl,W0 gr.pos gs.pos,Wy gr.b2 gs.b2 hn,k⟩
end
def ConI (mg:Str->Option Value)(x:Str)(i:Int):Prop:=∃ t,mg x=some (Value.int i t)
theorem Q0 {K:W.Frag}{h:Heap}{mg:Str->Option Value}{x:Str}{i:Int}{t:Tok}(X:K.In h)(G:h.Ns mainGlobals mg)(e:W.nsIn K mainGlobals x=some (some (.int i t))):ConI mg x i:=⟨t,Y0s X G e⟩
structure Offr where
 row:List Rat
 ask:Option Rat
 bid:Option Rat
 ev:Option (Nat->Bool)
def MayAt (K:W.Frag)(H:Hp)(o:Option Rat)(v:V):Prop:=match o with
 | none=>v=.non
 | some r=>IsR K H r v
theorem MayAt.ext {K:W.Frag}{H H':Hp}{o:Option Rat}{v:V}(h:MayAt K H o v)(e:Ext H H'):MayAt K H' o v:=by
 cases o with
 | none=>exact h
 | some r=>exact IsR.ext h e
def OffAt (K:W.Frag)(H:Hp)(c:Nat)(o:Offr)(v:V):Prop:=∃ (p a:Addr) (va vb ve:V),v=.ref p/\SqT K H p [.ref a,va,vb,ve]/\RowAt K H a o.row/\o.row.length=c/\MayAt K H o.ask va/\MayAt K H o.bid vb/\EvAt K H c o.ev ve
theorem OffAt.ext {K:W.Frag}{H H':Hp}{c:Nat}{o:Offr}{v:V}(h:OffAt K H c o v)(e:Ext H H'):OffAt K H' c o v:=by
 obtain⟨p,a,va,vb,ve,h0,h1,h2,h3,h4,h5,h6⟩:=h
 exact⟨p,a,va,vb,ve,h0,e.sq h1,h2.ext e,h3,h4.ext e,h5.ext e,h6.ext e⟩
theorem OffAt.same {K:W.Frag}{H H':Hp}{c:Nat}{o:Offr}{v:V}(h:OffAt K H c o v)(e:Same H H'):OffAt K H' c o v:=h.ext (Ext.same e)
structure GoodO (n:Nat)(o:Offr):Prop where
 row:∀ r∈o.row,Good n r
 ask:∀ r,o.ask=some r->Good n r
 bid:∀ r,o.bid=some r->Good n r
def gainR (o:Offr)(buy:Bool):List Rat:=cutR o.ev (o.row.map fun r=>if buy then subR r (o.ask.getD (0,1)) else subR (o.bid.getD (0,1)) r)
def priceO (o:Offr)(buy:Bool):Option Rat:=if buy then o.ask else o.bid
def wordO (buy:Bool):Str:=if buy then "buy" else "sell"
theorem Na (o:Offr)(buy:Bool):(gainR o buy).length=o.row.length:=by unfold gainR;rw[Yd,YC]
section
variable {P:Program}{w:World}{K:W.Frag}{mg:Str->Option Value}{base:Heap}
def jC (K:W.Frag):Sp:=fun vs H Q _=>∃ (v:V) (c n:Nat) (o:Offr) (buy:Bool) (pr:Rat),vs=[v,.str (wordO buy)]/\OffAt K H c o v/\c<=1000/\GoodO n o/\n<=4000/\priceO o buy=some pr ∧
 ∀ p H',Same H H'->RowAt K H' p (gainR o buy)->Q (.ref p) H'
theorem Bz:FnScope ["offer","word","worths"] ["offer","word"] (defScope mW):=fsc
theorem Z5w (D:Def K mg "gain" mW ["offer","word"])(T:Blt mg)(fO:Has P w K mg base 3 "minus" ["one","other"] (eL K subR))(iD:Has P w K mg base 2 "cut" ["row","event"] (gZ K))(kB:ConI mg "ROW" 0)(j7:ConI mg "ASK" 1)(j6:ConI mg "BID" 2)(j5:ConI mg "EVENT" 3) :
  Has P w K mg base 4 "gain" ["offer","word"] (jC K):=by
 refine D.has fun f fd F=>F.ok Bz (fun vs H Q E h=>?_) (fun cdv A outer s H vs Q E hr h=>?_)
 ·obtain⟨v,c,n,o,buy,pr,rfl,_⟩:=h
  rfl
 ·obtain⟨v,c,n,o,buy,pr,rfl,⟨p,a,va,vb,ve,rfl,hp,hR,hl,hA,hB,hE⟩,hc,g,hn,hpr,k⟩:=h
  obtain⟨t0,m_ROW⟩:=kB
  obtain⟨t1,m_ASK⟩:=j7
  obtain⟨t2,m_BID⟩:=j6
  obtain⟨t3,m_EVENT⟩:=j5
  obtain⟨xs,hxs,hrs⟩:=hR
  have lx:=hrs.len
  have sc:=Bz
  have nd1:(["worth","offer"]:List Str).Nodup:=by decide +kernel
  have nd2:(["worth","offer"]:List Str).Nodup:=by decide +kernel
  refine⟨_,(Z9 (Yc (Zo Xk (pv 1) X7 (Zt _))
    (Zd (Wv (i:=2) (N:=["worth","offer"]) (k:=1) (fv:=[0]) sc.nd rfl (Or.inl rfl) rfl (Vq (Zj Ya (pv 0) (Yx (v:=.int 0) rfl m_ROW ⟨_,rfl⟩) (fun _ _=>rfl)))
   (fun _ _ _ _ _=>Zq (i:=0) nd1 rfl (Or.inl rfl)) (fun _ _ _ _ _=>Ye) (fun _ _ _ _ _=>(Zg fO hr (Z0 (pv 0) (Z0 (Zj (Fj (K:=K)) (pv 1) (Yx (v:=.int 1) rfl m_ASK ⟨_,rfl⟩) (fun _ _=>rfl)) Z8)))) Zx))
    (Zd (Wv (i:=2) (N:=["worth","offer"]) (k:=1) (fv:=[0]) sc.nd rfl (Or.inl rfl) rfl (Vq (Zj Ya (pv 0) (Yx (v:=.int 0) rfl m_ROW ⟨_,rfl⟩) (fun _ _=>rfl)))
   (fun _ _ _ _ _=>Zq (i:=0) nd2 rfl (Or.inl rfl)) (fun _ _ _ _ _=>Ye) (fun _ _ _ _ _=>(Zg fO hr (Z0 (Zj (Fj (K:=K)) (pv 1) (Yx (v:=.int 2) rfl m_BID ⟨_,rfl⟩) (fun _ _=>rfl)) (Z0 (pv 0) Z8)))) Zx)))
   (Zd (Zi (Zg iD hr (Z0 (Y0 Zz rfl T.tuple YX (Z0 (pv 2) Z8)) (Z0 (Zj Ya (pv 0) (Yx (v:=.int 3) rfl m_EVENT ⟨_,rfl⟩) (fun _ _=>rfl)) Z8)))))),?_⟩
  cases buy with
  | true =>
   replace hpr:o.ask=some pr:=hpr
   have kk:=k
   unfold gainR at kk
   rw[hpr] at hA kk
   obtain⟨b,rfl,hb⟩:=hA
   refine⟨_,rfl,rfl,_,rfl,K2 rfl ?_⟩
   refine⟨_,rfl,p,_,_,_,rfl,rfl,hp,Zh (j:=0) rfl,a,rfl,⟨_,hxs⟩,fun d hd=>?_⟩
   refine⟨o.row.length,fun i ys H2=>Same H H2/\Rs K H2 ((o.row.map fun r=>subR r pr).take i) ys,Zv (by omega),⟨Same.new hd,.nil⟩,?_,?_⟩
   ·rintro i ys H2 hi ⟨S2,R2⟩ hd2
    refine⟨⟨xs,xs[i]'(by omega),Zl S2 hxs,by simp⟩,?_⟩
    rintro x H3 ⟨rfl,fx⟩
    obtain⟨r,er,ix⟩:=hrs.back (fx xs (Zl S2 hxs))
    obtain⟨a1,rfl,sq1⟩:=ix.ext (Ext.same S2)
    refine Yk ?_
    refine⟨_,rfl,_,rfl,p,_,_,_,rfl,rfl,Zl S2 hp,Zh (j:=1) rfl,a1,b,r,pr,n,rfl,sq1,Zl S2 hb,g.row r (YL er),g.ask pr hpr,hn,fun c4 H4 f4 S4 e4=>?_⟩
    have hd4:=S4 _ _ hd2
    refine⟨hd4,fun q o' e=>?_,?_⟩
    ·rw[Zf (Ze e hd)]
     exact S4 _ _ (S2 _ _ e)
    ·rw[Tc _ er]
     exact (R2.ext ((Ext.same S4).trans (Ext.upd hd4))).snoc ⟨c4,rfl,(Ext.upd hd4).sq (SqT.of e4)⟩
   ·rintro ys H2 ⟨S2,R2⟩ hd2
    rw[YN (by rw[YC];omega)] at R2
    refine⟨⟨xs,Zl S2 hxs,by omega⟩,_,rfl,d,ys,rfl,.inl ⟨SqL.of hd2,fun l hl'=>?_⟩⟩
    have S3:Same H2 (upd H2 l (.tup ys)):=Same.new hl'
    refine⟨_,rfl,p,_,_,_,rfl,rfl,Zl (S2.trans S3) hp,Zh (j:=3) rfl,l,ve,_,o.ev,rfl,⟨ys,SqT.of Zc,R2.ext (Ext.same S3)⟩,?_,by rw[YC];omega,fun p' H' S' R'=>kk p' H' ((S2.trans S3).trans S') R'⟩
    rw[YC,hl]
    exact hE.same (S2.trans S3)
  | false =>
   replace hpr:o.bid=some pr:=hpr
   have kk:=k
   unfold gainR at kk
   rw[hpr] at hB kk
   obtain⟨b,rfl,hb⟩:=hB
   refine⟨_,rfl,rfl,_,rfl,P0 (by decide) ?_⟩
   refine⟨_,rfl,p,_,_,_,rfl,rfl,hp,Zh (j:=0) rfl,a,rfl,⟨_,hxs⟩,fun d hd=>?_⟩
   refine⟨o.row.length,fun i ys H2=>Same H H2/\Rs K H2 ((o.row.map fun r=>subR pr r).take i) ys,Zv (by omega),⟨Same.new hd,.nil⟩,?_,?_⟩
   ·rintro i ys H2 hi ⟨S2,R2⟩ hd2
    refine⟨⟨xs,xs[i]'(by omega),Zl S2 hxs,by simp⟩,?_⟩
    rintro x H3 ⟨rfl,fx⟩
    obtain⟨r,er,ix⟩:=hrs.back (fx xs (Zl S2 hxs))
    obtain⟨a1,rfl,sq1⟩:=ix.ext (Ext.same S2)
    refine Yk ?_
    refine⟨_,rfl,p,_,_,_,rfl,rfl,Zl S2 hp,Zh (j:=2) rfl,_,rfl,b,a1,pr,r,n,rfl,Zl S2 hb,sq1,g.bid pr hpr,g.row r (YL er),hn,fun c4 H4 f4 S4 e4=>?_⟩
    have hd4:=S4 _ _ hd2
    refine⟨hd4,fun q o' e=>?_,?_⟩
    ·rw[Zf (Ze e hd)]
     exact S4 _ _ (S2 _ _ e)
    ·rw[Tc _ er]
     exact (R2.ext ((Ext.same S4).trans (Ext.upd hd4))).snoc ⟨c4,rfl,(Ext.upd hd4).sq (SqT.of e4)⟩
   ·rintro ys H2 ⟨S2,R2⟩ hd2
    rw[YN (by rw[YC];omega)] at R2
    refine⟨⟨xs,Zl S2 hxs,by omega⟩,_,rfl,d,ys,rfl,.inl ⟨SqL.of hd2,fun l hl'=>?_⟩⟩
    have S3:Same H2 (upd H2 l (.tup ys)):=Same.new hl'
    refine⟨_,rfl,p,_,_,_,rfl,rfl,Zl (S2.trans S3) hp,Zh (j:=3) rfl,l,ve,_,o.ev,rfl,⟨ys,SqT.of Zc,R2.ext (Ext.same S3)⟩,?_,by rw[YC];omega,fun p' H' S' R'=>kk p' H' ((S2.trans S3).trans S') R'⟩
    rw[YC,hl]
    exact hE.same (S2.trans S3)
end
def wordsO (o:Offr):List Bool:=(if o.ask.isSome then [true] else [])++if o.bid.isSome then [false] else []
def offD:Offr:=⟨[],none,none,none⟩
def sidesP (os:List Offr)(n:Nat):List (Nat × Bool):=(List.range n).flatMap fun i=>(wordsO (os.getD i offD)).map fun b=>(i,b)
def gainsP (os:List Offr)(n:Nat):List (List Rat):=(List.range n).flatMap fun i=>(wordsO (os.getD i offD)).map fun b=>gainR (os.getD i offD) b
theorem Sw (os:List Offr)(n:Nat):sidesP os (n+1)=sidesP os n++(wordsO (os.getD n offD)).map fun b=>(n,b):=by
 unfold sidesP
 rw[zt,Y03]
 simp
theorem K5 (os:List Offr)(n:Nat):gainsP os (n+1)=gainsP os n++(wordsO (os.getD n offD)).map fun b=>gainR (os.getD n offD) b:=by
 unfold gainsP
 rw[zt,Y03]
 simp
theorem Rc (os:List Offr)(n:Nat):(sidesP os n).map (fun s=>gainR (os.getD s.1 offD) s.2)=gainsP os n:=by
 unfold sidesP gainsP
 rw[List.map_flatMap]
 congr 1
 funext i
 rw[List.map_map]
 rfl
theorem Q9 {os:List Offr}{n i:Nat}{b:Bool}(h:(i,b)∈sidesP os n):i<n/\∃ r,priceO (os.getD i offD) b=some r:=by
 unfold sidesP at h
 rw[Y0E] at h
 obtain⟨j,hj,hm⟩:=h
 rw[XE] at hm
 obtain⟨b',hb,e⟩:=hm
 cases e
 refine⟨GK.mp hj,?_⟩
 unfold wordsO at hb
 rcases JU.mp hb with z | z
 ·split at z
  ·rename_i hs
   rw[JP.mp z]
   exact zE.mp hs
  ·cases z
 ·split at z
  ·rename_i hs
   rw[JP.mp z]
   exact zE.mp hs
  ·cases z
theorem Us (o:Offr):(wordsO o).length<=2:=by
 unfold wordsO
 split <;> split <;> decide
theorem Uu (os:List Offr):∀ n,(sidesP os n).length<=2*n
 | 0=>by unfold sidesP;simp
 | n+1=>by
  rw[Sw,XD,YC]
  have:=Uu os n
  have:=Us (os.getD n offD)
  omega
section
variable {P:Program}{w:World}{K:W.Frag}{mg:Str->Option Value}{base:Heap}
def OffsAt (K:W.Frag)(H:Hp)(l:Addr)(c:Nat)(os:List Offr):Prop:=∃ vs:List V,H l=some (.lst vs)/\Paired (fun v o=>OffAt K H c o v) vs os
theorem Zy {H H':Hp}{c:Nat}{vs:List V}{os:List Offr}(h:Paired (fun v o=>OffAt K H c o v) vs os)(x:Ext H H'):Paired (fun v o=>OffAt K H' c o v) vs os:=Paired.mapP h fun _ _ q=>q.ext x
theorem OffAt.asks {H:Hp}{c:Nat}{o:Offr}{v:V}(h:OffAt K H c o v):∃ (p a:Addr) (va vb ve:V),v=.ref p/\SqT K H p [.ref a,va,vb,ve]/\(va=.non ↔ o.ask=none)/\(vb=.non ↔ o.bid=none):=by
 obtain⟨p,a,va,vb,ve,rfl,hp,_,_,hA,hB,_⟩:=h
 refine⟨p,a,va,vb,ve,rfl,hp,?_,?_⟩
 ·cases e:o.ask with
  | none=>rw[e] at hA;exact⟨fun _=>rfl,fun _=>hA⟩
  | some r=>rw[e] at hA;obtain⟨b,rfl,_⟩:=hA;exact⟨(fun z=>nomatch z),fun z=>nomatch z⟩
 ·cases e:o.bid with
  | none=>rw[e] at hB;exact⟨fun _=>rfl,fun _=>hB⟩
  | some r=>rw[e] at hB;obtain⟨b,rfl,_⟩:=hB;exact⟨(fun z=>nomatch z),fun z=>nomatch z⟩
def iE (K:W.Frag):Sp:=fun vs H Q _=>∃ (v:V) (c:Nat) (o:Offr),vs=[v]/\OffAt K H c o v/\∀ l H',H l=none->Same H H'->H' l=some (.lst ((wordsO o).map fun b=>V.str (wordO b)))->Q (.ref l) H'
theorem G4:FnScope ["offer","told"] ["offer"] (defScope k9):=fsc
theorem Z3b (D:Def K mg "words_of" k9 ["offer"])(j7:ConI mg "ASK" 1)(j6:ConI mg "BID" 2):Has P w K mg base 1 "words_of" ["offer"] (iE K):=by
 refine D.has fun f fd F=>F.ok G4 (fun vs H Q E h=>?_) (fun cdv A outer s H vs Q E hr h=>?_)
 ·obtain⟨v,c,o,rfl,_⟩:=h
  rfl
 ·obtain⟨v,c,o,rfl,hO,k⟩:=h
  obtain⟨t1,m_ASK⟩:=j7
  obtain⟨t2,m_BID⟩:=j6
  obtain⟨p,a,va,vb,ve,rfl,hp,ha,hb⟩:=hO.asks
  have sc:=G4
  refine⟨_,(Z9 (Zk (i:=1) sc.nd rfl (Or.inl rfl) (Wl Z8))
   (Z9 (Xj (Yc (Zo Fd (Zj Ya (pv 0) (Yx (v:=.int 1) rfl m_ASK ⟨_,rfl⟩) (fun _ _=>rfl)) Yn (Zt _))
    (Zd (W8 (Uq JA GE GF Xg (pv 1) (Z0 X7 Z8))))
    Zu))
   (Z9 (Yc (Zo Fd (Zj Ya (pv 0) (Yx (v:=.int 2) rfl m_BID ⟨_,rfl⟩) (fun _ _=>rfl)) Yn (Zt _))
    (Zd (W8 (Uq JA GE GF Xg (pv 1) (Z0 X7 Z8))))
    Zu)
   (Zd (Zi (pv 1)))))),?_⟩
  refine⟨sz0,fun l hl=>?_⟩
  have S0:Same H (upd H l (.lst [])):=Same.new hl
  have up:∀ (zs:List V) (H1:Hp),Same H H1->Same H (upd H1 l (.lst zs)):=fun zs H1 S1 q o e=>by
   rw[Zf (Ze e hl)]
   exact S1 _ _ e
  refine⟨fun σ H'=>Same H H'/\σ=[some (.ref p),some (.ref l)]/\H' l=some (.lst ((if o.ask.isSome then [true] else []).map fun b=>V.str (wordO b))),?_,?_⟩
  ·refine⟨_,rfl,p,_,_,_,rfl,rfl,Zl S0 hp,Zh (j:=1) rfl,rfl,_,rfl,?_⟩
   cases e:o.ask with
   | none =>
    have:=ha.mpr e
    subst this
    exact X9 ⟨S0,rfl,Zc⟩
   | some r =>
    have hne:va≠V.non:=fun z=>by rw[ha.mp z] at e;cases e
    refine Z1t hne ?_
    exact⟨_,rfl,.inl ⟨rfl,_,SqL.of Zc⟩,l,_,_,rfl,rfl,Zc,(by show 0<sizeLine;decide),up _ _ S0,rfl,Zc⟩
  ·rintro σ H1 ⟨S1,rfl,h1⟩
   refine⟨_,rfl,p,_,_,_,rfl,rfl,Zl S1 hp,Zh (j:=2) rfl,rfl,_,rfl,?_⟩
   cases e:o.bid with
   | none =>
    have:=hb.mpr e
    subst this
    refine X9 ⟨_,rfl,k l H1 hl S1 ?_⟩
    rw[h1]
    unfold wordsO
    rw[e]
    simp
   | some r =>
    have hne:vb≠V.non:=fun z=>by rw[hb.mp z] at e;cases e
    refine Z1t hne ⟨_,rfl,.inl ⟨rfl,_,SqL.of h1⟩,l,_,_,rfl,rfl,h1,?_,_,rfl,k l _ hl (up _ _ S1) ?_⟩
    ·refine Pu ?_
     rw[YC]
     split <;> decide
    ·rw[Zc]
     unfold wordsO
     rw[e]
     simp
     rfl
def SideV (K:W.Frag)(H:Hp)(v:V)(s:Nat × Bool):Prop:=∃ t:Addr,v=.ref t/\SqT K H t [.int (s.1:Int),.str (wordO s.2)]
theorem SideV.ext {H H':Hp}{v:V}{s:Nat × Bool}(h:SideV K H v s)(x:Ext H H'):SideV K H' v s:=by
 obtain⟨t,e,q⟩:=h
 exact⟨t,e,x.sq q⟩
def iJ (K:W.Frag):Sp:=fun vs H Q _=>∃ (l:Addr) (c:Nat) (os:List Offr),vs=[.ref l]/\OffsAt K H l c os/\os.length<=100/\∀ (d:Addr) (ws:List V) (H':Hp),H d=none->Same H H'->H' d=some (.lst ws)->Paired (SideV K H') ws (sidesP os os.length)->Q (.ref d) H'
theorem Gc:FnScope ["offers","told","number","offer"] ["offers"] (defScope mD):=fsc
theorem Z3j (D:Def K mg "sides" mD ["offers"])(T:Blt mg)(jF:Has P w K mg base 1 "words_of" ["offer"] (iE K)):Has P w K mg base 2 "sides" ["offers"] (iJ K):=by
 refine D.has fun f fd F=>F.ok Gc (fun vs H Q E h=>?_) (fun cdv A outer s H vs Q E hr h=>?_)
 ·obtain⟨l,c,os,rfl,_⟩:=h
  rfl
 ·obtain⟨l,c,os,rfl,⟨vs,hl,hO⟩,hlen,k⟩:=h
  have sc:=Gc
  have nd1:(["word","number"]:List Str).Nodup:=by decide +kernel
  refine⟨_,(Z9 (Zk (i:=1) sc.nd rfl (Or.inl rfl) (Wl Z8))
   (Z9 (V3 JR rfl (Qn rfl T.enumerate (Z0 (pv 0) Z8)) (V4 (n:=2) rfl (Yh (Zq (i:=2) sc.nd rfl (Or.inr rfl)) (Yh (Zq (i:=3) sc.nd rfl (Or.inl rfl)) Xr)))
    (Zd (W8 (Uq JA PySem.F.slot_list_extend PySem.F.type_list_extend Cb (pv 1) (Z0 (Yl (N:=["word","number"]) (k:=1) (fv:=[2]) rfl (Xq (Zg jF hr (Z0 (pv 3) Z8)))
   (fun _ _ _ _ _=>Zq (i:=0) nd1 rfl (Or.inl rfl)) (fun _ _ _ _ _=>Ye) (fun _ _ _ _ _=>(Y9 (Z0 (pv 1) (Z0 (pv 0) Z8)))) Zx) Z8)))))
   (Zd (Zi (pv 1))))),?_⟩
  have lo:=JK hO
  refine⟨sz0,fun d hd=>?_⟩
  have S0:Same H (upd H d (.lst [])):=Same.new hd
  have up:∀ (zs:List V) (H1:Hp),Same H H1->Same H (upd H1 d (.lst zs)):=fun zs H1 S1 q o e=>by
   rw[Zf (Ze e hd)]
   exact S1 _ _ e
  refine⟨_,rfl,l,rfl,⟨_,SqL.of (S0 _ _ hl)⟩,So (K:=K) (a:=l) (xs:=vs) (fun i σ H'=>Same H H'/\∃ (ws:List V) (x y:Option V),σ=[some (.ref l),some (.ref d),x,y]/\H' d=some (.lst ws)/\Paired (SideV K H') ws (sidesP os i)) ⟨S0,[],none,none,rfl,Zc,.nil⟩ (fun i σ H' _ h=>SqL.of (h.1 _ _ hl)) ?_ ?_⟩
  ·rintro i v σ H1 p hi ⟨S1,ws,x,y,rfl,hd1,P1⟩ hp
   have S2:Same H1 (upd H1 p (.tup [.int (i:Int),v])):=Same.new hp
   have hd2:=S2 _ _ hd1
   have hiv:i<vs.length:=(YG.mp hi).1
   have hio:i<os.length:=by omega
   have eo:os[i]?=some (os.getD i offD):=by simp[List.getD,hio]
   have hv:=((Paired.getB hO hi eo).same S1).same S2
   refine⟨p,_,rfl,SqT.of Zc,rfl,_,_,rfl,_,_,rfl,rfl,?_⟩
   refine⟨_,rfl,.inl ⟨rfl,_,SqL.of hd2⟩,_,rfl,v,c,os.getD i offD,rfl,hv,fun lw H3 f3 S3 e3=>?_⟩
   generalize hw:wordsO (os.getD i offD)=wo at *
   have lwo:wo.length<=2:=by rw[<-hw];exact Us _
   refine⟨lw,rfl,⟨_,SqL.of e3⟩,fun dc hdc=>?_⟩
   refine⟨wo.length,fun j ys H4=>Same H3 H4/\Paired (SideV K H4) ys ((wo.map fun b=>(i,b)).take j),Zv (by omega),⟨Same.new hdc,.nil⟩,?_,?_⟩
   ·rintro j ys H4 hj ⟨S4,P4⟩ hd4
    have ew:wo[j]?=some wo[j]:=by simp[hj]
    refine⟨⟨_,V.str (wordO wo[j]),SqL.of (S4 _ _ e3),by simp[hj]⟩,?_⟩
    rintro x' H5 ⟨rfl,fx⟩
    have ex:x'=V.str (wordO wo[j]):=by
     have:=fx _ (SqL.of (S4 _ _ e3))
     rw[YD,ew] at this
     exact (YK this).symm
    subst ex
    refine Yk ?_
    refine⟨_,rfl,_,rfl,sz2,fun t ht=>?_⟩
    have S6:Same H5 (upd H5 t (.tup [.int (i:Int),.str (wordO wo[j])])):=Same.new ht
    have hd6:=S6 _ _ hd4
    refine⟨hd6,fun q o' e=>?_,?_⟩
    ·rw[Zf (Ze e hdc)]
     exact S6 _ _ (S4 _ _ e)
    ·rw[Tc _ ew]
     have x7:=(Ext.same S6).trans (Ext.upd (o:=.lst (ys++[.ref t])) hd6)
     exact Y0t (Paired.mapP P4 fun _ _ q=>q.ext x7) ⟨t,rfl,(Ext.upd hd6).sq (SqT.of Zc)⟩
   ·rintro ys H4 ⟨S4,P4⟩ hd4
    rw[YN (by rw[YC];omega)] at P4
    refine⟨⟨_,SqL.of (S4 _ _ e3),by rw[YC];omega⟩,?_⟩
    have hd5:=S4 _ _ (S3 _ _ hd2)
    have lw1:=JK P1
    have lw4:=JK P4
    have sl:=Uu os i
    rw[YC] at lw4
    refine⟨d,dc,ws,ys,rfl,rfl,hd5,hd4,Zv (by omega),?_⟩
    have S15:Same H1 H4:=(S2.trans S3).trans S4
    refine⟨up _ _ (S1.trans S15),ws++ys,_,_,rfl,Zc,?_⟩
    rw[Sw,hw]
    have xx:=Ext.upd (o:=.lst (ws++ys)) hd5
    exact Paired.appP (Paired.mapP P1 fun _ _ q=>q.ext ((Ext.same S15).trans xx)) (Paired.mapP P4 fun _ _ q=>q.ext xx)
  ·rintro σ H1 ⟨S1,ws,x,y,rfl,hd1,P1⟩
   rw[lo] at P1
   exact⟨_,rfl,k d ws H1 hd S1 hd1 P1⟩
def eR (K:W.Frag):Sp:=fun vs H Q _=>∃ (l:Addr) (c n:Nat) (os:List Offr),vs=[.ref l]/\OffsAt K H l c os/\os.length<=100/\c<=1000/\n<=4000/\(∀ o∈os,GoodO n o)/\∀ (d:Addr) (H':Hp),H d=none->Same H H'->RowsAt K H' d (gainsP os os.length)->Q (.ref d) H'
theorem Le:FnScope ["offers"] ["offers"] (defScope mK):=fsc
theorem Z16 (D:Def K mg "gains" mK ["offers"])(j2:Has P w K mg base 2 "sides" ["offers"] (iJ K))(kA:Has P w K mg base 4 "gain" ["offer","word"] (jC K)):Has P w K mg base 5 "gains" ["offers"] (eR K):=by
 refine D.has fun f fd F=>F.ok Le (fun vs H Q E h=>?_) (fun cdv A outer s H vs Q E hr h=>?_)
 ·obtain⟨l,c,n,os,rfl,_⟩:=h
  rfl
 ·obtain⟨l,c,n,os,rfl,⟨vs,hl,hO⟩,hlen,hc,hn,g,k⟩:=h
  have sc:=Le
  have nd1:(["number","word","offers"]:List Str).Nodup:=by decide +kernel
  refine⟨_,(Zd (Zi (Yl (N:=["number","word","offers"]) (k:=2) (fv:=[0]) rfl (Xq (Zg j2 hr (Z0 (pv 0) Z8)))
   (fun _ _ _ _ _=>V4 (n:=2) rfl (Yh (Zq (i:=0) nd1 rfl (Or.inl rfl)) (Yh (Zq (i:=1) nd1 rfl (Or.inl rfl)) Xr))) (fun _ _ _ _ _=>Ye) (fun _ _ _ _ _=>(Zg kA hr (Z0 (Zj (Z6z (K:=K)) (pv 2) (pv 0) (fun _ _=>rfl)) (Z0 (pv 1) Z8)))) V7))),?_⟩
  have lo:=JK hO
  refine⟨_,rfl,l,c,os,rfl,⟨vs,hl,hO⟩,hlen,fun ds ws H1 f1 S1 e1 P1=>?_⟩
  have lp:=JK P1
  have sl:=Uu os os.length
  refine⟨ds,rfl,⟨_,SqL.of e1⟩,fun d hd=>?_⟩
  have hd0:H d=none:=by
   cases q:H d with
   | none=>rfl
   | some o=>rw[S1 _ _ q] at hd;cases hd
  refine⟨ws.length,fun i ys H2=>Same H1 H2/\∃ as:List Addr,ys=as.map V.ref/\Paired (RowAt K H2) as ((gainsP os os.length).take i),Zv (by omega),⟨Same.new hd,[],rfl,.nil⟩,?_,?_⟩
  ·rintro i ys H2 hi ⟨S2,as,rfl,P2⟩ hd2
   have ew:ws[i]?=some ws[i]:=by simp[hi]
   refine⟨⟨_,ws[i],SqL.of (S2 _ _ e1),by simp⟩,?_⟩
   rintro x' H3 ⟨rfl,fx⟩
   have ex:x'=ws[i]:=by
    have:=fx _ (SqL.of (S2 _ _ e1))
    rw[ew] at this
    exact (YK this).symm
   subst ex
   have his:i<(sidesP os os.length).length:=by omega
   have es:(sidesP os os.length)[i]?=some ((sidesP os os.length)[i]):=by simp[his]
   obtain⟨t,et,sqt⟩:=(Paired.getB P1 ew es).ext (Ext.same S2)
   have hmem:=YZ his
   generalize hsd:(sidesP os os.length)[i]=sd at *
   obtain⟨j,b⟩:=sd
   obtain⟨hj,r,hr'⟩:=Q9 hmem
   rw[et]
   refine Rn sqt ?_
   have ej:os[j]?=some (os.getD j offD):=by simp[List.getD,hj]
   have hjv:j<vs.length:=by omega
   have ev:vs[j]?=some vs[j]:=by simp[hjv]
   have hov:=((Paired.getB hO ev ej).same S1).same S2
   refine⟨_,rfl,_,rfl,l,vs,_,_,rfl,rfl,SqL.of (S2 _ _ (S1 _ _ hl)),Zh ev,_,rfl,?_⟩
   refine⟨vs[j],c,n,os.getD j offD,b,r,rfl,hov,hc,g _ (YL ej),hn,hr',fun p H4 S4 R4=>?_⟩
   have hd4:=S4 _ _ hd2
   refine⟨hd4,fun q o' e=>?_,as++[p],by rw[JG];rfl,?_⟩
   ·rw[Zf (Ze e hd)]
    exact S4 _ _ (S2 _ _ e)
   ·have eg:(gainsP os os.length)[i]?=some (gainR (os.getD j offD) b):=by rw[<-Rc,YD,es];rfl
    rw[Y2 eg]
    exact Y0t (Yy P2 ((Ext.same S4).trans (Ext.upd hd4))) (R4.ext (Ext.upd hd4))
  ·rintro ys H2 ⟨S2,as,rfl,P2⟩ hd2
   have lg:(gainsP os os.length).length=ws.length:=by rw[<-Rc,YC,lp]
   rw[YN (by omega)] at P2
   exact⟨⟨_,SqL.of (S2 _ _ e1),YE _⟩,k d H2 hd0 (S1.trans S2) ⟨as,hd2,P2⟩⟩
end
open Sv (sm Y5 Xm Yw sm_zero Y4 Y3 U0)
end Sb
namespace Sb
open PySem L2
open Sv (sm Y5 Xm Yw sm_zero Y4 Y3 U0)
structure Wts (c:Nat)(rss:List (List Rat))(ls:List Rat):Prop where
 len:ls.length=c
 rep:∃ N D Ls,RepL N D Ls ls
 nn:∀ r∈ls,0<=r.1
 fit:∀ rs∈rss,(sumR (List.zipWith mulR' ls rs)).1<=0
 lie:sumR (List.zipWith mulR' ls (papR c none))=(1,1)
def mn (ls as:List Rat):Rat:=sumR (List.zipWith mulR' ls as)
def leR (r s:Rat):Prop:=r.1*s.2<=s.1*r.2
theorem leR.antisymm {r s:Rat}(hr:Low r)(hs:Low s)(h1:leR r s)(h2:leR s r):r=s:=Wj hr.pos hs.pos hr.cop hs.cop (Int.le_antisymm h1 h2)
def negR (r:Rat):Rat:=(-r.1,r.2)
theorem negR.low {r:Rat}(h:Low r):Low (negR r):=⟨h.pos,by show Int.gcd (-r.1) r.2=1;rw[Int.neg_gcd];exact h.cop⟩
theorem negR.neg (r:Rat):negR (negR r)=r:=by
 unfold negR
 simp
theorem mul_neg {r:Rat}(h:Low r):mulR' r (-1,1)=negR r:=by
 show nrm (r.1 * -1) (r.2*1)=negR r
 rw[qe,Int.mul_neg,qe]
 exact Tk (r:=negR r) h.pos (negR.low h).cop
theorem Q6 {r:Rat}(h:Low r):subR (0,1) r=negR r:=by
 show nrm (0*r.2 - r.1*1) (1*r.2)=negR r
 rw[zo,qe,GR,Int.zero_sub]
 exact Tk (r:=negR r) h.pos (negR.low h).cop
def RowR (c:Nat)(as:List Rat):Prop:=as.length=c/\∃ n D Zs,RepL n D Zs as
section
variable {c:Nat}{rss:List (List Rat)}{ls as bs:List Rat}
end
structure MostV (c:Nat)(rss:List (List Rat))(as:List Rat)(va:Rat):Prop where
 low:Low va
 hit:∃ ls,Wts c rss ls/\mn ls as=va
 top:∀ ls,Wts c rss ls->leR (mn ls as) va
structure LeastV (c:Nat)(rss:List (List Rat))(as:List Rat)(va:Rat):Prop where
 low:Low va
 hit:∃ ls,Wts c rss ls/\mn ls as=va
 bot:∀ ls,Wts c rss ls->leR va (mn ls as)
section
variable {c:Nat}{rss:List (List Rat)}{as bs cs:List Rat}{u v x y z:Rat}
theorem MostV.unique (h:MostV c rss as u)(h':MostV c rss as v):u=v:=by
 obtain⟨l1,w1,e1⟩:=h.hit
 obtain⟨l2,w2,e2⟩:=h'.hit
 refine leR.antisymm h.low h'.low ?_ ?_
 ·rw[<-e1];exact h'.top l1 w1
 ·rw[<-e2];exact h.top l2 w2
theorem LeastV.unique (h:LeastV c rss as u)(h':LeastV c rss as v):u=v:=by
 obtain⟨l1,w1,e1⟩:=h.hit
 obtain⟨l2,w2,e2⟩:=h'.hit
 refine leR.antisymm h.low h'.low ?_ ?_
 ·rw[<-e2];exact h.bot l2 w2
 ·rw[<-e1];exact h'.bot l1 w1
end
end Sb
namespace Sb
open PySem L2
section
variable {P:Program}{w:World}{K:W.Frag}{mg:Str->Option Value}{base:Heap}
theorem G8:FnScope ["one","other"] ["one","other"] (defScope l8):=fsc
theorem Z3f (D:Def K mg "times" l8 ["one","other"])(eE:Z4 P w K mg base):Has P w K mg base 3 "times" ["one","other"] (eL K mulR'):=by
 refine D.has fun f fd F=>F.ok G8 (fun vs H Q E h=>?_) (fun cdv A outer s H vs Q E hr h=>?_)
 ·obtain⟨a,b,r,s,n,rfl,_⟩:=h
  rfl
 ·obtain⟨a,b,r,s,n,rfl,hA,hB,gr,gs,hn,k⟩:=h
  have sc:=G8
  refine⟨_,(Zd (Zi (Zg eE hr (Z0 (Zn Zw (Zj X6 (pv 0) Za (fun _ _=>rfl)) (Zj X6 (pv 1) Za (fun _ _=>rfl))) (Z0 (Zn Zw (Zj Yq (pv 0) Za (fun _ _=>rfl)) (Zj Yq (pv 1) Za (fun _ _=>rfl))) Z8))))),?_⟩
  exact⟨_,rfl,_,_,_,rfl,rfl,hA,_,rfl,_,_,_,rfl,rfl,hB,_,_,rfl,rfl,gr.b1.mulOk gs.b1 (by omega) (by omega),_,rfl,_,_,_,rfl,rfl,hA,_,rfl,_,_,_,rfl,rfl,hB,_,_,rfl,rfl,gr.b2.mulOk gs.b2 (by omega) (by omega),_,_,rfl,W0 gr.pos gs.pos,Wy gr.b2 gs.b2 hn,k⟩
def eN (K:W.Frag):Sp:=fun vs H Q _=>∃ (a b:Addr) (rs:List Rat) (s:Rat) (n:Nat),vs=[.ref a,.ref b]/\RowAt K H a rs/\SqT K H b [.int s.1,.int s.2]/\rs.length<=1000/\(∀ r∈rs,Good n r)/\Good n s/\n<=4000 ∧
 ∀ c H' ys,Same H H'->H' c=some (.tup ys)->Rs K H' (rs.map fun r=>mulR' r s) ys->Q (.ref c) H'
theorem Td:FnScope ["row","by"] ["row","by"] (defScope kK):=fsc
theorem M2 (D:Def K mg "multiplied" kK ["row","by"])(T:Blt mg)(j0:Has P w K mg base 3 "times" ["one","other"] (eL K mulR')):Has P w K mg base 4 "multiplied" ["row","by"] (eN K):=by
 refine D.has fun f fd F=>F.ok Td (fun vs H Q E h=>?_) (fun cdv A outer s H vs Q E hr h=>?_)
 ·obtain⟨a,b,rs,s,n,rfl,_⟩:=h
  rfl
 ·obtain⟨a,b,rs,s,n,rfl,⟨xs,hA,hRs⟩,hB,hl2,gr,gs,hn,k⟩:=h
  have sc:=Td
  have nd:(["worth","by"]:List Str).Nodup:=by decide +kernel
  refine⟨_,(Zd (Zi (Y0 Zz rfl T.tuple YX (Z0 (Yl (N:=["worth","by"]) (k:=1) (fv:=[1]) rfl (Vq (pv 0))
   (fun _ _ _ _ _=>Zq (i:=0) nd rfl (Or.inl rfl)) (fun _ _ _ _ _=>Ye) (fun _ _ _ _ _=>Z0j j0 (hr.mono (by decide)) rfl (Z0 (pv 0) (Z0 (pv 1) Z8))) Zx) Z8)))),?_⟩
  refine⟨_,rfl,a,rfl,⟨_,hA⟩,fun d hd=>?_⟩
  have lx:=hRs.len
  refine⟨rs.length,fun i ys H2=>Same H H2/\Rs K H2 (mapR (fun r=>mulR' r s) rs i) ys,Zv hl2,⟨Same.new hd,.nil⟩,?_,?_⟩
  ·rintro i ys H2 hi ⟨S2,R2⟩ hd2
   refine⟨⟨xs,xs[i]'(by omega),Zl S2 hA,by simp⟩,?_⟩
   rintro x H3 ⟨rfl,fx⟩
   obtain⟨r,er,ix⟩:=hRs.back (fx xs (Zl S2 hA))
   obtain⟨a1,rfl,sq1⟩:=ix.ext (Ext.same S2)
   refine Yk ?_
   refine⟨_,rfl,_,rfl,a1,b,r,s,n,rfl,sq1,Zl S2 hB,gr r (YL er),gs,hn,fun c H4 fc S4 e4=>?_⟩
   have hd4:H4 d=some (.lst ys):=S4 _ _ hd2
   have E5:Ext H4 (upd H4 d (.lst (ys++[.ref c]))):=Ext.upd hd4
   refine⟨hd4,fun q o e=>?_,?_⟩
   ·rw[Zf (Ze e hd)]
    exact S4 _ _ (S2 _ _ e)
   ·rw[Cd _ er]
    exact (R2.ext ((Ext.same S4).trans E5)).snoc ⟨c,rfl,E5.sq (SqT.of e4)⟩
  ·rintro ys H2 ⟨S2,R2⟩ hd2
   refine⟨⟨xs,Zl S2 hA,by omega⟩,d,ys,rfl,.inl ⟨SqL.of hd2,fun l hl'=>?_⟩⟩
   rw[Z1m _ rfl] at R2
   exact k l _ ys (S2.trans (Same.new hl')) Zc (R2.ext (Ext.new hl'))
end
structure BookU (c n:Nat)(os:List Offr):Prop where
 few:os.length<=100
 good:∀ o∈os,GoodO n o
 rep:∀ rs∈gainsP os os.length,rs.length=c/\∃ D Zs,RepL n D Zs rs
 sides:(gainsP os os.length).length<=30
 n1:1<=n
 n8:n<=800
 bits:bitsOf n c (gainsP os os.length).length<=3000
theorem M4 {n:Nat}{D:Int}{Zs:List Int}{as:List Rat}(h:RepL n D Zs as):RepL n D (Zs.map fun z=>-z) (as.map fun r=>mulR' r (-1,1)):=by
 refine⟨h.pos,h.bD,by rw[YC,YC,h.len],fun i W r hW hr=>?_⟩
 rw[YD] at hW hr
 cases e1:Zs[i]? with
 | none=>rw[e1] at hW;cases hW
 | some z =>
  cases e2:as[i]? with
  | none=>rw[e2] at hr;cases hr
  | some x =>
   rw[e1] at hW
   rw[e2] at hr
   cases hW
   cases hr
   obtain⟨a1,a2,a3⟩:=h.at_ i z x e1 e2
   show (mulR' x (-1,1)).1*D=-z*(mulR' x (-1,1)).2/\Bd n (-z)/\Low (mulR' x (-1,1))
   rw[mul_neg a3]
   refine⟨?_,?_,negR.low a3⟩
   ·show -x.1*D=-z*x.2
    rw[Y0v,Y0v,a1]
   ·show (-z).natAbs<2 ^ n
    rw[Y0S]
    exact a2
section
variable {P:Program}{w:World}{K:W.Frag}{mg:Str->Option Value}{base:Heap}
def fU (K:W.Frag):Sp:=fun vs H Q _=>∃ (a:Addr) (rs:List Rat) (n:Nat),vs=[.ref a]/\RowAt K H a rs/\rs.length<=1000/\(∀ r∈rs,Good n r)/\1<=n/\n<=4000/\∀ c H',Same H H'->RowAt K H' c (rs.map fun r=>mulR' r (-1,1))->Q (.ref c) H'
theorem Mx:FnScope ["row"] ["row"] (defScope lJ):=fsc
theorem Z0t (D:Def K mg "turned" lJ ["row"])(eS:Has P w K mg base 4 "multiplied" ["row","by"] (eN K)):Has P w K mg base 5 "turned" ["row"] (fU K):=by
 refine D.has fun f fd F=>F.ok Mx (fun vs H Q E h=>?_) (fun cdv A outer s H vs Q E hr h=>?_)
 ·obtain⟨a,rs,n,rfl,_⟩:=h
  rfl
 ·obtain⟨a,rs,n,rfl,hA,hl,gr,n1,hn,k⟩:=h
  have sc:=Mx
  refine⟨_,(Zd (Zi (Zg eS hr (Z0 (pv 0) (Z0 (Y9 (Z0 (Vy Xx Za) (Z0 Za Z8))) Z8))))),?_⟩
  refine⟨_,rfl,_,rfl,sz2,fun p hp=>?_⟩
  have S1:Same H (upd H p (.tup [.int (-1),.int 1])):=Same.new hp
  have g1:Good n (-1,1):=⟨Xf 1 (by decide) n1,Xf 1 (by decide) n1,by decide,by decide⟩
  exact⟨a,p,rs,(-1,1),n,rfl,hA.same S1,SqT.of Zc,hl,gr,g1,hn,fun c H' ys S e R=>k c H' (S1.trans S) ⟨ys,SqT.of e,R⟩⟩
end
def gainsO (o:Offr):List (List Rat):=(wordsO o).map fun b=>gainR o b
theorem Re (os:List Offr):∀ n,n<=os.length->gainsP os n=(os.take n).flatMap gainsO
 | 0,_=>rfl
 | n+1,h=>by
  have e:os[n]?=some (os.getD n offD):=by simp[List.getD,show n<os.length by omega]
  rw[K5,Re os n (by omega),Y2 e,Y03]
  simp[gainsO]
theorem T4 (os:List Offr):gainsP os os.length=os.flatMap gainsO:=by rw[Re os _ (YE _),YN (YE _)]
theorem P8 {o:Offr}{rs:List Rat}(h:rs∈gainsO o):∃ b r,priceO o b=some r/\rs=gainR o b:=by
 unfold gainsO at h
 obtain⟨b,hb,e⟩:=XE.mp h
 have:(0,b)∈sidesP [o] 1:=by
  unfold sidesP
  simp
  exact hb
 obtain⟨_,r,hr⟩:=Q9 this
 exact⟨b,r,hr,e.symm⟩
theorem Js (o:Offr):(gainsO o).length<=2:=by unfold gainsO;rw[YC];exact Us o
theorem Pa:∀ os:List Offr,(os.flatMap gainsO).length<=2*os.length
 | []=>by simp
 | o::t=>by
  rw[List.flatMap_cons,XD,XY]
  have:=Pa t
  have:=Js o
  omega
structure OffRep (c:Nat)(o:Offr):Prop where
 len:o.row.length=c
 rep:∃ (D A B:Int) (Zs:List Int),RepL 90 D Zs o.row/\(∀ r,o.ask=some r->Low r/\r.1*D=A*r.2/\Bd 90 A)/\∀ r,o.bid=some r->Low r/\r.1*D=B*r.2/\Bd 90 B
theorem OffRep.good {c:Nat}{o:Offr}(h:OffRep c o):GoodO 90 o:=by
 obtain⟨D,A,B,Zs,h1,h2,h3⟩:=h.rep
 exact⟨h1.good,fun r e=>Wz h1.pos (h2 r e).1.pos (h2 r e).1.cop (h2 r e).2.1 h1.bD (h2 r e).2.2,fun r e=>Wz h1.pos (h3 r e).1.pos (h3 r e).1.cop (h3 r e).2.1 h1.bD (h3 r e).2.2⟩
theorem OffRep.gain {c:Nat}{o:Offr}(h:OffRep c o){b:Bool}{r:Rat}(hr:priceO o b=some r):(gainR o b).length=c/\∃ D Zs,RepL 91 D Zs (gainR o b):=by
 refine⟨by rw[Na];exact h.len,?_⟩
 obtain⟨D,A,B,Zs,h1,h2,h3⟩:=h.rep
 have key:∀ (f:Rat->Rat) (g:Int->Int),(∀ i W x,Zs[i]?=some W->o.row[i]?=some x->(f x).1*D=g W*(f x).2/\Bd 91 (g W)/\Low (f x))->RepL 91 D (Zs.map g) (o.row.map f):=fun f g hf=>by
  refine⟨h1.pos,h1.bD.mono (by decide),by rw[YC,YC,h1.len],fun i W x hW hx=>?_⟩
  rw[YD] at hW hx
  cases e1:Zs[i]? with
  | none=>rw[e1] at hW;cases hW
  | some W' =>
   cases e2:o.row[i]? with
   | none=>rw[e2] at hx;cases hx
   | some x' =>
    rw[e1] at hW
    rw[e2] at hx
    cases hW
    cases hx
    exact hf i W' x' e1 e2
 unfold gainR
 cases b with
 | true =>
  have hr:o.ask=some r:=hr
  obtain⟨lr,er,br⟩:=h2 r hr
  rw[hr]
  refine⟨D,_,RepL.cut (key _ (fun W=>W - A) fun i W x e1 e2=>?_) o.ev⟩
  obtain⟨a1,a2,a3⟩:=h1.at_ i W x e1 e2
  exact⟨Rk a3.pos lr.pos a1 er,a2.sub br,To a3 lr⟩
 | false =>
  have hr:o.bid=some r:=hr
  obtain⟨lr,er,br⟩:=h3 r hr
  rw[hr]
  refine⟨D,_,RepL.cut (key _ (fun W=>B - W) fun i W x e1 e2=>?_) o.ev⟩
  obtain⟨a1,a2,a3⟩:=h1.at_ i W x e1 e2
  exact⟨Rk lr.pos a3.pos er a1,br.sub a2,To lr a3⟩
def FitO (Ws:List Int)(o:Offr):Prop:=∀ (b:Bool) (r:Rat),priceO o b=some r->FitR 61 Ws (gainR o b)
def PriceR (t:Int)(mid:Rat)(o:Option Rat):Prop:=∀ r,o=some r->∃ (sl:Rat) (s:Int),r=addR mid sl/\Low sl/\0<=s/\s<=18/\sl.1*6=(t*s)*sl.2
section
variable {c:Nat}{rs:List Rat}{ask bid:Option Rat}{ev:Option (Nat->Bool)}{mid:Rat}{k C:Int}
theorem Uh {t:Int}{o:Option Rat}{r:Rat}(hp:PriceR t mid o)(lm:Low mid)(hm:mid.1*(6*k)=C*mid.2)(bk:Bd 21 k)(bC:Bd 46 C)(ht:t=1 \/ t=-1)(hr:o=some r):∃ s,0<=s/\s<=18/\Low r/\r.1*(6*k)=(C+t*s*k)*r.2/\Bd 50 (C+t*s*k):=by
 obtain⟨sl,s,e,ls,s0,s1,es⟩:=hp r hr
 refine⟨s,s0,s1,by rw[e];exact Ww lm ls,?_,?_⟩
 ·rw[e]
  exact Nv lm.pos ls.pos hm (Va k es)
 ·have b1:Bd 6 (t*s):=Xf 6 (show (t*s).natAbs<64 by rcases ht with rfl | rfl <;> omega) (by decide)
  exact ((bC.mono (show 46<=49 by decide)).add ((b1.mul bk).mono (by decide))).mono (by decide)
theorem C4 (six:∀ r∈rs,Six r)(lr:rs.length=c)(lm:Low mid)(hk:0<k)(hm:mid.1*(6*k)=C*mid.2)(bk:Bd 21 k)(bC:Bd 46 C)(ha:PriceR 1 mid ask)(hb:PriceR (-1) mid bid):OffRep c ⟨rs,ask,bid,ev⟩:=by
 refine⟨lr,?_⟩
 have r6:=(RepL.six six).scale hk bk
 have A:∃ A:Int,∀ r,ask=some r->Low r/\r.1*(6*k)=A*r.2/\Bd 90 A:=by
  cases ask with
  | none=>exact⟨0,fun r e=>nomatch e⟩
  | some x =>
   obtain⟨s,_,_,l,e,b⟩:=Uh ha lm hm bk bC (.inl rfl) rfl
   exact⟨_,fun r er=>by cases er;exact⟨l,e,b.mono (by decide)⟩⟩
 have B:∃ A:Int,∀ r,bid=some r->Low r/\r.1*(6*k)=A*r.2/\Bd 90 A:=by
  cases bid with
  | none=>exact⟨0,fun r e=>nomatch e⟩
  | some x =>
   obtain⟨s,_,_,l,e,b⟩:=Uh hb lm hm bk bC (.inr rfl) rfl
   exact⟨_,fun r er=>by cases er;exact⟨l,e,b.mono (by decide)⟩⟩
 obtain⟨A,hA⟩:=A
 obtain⟨B,hB⟩:=B
 exact⟨6*k,A,B,_,r6.mono (by decide),hA,hB⟩
theorem Cp (six:∀ r∈rs,Six r)(lm:Low mid)(hk:0<k)(hm:mid.1*(6*k)=C*mid.2)(bk:Bd 21 k)(bC:Bd 46 C)(ha:PriceR 1 mid ask)(hb:PriceR (-1) mid bid)(b:Bool)(r:Rat)(hr:priceO ⟨rs,ask,bid,ev⟩ b=some r) :
  ∃ (t s:Int),(t=1 \/ t=-1)/\0<=s/\s<=18/\RepL 61 (6*k) (cutZ ev ((wholeB rs 6).map fun z=>t*(z*k - (C+t*s*k)))) (gainR ⟨rs,ask,bid,ev⟩ b):=by
 have em:∀ t s:Int,(wholeB rs 6).map (fun z=>t*(z*k - (C+t*s*k)))=rs.map fun x=>t*(x.1*(6:Int).fdiv x.2*k - (C+t*s*k)):=fun t s=>by
  unfold wholeB
  rw[List.map_map]
  rfl
 have b6:Bd 61 (6*k):=((Xf (x:=6) 3 (by decide) (by decide):Bd 3 6).mul bk).mono (by decide)
 cases b with
 | true =>
  have hr:ask=some r:=hr
  obtain⟨s,s0,s1,l,e,bb⟩:=Uh ha lm hm bk bC (.inl rfl) hr
  refine⟨1,s,.inl rfl,s0,s1,?_⟩
  unfold gainR
  simp only [zK]
  rw[hr,em]
  refine RepL.cut (RepL.of_map (by omega) b6 rs _ _ fun x hx=>?_) ev
  have sx:=six x hx
  have e1:=Va k sx.rep.1
  refine⟨?_,?_,To sx.g.low l⟩
  ·rw[GR]
   exact Rk sx.g.pos l.pos e1 e
  ·rw[GR]
   exact (((sx.rep.2.mul bk).mono (show 24+21<=50 by decide)).sub bb).mono (by decide)
 | false =>
  have hr:bid=some r:=hr
  obtain⟨s,s0,s1,l,e,bb⟩:=Uh hb lm hm bk bC (.inr rfl) hr
  refine⟨-1,s,.inr rfl,s0,s1,?_⟩
  unfold gainR
  simp only [GX,Y08]
  rw[hr,em]
  refine RepL.cut (RepL.of_map (by omega) b6 rs _ _ fun x hx=>?_) ev
  have sx:=six x hx
  have e1:=Va k sx.rep.1
  have e2:=Rk l.pos sx.g.pos e e1
  refine⟨?_,?_,To l sx.g.low⟩
  ·have:-1*(x.1*(6:Int).fdiv x.2*k - (C + -1*s*k))=(C + -1*s*k) - x.1*(6:Int).fdiv x.2*k:=by omega
   rw[this]
   exact e2
  ·have:-1*(x.1*(6:Int).fdiv x.2*k - (C + -1*s*k))=(C + -1*s*k) - x.1*(6:Int).fdiv x.2*k:=by omega
   rw[this]
   exact (bb.sub ((sx.rep.2.mul bk).mono (show 24+21<=50 by decide))).mono (by decide)
theorem Pb {Ws:List Int}{S M:Int}(lW:Ws.length=c)(nn:∀ W∈Ws,0<=W)(six:∀ r∈rs,Six r)(lr:rs.length=c)(hS:S=(List.zipWith (·*·) Ws (cutZ ev (List.replicate c 1))).sum)(hM:M=(List.zipWith (·*·) Ws (cutZ ev (wholeB rs 6))).sum)
  (lm:Low mid) (hk:0<k) (hm:mid.1*(6*k)=C*mid.2) (bk:Bd 21 k) (bC:Bd 46 C) (h1:0<S->k=S/\C=M) (ha:PriceR 1 mid ask) (hb:PriceR (-1) mid bid):FitO Ws ⟨rs,ask,bid,ev⟩:=fun b r hr=>by
 obtain⟨t,s,ht,s0,s1,rep⟩:=Cp (ev:=ev) six lm hk hm bk bC ha hb b r hr
 have lR:(wholeB rs 6).length=c:=by rw[(RepL.six six).len,lr]
 refine⟨_,_,rep,?_⟩
 rw[Z4b lW lR,<-hS,<-hM]
 have S0:0<=S:=by rw[hS];exact (Qa lW nn).1
 by_cases q:0<S
 ·obtain⟨rfl,rfl⟩:=h1 q
  have e:t*(k*C - (C+t*s*k)*k)=- (s*(k*k)):=by
   rcases ht with rfl | rfl <;> grind
  rw[e]
  have:0<=s*(k*k):=qu s0 (qu S0 S0)
  omega
 ·have e0:S=0:=by omega
  have eM:M=0:=by
   rw[hM]
   exact Kv lW lR nn (by rw[<-hS];exact e0)
  rw[e0,eM]
  simp
end
theorem Z4g (r s:Rat):subR r s=addR r (negR s):=by
 show nrm (r.1*s.2 - s.1*r.2) (r.2*s.2)=nrm (r.1*s.2 + -s.1*r.2) (r.2*s.2)
 rw[Y0v,Int.sub_eq_add_neg]
theorem K4 {z:Int}:(nrm z 2).1*6=z*3*(nrm z 2).2:=by
 have:=Nu (p:=z) (show (2:Int)≠0 by decide)
 have e:=Va 3 this
 exact e
theorem Z0d {z:Int}{mid:Rat}(h0:0<=z)(h1:z<=6):PriceR 1 mid (some (addR mid (nrm z 2))):=fun r e=>by
 cases e
 refine⟨nrm z 2,z*3,rfl,Yu (by decide),by omega,by omega,?_⟩
 rw[GR]
 exact K4
theorem J5 {z:Int}{mid:Rat}(h0:0<=z)(h1:z<=6):PriceR (-1) mid (some (subR mid (nrm z 2))):=fun r e=>by
 cases e
 refine⟨negR (nrm z 2),z*3,Z4g _ _,negR.low (Yu (by decide)),by omega,by omega,?_⟩
 show -(nrm z 2).1*6=-1*(z*3)*(nrm z 2).2
 rw[Y0v,K4]
 grind
theorem PriceR.non {t:Int}{mid:Rat}:PriceR t mid none:=fun r e=>nomatch e
structure MidR (c:Nat)(Ws:List Int)(rs:List Rat)(o:Option (Nat->Bool))(mid:Rat)(k C:Int):Prop where
 len:rs.length=c
 six:∀ r∈rs,Six r
 g:Good 100 mid
 pos:0<k
 eq:mid.1*(6*k)=C*mid.2
 bk:Bd 21 k
 bC:Bd 46 C
 at_:0<(List.zipWith (·*·) Ws (cutZ o (List.replicate c 1))).sum->k=(List.zipWith (·*·) Ws (cutZ o (List.replicate c 1))).sum/\C=(List.zipWith (·*·) Ws (cutZ o (wholeB rs 6))).sum
theorem Same.viaX {b:Addr}{H H1 H2:Hp}(fb:H b=none)(S:Same H H1)(X:SameX b H1 H2):Same H H2:=fun q o e=>X q o (S q o e) (Ze e fb)
section
variable {P:Program}{w:World}{K:W.Frag}{mg:Str->Option Value}{base:Heap}
def jT (K:W.Frag):Sp:=fun vs H Q _=>∃ (a g:Addr) (ve:V) (c:Nat) (Ws:List Int) (ws rs:List Rat) (o:Option (Nat->Bool)),vs=[.ref a,.ref g,ve]/\RowAt K H a ws/\WtsR c Ws ws/\RowAt K H g rs/\rs.length=c/\(∀ r∈rs,Six r)/\EvAt K H c o ve/\1<=c/\c<=100 ∧
 ∀ (am:Addr) (H':Hp) (mid:Rat) (k C:Int),Same H H'->SqT K H' am [.int mid.1,.int mid.2]->MidR c Ws rs o mid k C->Q (.ref am) H'
theorem Z4i:FnScope ["_law_weights_here","_law_row_here","_law_event_here","_law_share"] ["_law_weights_here","_law_row_here","_law_event_here"] (defScope mZ):=fsc
theorem Z6o (D:Def K mg "_law_mid" mZ ["_law_weights_here","_law_row_here","_law_event_here"])(T:Blt mg)(fJ:Has P w K mg base 4 "_law_mean" ["_law_weights_here","_law_row_here"] (gM K))(eK:Z5 P w K mg base)(fC:Has P w K mg base 3 "_law_parted" ["_law_one","_law_other"] (fW K)) :
  Has P w K mg base 5 "_law_mid" ["_law_weights_here","_law_row_here","_law_event_here"] (jT K):=by
 refine D.has fun f fd F=>F.ok Z4i (fun vs H Q E h=>?_) (fun cdv A outer s H vs Q E hr h=>?_)
 ·obtain⟨a,g,ve,c,Ws,ws,rs,o,rfl,_⟩:=h
  rfl
 ·obtain⟨a,g,ve,c,Ws,ws,rs,o,rfl,⟨xs,hxs,hws⟩,wt,⟨us,hus,hrs⟩,l1,six,E0,hc1,hc,k⟩:=h
  have sc:=Z4i
  have nd1:(["_law_one"]:List Str).Nodup:=by decide +kernel
  refine⟨_,(Z9 (Zk (i:=3) sc.nd rfl (Or.inl rfl) (Zg fJ hr (Z0 (pv 0) (Z0 (Zg eK hr (Z0 (Yl (N:=["_law_one"]) (k:=1) (fv:=[]) rfl (Vq (pv 1))
   (fun _ _ _ _ _=>Zq (i:=0) nd1 rfl (Or.inl rfl)) (fun _ _ _ _ _=>Ye) (fun _ _ _ _ _=>(Y9 (Z0 Za (Z0 Za Z8)))) Zx) (Z0 (pv 2) Z8))) Z8))))
   (Z9 (Yc (Zo Xk (Zj X6 (pv 3) Za (fun _ _=>rfl)) Za (Zt _))
    (Zd (Zi (Y9 (Z0 Za (Z0 Za Z8)))))
    Zu)
   (Zd (Zi (Zg fC hr (Z0 (Zg fJ hr (Z0 (pv 0) (Z0 (Zg eK hr (Z0 (pv 1) (Z0 (pv 2) Z8))) Z8))) (Z0 (pv 3) Z8))))))),?_⟩
  have lus:=hrs.len
  refine⟨_,rfl,_,rfl,g,rfl,⟨_,hus⟩,fun d hd=>?_⟩
  refine⟨c,fun j ys H'=>Same H H'/\Rs K H' (List.replicate j (1,1)) ys,Zv (by omega),⟨Same.new hd,.nil⟩,?_,?_⟩
  ·rintro j ys H10 hj ⟨S10,R10⟩ hd10
   refine⟨⟨us,us[j]'(by omega),Zl S10 hus,by simp⟩,?_⟩
   rintro x' H3 ⟨rfl,fx⟩
   refine Yk ?_
   refine⟨sz2,fun p hp=>?_⟩
   have S11:Same H3 (upd H3 p (.tup [.int 1,.int 1])):=Same.new hp
   have hd11:=S11 _ _ hd10
   refine⟨hd11,fun q o' e=>?_,?_⟩
   ·rw[Zf (Ze e hd)]
    exact S11 _ _ (S10 _ _ e)
   ·rw[jt]
    exact (R10.ext ((Ext.same S11).trans (Ext.upd hd11))).snoc ⟨p,rfl,(Ext.upd hd11).sq (SqT.of Zc)⟩
  rintro ys H10 ⟨S10,R10⟩ hd10
  refine⟨⟨us,Zl S10 hus,by omega⟩,_,rfl,d,ve,ys,List.replicate c (1,1),o,rfl,.inl (SqL.of hd10),R10,by rw[XU];exact E0.same S10,by rw[XU];omega,fun p11 H11 S11 R11=>?_⟩
  obtain⟨ys11,h11,r11⟩:=R11
  have S011:=S10.trans S11
  have ro:=(RepL.ones c).cut o
  have lo:(cutR o (List.replicate c (1,1))).length=c:=by rw[Yd,XU]
  refine⟨a,p11,xs,ys11,ws,_,10,1,_,_,_,_,rfl,.inr (Zl S011 hxs),hws.ext (Ext.same S011),.inr h11,r11,by rw[lo];exact wt.len,by rw[lo];omega,wt.rep,ro,by decide,fun ash H12 S12 e12=>?_⟩
  have S012:=S011.trans S12
  have lWs:Ws.length=c:=by rw[wt.rep.len];exact wt.len
  obtain⟨shE,shL⟩:=(wt.rep.mul ro (by rw[lo];exact wt.len)).sum
  have shG:=(wt.rep.mul ro (by rw[lo];exact wt.len)).sumGood (k:=10) (by rw[JF,lo];omega)
  replace shE:(sumR (List.zipWith mulR' ws (cutR o (List.replicate c (1,1))))).1*(Ws.sum*1)=(List.zipWith (·*·) Ws (cutZ o (List.replicate c 1))).sum*(sumR (List.zipWith mulR' ws (cutR o (List.replicate c (1,1))))).2:=shE
  replace shL:Low (sumR (List.zipWith mulR' ws (cutR o (List.replicate c (1,1))))):=shL
  replace shG:Good (10+1+10) (sumR (List.zipWith mulR' ws (cutR o (List.replicate c (1,1))))):=shG
  generalize sumR (List.zipWith mulR' ws (cutR o (List.replicate c (1,1))))=sh at *
  have bS:Bd 21 (List.zipWith (·*·) Ws (cutZ o (List.replicate c 1))).sum:=Z2c (m:=10) (n:=1) (k:=10) (fun W hW=>wt.rep.bdW W hW) (fun z hz=>ro.bdW z hz) (by rw[lWs];omega)
  have r6:=RepL.six six
  have bM:Bd 44 (List.zipWith (·*·) Ws (cutZ o (wholeB rs 6))).sum:=Z2c (m:=10) (n:=24) (k:=10) (fun W hW=>wt.rep.bdW W hW) (fun z hz=>(r6.cut o).bdW z hz) (by rw[lWs];omega)
  have Snn:0<=(List.zipWith (·*·) Ws (cutZ o (List.replicate c 1))).sum:=(Qa lWs wt.nn).1
  have wp:=wt.pos
  refine⟨_,rfl,ash,_,_,rfl,rfl,e12,rfl,_,rfl,?_⟩
  refine Xe (fun h=>?_) (fun h=>?_)
  ·have h0:sh.1=0:=by
    have:=XI h
    injection this
   have S0:¬ 0<(List.zipWith (·*·) Ws (cutZ o (List.replicate c 1))).sum:=fun z=>by
    have h1:=YY z shL.pos
    rw[h0,zo] at shE
    omega
   refine⟨sz2,fun p hp=>?_⟩
   exact k p _ (0,1) 1 0 (S012.trans (Same.new hp)) (SqT.of Zc) ⟨l1,six,⟨bd0 _,Xf 1 (by decide) (by decide),by decide,by decide⟩,by decide,by decide,Xf 1 (by decide) (by decide),bd0 _,fun z=>absurd z S0⟩
  ·have h0:sh.1≠0:=fun z=>h (XX (by rw[z]))
   have hpos:0<sh.1:=by
    have:0<=sh.1:=((Uj (show 0<Ws.sum*1 by omega) shL.pos shE).1).mpr Snn
    omega
   have Spos:0<(List.zipWith (·*·) Ws (cutZ o (List.replicate c 1))).sum:=by
    apply YU
    intro z
    have:(List.zipWith (·*·) Ws (cutZ o (List.replicate c 1))).sum=0:=by omega
    rw[this,zo] at shE
    have:=YY hpos (show 0<Ws.sum*1 by omega)
    omega
   refine⟨_,rfl,_,rfl,_,rfl,g,ve,us,rs,o,rfl,.inr (Zl S012 hus),hrs.ext (Ext.same S012),by rw[l1];exact E0.same S012,by omega,fun p13 H13 S13 R13=>?_⟩
   obtain⟨ys13,h13,r13⟩:=R13
   have rc:=r6.cut o
   have lc:(cutR o rs).length=c:=by rw[Yd];exact l1
   refine⟨a,p13,xs,ys13,ws,_,10,24,_,_,_,_,rfl,.inr (Zl (S012.trans S13) hxs),hws.ext (Ext.same (S012.trans S13)),.inr h13,r13,by rw[lc];exact wt.len,by rw[lc];omega,wt.rep,rc,by decide,fun am2 H14 S14 e14=>?_⟩
   obtain⟨miE,miL⟩:=(wt.rep.mul rc (by rw[lc];exact wt.len)).sum
   have miG:=(wt.rep.mul rc (by rw[lc];exact wt.len)).sumGood (k:=10) (by rw[JF,lc];omega)
   replace miE:(sumR (List.zipWith mulR' ws (cutR o rs))).1*(Ws.sum*6)=(List.zipWith (·*·) Ws (cutZ o (wholeB rs 6))).sum*(sumR (List.zipWith mulR' ws (cutR o rs))).2:=miE
   replace miL:Low (sumR (List.zipWith mulR' ws (cutR o rs))):=miL
   replace miG:Good (10+24+10) (sumR (List.zipWith mulR' ws (cutR o rs))):=miG
   generalize sumR (List.zipWith mulR' ws (cutR o rs))=mi at *
   have S1214:=S13.trans S14
   replace e12:=Zl S1214 e12
   refine⟨_,rfl,am2,ash,mi,sh,44,rfl,e14,e12,miG,shG.mono (by decide),hpos,by decide,fun aq H15 f15 S15 e15=>?_⟩
   have qE:=Z05 (q:=nrm (mi.1*sh.2) (mi.2*sh.1)) miL.pos shL.pos miE shE (Xd (mi.1*sh.2) (mi.2*sh.1))
   have hne:mi.2*sh.1≠0:=W0 miL.pos hpos
   have qG:Good 65 (nrm (mi.1*sh.2) (mi.2*sh.1)):=Tl (miG.b1.mul shG.b2) (miG.b2.mul shG.b1) hne
   exact k aq H15 _ _ _ ((S012.trans S1214).trans S15) (SqT.of e15) ⟨l1,six,qG.mono (by decide),Spos,qE,bS,bM.mono (by decide),fun _=>⟨rfl,rfl⟩⟩
def gW (K:W.Frag):Sp:=fun vs H Q _=>∃ (b a:Addr) (c n:Nat) (Ws:List Int) (ws:List Rat),vs=[.ref b,.ref a,.int 0]/\BagAt H b n/\n<=50000/\RowAt K H a ws/\WtsR c Ws ws/\1<=c/\c<=100 ∧
 ∀ (v:V) (H':Hp) (o:Offr),SameX b H H'->OffAt K H' c o v->OffRep c o->FitO Ws o->Q v H'
theorem L6:FnScope ["_law_bag_here","_law_weights_here","_law_loose","_law_event_here","_law_row_here","_law_mid_here","_law_ask","_law_bid","_law_way"] ["_law_bag_here","_law_weights_here","_law_loose"] (defScope mE):=fsc
theorem Z0z (D:Def K mg "_law_offer" mE ["_law_bag_here","_law_weights_here","_law_loose"])(T:Blt mg)(eA:Z2 P w K mg base)(fQ:Has P w K mg base 2 "_law_event" ["_law_bag_here","_law_count"] (gN K))(gQ:Has P w K mg base 4 "_law_row" ["_law_bag_here","_law_count"] (hG K))(jP:Has P w K mg base 5 "_law_mid" ["_law_weights_here","_law_row_here","_law_event_here"] (jT K))
  (eC:Z1 P w K mg base) (eH:Z7 P w K mg base) (iZ:Has P w K mg base 3 "_law_minus" ["_law_one","_law_other"] (eL K subR)) :
  Has P w K mg base 6 "_law_offer" ["_law_bag_here","_law_weights_here","_law_loose"] (gW K):=by
 refine D.has fun f fd F=>F.ok L6 (fun vs H Q E h=>?_) (fun cdv A outer s H vs Q E hr h=>?_)
 ·obtain⟨b,a,c,n,Ws,ws,rfl,_⟩:=h
  rfl
 ·obtain⟨b,a,c,n,Ws,ws,rfl,hB,hn,⟨xs,hxs,hws⟩,wt,hc1,hc,k⟩:=h
  have sc:=L6
  refine⟨_,(Z9 (Zk (i:=3) sc.nd rfl (Or.inl rfl) (Zg fQ hr (Z0 (pv 0) (Z0 (Y1 Yb rfl T.len zu (Z0 (pv 1) Z8)) Z8))))
   (Z9 (Zk (i:=4) sc.nd rfl (Or.inl rfl) (Zg gQ hr (Z0 (pv 0) (Z0 (Y1 Yb rfl T.len zu (Z0 (pv 1) Z8)) Z8))))
   (Z9 (Zk (i:=5) sc.nd rfl (Or.inl rfl) (Zg jP hr (Z0 (pv 1) (Z0 (pv 4) (Z0 (pv 3) Z8)))))
   (Z9 (Zk (i:=6) sc.nd rfl (Or.inl rfl) (Zg eH hr (Z0 (pv 5) (Z0 (Zg eC hr (Z0 (Zn U8 (Zg eA hr (Z0 (pv 0) (Z0 Za Z8))) (pv 2)) (Z0 Za Z8))) Z8))))
   (Z9 (Zk (i:=7) sc.nd rfl (Or.inl rfl) (Zg iZ hr (Z0 (pv 5) (Z0 (Zg eC hr (Z0 (Zn U8 (Zg eA hr (Z0 (pv 0) (Z0 Za Z8))) (pv 2)) (Z0 Za Z8))) Z8))))
   (Z9 (Zk (i:=8) sc.nd rfl (Or.inl rfl) (Zg eA hr (Z0 (pv 0) (Z0 Za Z8))))
   (Z9 (Xj (Yc (Zo Xk (pv 8) Za (Zt _))
    (Zd (Zk (i:=6) sc.nd rfl (Or.inl rfl) Yn))
    Zu))
   (Z9 (Xj (Yc (Zo Xk (pv 8) Za (Zt _))
    (Zd (Zk (i:=7) sc.nd rfl (Or.inl rfl) Yn))
    Zu))
   (Zd (Zi (Y9 (Z0 (pv 4) (Z0 (pv 6) (Z0 (pv 7) (Z0 (pv 3) Z8))))))))))))))),?_⟩
  have lx:=hws.len
  obtain rfl:c=xs.length:=by have:=wt.len;omega
  generalize hcc:xs.length=c at *
  refine⟨_,rfl,_,rfl,a,xs,rfl,.inr hxs,?_⟩
  rw[hcc]
  refine⟨b,c,n,rfl,hB,by omega,by omega,fun ve H1 o B1 S1 E1=>?_⟩
  have hxs1:SqT K H1 a xs:=(Ext.bag S1 hB).sq hxs
  have hws1:=hws.ext (Ext.bag S1 hB)
  refine⟨_,rfl,_,rfl,a,xs,rfl,.inr hxs1,?_⟩
  rw[hcc]
  refine⟨b,c,_,rfl,B1,by omega,by omega,fun a1 H2 rs B2 S2 R2 l1 six=>?_⟩
  have x12:=Ext.bag S2 B1
  refine⟨_,rfl,_,rfl,_,rfl,a,a1,ve,c,Ws,ws,rs,o,rfl,⟨xs,x12.sq hxs1,hws1.ext x12⟩,wt,R2,l1,six,E1.ext x12,hc1,hc,fun am H3 mid kk C S3 sqm mr=>?_⟩
  have B3:=B2.same S3
  have E3:=(E1.ext x12).same S3
  have R3:=R2.same S3
  have S03:SameX b H H3:=(S1.trans S2).trans (SameX.of S3)
  clear S1 S2 S3 B1 B2 hxs1 hws1 x12 E1 R2
  refine⟨_,rfl,_,rfl,b,_,_,rfl,B3,by omega,by decide,by decide +kernel,fun z H4 z0 z1 B4 S4=>⟨_,rfl,_,_,rfl,rfl,?_⟩⟩
  refine⟨_,_,rfl,by decide,by decide,fun asl H5 f5 S5 e5=>?_⟩
  have e0:z - 0=z:=by omega
  rw[e0] at e5
  have g5:Good 100 (nrm z 2):=(Ri (by omega) (by omega) (.inr (.inl rfl))).g.mono (by decide)
  have x35:=(Ext.bag S4 B3).trans (Ext.same S5)
  refine⟨am,asl,mid,nrm z 2,100,rfl,x35.sq sqm,SqT.of e5,mr.g,g5,by decide,fun aA H6 f6 S6 e6=>?_⟩
  have S36:SameX b H3 H6:=(S4.trans (SameX.of S5)).trans (SameX.of S6)
  have B6:=(B4.same S5).same S6
  have x36:=Ext.bag S36 B3
  clear S4 S5 S6 e5 x35 f5 f6 B4
  refine⟨_,rfl,_,rfl,b,_,_,rfl,B6,by omega,by decide,by decide +kernel,fun y H7 y0 y1 B7 S7=>⟨_,rfl,_,_,rfl,rfl,?_⟩⟩
  refine⟨_,_,rfl,by decide,by decide,fun asl H8 f8 S8 e8=>?_⟩
  have e0:y - 0=y:=by omega
  rw[e0] at e8
  have g8:Good 100 (nrm y 2):=(Ri (by omega) (by omega) (.inr (.inl rfl))).g.mono (by decide)
  have x68:=(Ext.bag S7 B6).trans (Ext.same S8)
  refine⟨am,asl,mid,nrm y 2,100,rfl,x68.sq (x36.sq sqm),SqT.of e8,mr.g,g8,by decide,fun aB H9 f9 S9 e9=>?_⟩
  have S69:SameX b H6 H9:=(S7.trans (SameX.of S8)).trans (SameX.of S9)
  have B9:=(B7.same S8).same S9
  have x69:=Ext.bag S69 B6
  have sqA:=x69.sq (SqT.of (K:=K) e6)
  have sqB:=SqT.of (K:=K) e9
  have x39:=x36.trans x69
  have S09:=(S03.trans S36).trans S69
  clear S7 S8 S9 e8 x68 f8 f9 B7 e6 e9
  refine⟨_,rfl,b,_,_,rfl,B9,by omega,by decide,by decide +kernel,fun wy H10 w0 w1 B10 S10=>?_⟩
  have x910:=Ext.bag S10 B9
  have pu:=Z0d (mid:=mid) z0 (show z<=6 by omega)
  have pd:=J5 (mid:=mid) y0 (show y<=6 by omega)
  have fin:∀ (oa ob:Option Rat) (va vb:V),MayAt K H10 oa va->MayAt K H10 ob vb->PriceR 1 mid oa->PriceR (-1) mid ob->∀ p,H10 p=none->Q (.ref p) (upd H10 p (.tup [.ref a1,va,vb,ve])):=fun oa ob va vb Ma Mb pa pb p hp=>by
   have S11:Same H10 (upd H10 p (.tup [.ref a1,va,vb,ve])):=Same.new hp
   have x11:=Ext.same S11
   have x311:=(x39.trans x910).trans x11
   have lWs:Ws.length=c:=by rw[wt.rep.len];exact wt.len
   exact k _ _ ⟨rs,oa,ob,o⟩ ((S09.trans S10).trans (SameX.of S11)) ⟨p,a1,va,vb,ve,rfl,SqT.of Zc,R3.ext x311,l1,Ma.ext x11,Mb.ext x11,E3.ext x311⟩ (C4 six l1 mr.g.low mr.pos mr.eq mr.bk mr.bC pa pb) (Pb lWs wt.nn six l1 rfl rfl mr.g.low mr.pos mr.eq mr.bk mr.bC mr.at_ pa pb)
  refine⟨fun σ H'=>H'=H10/\∃ (oa:Option Rat) (va:V),σ=[some (.ref b),some (.ref a),some (.int 0),some ve,some (.ref a1),some (.ref am),some va,some (.ref aB),some (.int wy)]/\MayAt K H10 oa va/\PriceR 1 mid oa,?_,?_⟩
  ·refine⟨_,rfl,rfl,_,rfl,?_⟩
   refine Xe (fun h=>?_) (fun h=>?_)
   ·exact⟨rfl,none,.non,rfl,rfl,PriceR.non⟩
   ·exact⟨rfl,some _,.ref aA,rfl,⟨aA,rfl,x910.sq sqA⟩,pu⟩
  rintro σ H11 ⟨rfl,oa,va,rfl,Ma,pa⟩
  refine⟨fun σ H'=>H'=H11/\∃ (ob:Option Rat) (vb:V),σ=[some (.ref b),some (.ref a),some (.int 0),some ve,some (.ref a1),some (.ref am),some va,some vb,some (.int wy)]/\MayAt K H11 ob vb/\PriceR (-1) mid ob,?_,?_⟩
  ·refine⟨_,rfl,rfl,_,rfl,?_⟩
   refine Xe (fun h=>?_) (fun h=>?_)
   ·exact⟨rfl,none,.non,rfl,rfl,PriceR.non⟩
   ·exact⟨rfl,some _,.ref aB,rfl,⟨aB,rfl,x910.sq sqB⟩,pd⟩
  rintro σ H12 ⟨rfl,ob,vb,rfl,Mb,pb⟩
  exact⟨_,rfl,_,rfl,_,rfl,_,rfl,sz4,fun p hp=>fin oa ob va vb Ma Mb pa pb p hp⟩
structure FairB (c:Nat)(Ws:List Int)(os:List Offr):Prop where
 rep:∀ o∈os,OffRep c o
 fit:∀ o∈os,FitO Ws o
 few:os.length<=3
def iS (K:W.Frag):Sp:=fun vs H Q _=>∃ (a:Addr) (c:Nat) (ns:List Int),vs=[.ref a,.int (c:Int)]/\SqL K H a (ns.map V.int)/\1<=c/\c<=100 ∧
 ∀ (t aw l:Addr) (H':Hp) (Ws:List Int) (ws:List Rat) (os:List Offr),Same H H'->SqT K H' t [.ref aw,.ref l]->RowAt K H' aw ws->WtsR c Ws ws->OffsAt K H' l c os->FairB c Ws os->Q (.ref t) H'
theorem Go:FnScope ["_law_script","_law_count","_law_weights_here","_law_many","_law_offers","_law_k"] ["_law_script","_law_count"] (defScope k8):=fsc
theorem Z3v (D:Def K mg "_law_fair_book" k8 ["_law_script","_law_count"])(T:Blt mg)(eF:Has P w K mg base 2 "_law_bag" ["_law_script","_law_at"] (h9 K))(eA:Z2 P w K mg base)(eT:Has P w K mg base 3 "_law_weights" ["_law_bag_here","_law_count"] (eX K))(iY:Has P w K mg base 6 "_law_offer" ["_law_bag_here","_law_weights_here","_law_loose"] (gW K)) :
  Has P w K mg base 7 "_law_fair_book" ["_law_script","_law_count"] (iS K):=by
 refine D.has fun f fd F=>F.ok Go (fun vs H Q E h=>?_) (fun cdv A outer s H vs Q E hr h=>?_)
 ·obtain⟨a,c,ns,rfl,_⟩:=h
  rfl
 ·obtain⟨a,c,ns,rfl,hS,hc1,hc,k⟩:=h
  have sc:=Go
  refine⟨_,(Z9 (Zk (i:=2) sc.nd rfl (Or.inl rfl) (Zg eT hr (Z0 (Zg eF hr (Z0 (pv 0) (Z0 Za Z8))) (Z0 (pv 1) Z8))))
   (Z9 (Zk (i:=3) sc.nd rfl (Or.inl rfl) (Zj Y6 (Wl (Z0 Za (Z0 Za (Z0 Za (Z0 Za (Z0 Za (Z0 Za (Z0 Za (Z0 Za Z8))))))))) (Zg eA hr (Z0 (Zg eF hr (Z0 (pv 0) (Z0 Za Z8))) (Z0 Za Z8))) (fun _ _=>rfl)))
   (Z9 (Zk (i:=4) sc.nd rfl (Or.inl rfl) (Wl Z8))
   (Z9 (V3 JR rfl (Yz rfl T.range (Z0 (pv 3) Z8)) (Zq (i:=5) sc.nd rfl (Or.inl rfl))
    (Zd (W8 (Uq JA GE GF Xg (pv 4) (Z0 (Zg iY hr (Z0 (Zg eF hr (Z0 (pv 0) (Z0 (Zn X1 Za (pv 5)) Z8))) (Z0 (pv 2) (Z0 Za Z8)))) Z8)))))
   (Zd (Zi (Y9 (Z0 (pv 2) (Z0 (pv 4) Z8))))))))),?_⟩
  refine⟨_,rfl,a,2,ns,rfl,hS,by decide,fun b H1 fb S1 B1=>?_⟩
  refine⟨_,rfl,b,c,_,rfl,B1,by omega,hc1,hc,fun aw H2 Ws ws B2 S2 R2 wt=>?_⟩
  have S02:=Same.viaX fb S1 S2
  refine⟨sz8,fun l0 hl0=>?_⟩
  have S3:Same H2 (upd H2 l0 (.lst [.int 0,.int 1,.int 2,.int 3,.int 1,.int 2,.int 3,.int 2])):=Same.new hl0
  have e3:upd H2 l0 (.lst [.int 0,.int 1,.int 2,.int 3,.int 1,.int 2,.int 3,.int 2]) l0=some (.lst [.int 0,.int 1,.int 2,.int 3,.int 1,.int 2,.int 3,.int 2]):=Zc
  generalize upd H2 l0 (.lst [.int 0,.int 1,.int 2,.int 3,.int 1,.int 2,.int 3,.int 2])=H3 at *
  have S03:=S02.trans S3
  refine⟨_,rfl,a,3,ns,rfl,W5 S03 hS,by decide,fun b4 H4 fb4 S4 B4=>?_⟩
  refine⟨b4,_,_,rfl,B4,by omega,by decide,by decide +kernel,fun z H5 z0 z1 B5 S5=>?_⟩
  have S35:=Same.viaX fb4 S4 S5
  obtain⟨m,em,hm⟩:∃ m:Nat,atI [V.int 0,.int 1,.int 2,.int 3,.int 1,.int 2,.int 3,.int 2] z=some (.int m)/\m<=3:=by
   have h:z=0 \/ z=1 \/ z=2 \/ z=3 \/ z=4 \/ z=5 \/ z=6 \/ z=7:=by omega
   rcases h with rfl | rfl | rfl | rfl | rfl | rfl | rfl | rfl
   ·exact⟨0,Zh (j:=0) rfl,by decide⟩
   ·exact⟨1,Zh (j:=1) rfl,by decide⟩
   ·exact⟨2,Zh (j:=2) rfl,by decide⟩
   ·exact⟨3,Zh (j:=3) rfl,by decide⟩
   ·exact⟨1,Zh (j:=4) rfl,by decide⟩
   ·exact⟨2,Zh (j:=5) rfl,by decide⟩
   ·exact⟨3,Zh (j:=6) rfl,by decide⟩
   ·exact⟨2,Zh (j:=7) rfl,by decide⟩
  refine⟨l0,_,_,_,rfl,rfl,SqL.of (S35 _ _ e3),em,?_⟩
  refine⟨sz0,fun l hl=>?_⟩
  have S6:Same H5 (upd H5 l (.lst [])):=Same.new hl
  have e6:upd H5 l (.lst []) l=some (.lst []):=Zc
  have S06:=(S03.trans S35).trans S6
  have W6:=R2.same ((S3.trans S35).trans S6)
  have hl0':H l=none:=Sf (S03.trans S35) hl
  generalize upd H5 l (.lst [])=H6 at *
  clear S1 S2 S3 S4 S5 S6 S35 S03 S02 B1 B2 B4 B5 R2 e3 hl0 hl fb4 em z0 z1
  refine⟨_,rfl,(m:Int),rfl,(by omega),(by omega),?_⟩
  have et:(m:Int).toNat=m:=by omega
  rw[et]
  refine Nb (lo:=0) (n:=m) (fun i σ H'=>Same H H'/\RowAt K H' aw ws/\∃ (vs:List V) (os:List Offr) (x:Option V),σ=[some (.ref a),some (.int c),some (.ref aw),some (.int m),some (.ref l),x]/\H' l=some (.lst vs)/\Paired (fun v o=>OffAt K H' c o v) vs os/\os.length=i/\(∀ o∈os,OffRep c o)/\(∀ o∈os,FitO Ws o)) ⟨S06,W6,[],[],none,rfl,e6,.nil,rfl,(fun _ h=>nomatch h),fun _ h=>nomatch h⟩ ?_ ?_
  ·rintro i σ H7 hi ⟨S7,W7,vs,os,x,rfl,hl7,P7,l7,rep7,fit7⟩
   have lp:=JK P7
   refine⟨_,rfl,.inl ⟨rfl,_,SqL.of hl7⟩,_,rfl,_,rfl,_,_,rfl,rfl,a,4+i,ns,(by show [V.ref a,V.int (4+(0+(i:Int)))]=_;rw[show (4+(0+(i:Int)))=((4+i:Nat):Int) by omega]),W5 S7 hS,by omega,fun b8 H8 fb8 S8 B8=>?_⟩
   refine⟨_,rfl,b8,aw,c,_,Ws,ws,rfl,B8,by omega,W7.same S8,wt,hc1,hc,fun v H9 o S9 O9 r9 f9=>?_⟩
   have S79:=Same.viaX fb8 S8 S9
   have hl9:=S79 _ _ hl7
   refine⟨l,_,_,rfl,rfl,hl9,Pu (by omega),fun q o' e=>?_,(W7.same S79).ext (Ext.upd hl9),vs++[v],os++[o],_,rfl,Zc,Y0t (Zy P7 ((Ext.same S79).trans (Ext.upd hl9))) (O9.ext (Ext.upd hl9)),by rw[XD,l7];rfl,fun o' ho=>?_,fun o' ho=>?_⟩
   ·rw[Zf (Ze e hl0')]
    exact S79 _ _ (S7 q o' e)
   ·rcases JU.mp ho with z | z
    ·exact rep7 o' z
    ·rw[JP.mp z];exact r9
   ·rcases JU.mp ho with z | z
    ·exact fit7 o' z
    ·rw[JP.mp z];exact f9
  ·rintro σ H7 ⟨S7,W7,vs,os,x,rfl,hl7,P7,l7,rep7,fit7⟩
   refine⟨_,rfl,_,rfl,sz2,fun t ht=>?_⟩
   have S8:Same H7 (upd H7 t (.tup [.ref aw,.ref l])):=Same.new ht
   exact k t aw l _ Ws ws os (S7.trans S8) (SqT.of Zc) (W7.same S8) wt ⟨vs,S8 _ _ hl7,Zy P7 (Ext.same S8)⟩ ⟨rep7,fit7,by omega⟩
end
theorem RowR.of {c n:Nat}{as:List Rat}(la:as.length=c)(ra:∃ D Ws,RepL n D Ws as):RowR c as:=⟨la,ra.elim fun D z=>z.elim fun W r=>⟨n,D,W,r⟩⟩
theorem FairB.wts {c:Nat}{Ws:List Int}{ws:List Rat}{os:List Offr}(wt:WtsR c Ws ws)(fb:FairB c Ws os):Wts c (gainsP os os.length) ws:=by
 have lW:Ws.length=c:=by rw[wt.rep.len];exact wt.len
 have wp:=wt.pos
 refine⟨wt.len,⟨_,_,_,wt.rep⟩,fun r hr=>?_,fun rs hr=>?_,?_⟩
 ·obtain⟨i,hi⟩:=XB hr
  have hl:i<Ws.length:=by have:=(YG.mp hi).1;have:=wt.rep.len;omega
  obtain⟨e,_,lo⟩:=wt.rep.at_ i Ws[i] r (by simp[hl]) hi
  exact ((Uj wt.pos lo.pos e).1).mpr (wt.nn _ (YZ hl))
 ·rw[T4] at hr
  obtain⟨o,ho,hm⟩:=Y0E.mp hr
  obtain⟨b,r,hp,e⟩:=P8 hm
  obtain⟨D,Zs,rp,hd⟩:=fb.fit o ho b r hp
  rw[e]
  have ll:(gainR o b).length=c:=by rw[Na];exact (fb.rep o ho).len
  obtain⟨e1,lo⟩:=(wt.rep.mul rp (by rw[wt.len,ll])).sum
  exact ((Uj (YY wt.pos rp.pos) lo.pos e1).2.1).mpr hd
 ·have lp:=Ve c none
  obtain⟨e1,lo⟩:=(wt.rep.mul (Vd c none) (by rw[wt.len,lp])).sum
  have e2:(List.zipWith (·*·) Ws (cutZ none (List.replicate c 1))).sum=Ws.sum:=by
   have:cutZ none (List.replicate c (1:Int))=List.replicate c 1:=by
    apply Y0u
    intro i
    rw[Mn]
    cases (List.replicate c (1:Int))[i]? <;> rfl
   rw[this,<-lW]
   exact (show ∀ l:List Int,(List.zipWith (·*·) l (List.replicate l.length 1)).sum=l.sum from fun l=>by
    induction l with
    | nil=>rfl
    | cons a t ih=>rw[XY,qm,List.zipWith_cons_cons,zw,zw,ih,qe]) Ws
  rw[e2] at e1
  refine Wj lo.pos (by decide) lo.cop (by decide) ?_
  show (sumR (List.zipWith mulR' ws (papR c none))).1*1=1*(sumR (List.zipWith mulR' ws (papR c none))).2
  have e1:(sumR (List.zipWith mulR' ws (papR c none))).1*(Ws.sum*1)=Ws.sum*(sumR (List.zipWith mulR' ws (papR c none))).2:=e1
  generalize sumR (List.zipWith mulR' ws (papR c none))=x at *
  rw[qe] at e1 ⊢
  rw[GR]
  rw[XF x.1] at e1
  exact JM (by omega) e1
theorem FairB.book {c:Nat}{Ws:List Int}{os:List Offr}(fb:FairB c Ws os):BookU c 91 os:=by
 have few:=fb.few
 have fl:=Pa os
 have ga:=T4 os
 refine⟨by omega,fun o ho=>?_,fun rs hr=>?_,by rw[ga];omega,by decide,by decide,?_⟩
 ·have g:=(fb.rep o ho).good
  exact⟨fun r hr=>(g.row r hr).mono (by decide),fun r e=>(g.ask r e).mono (by decide),fun r e=>(g.bid r e).mono (by decide)⟩
 ·rw[ga] at hr
  obtain⟨o,ho,hm⟩:=Y0E.mp hr
  obtain⟨b,r,hp,e⟩:=P8 hm
  rw[e]
  exact (fb.rep o ho).gain hp
 ·rw[ga]
  unfold bitsOf
  omega
end Sb
namespace Sb
open PySem L2 Sv
end Sb
namespace Sb
open PySem L2
section
variable {c:Nat}{rss:List (List Rat)}{ls:List Rat}{o:Option (Nat->Bool)}{u v:Rat}
end
open Sv (sm Y5 Xm Yw sm_zero Y4 Y3 U0)
end Sb
namespace Sb
open PySem L2
def shR (c:Nat)(ev:Option (Nat->Bool))(ws:List Rat):Rat:=mn ws (cutR ev (List.replicate c (1,1)))
theorem RowR.low8 {c:Nat}{as:List Rat}(ra:RowR c as){x:Rat}(h:x∈as):Low x:=by
 obtain⟨_,n,D,Z,r⟩:=ra
 exact (r.good x h).low
theorem RowR.cut {c:Nat}{as:List Rat}(ra:RowR c as)(ev:Option (Nat->Bool)):RowR c (cutR ev as):=by
 obtain⟨l,n,D,Z,r⟩:=ra
 exact⟨by rw[Yd];exact l,n,_,_,r.cut ev⟩
section
variable {c:Nat}{ls rs:List Rat}{ev:Option (Nat->Bool)}{p:Rat}
end
open Sv (sm Y5 Xm Yw sm_zero Y4 Y3 U0)
def gP (o:Option (Nat->Bool))(as:List Rat)(p:Rat):List Rat:=cutR o (as.map fun x=>subR x p)
structure ConV (c:Nat)(rss:List (List Rat))(o:Option (Nat->Bool))(as:List Rat)(v:Rat):Prop where
 low:Low v
 hit:∃ W,Wts c rss W/\(mn W (gP o as v)).1=0/\0<(shR c o W).1
 top:∀ W,Wts c rss W->(mn W (gP o as v)).1<=0
end Sb
namespace Sb
open PySem L2
open Sv (sm)
theorem Tx (c:Nat){n:Nat}(hn:1<=n):RepL n 1 (List.replicate c 0) (List.replicate c (0,1)):=by
 refine⟨by decide,YW (show (1:Int).natAbs<2 ^ 1 by decide) (qf (by decide) hn),by simp,fun i W r hW hr=>?_⟩
 have h1:=qc (YL hW)
 have h2:=qc (YL hr)
 subst h1
 subst h2
 exact⟨rfl,bd0 n,R0⟩
theorem Z1o {r:Rat}(l:Low r):∃ m,Good m r:=⟨r.1.natAbs+r.2.natAbs,YW Y0V (qf (by decide) (by omega)),YW Y0V (qf (by decide) (by omega)),l.pos,l.cop⟩
abbrev ngR (as:List Rat):List Rat:=as.map fun r=>mulR' r (-1,1)
theorem Z1d {c:Nat}{as:List Rat}(ra:RowR c as):RowR c (ngR as):=by
 obtain⟨la,n,D,Z,r⟩:=ra
 exact⟨by rw[YC];exact la,_,_,_,M4 r⟩
theorem Z1g {n:Nat}{r:Rat}(g:Good n r):Good n (negR r):=⟨by show (-r.1).natAbs<2 ^ n;rw[Y0S];exact g.b1,g.b2,g.pos,(negR.low g.low).cop⟩
end Sb
namespace Sb
open PySem L2
structure BookM (c n N M:Nat)(os:List Offr):Prop where
 few:os.length<=100
 good:∀ o∈os,GoodO n o
 rep:∀ rs∈gainsP os os.length,rs.length=c/\∃ D Zs,RepL M D Zs rs
 sides:(gainsP os os.length).length<=30
 m1:1<=M
 n4:n<=4000
 nN:N+M<=3900
 bd:∀ (o:Option (Nat->Bool)) (gs:List Rat) (T':Sv.Tab),(∃ D Ws,RepL M D Ws gs)->InvR c (gainsP os os.length) o gs T'->TabBd N ((gainsP os os.length).length+2) c T'
theorem BookM.rows {c n N M:Nat}{os:List Offr}(b:BookM c n N M os):∀ rs∈gainsP os os.length,RowR c rs:=fun rs hr=>RowR.of (b.rep rs hr).1 (b.rep rs hr).2
theorem Jy {c n M N:Nat}{rss:List (List Rat)}{o:Option (Nat->Bool)}{gs:List Rat}{T:Sv.Tab}(hrs:∀ rs∈rss,∃ D Ws,RepL n D Ws rs)(hgs:∃ D Ws,RepL M D Ws gs)(six:rss.length<=6)(h:6*(n+5)+M+12<=N)(I:InvR c rss o gs T):TabBd N (rss.length+2) c T:=by
 have key:=Z2s (nb:=fun _=>n) (fun r rs e=>hrs rs (YL e)) hgs (by omega) I
 have hN:Sv.sN rss.length (fun _=>n+5)+M+12<=N:=by
  have:=Sv.sN_const (f:=fun _=>n+5) (M:=n+5) (n:=rss.length) fun k hk=>YE _
  have:=GJ (n+5) six
  omega
 exact⟨fun i j hi hj=>(key.l i j hi hj).mono hN,key.b.mono hN⟩
theorem BookU.toM {c M:Nat}{os:List Offr}(bu:BookU c 91 os)(six:(gainsP os os.length).length<=6)(h:91<=M)(h2:2*M+588<=3900):BookM c 91 (M+588) M os :=
 ⟨bu.few,bu.good,fun rs hr=>⟨(bu.rep rs hr).1,(bu.rep rs hr).2.elim fun D z=>z.elim fun Z r=>⟨D,Z,r.mono h⟩⟩,bu.sides,by omega,by decide,by omega,fun o gs T' rg I=>Jy (fun rs hr=>(bu.rep rs hr).2) rg six (by omega) I⟩
theorem MostT.goodM {c N M:Nat}{rss:List (List Rat)}{o:Option (Nat->Bool)}{as:List Rat}{T:Sv.Tab}{D:Int}{Z:List Int}(h:MostT c rss o (cutR o as) T)(ha:RepL M D Z as)(bd:TabBd N (rss.length+2) c T):Good (N+M) (valueR c rss.length (cutR o as) T):=by
 have b1:=(TabOk.of h.inv).endBd bd (c+rss.length+1)
 have b2:=(ha.cut o).least.bD.mul bd.b
 rw[ja] at b2
 have:=YY (ha.cut o).least.pos h.inv.pos
 exact Tl (b1.neg.mono (by omega)) b2 (by omega)
section
variable {P:Program}{w:World}{K:W.Frag}{mg:Str->Option Value}{base:Heap}{C:Addr}
theorem Qe:FnScope ["self","multiples"] ["self","multiples"] (defScope kH):=fsc
theorem Qo {f fI D:Addr}{fd:FuncData}{xn:Str}(F:Fun K "__init__" "NoChance.__init__" kH f fd)(T:Blt mg)(O:ExcI K mg xn C fI)(B:BaseI K mg "SureError" D)(S:StoI K C "multiples"):FnOk P w K mg base CX0 1 f fd ["self","multiples"] (fM K C):=by
 refine F.ok Qe (fun vs H Q E h=>?_) (fun cdv A outer s H vs Q E hr h=>?_)
 ·obtain⟨e,l,xs,rfl,_⟩:=h
  rfl
 ·obtain⟨e,l,xs,rfl,he,hl,k⟩:=h
  refine⟨_,Z9 (W8 (Z0m B rfl (Z0 (pv 0) (Z0 X7 Z8)))) (Zd (Z2x (pv 0) (Y0 Yp rfl T.list XV (Z0 (pv 1) Z8)) rfl)),?_⟩
  refine⟨_,rfl,e,C,fI,none,xn,_,rfl,sz1,he,O,?_⟩
  refine⟨_,rfl,l,xs,rfl,.inl hl,fun l' hl'=>?_⟩
  have ne:e≠l':=fun z=>by rw[<-z,he] at hl';cases hl'
  refine⟨_,rfl,e,C,fI,xn,rfl,?_,O,S,fun d hd hde=>Z28 he hl' hd hde k⟩
  rw[Zf ne]
  exact he
end
abbrev QQ:=_root_.Rat
def qv (r:Rat):QQ:=(r.1:QQ) / (r.2:QQ)
theorem Wk {z:Int}(h:0<z):(z:QQ)≠0:=fun e=>by
 have:z=0:=_root_.Rat.intCast_inj.mp (e.trans _root_.Rat.intCast_zero.symm)
 omega
theorem Xy {z:Int}(h:0<z):0<(z:QQ):=_root_.Rat.intCast_pos.mpr h
theorem J4 {a b:QQ}(h:0<=a*b)(p:0<b):0<=a:=by
 by_cases q:0<=a
 ·exact q
 ·have:=_root_.Rat.mul_pos (show 0 < -a by grind) p
  grind
theorem Z4s {r:Rat}{p q:Int}(hr:0<r.2)(hq:0<q)(e:r.1*q=p*r.2):qv r=(p:QQ) / q:=by
 unfold qv
 have h1:=Wk hr
 have h2:=Wk hq
 have e':(r.1:QQ)*q=p*r.2:=by rw[<-_root_.Rat.intCast_mul,<-_root_.Rat.intCast_mul,e]
 grind
theorem U3 {p q:Int}(h:0<q):qv (nrm p q)=(p:QQ) / q:=Z4s (Yu (by omega)).pos h (Xd p q)
theorem Nw {r s:Rat}(lr:Low r)(ls:Low s):qv (addR r s)=qv r+qv s:=by
 have h1:=Wk lr.pos
 have h2:=Wk ls.pos
 rw[show addR r s=nrm (r.1*s.2+s.1*r.2) (r.2*s.2) from rfl,U3 (YY lr.pos ls.pos)]
 unfold qv
 rw[_root_.Rat.intCast_add,_root_.Rat.intCast_mul,_root_.Rat.intCast_mul,_root_.Rat.intCast_mul]
 grind
theorem Z55 {r s:Rat}(lr:Low r)(ls:Low s):qv (subR r s)=qv r - qv s:=by
 have h1:=Wk lr.pos
 have h2:=Wk ls.pos
 rw[show subR r s=nrm (r.1*s.2 - s.1*r.2) (r.2*s.2) from rfl,U3 (YY lr.pos ls.pos)]
 unfold qv
 rw[_root_.Rat.intCast_sub,_root_.Rat.intCast_mul,_root_.Rat.intCast_mul,_root_.Rat.intCast_mul]
 grind
theorem J1 {r s:Rat}(lr:Low r)(ls:Low s):qv (mulR' r s)=qv r*qv s:=by
 have h1:=Wk lr.pos
 have h2:=Wk ls.pos
 rw[show mulR' r s=nrm (r.1*s.1) (r.2*s.2) from rfl,U3 (YY lr.pos ls.pos)]
 unfold qv
 rw[_root_.Rat.intCast_mul,_root_.Rat.intCast_mul]
 grind
theorem Qk {r:Rat}(h:0<r.2):qv r*(r.2:QQ)=r.1:=by
 have:=Wk h
 unfold qv
 grind
theorem Up {r:Rat}(h:0<r.2):0<=r.1 ↔ 0<=qv r:=by
 have e:=Qk h
 have p:=Xy h
 constructor
 ·intro q
  have:(0:QQ)<=(r.1:QQ):=_root_.Rat.intCast_nonneg.mpr q
  rw[<-e] at this
  exact J4 this p
 ·intro q
  have:=_root_.Rat.mul_nonneg q (_root_.Rat.le_of_lt p)
  rw[e] at this
  exact _root_.Rat.intCast_nonneg.mp this
theorem U4 {r:Rat}(h:0<r.2):r.1<=0 ↔ qv r<=0:=by
 have a:=Up (r:=(-r.1,r.2)) h
 have e:qv (-r.1,r.2)=- qv r:=by
  unfold qv
  rw[show ((-r.1,r.2):Rat).1=-r.1 from rfl,_root_.Rat.intCast_neg]
  grind
 rw[e] at a
 constructor
 ·intro q
  have:=a.mp (show 0<=-r.1 by omega)
  grind
 ·intro q
  have:0<=-r.1:=a.mpr (by grind)
  omega
theorem U2 {r:Rat}(h:0<r.2):0<r.1 ↔ 0<qv r:=by
 have:=U4 h
 constructor
 ·intro q
  by_cases z:qv r<=0
  ·have:=this.mpr z;omega
  ·grind
 ·intro q
  by_cases z:r.1<=0
  ·have:=this.mp z;grind
  ·omega
theorem Sc {r s:Rat}(lr:Low r)(ls:Low s)(h:qv r=qv s):r=s:=by
 refine Wj lr.pos ls.pos lr.cop ls.cop ?_
 have h1:=Qk lr.pos
 have h2:=Qk ls.pos
 have:(r.1:QQ)*s.2=s.1*r.2:=by rw[<-h1,<-h2,h];grind
 rw[<-_root_.Rat.intCast_mul,<-_root_.Rat.intCast_mul] at this
 exact _root_.Rat.intCast_inj.mp this
theorem Z58:qv (0,1)=0:=by
 show ((0:Int):QQ) / ((1:Int):QQ)=0
 rw[_root_.Rat.intCast_zero,_root_.Rat.intCast_one]
 grind
theorem Dp:qv (1,1)=1:=by
 show ((1:Int):QQ) / ((1:Int):QQ)=1
 rw[_root_.Rat.intCast_one]
 grind
def sQ:Nat->(Nat->QQ)->QQ
 | 0,_=>0
 | n+1,f=>sQ n f+f n
theorem Zp {f g:Nat->QQ}:∀ {n:Nat},(∀ k,k<n->f k=g k)->sQ n f=sQ n g
 | 0,_=>rfl
 | n+1,h=>by
  show sQ n f+f n=sQ n g+g n
  rw[Zp fun k hk=>h k (by omega),h n (by omega)]
theorem U1 (f g:Nat->QQ):∀ (n:Nat),sQ n (fun k=>f k+g k)=sQ n f+sQ n g
 | 0=>by show (0:QQ)=0+0;grind
 | n+1=>by
  show sQ n (fun k=>f k+g k)+(f n+g n)=(sQ n f+f n)+(sQ n g+g n)
  rw[U1 f g n]
  grind
theorem Ym (a:QQ)(f:Nat->QQ):∀ (n:Nat),sQ n (fun k=>a*f k)=a*sQ n f
 | 0=>by show 0=a*0;grind
 | n+1=>by
  show sQ n (fun k=>a*f k)+a*f n=a*(sQ n f+f n)
  rw[Ym a f n]
  grind
theorem Rj {f:Nat->QQ}{n:Nat}(h:∀ k,k<n->f k=0):sQ n f=0:=by
 rw[Zp h]
 have:∀ n,sQ n (fun _=>0)=0:=fun n=>by
  induction n with
  | zero=>rfl
  | succ n ih=>show sQ n _+0=0;rw[ih];grind
 exact this n
theorem Qi {f:Nat->QQ}:∀ {n:Nat},(∀ k,k<n->0<=f k)->0<=sQ n f
 | 0,_=>by show (0:QQ)<=0;grind
 | n+1,h=>by
  show 0<=sQ n f+f n
  have h1:=Qi (f:=f) fun k (hk:k<n)=>h k (by omega)
  have h2:=h n (by omega)
  grind
theorem Gr {f g:Nat->QQ}{n:Nat}(h:∀ k,k<n->f k<=g k):sQ n f<=sQ n g:=by
 have:=Qi (f:=fun k=>g k + -1*f k) fun k (hk:k<n)=>by have:=h k hk;grind
 rw[U1,Ym] at this
 grind
theorem Nq (f:Nat->Nat->QQ)(m:Nat):∀ (n:Nat),sQ n (fun i=>sQ m (fun j=>f i j))=sQ m (fun j=>sQ n (fun i=>f i j))
 | 0=>(Rj fun _ _=>rfl).symm
 | n+1=>by
  show sQ n (fun i=>sQ m (fun j=>f i j))+sQ m (fun j=>f n j)=sQ m (fun j=>sQ n (fun i=>f i j)+f n j)
  rw[Nq f m n,U1]
theorem Tf (f:Nat->QQ):∀ (n:Nat),sQ (n+1) f=f 0+sQ n (fun k=>f (k+1))
 | 0=>by show 0+f 0=f 0+0;grind
 | n+1=>by
  show sQ (n+1) f+f (n+1)=f 0+(sQ n (fun k=>f (k+1))+f (n+1))
  rw[Tf f n]
  grind
theorem N2 (p:Nat->Bool)(f:Nat->QQ):∀ (n:Nat),sQ n (fun k=>if p k then f k else 0)=sQ ((List.range n).filter p).length (fun i=>f (((List.range n).filter p).getD i 0))
 | 0=>rfl
 | n+1=>by
  show sQ n (fun k=>if p k then f k else 0)+(if p n then f n else 0)=_
  rw[N2 p f n,zt,qq]
  cases hp:p n with
  | false =>
   have:List.filter p [n]=[]:=by simp[hp]
   rw[this,qi]
   show _+0=_
   grind
  | true =>
   have:List.filter p [n]=[n]:=by simp[hp]
   rw[this,XD]
   show _+f n=sQ (_+1) _
   show _=sQ _ _+_
   congr 1
   ·refine Zp fun k hk=>?_
    congr 1
    rw[YI,YI,JD hk]
   ·congr 1
    rw[YI,XW (YE _),Nat.sub_self]
    rfl
def qr (l:List Rat)(k:Nat):QQ:=qv (l.getD k (0,1))
def Lows (l:List Rat):Prop:=∀ r∈l,Low r
theorem RowR.lows {c:Nat}{l:List Rat}(h:RowR c l):Lows l:=fun r hr=>h.low8 hr
theorem Lows.row {l:List Rat}(h:Lows l):RowR l.length l:=by
 have:∃ n,∀ r∈l,Good n r:=by
  induction l with
  | nil=>exact⟨0,fun r hr=>nomatch hr⟩
  | cons a t ih =>
   obtain⟨n,hn⟩:=ih fun r hr=>h r (YV _ hr)
   obtain⟨m,hm⟩:=Z1o (h a XC)
   refine⟨n+m,fun r hr=>?_⟩
   rcases YS.mp hr with rfl | hr
   ·exact hm.mono (by omega)
   ·exact (hn r hr).mono (by omega)
 obtain⟨n,hn⟩:=this
 exact⟨rfl,_,_,_,RepL.of_good hn⟩
theorem Q4:∀ {l:List Rat} {x:Rat},Low x->Lows l->Low (l.foldl addR x)/\qv (l.foldl addR x)=qv x+sQ l.length (qr l)
 | [],x,lx,_=>⟨lx,by show qv x=qv x+0;grind⟩
 | a::t,x,lx,h=>by
  have la:=h a XC
  obtain⟨h1,h2⟩:=Q4 (x:=addR x a) (Ww lx la) fun r hr=>h r (YV _ hr)
  refine⟨h1,?_⟩
  show qv (t.foldl addR (addR x a))=qv x+sQ (t.length+1) (qr (a::t))
  rw[h2,Tf,Nw lx la]
  have e:sQ t.length (fun k=>qr (a::t) (k+1))=sQ t.length (qr t):=Zp fun k _=>rfl
  rw[e]
  show qv x+qv a+_=qv x+(qv a+_)
  grind
theorem Xp {l:List Rat}(h:Lows l):Low (sumR l):=(Q4 R0 h).1
theorem J0 {l:List Rat}(h:Lows l):qv (sumR l)=sQ l.length (qr l):=by
 have:=(Q4 R0 h).2
 rw[Z58] at this
 show qv (l.foldl addR (0,1))=_
 rw[this]
 grind
theorem Wb {l:List Rat}(h:Lows l)(k:Nat):Low (l.getD k (0,1)):=by
 rw[YI]
 cases e:l[k]? with
 | none=>exact R0
 | some x=>exact h x (YL e)
theorem Qw {l m:List Rat}(h:Lows l)(h':Lows m):Lows (List.zipWith mulR' l m):=fun r hr=>by
 obtain⟨i,hi⟩:=XB hr
 rw[GW] at hi
 cases e1:l[i]? with
 | none=>rw[e1] at hi;simp at hi
 | some x =>
  cases e2:m[i]? with
  | none=>rw[e1,e2] at hi;simp at hi
  | some y =>
   rw[e1,e2] at hi
   cases hi
   exact Tp (h x (YL e1)) (h' y (YL e2))
theorem Z59 {l m:List Rat}(h:Lows l)(h':Lows m){k:Nat}(h1:k<l.length)(h2:k<m.length):qr (List.zipWith mulR' l m) k=qr l k*qr m k:=by
 unfold qr
 have e:(List.zipWith mulR' l m).getD k (0,1)=mulR' (l.getD k (0,1)) (m.getD k (0,1)):=by
  rw[YI,GW,YI,YI,XM h1,XM h2]
  rfl
 rw[e,J1 (Wb h k) (Wb h' k)]
theorem Yo {l m:List Rat}(h:Lows l)(h':Lows m):Low (mn l m):=Xp (Qw h h')
theorem Wu {l m:List Rat}{c:Nat}(h:Lows l)(h':Lows m)(h1:l.length=c)(h2:m.length=c):qv (mn l m)=sQ c (fun k=>qr l k*qr m k):=by
 show qv (sumR _)=_
 rw[J0 (Qw h h')]
 have:(List.zipWith mulR' l m).length=c:=by rw[JF,h1,h2];omega
 rw[this]
 exact Zp fun k hk=>Z59 h h' (by omega) (by omega)
theorem Yt {o:Option (Nat->Bool)}{l:List Rat}(h:Lows l):Lows (cutR o l):=(h.row.cut o).lows
theorem Uv {o:Option (Nat->Bool)}{l:List Rat}{k:Nat}:qr (cutR o l) k=if inE o k then qr l k else 0:=by
 unfold qr cutR
 rw[YI,jr,YI]
 cases l[k]? with
 | none=>show qv (0,1)=if inE o k then qv (0,1) else 0;rw[Z58];cases inE o k <;> rfl
 | some x =>
  show qv (if inE o k then x else (0,1))=if inE o k then qv x else 0
  cases inE o k
  ·exact Z58
  ·rfl
theorem Gx {c k:Nat}(h:k<c):qr (List.replicate c (1,1)) k=1:=by
 unfold qr
 rw[YI,Y0z,YM h]
 exact Dp
theorem X2 (c:Nat):Lows (List.replicate c (1,1)):=fun r hr=>by rw[qc hr];exact Ly
theorem J2 {c k:Nat}{o:Option (Nat->Bool)}(h:k<c):qr (papR c o) k=if inE o k then 1 else 0:=by
 unfold papR
 rw[Uv,Gx h]
theorem Ub (c:Nat)(o:Option (Nat->Bool)):Lows (papR c o):=Yt (X2 c)
structure WtsQ (c:Nat)(rss:List (List Rat))(l:List Rat):Prop where
 len:l.length=c
 low:Lows l
 nn:∀ k,k<c->0<=qr l k
 fit:∀ rs∈rss,sQ c (fun k=>qr l k*qr rs k)<=0
 lie:sQ c (qr l)=1
theorem Wts.toQ {c:Nat}{rss:List (List Rat)}{l:List Rat}(w:Wts c rss l)(hrs:∀ rs∈rss,RowR c rs):WtsQ c rss l:=by
 have lw:Lows l:=w.rep.elim fun n z=>z.elim fun D z=>z.elim fun L r=>fun x hx=>(r.good x hx).low
 refine⟨w.len,lw,fun k hk=>?_,fun rs hr=>?_,?_⟩
 ·refine (Up (Wb lw k).pos).mp ?_
  rw[YI,XM (by rw[w.len];exact hk)]
  exact w.nn _ (YZ _)
 ·have h2:=(hrs rs hr).lows
  rw[<-Wu lw h2 w.len (hrs rs hr).1]
  exact (U4 (Yo lw h2).pos).mp (w.fit rs hr)
 ·have h:=congrArg qv w.lie
  have e:qv (mn l (papR c none))=1:=by rw[<-Dp];exact h
  rw[Wu lw (Ub c none) w.len (Ve c none)] at e
  rw[<-e]
  exact Zp fun k hk=>by rw[J2 hk];show _=_*1;grind
theorem WtsQ.wts {c:Nat}{rss:List (List Rat)}{l:List Rat}(w:WtsQ c rss l)(hrs:∀ rs∈rss,RowR c rs):Wts c rss l:=by
 have rr:=w.low.row
 rw[w.len] at rr
 refine⟨w.len,rr.2,fun r hr=>?_,fun rs hr=>?_,?_⟩
 ·obtain⟨k,hk⟩:=XB hr
  have lk:k<c:=by have:=(YG.mp hk).1;rw[w.len] at this;exact this
  have:=w.nn k lk
  unfold qr at this
  rw[YI,hk] at this
  exact (Up (w.low r hr).pos).mpr this
 ·have h2:=(hrs rs hr).lows
  refine (U4 (Yo w.low h2).pos).mpr ?_
  rw[Wu w.low h2 w.len (hrs rs hr).1]
  exact w.fit rs hr
 ·refine Sc (Yo w.low (Ub c none)) Ly ?_
  show qv (mn l (papR c none))=_
  rw[Wu w.low (Ub c none) w.len (Ve c none),Dp,<-w.lie]
  exact Zp fun k hk=>by rw[J2 hk];show _*1=_;grind
theorem Ys {c:Nat}{o:Option (Nat->Bool)}{l:List Rat}(h:Lows l)(hl:l.length=c):qv (shR c o l)=sQ c (fun k=>if inE o k then qr l k else 0):=by
 show qv (mn l (papR c o))=_
 rw[Wu h (Ub c o) hl (Ve c o)]
 exact Zp fun k hk=>by rw[J2 hk];cases inE o k <;> simp <;> grind
open Sv (sm)
theorem Yf {α:Type}{l:List α}{k:Nat}{x d:α}(h:l[k]?=some x):l.getD k d=x:=by rw[YI,h];rfl
theorem Z09 {a l:QQ}(hl:0<l)(h:l*a<=0):a<=0:=by
 have:=J4 (a:=-a) (b:=l) (by grind) hl
 grind
theorem Z0a {a b:QQ}(h:b≠0):a / b*b=a:=by grind
theorem Qr {a b:QQ}(ha:0<=a)(hb:b<=0):a*b<=0:=by
 have:=_root_.Rat.mul_nonneg ha (show 0<=-b by grind)
 grind
theorem Z4p {f:Nat->QQ}{n:Nat}(h:∀ k,k<n->f k<=0):sQ n f<=0:=by
 have:=Gr (f:=f) (g:=fun _=>0) h
 rw[Rj (f:=fun _=>0) fun _ _=>rfl] at this
 exact this
theorem No (f:Nat->Int):∀ (n:Nat),((sm n f:Int):QQ)=sQ n (fun j=>(f j:QQ))
 | 0=>_root_.Rat.intCast_zero
 | n+1=>by
  show ((sm n f+f n:Int):QQ)=sQ n (fun j=>(f j:QQ))+(f n:QQ)
  rw[_root_.Rat.intCast_add,No f n]
theorem J3 {l:List Rat}{f:Rat->Rat}{k:Nat}(hk:k<l.length):qr (l.map f) k=qv (f (l.getD k (0,1))):=by
 have e1:l[k]?=some l[k]:=by simp[hk]
 unfold qr
 rw[YI,YD,e1,Yf e1]
 rfl
theorem Z08 {c k:Nat}{f:Nat->Rat}(hk:k<c):qr ((List.range c).map f) k=qv (f k):=by
 unfold qr
 rw[YI,YD,zD hk]
 rfl
theorem Z4r {c:Nat}{rs:List Rat}(h:RowR c rs):0<lcmB rs/\∀ v,v<c->(rowF rs v:QQ)=(lcmB rs:QQ)*qr rs v:=by
 obtain⟨hl,n,D,Z,r⟩:=h
 refine⟨r.least.pos,fun v hv=>?_⟩
 have er:rs[v]?=some (rs[v]'(by omega)):=by simp
 obtain⟨e2,_,lo⟩:=r.least.at_ v ((rs[v]'(by omega)).1*(lcmB rs).fdiv (rs[v]'(by omega)).2) (rs[v]'(by omega)) (by unfold wholeB;simp[show v<rs.length by omega]) er
 have p:=Wk r.least.pos
 rw[Nt er]
 unfold qr
 rw[Yf er,Z4s lo.pos r.least.pos e2]
 grind
section
variable {c:Nat}{rss:List (List Rat)}{o:Option (Nat->Bool)}{as W:List Rat}{T:Sv.Tab}{v:Rat}
theorem D4 (rows:∀ rs∈rss,RowR c rs){j:Nat}(hj:j<rss.length):0<lcmB (rss.getD j [])/\∀ i,i<c->(AOf rss j i:QQ)=(lcmB (rss.getD j []):QQ)*qr (rss.getD j []) i:=by
 refine Z4r ?_
 rw[Yf (l:=rss) (x:=rss[j]) (by simp[hj])]
 exact rows _ (YZ hj)
theorem Lm {i:Nat}(hi:i<c):(rowF (papR c o) i:QQ)=if inE o i then 1 else 0:=by
 rw[Z5e hi,Z1q]
 cases inE o i <;> rfl
theorem Z2b {y α β:Nat->Int}(rows:∀ rs∈rss,RowR c rs)(w:WtsQ c rss W)(y0:∀ j,j<rss.length->0<=y j)(h:∀ i,i<c->α i<=sm rss.length (fun j=>AOf rss j i*y j)+β i):sQ c (fun i=>qr W i*(α i:QQ))<=sQ c (fun i=>qr W i*(β i:QQ)):=by
 have a:sQ c (fun i=>qr W i*(α i:QQ))<=sQ c (fun i=>sQ rss.length (fun j=>qr W i*((AOf rss j i:QQ)*(y j:QQ)))+qr W i*(β i:QQ)):=Gr fun i hi=>by
  have:=_root_.Rat.intCast_le_intCast.mpr (h i hi)
  rw[_root_.Rat.intCast_add,No] at this
  rw[Zp (f:=fun j=>((AOf rss j i*y j:Int):QQ)) (g:=fun j=>(AOf rss j i:QQ)*(y j:QQ)) fun j _=>_root_.Rat.intCast_mul _ _] at this
  rw[Ym]
  have:=_root_.Rat.mul_nonneg (w.nn i hi) (show 0<=sQ rss.length (fun j=>(AOf rss j i:QQ)*(y j:QQ))+(β i:QQ) - (α i:QQ) by grind)
  grind
 rw[U1,Nq] at a
 have b:sQ rss.length (fun j=>sQ c (fun i=>qr W i*((AOf rss j i:QQ)*(y j:QQ))))<=0:=Z4p fun j hj=>by
  obtain⟨lp,e⟩:=D4 rows hj
  rw[Zp (g:=fun i=>(y j:QQ)*(lcmB (rss.getD j []):QQ)*(qr W i*qr (rss.getD j []) i)) fun i hi=>by rw[e i hi];grind,Ym]
  refine Qr (_root_.Rat.mul_nonneg (_root_.Rat.intCast_nonneg.mpr (y0 j hj)) (_root_.Rat.le_of_lt (Xy lp))) (w.fit _ ?_)
  rw[Yf (l:=rss) (x:=rss[j]) (by simp[hj])]
  exact YZ hj
 grind
theorem NoneT.noshareq {gs:List Rat}(h:NoneT c rss o gs T)(rows:∀ rs∈rss,RowR c rs)(w:WtsQ c rss W):(shR c o W).1=0:=by
 obtain⟨h1,h2⟩:=h.sv
 have d:=Z2b (y:=fun k=>-Sv.numAt c T rss.length (c+k)) (α:=fun i=>rowF (papR c o) i*T.b) (β:=fun _=>0) rows w (fun j hj=>by have:=h1 j hj;omega) fun i hi=>by have:=h2 i hi;omega
 have ls:=Yo w.low (Yt (o:=o) (X2 c))
 have e:sQ c (fun i=>qr W i*((rowF (papR c o) i*T.b:Int):QQ))=(T.b:QQ)*qv (shR c o W):=by
  rw[Ys w.low w.len,<-Ym]
  refine Zp fun i hi=>?_
  rw[_root_.Rat.intCast_mul,Lm hi]
  cases inE o i <;> simp <;> grind
 rw[e,Rj fun i _=>by rw[_root_.Rat.intCast_zero];grind] at d
 have a:=(U4 ls.pos).mpr (Z09 (Xy h.inv.pos) d)
 have b:0<=qv (shR c o W):=by
  rw[Ys w.low w.len]
  exact Qi fun k hk=>by cases inE o k <;> simp <;> exact w.nn k hk
 have b:=(Up ls.pos).mpr b
 have a:(shR c o W).1<=0:=a
 have b:0<=(shR c o W).1:=b
 omega
theorem NoneT.noloadsq {gs:List Rat}(h:NoneT c rss none gs T)(rows:∀ rs∈rss,RowR c rs)(w:WtsQ c rss W):False:=by
 have e:=h.noshareq rows w
 have ls:=Yo w.low (Yt (o:=none) (X2 c))
 have a:=(U4 ls.pos).mp (show (shR c none W).1<=0 by omega)
 have b:qv (shR c none W)=1:=(Ys w.low w.len).trans w.lie
 have a:qv (shR c none W)<=0:=a
 rw[b] at a
 exact absurd a (by decide)
theorem NoneT.q {gs:List Rat}(h:NoneT c rss o gs T)(rows:∀ rs∈rss,RowR c rs){i:Nat}(hi:i<c):(if inE o i then (1:QQ) else 0)<=sQ rss.length (fun j=>qr (multR c rss T rss.length 1) j*qr (rss.getD j []) i):=by
 have bp:=h.inv.pos
 have pb:=Xy bp
 have s:=_root_.Rat.intCast_le_intCast.mpr (h.sv.2 i hi)
 rw[_root_.Rat.intCast_mul,Lm hi,No] at s
 have e:sQ rss.length (fun j=>((AOf rss j i * -Sv.numAt c T rss.length (c+j):Int):QQ))=(T.b:QQ)*sQ rss.length (fun j=>qr (multR c rss T rss.length 1) j*qr (rss.getD j []) i):=by
  rw[<-Ym]
  refine Zp fun j hj=>?_
  have:qr (multR c rss T rss.length 1) j=((-Sv.numAt c T rss.length (c+j)*lcmB (rss.getD j []):Int):QQ) / ((1*T.b:Int):QQ):=(Z08 hj).trans (U3 (by omega))
  rw[this,_root_.Rat.intCast_mul,_root_.Rat.intCast_mul,(D4 rows hj).2 i hi,GR]
  grind
 rw[e] at s
 have:=J4 (a:=sQ rss.length (fun j=>qr (multR c rss T rss.length 1) j*qr (rss.getD j []) i) - if inE o i then (1:QQ) else 0) (b:=(T.b:QQ)) (by grind) pb
 grind
theorem Wp (hl:Lows as)(lv:Low v):Lows (gP o as v):=by
 unfold gP
 refine Yt fun r hr=>?_
 obtain⟨x,hx,rfl⟩:=XE.mp hr
 exact To (hl x hx) lv
theorem Sm:(gP o as v).length=as.length:=by unfold gP;rw[Yd,YC]
theorem Ll {k:Nat}(hl:Lows as)(lv:Low v)(hk:k<as.length):qr (gP o as v) k=if inE o k then qr as k - qv v else 0:=by
 unfold gP
 rw[Uv,J3 hk,Z55 (Wb hl k) lv]
 rfl
theorem Me (lw:Lows W)(len:W.length=c)(hl:Lows as)(la:as.length=c)(lv:Low v):qv (mn W (gP o as v))=sQ c (fun k=>qr W k*qr (cutR o as) k) + -qv v*qv (shR c o W):=by
 rw[Wu lw (Wp hl lv) len (by rw[Sm,la]),Ys lw len,<-Ym,<-U1]
 refine Zp fun k hk=>?_
 rw[Ll hl lv (by omega),Uv]
 cases inE o k <;> simp <;> grind
theorem Z42 {r:Rat}(l:Low r)(e:qv r=0):r.1=0:=by
 have a:=(U4 l.pos).mpr (by grind)
 have b:=(Up l.pos).mpr (by grind)
 omega
theorem MostT.conq (h:MostT c rss o (cutR o as) T)(rows:∀ rs∈rss,RowR c rs)(ra:RowR c as):ConV c rss o as (valueR c rss.length (cutR o as) T):=by
 have M:=h.sv
 have bp:=h.inv.pos
 have pb:=Xy bp
 obtain⟨gp,ge⟩:=Z4r (ra.cut o)
 have pg:=Xy gp
 have la:=ra.1
 have low:=ra.lows
 have p2:=YY gp bp
 have lv:Low (valueR c rss.length (cutR o as) T):=Yu (by omega)
 have ev:qv (valueR c rss.length (cutR o as) T)*((lcmB (cutR o as):QQ)*(T.b:QQ))=((-T.L (rss.length+1) c:Int):QQ):=by
  have e:qv (valueR c rss.length (cutR o as) T)=((-Sv.endOf (rss.length+2) c T (c+rss.length+1):Int):QQ) / ((lcmB (cutR o as)*T.b:Int):QQ):=U3 p2
  rw[<-h.aim,(TabOk.of h.inv).endO (by omega),_root_.Rat.intCast_mul] at e
  rw[e]
  exact Z0a (by have:=_root_.Rat.mul_pos pg pb;grind)
 generalize valueR c rss.length (cutR o as) T=v at *
 generalize hV:-T.L (rss.length+1) c=V at *
 refine⟨lv,?_,fun W w=>?_⟩
 ·have x0:=M.x0
  have fit:=M.fit
  have lie:=congrArg (fun z:Int=>(z:QQ)) M.lie
  have val:=congrArg (fun z:Int=>(z:QQ)) M.val
  simp only [No,_root_.Rat.intCast_mul] at lie val
  generalize Sv.endOf (rss.length+2) c T=e at *
  rw[Zp fun i hi=>by rw[Lm hi]] at lie
  rw[Zp fun i hi=>by rw[ge i hi],hV] at val
  have en:∀ i,i<c->0<=(e i:QQ):=fun i hi=>_root_.Rat.intCast_nonneg.mpr (x0 i hi)
  have Sp:0<sm c e:=by
   refine _root_.Rat.intCast_pos.mp ?_
   rw[No]
   have:=Gr (n:=c) (f:=fun i=>(if inE o i then (1:QQ) else 0)*(e i:QQ)) (g:=fun i=>(e i:QQ)) fun i hi=>by have:=en i hi;cases inE o i <;> simp <;> grind
   grind
  have ps:=Xy Sp
  have se:=No e c
  generalize sm c e=S at *
  have rp:0<(1:QQ) / (S:QQ):=by
   rcases Classical.em (0<(1:QQ) / (S:QQ)) with z | z
   ·exact z
   ·have:=Qr (_root_.Rat.le_of_lt ps) (show (1:QQ) / (S:QQ)<=0 by grind)
    have e1:(S:QQ)*(1 / (S:QQ))=1:=by grind
    rw[e1] at this
    exact absurd this (by decide)
  have qw:∀ i,i<c->qr ((List.range c).map fun i=>nrm (e i) S) i=1 / (S:QQ)*(e i:QQ):=fun i hi=>by rw[Z08 hi,U3 Sp];grind
  have lw:Lows ((List.range c).map fun i=>nrm (e i) S):=fun r hr=>by
   obtain⟨i,_,rfl⟩:=XE.mp hr
   exact Yu (by omega)
  have len:((List.range c).map fun i=>nrm (e i) S).length=c:=by simp
  generalize (List.range c).map (fun i=>nrm (e i) S)=W at *
  have wq:WtsQ c rss W:=by
   refine⟨len,lw,fun i hi=>?_,fun rs hr=>?_,?_⟩
   ·rw[qw i hi]
    exact _root_.Rat.mul_nonneg (_root_.Rat.le_of_lt rp) (en i hi)
   ·obtain⟨j,hj,rfl⟩:=Y0W hr
    have f:=_root_.Rat.intCast_le_intCast.mpr (fit j hj)
    rw[No] at f
    obtain⟨lp,ea⟩:=D4 rows hj
    rw[Yf (l:=rss) (x:=rss[j]) (by simp[hj])] at lp ea
    rw[Zp (g:=fun i=>(lcmB rss[j]:QQ)*((e i:QQ)*qr rss[j] i)) fun i hi=>by rw[_root_.Rat.intCast_mul,ea i hi];grind,Ym] at f
    rw[Zp (g:=fun i=>1 / (S:QQ)*((e i:QQ)*qr rss[j] i)) fun i hi=>by rw[qw i hi];grind,Ym]
    exact Qr (_root_.Rat.le_of_lt rp) (Z09 (Xy lp) f)
   ·rw[Zp qw,Ym,<-se]
    grind
  have es:qv (shR c o W)=1 / (S:QQ)*(T.b:QQ):=by
   rw[Ys lw len,<-lie,<-Ym]
   exact Zp fun i hi=>by rw[qw i hi];cases inE o i <;> simp <;> grind
  refine⟨W,wq.wts rows,Z42 (Yo lw (Wp low lv)) ?_,(U2 (Yo lw (Yt (X2 c))).pos).mpr ?_⟩
  ·rw[Me lw len low la lv,es]
   have e1:(lcmB (cutR o as):QQ)*sQ c (fun k=>qr W k*qr (cutR o as) k)=1 / (S:QQ)*(V:QQ):=by
    rw[<-val,<-Ym,<-Ym]
    exact Zp fun i hi=>by rw[qw i hi];grind
   have e2:(lcmB (cutR o as):QQ)*(sQ c (fun k=>qr W k*qr (cutR o as) k) + -qv v*(1 / (S:QQ)*(T.b:QQ)))=0:=by
    rw[<-ev] at e1
    grind
   have a:=Z09 pg (show _<=(0:QQ) by rw[e2];exact _root_.Rat.le_refl)
   have b:=J4 (a:=sQ c (fun k=>qr W k*qr (cutR o as) k) + -qv v*(1 / (S:QQ)*(T.b:QQ))) (b:=(lcmB (cutR o as):QQ)) (by grind) pg
   grind
  ·show 0<qv (shR c o W)
   rw[es]
   exact _root_.Rat.mul_pos rp pb
 ·have wq:=w.toQ rows
  refine (U4 (Yo wq.low (Wp low lv)).pos).mpr ?_
  rw[Me wq.low wq.len low la lv]
  have d:=Z2b (y:=fun k=>-Sv.numAt c T (rss.length+1) (c+k)) (α:=fun i=>rowF (cutR o as) i*T.b) (β:=fun i=>rowF (papR c o) i*V) rows wq (fun j hj=>by have:=M.y0 j hj;omega) fun i hi=>by have:=M.show_ i hi;rw[hV] at this;exact this
  have e1:sQ c (fun i=>qr W i*((rowF (cutR o as) i*T.b:Int):QQ))=(lcmB (cutR o as):QQ)*(T.b:QQ)*sQ c (fun k=>qr W k*qr (cutR o as) k):=by
   rw[<-Ym]
   exact Zp fun i hi=>by rw[_root_.Rat.intCast_mul,ge i hi];grind
  have e2:sQ c (fun i=>qr W i*((rowF (papR c o) i*V:Int):QQ))=(V:QQ)*qv (shR c o W):=by
   rw[Ys wq.low wq.len,<-Ym]
   exact Zp fun i hi=>by rw[_root_.Rat.intCast_mul,Lm hi];cases inE o i <;> simp <;> grind
  rw[e1,e2,<-ev] at d
  exact Z09 (_root_.Rat.mul_pos pg pb) (by grind)
end
end Sb
namespace Sb
open PySem PySem.Spec PyProof.Rows L2
section
variable {X:Cx}{K:W.Frag}
end
end Sb
namespace Sb
open PySem L2
section
variable {P:Program}{w:World}{K:W.Frag}{mg:Str->Option Value}{base:Heap}
theorem Br:FnScope ["one","other"] ["one","other"] (defScope mQ):=fsc
theorem Z5p (D:Def K mg "plus" mQ ["one","other"])(eE:Z4 P w K mg base):Has P w K mg base 3 "plus" ["one","other"] (eL K addR):=by
 refine D.has fun f fd F=>F.ok Br (fun vs H Q E h=>?_) (fun cdv A outer s H vs Q E hr h=>?_)
 ·obtain⟨a,b,r,s,n,rfl,_⟩:=h
  rfl
 ·obtain⟨a,b,r,s,n,rfl,hA,hB,gr,gs,hn,k⟩:=h
  have sc:=Br
  refine⟨_,(Zd (Zi (Zg eE hr (Z0 (Zn X1 (Zn Zw (Zj X6 (pv 0) Za (fun _ _=>rfl)) (Zj Yq (pv 1) Za (fun _ _=>rfl))) (Zn Zw (Zj X6 (pv 1) Za (fun _ _=>rfl)) (Zj Yq (pv 0) Za (fun _ _=>rfl)))) (Z0 (Zn Zw (Zj Yq (pv 0) Za (fun _ _=>rfl)) (Zj Yq (pv 1) Za (fun _ _=>rfl))) Z8))))),?_⟩
  exact⟨_,rfl,_,_,_,rfl,rfl,hA,_,rfl,_,_,_,rfl,rfl,hB,_,_,rfl,rfl,gr.b1.mulOk gs.b2 (by omega) (by omega),_,rfl,_,_,_,rfl,rfl,hB,_,rfl,_,_,_,rfl,rfl,hA,_,_,rfl,rfl,gs.b1.mulOk gr.b2 (by omega) (by omega),_,_,rfl,rfl,_,rfl,_,_,_,rfl,rfl,hA,_,rfl,_,_,_,rfl,rfl,hB,_,_,rfl,rfl,gr.b2.mulOk gs.b2 (by omega) (by omega),_,_,rfl,W0 gr.pos gs.pos,Wy gr.b2 gs.b2 hn,k⟩
def gK (K:W.Frag):Sp:=fun vs H Q _=>∃ (a b:Addr) (xs us:List V) (ws rs:List Rat) (n n':Nat) (D D':Int) (Ws Zs:List Int),vs=[.ref a,.ref b]/\(SqL K H a xs \/ SqT K H a xs)/\Rs K H ws xs/\(SqL K H b us \/ SqT K H b us)/\Rs K H rs us/\ws.length=rs.length/\rs.length<=1000/\RepL n D Ws ws/\RepL n' D' Zs rs/\n<=4000/\n'<=4000/\n+n'+10<=8000 ∧
 ∀ c H',Same H H'->SqT K H' c [.int (sumR (List.zipWith mulR' ws rs)).1,.int (sumR (List.zipWith mulR' ws rs)).2]->Q (.ref c) H'
theorem Gh:FnScope ["weights","row","mine","theirs","products"] ["weights","row"] (defScope mS):=fsc
theorem Z3p (D:Def K mg "mean" mS ["weights","row"])(T:Blt mg)(eB:Z6 P w K mg base)(fG:Has P w K mg base 1 "whole_by" ["several","bottom"] (fL K))(fN:Has P w K mg base 3 "ratio" ["top","bottom"] eQ):Has P w K mg base 4 "mean" ["weights","row"] (gK K):=by
 refine D.has fun f fd F=>F.ok Gh (fun vs H Q E h=>?_) (fun cdv A outer s H vs Q E hr h=>?_)
 ·obtain⟨a,b,xs,us,ws,rs,n,n',D,D',Ws,Zs,rfl,_⟩:=h
  rfl
 ·obtain⟨a,b,xs,us,ws,rs,n,n',D,D',Ws,Zs,rfl,hA,hWs,hB,hRs,hl,hl2,rw_,rr,hn,hn',hnn,k⟩:=h
  have sc:=Gh
  have nd1:(["one","other"]:List Str).Nodup:=by decide +kernel
  refine⟨_,(Z9 (Zk (i:=2) sc.nd rfl (Or.inl rfl) (Zg eB hr (Z0 (pv 0) Z8)))
   (Z9 (Zk (i:=3) sc.nd rfl (Or.inl rfl) (Zg eB hr (Z0 (pv 1) Z8)))
   (Z9 (Wv (i:=4) (N:=["one","other"]) (k:=2) (fv:=[]) sc.nd rfl (Or.inl rfl) rfl (Nx rfl T.zip (Z0 (Zg fG hr (Z0 (pv 0) (Z0 (pv 2) Z8))) (Z0 (Zg fG hr (Z0 (pv 1) (Z0 (pv 3) Z8))) Z8)))
   (fun _ _ _ _ _=>V4 (n:=2) rfl (Yh (Zq (i:=0) nd1 rfl (Or.inl rfl)) (Yh (Zq (i:=1) nd1 rfl (Or.inl rfl)) Xr))) (fun _ _ _ _ _=>Ye) (fun _ _ _ _ _=>(Zn Zw (pv 0) (pv 1))) V7)
   (Zd (Zi (Zg fN hr (Z0 (Y1 (Sr (K:=K) rfl) rfl T.sum jh (Z0 (pv 4) Z8)) (Z0 (Zn Zw (pv 2) (pv 3)) Z8)))))))),?_⟩
  have lw:=rw_.least
  have lr:=rr.least
  refine⟨_,rfl,a,xs,ws,n,D,Ws,rfl,hA,hWs,rw_,hn,?_⟩
  refine⟨_,rfl,b,us,rs,n',D',Zs,rfl,hB,hRs,rr,hn',?_⟩
  refine⟨_,rfl,_,rfl,a,_,xs,ws,n,rfl,hA,hWs,lw.good,lw.bD,lw.pos,hn,by omega,fun d1 H1 f1 S1 e1=>?_⟩
  have hB1:SqL K H1 b us \/ SqT K H1 b us:=hB.elim (fun z=>.inl (W5 S1 z)) fun z=>.inr (Zl S1 z)
  refine⟨_,rfl,_,rfl,b,_,us,rs,n',rfl,hB1,hRs.ext (Ext.same S1),lr.good,lr.bD,lr.pos,hn',hl2,fun d2 H2 f2 S2 e2=>?_⟩
  replace e1:=S2 _ _ e1
  refine⟨d1,d2,rfl,⟨_,SqL.of e1⟩,⟨_,SqL.of e2⟩,fun d hd=>?_⟩
  have ll:(wholeB ws (lcmB ws)).length=rs.length:=by rw[lw.len,hl]
  have ll2:(wholeB rs (lcmB rs)).length=rs.length:=lr.len
  generalize hX:wholeB ws (lcmB ws)=As at *
  generalize hY:wholeB rs (lcmB rs)=Bs at *
  have bA:∀ z∈As,Bd n z:=fun z hz=>by
   obtain⟨i,hi⟩:=XB hz
   have hl':i<As.length:=(YG.mp hi).1
   exact (lw.at_ i z (ws[i]'(by omega)) hi (by simp)).2.1
  have bB:∀ z∈Bs,Bd n' z:=fun z hz=>by
   obtain⟨i,hi⟩:=XB hz
   have hl':i<Bs.length:=(YG.mp hi).1
   exact (lr.at_ i z (rs[i]'(by omega)) hi (by simp)).2.1
  refine⟨rs.length,fun i ys H3=>Same H2 H3/\ys=((List.zipWith (·*·) As Bs).take i).map V.int,Zv hl2,⟨Same.new hd,rfl⟩,?_,?_⟩
  ·rintro i ys H3 hi ⟨S3,rfl⟩ hd3
   refine⟨⟨_,_,SqL.of (S3 _ _ e1),SqL.of (S3 _ _ e2),by rw[YC];omega,by rw[YC];omega⟩,?_⟩
   rintro x H4 ⟨p,x0,y0,rfl,hp,rfl,fx,fy⟩
   have ea:As[i]?=some (As[i]'(by omega)):=by simp
   have eb:Bs[i]?=some (Bs[i]'(by omega)):=by simp
   have ex0:x0=V.int (As[i]'(by omega)):=by
    have:=fx _ (SqL.of (S3 _ _ e1))
    rw[YD,ea] at this
    exact (YK this).symm
   have ey0:y0=V.int (Bs[i]'(by omega)):=by
    have:=fy _ (SqL.of (S3 _ _ e2))
    rw[YD,eb] at this
    exact (YK this).symm
   subst ex0 ey0
   refine Rn (SqT.of Zc) ?_
   have hpd:d≠p:=Ze hd3 hp
   refine⟨_,rfl,_,rfl,_,_,rfl,rfl,(bA _ (YZ _)).mulOk (bB _ (YZ _)) (by omega) (by omega),by rw[Zf hpd];exact hd3,fun q o e=>?_,?_⟩
   ·have:=S3 _ _ e
    rw[Zf (Ze e hd),Zf (Ze this hp)]
    exact this
   ·have:(List.zipWith (·*·) As Bs)[i]?=some (As[i]'(by omega)*Bs[i]'(by omega)):=by rw[GW,ea,eb]
    rw[Y2 this,JG]
    rfl
  ·rintro ys H3 ⟨S3,rfl⟩ hd3
   rw[YN (by rw[JF];omega)] at hd3
   refine⟨⟨_,_,SqL.of (S3 _ _ e1),SqL.of (S3 _ _ e2),by rw[YC];omega⟩,?_⟩
   refine⟨_,rfl,d,_,rfl,SqL.of hd3,_,rfl,_,rfl,_,_,rfl,rfl,lw.bD.mulOk lr.bD (by omega) (by omega),_,_,rfl,by have:=YY lw.pos lr.pos;omega,(lw.bD.mul lr.bD).log (by omega),fun c H4 f4 S4 e4=>?_⟩
   have me:=Z43 lw lr hl
   have e5:sumR (List.zipWith mulR' ws rs)=nrm (List.zipWith (·*·) As Bs).sum (lcmB ws*lcmB rs):=me.symm
   refine k c H4 (((S1.trans S2).trans S3).trans S4) ?_
   rw[e5]
   exact SqT.of e4
end
theorem K1 {K:W.Frag}:W.kitOne K (.type "tuple") (.type "int")=some false:=by
 show (if (Value.type "tuple" == Value.type "int")=true then some true else (if W.kitMeta "int"=true then (fastBuiltinMro "tuple").map (·.contains (Value.type "int")) else none))=some false
 decide +kernel
theorem RepL.crude {n:Nat}:∀ {rs:List Rat},(∀ r∈rs,Good n r)->∃ D Ws,RepL (n*rs.length+1) D Ws rs
 | [],_=>⟨1,[],by decide,by show (1:Int).natAbs<2 ^ (n*0+1);rw[Nat.mul_zero];decide,rfl,fun i W r e=>by simp at e⟩
 | r::rs,h=>by
  obtain⟨D,Ws,rp⟩:=RepL.crude (n:=n) (rs:=rs) fun x hx=>h x (YV _ hx)
  have g:=h r XC
  have el:n*(r::rs).length+1=n+(n*rs.length+1):=by rw[XY,Nat.mul_add,Nat.mul_one];omega
  rw[el]
  refine⟨r.2*D,r.1*D::Ws.map (r.2*·),YY g.pos rp.pos,g.b2.mul rp.bD,by simp[rp.len],fun i W x eW ex=>?_⟩
  cases i with
  | zero =>
   simp at eW ex
   subst eW
   subst ex
   exact⟨by rw[JL,XF D,<-JL],g.b1.mul rp.bD,g.low⟩
  | succ i =>
   simp at eW ex
   obtain⟨z,ez,rfl⟩:=eW
   obtain⟨e1,b1,l1⟩:=rp.at_ i z x ez ex
   refine⟨?_,g.b2.mul b1,l1⟩
   rw[Int.mul_left_comm,e1,JL]
def colR (rss:List (List Rat))(k:Nat):List Rat:=rss.map fun rs=>rs.getD k (0,1)
def comeW (c:Nat)(rss:List (List Rat))(ms:List Rat):List Rat:=(List.range c).map fun k=>sumR (List.zipWith mulR' (colR rss k) ms)
theorem C8 (r s:Rat):mulR' r s=mulR' s r:=by
 unfold mulR'
 rw[XF r.1,XF r.2]
theorem D5 (xs ys:List Rat):List.zipWith mulR' xs ys=List.zipWith mulR' ys xs:=List.zipWith_comm_of_comm C8
theorem Ct {n c k:Nat}{rss:List (List Rat)}(hk:k<c)(h:∀ rs∈rss,rs.length=c/\∀ r∈rs,Good n r):∀ r∈colR rss k,Good n r:=fun r hr=>by
 obtain⟨rs,hm,rfl⟩:=XE.mp hr
 obtain⟨l,g⟩:=h rs hm
 have:rs.getD k (0,1)=rs[k]'(by omega):=by simp[List.getD,show k<rs.length by omega]
 rw[this]
 exact g _ (YZ _)
section
variable {P:Program}{w:World}{K:W.Frag}{mg:Str->Option Value}{base:Heap}
def gT (K:W.Frag):Sp:=fun vs H Q _=>∃ (a:Addr) (xs:List V),vs=[.ref a]/\SqT K H a xs/\Q (.bl false) H
theorem Qh:FnScope ["value"] ["value"] (defScope kO):=fsc
theorem Je (D:Def K mg "is_whole" kO ["value"])(T:Blt mg):Has P w K mg base 1 "is_whole" ["value"] (gT K):=by
 refine D.has fun f fd F=>F.ok Qh (fun vs H Q E h=>?_) (fun cdv A outer s H vs Q E hr h=>?_)
 ·obtain⟨a,xs,rfl,_⟩:=h
  rfl
 ·obtain⟨a,xs,rfl,hA,q⟩:=h
  have sc:=Qh
  refine⟨_,(Zd (Zi (Ux (Y1 Xl rfl T.isinstance XT (Z0 (pv 0) (Z0 (Ti T.int jg) Z8))) (Se (J7 (Y1 Xl rfl T.isinstance XT (Z0 (pv 0) (Z0 (Ti T.bool jd) Z8)))))))),?_⟩
  exact⟨_,rfl,_,_,_,_,rfl,hA,K1,_,rfl,X9 q⟩
def jV (K:W.Frag):Sp:=fun vs H Q _=>∃ (a:Addr) (xs:List V),vs=[.ref a]/\SqT K H a xs/\Q (.ref a) H
theorem Z4o:FnScope ["multiple"] ["multiple"] (defScope lI):=fsc
theorem Z6u (D:Def K mg "as_ratio" lI ["multiple"])(fK:Has P w K mg base 1 "is_whole" ["value"] (gT K)):Has P w K mg base 2 "as_ratio" ["multiple"] (jV K):=by
 refine D.has fun f fd F=>F.ok Z4o (fun vs H Q E h=>?_) (fun cdv A outer s H vs Q E hr h=>?_)
 ·obtain⟨a,xs,rfl,_⟩:=h
  rfl
 ·obtain⟨a,xs,rfl,hA,q⟩:=h
  have sc:=Z4o
  refine⟨_,(Zd (Zi (Vc (Xz (Zg fK hr (Z0 (pv 0) Z8))) (Y9 (Z0 (pv 0) (Z0 Za Z8))) (pv 0)))),?_⟩
  exact⟨_,rfl,a,xs,rfl,hA,_,rfl,X9 ⟨_,rfl,q⟩⟩
def LstAt (K:W.Frag)(H:Hp)(a:Addr)(ms:List Rat):Prop:=∃ xs,H a=some (.lst xs)/\Rs K H ms xs
def g0 (K:W.Frag):Sp:=fun vs H Q _=>∃ (l q:Addr) (c:Nat) (rss:List (List Rat)) (ms:List Rat),vs=[.int (c:Int),.ref l,.ref q]/\RowsAt K H l rss/\LstAt K H q ms/\ms.length=rss.length/\rss.length<=24/\c<=100/\(∀ rs∈rss,rs.length=c/\∀ r∈rs,Good 126 r)/\(∃ n D W,n<=4000/\RepL n D W ms) ∧
 ∀ (a:Addr) (H':Hp),Same H H'->RowAt K H' a (comeW c rss ms)->Q (.ref a) H'
theorem Li:FnScope ["count","rows","multiples","taken"] ["count","rows","multiples"] (defScope lY):=fsc
theorem Z1a (D:Def K mg "come_to" lY ["count","rows","multiples"])(T:Blt mg)(jM:Has P w K mg base 2 "as_ratio" ["multiple"] (jV K))(jG:Has P w K mg base 4 "mean" ["weights","row"] (gK K)):Has P w K mg base 5 "come_to" ["count","rows","multiples"] (g0 K):=by
 refine D.has fun f fd F=>F.ok Li (fun vs H Q E h=>?_) (fun cdv A outer s H vs Q E hr h=>?_)
 ·obtain⟨l,q,c,rss,ms,rfl,_⟩:=h
  rfl
 ·obtain⟨l,q,c,rss,ms,rfl,⟨ads,hl,hA⟩,⟨xs,hq,hms⟩,lm,few,hc,hrs,⟨nm,Dm,Wm,hnm,rm⟩,k⟩:=h
  have sc:=Li
  have nd1:(["multiple"]:List Str).Nodup:=by decide +kernel
  have nd2:(["world","rows","taken"]:List Str).Nodup:=by decide +kernel
  have nd3:(["row","world"]:List Str).Nodup:=by decide +kernel
  refine⟨_,(Z9 (Zk (i:=3) sc.nd rfl (Or.inr rfl) (Yl (N:=["multiple"]) (k:=1) (fv:=[]) rfl (Xq (pv 2))
   (fun _ _ _ _ _=>Zq (i:=0) nd1 rfl (Or.inl rfl)) (fun _ _ _ _ _=>Ye) (fun _ _ _ _ _=>(Zg jM hr (Z0 (pv 0) Z8))) Zx))
   (Zd (Zi (Y0 Zz rfl T.tuple YX (Z0 (Z0l (x0:="world") (N:=["world","rows","taken"]) (k:=1) (fv:=[1,3]) rfl (Yz rfl T.range (Z0 (pv 0) Z8))
   (fun _ _ _ _ _=>Zq (i:=0) nd2 rfl (Or.inr rfl)) (fun _ _ _ _ _=>Ye) (fun _ _ _ _ _=>(Zg jG hr (Z0 (pv 2) (Z0 (Yl (N:=["row","world"]) (k:=1) (fv:=[0]) rfl (Z0i (K:=K) (pv 1))
   (fun _ _ _ _ _=>Zq (i:=0) nd3 rfl (Or.inl rfl)) (fun _ _ _ _ _=>Ye) (fun _ _ _ _ _=>(Zj (Fj (K:=K)) (pv 0) (pv 1) (fun _ _=>rfl))) Zx) Z8)))) Zx) Z8))))),?_⟩
  have lads:=JK hA
  have lx:=hms.len
  refine⟨_,rfl,q,rfl,⟨_,SqL.of hq⟩,fun d hd=>?_⟩
  refine⟨ms.length,fun i ys H2=>Same H H2/\Rs K H2 (ms.take i) ys,Zv (by omega),⟨Same.new hd,.nil⟩,?_,?_⟩
  ·rintro i ys H2 hi ⟨S2,R2⟩ hd2
   refine⟨⟨xs,xs[i]'(by omega),SqL.of (S2 _ _ hq),by simp⟩,?_⟩
   rintro x H3 ⟨rfl,fx⟩
   obtain⟨r,er,ix⟩:=hms.back (fx xs (SqL.of (S2 _ _ hq)))
   obtain⟨a1,rfl,sq1⟩:=ix.ext (Ext.same S2)
   refine Yk ?_
   refine⟨_,rfl,a1,_,rfl,sq1,hd2,fun q' o' e=>?_,?_⟩
   ·rw[Zf (Ze e hd)]
    exact S2 _ _ e
   ·rw[Y2 er]
    exact (R2.ext (Ext.upd hd2)).snoc ⟨a1,rfl,(Ext.upd hd2).sq sq1⟩
  rintro ys H1 ⟨S1,R1⟩ hd1
  rw[YN (YE _)] at R1
  refine⟨⟨xs,SqL.of (S1 _ _ hq),by omega⟩,?_⟩
  replace hl:=S1 _ _ hl
  replace hA:=Yy hA (Ext.same S1)
  refine⟨_,rfl,(c:Int),rfl,(by omega),(by omega),fun d0 hd0=>?_⟩
  have et:(c:Int).toNat=c:=by omega
  rw[et]
  refine⟨c,fun j ys H'=>Same H1 H'/\Rs K H' ((comeW c rss ms).take j) ys,Zv (by omega),⟨Same.new hd0,.nil⟩,?_,?_⟩
  ·rintro j zs H2 hj ⟨S2,R2⟩ hd2
   refine⟨hj,?_⟩
   rintro x H3 ⟨rfl,rfl⟩
   have e0:(0+(j:Int))=((j:Nat):Int):=by omega
   rw[e0]
   refine Yk ?_
   have hl3:=S2 _ _ hl
   have A3:=Yy hA (Ext.same S2)
   refine⟨_,rfl,_,rfl,l,rfl,⟨_,SqL.of hl3⟩,fun d2 hd2'=>?_⟩
   refine⟨rss.length,fun i us H'=>Same H3 H'/\Rs K H' ((colR rss j).take i) us,Zv (by omega),⟨Same.new hd2',.nil⟩,?_,?_⟩
   ·rintro i us H4 hi ⟨S4,R4⟩ hd4
    have hia:i<ads.length:=by omega
    refine⟨⟨_,V.ref (ads[i]'hia),SqL.of (S4 _ _ hl3),by simp[hia]⟩,?_⟩
    rintro x H5 ⟨rfl,fx⟩
    have ex:x=V.ref (ads[i]'hia):=by
     have:=fx _ (SqL.of (S4 _ _ hl3))
     rw[YD,XM hia] at this
     exact (YK this).symm
    subst ex
    have er:rss[i]?=some rss[i]:=by simp[hi]
    obtain⟨lr,gr⟩:=hrs rss[i] (YZ hi)
    obtain⟨vs,hvs,rvs⟩:=(Paired.getB A3 (show ads[i]?=some ads[i] by simp[hia]) er).same S4
    have lv:=rvs.len
    have ew:rss[i][j]?=some (rss[i][j]'(by omega)):=by simp
    obtain⟨x1,ex1,b1,rfl,sq1⟩:=rvs.at ew
    refine Yk ?_
    refine⟨_,rfl,_,rfl,ads[i],_,_,_,rfl,rfl,hvs,Zh ex1,hd4,fun q' o' e=>?_,?_⟩
    ·rw[Zf (Ze e hd2')]
     exact S4 _ _ e
    ·have ec:(colR rss j)[i]?=some (rss[i][j]'(by omega)):=by
      unfold colR
      rw[YD,er]
      simp[List.getD,show j<rss[i].length by omega]
     rw[Y2 ec]
     exact (R4.ext (Ext.upd hd4)).snoc ⟨b1,rfl,(Ext.upd hd4).sq sq1⟩
   rintro us H4 ⟨S4,R4⟩ hd4
   have lcol:(colR rss j).length=rss.length:=by unfold colR;rw[YC]
   rw[YN (by omega)] at R4
   refine⟨⟨_,SqL.of (S4 _ _ hl3),by rw[YC];omega⟩,?_⟩
   have S14:=S2.trans S4
   obtain⟨Dc,Wc,rc⟩:=RepL.crude (Ct hj hrs)
   have bc:126*(colR rss j).length+1<=126*24+1:=by omega
   refine⟨d,d2,ys,us,ms,colR rss j,_,_,Dm,Dc,Wm,Wc,rfl,.inl (SqL.of (S14 _ _ hd1)),R1.ext (Ext.same S14),.inl (SqL.of hd4),R4,by omega,by omega,rm,rc,hnm,by omega,by omega,fun cm H5 S5 e5=>?_⟩
   have S15:=S4.trans S5
   have hd5:=S15 _ _ hd2
   refine⟨hd5,fun q' o' e=>?_,?_⟩
   ·rw[Zf (Ze e hd0)]
    exact S15 _ _ (S2 _ _ e)
   ·have ec:(comeW c rss ms)[j]?=some (sumR (List.zipWith mulR' ms (colR rss j))):=by
     unfold comeW
     rw[YD,D5 ms]
     simp[hj]
    rw[Y2 ec]
    exact (R2.ext ((Ext.same S15).trans (Ext.upd hd5))).snoc ⟨cm,rfl,(Ext.upd hd5).sq e5⟩
  rintro zs H2 ⟨S2,R2⟩ hd2
  have lcw:(comeW c rss ms).length=c:=by unfold comeW;simp
  rw[YN (by omega)] at R2
  refine⟨YE _,d0,zs,rfl,.inl ⟨SqL.of hd2,fun ar har=>?_⟩⟩
  exact k ar _ ((S1.trans S2).trans (Same.new har)) ⟨zs,SqT.of Zc,R2.ext (Ext.new har)⟩
end
open Sv (sm)
theorem C7 {c i:Nat}{rss:List (List Rat)}{T:Sv.Tab}(h:0<T.b):Lows (multR c rss T i 1):=fun m hm=>by
 unfold multR at hm
 obtain⟨j,_,rfl⟩:=XE.mp hm
 exact Yu (by omega)
theorem Kj {c k:Nat}{rss:List (List Rat)}(hrs:∀ rs∈rss,RowR c rs):Lows (colR rss k):=fun r hr=>by
 unfold colR at hr
 obtain⟨rs,h,rfl⟩:=XE.mp hr
 exact Wb (hrs rs h).lows k
theorem Z5b {k j:Nat}{rss:List (List Rat)}(hj:j<rss.length):qr (colR rss k) j=qr (rss.getD j []) k:=by
 unfold qr colR
 rw[YI,YD,XM hj,Yf (l:=rss) (x:=rss[j]) (by simp[hj])]
 rfl
theorem Cs {c:Nat}{rss:List (List Rat)}{ms:List Rat}(hrs:∀ rs∈rss,RowR c rs)(hm:Lows ms):Lows (comeW c rss ms):=fun r hr=>by
 unfold comeW at hr
 obtain⟨k,_,rfl⟩:=XE.mp hr
 exact Xp (Qw (Kj hrs) hm)
theorem Pj {c:Nat}{rss:List (List Rat)}{ms:List Rat}:(comeW c rss ms).length=c:=by unfold comeW;simp
theorem Gz {c k:Nat}{rss:List (List Rat)}{ms:List Rat}(hrs:∀ rs∈rss,RowR c rs)(hm:Lows ms)(lm:ms.length=rss.length)(hk:k<c):qr (comeW c rss ms) k=sQ rss.length (fun j=>qr ms j*qr (rss.getD j []) k):=by
 have e:(comeW c rss ms).getD k (0,1)=mn (colR rss k) ms:=by
  unfold comeW
  rw[YI,YD,zD hk]
  rfl
 show qv ((comeW c rss ms).getD k (0,1))=_
 rw[e,Wu (Kj hrs) hm (by unfold colR;simp) lm]
 exact Zp fun j hj=>by rw[Z5b hj];grind
theorem Kc {c:Nat}{rss:List (List Rat)}{ms:List Rat}(hrs:∀ rs∈rss,RowR c rs)(hm:Lows ms)(lm:ms.length=rss.length)(f:Nat->QQ):sQ c (fun k=>f k*qr (comeW c rss ms) k)=sQ rss.length (fun j=>qr ms j*sQ c (fun k=>f k*qr (rss.getD j []) k)):=by
 have e1:sQ c (fun k=>f k*qr (comeW c rss ms) k)=sQ c (fun k=>sQ rss.length (fun j=>qr ms j*(f k*qr (rss.getD j []) k))):=Zp fun k hk=>by
  rw[Gz hrs hm lm hk,<-Ym]
  exact Zp fun j _=>by grind
 rw[e1,Nq]
 exact Zp fun j _=>Ym _ _ _
def outsW (c:Nat)(o:Option (Nat->Bool)):List Nat:=(List.range c).filter fun k=>!inE o k
def foldR (q rs:List Rat)(us:List Nat):List Rat:=mn q rs::us.map fun k=>rs.getD k (0,1)
structure OnE (c:Nat)(o:Option (Nat->Bool))(q:List Rat):Prop where
 len:q.length=c
 low:Lows q
 nn:∀ k,k<c->0<=qr q k
 out:∀ k,k<c->inE o k=false->qr q k=0
 lie:sQ c (qr q)=1
theorem Z24 {q rs:List Rat}{us:List Nat}(h1:Lows q)(h2:Lows rs):Lows (foldR q rs us):=fun r hr=>by
 rcases YS.mp hr with rfl | hr
 ·exact Yo h1 h2
 ·obtain⟨k,_,rfl⟩:=XE.mp hr
  exact Wb h2 k
theorem K8 {q rs:List Rat}{us:List Nat}:(foldR q rs us).length=us.length+1:=by unfold foldR;simp
theorem Gy {q rs:List Rat}{us:List Nat}{i:Nat}(hi:i<us.length):qr (foldR q rs us) (i+1)=qr rs (us.getD i 0):=by
 unfold qr foldR
 rw[List.getD_cons_succ,YI,YD,Yf (l:=us) (x:=us[i]) (by simp[hi]),XM hi]
 rfl
theorem Z25 {q rs:List Rat}{us:List Nat}(f:Nat->QQ):sQ (us.length+1) (fun i=>f i*qr (foldR q rs us) i)=f 0*qv (mn q rs)+sQ us.length (fun i=>f (i+1)*qr rs (us.getD i 0)):=by
 rw[Tf]
 congr 1
 exact Zp fun i hi=>by rw[Gy hi]
theorem Dx {c:Nat}{o:Option (Nat->Bool)}{q F:List Rat}(hq:OnE c o q)(hF:∀ k,k<c->inE o k=true->qr F k=qr q k)(g:Nat->QQ):sQ c (fun k=>qr F k*g k)=sQ c (fun k=>qr q k*g k)+sQ (outsW c o).length (fun i=>qr F ((outsW c o).getD i 0)*g ((outsW c o).getD i 0)):=by
 have e:=N2 (fun k=>!inE o k) (fun k=>qr F k*g k) c
 show _=_+sQ ((List.range c).filter fun k=>!inE o k).length _
 rw[show sQ ((List.range c).filter fun k=>!inE o k).length (fun i=>qr F ((outsW c o).getD i 0)*g ((outsW c o).getD i 0))=_ from e.symm,<-U1]
 refine Zp fun k hk=>?_
 cases z:inE o k with
 | true=>rw[hF k hk z];simp;grind
 | false=>rw[hq.out k hk z];simp;grind
theorem Lo {c k:Nat}{o:Option (Nat->Bool)}(hk:k<c)(h:inE o k=false):∃ i,i<(outsW c o).length/\(outsW c o).getD i 0=k:=by
 have:k∈outsW c o:=by unfold outsW;simp[hk,h]
 obtain⟨i,hi⟩:=XB this
 exact⟨i,(YG.mp hi).1,Yf hi⟩
def narrow (c:Nat)(o:Option (Nat->Bool))(q:List Rat)(rss:List (List Rat)):List (List Rat):=rss.map fun rs=>foldR q rs (outsW c o)
def oneW:Option (Nat->Bool):=some fun k=>k == 0
theorem Qp {c:Nat}{o:Option (Nat->Bool)}{q:List Rat}{rss:List (List Rat)}(h1:Lows q)(hrs:∀ rs∈rss,RowR c rs):∀ ns∈narrow c o q rss,RowR ((outsW c o).length+1) ns:=fun ns hn=>by
 obtain⟨rs,h,rfl⟩:=XE.mp hn
 have:=(Z24 h1 (hrs rs h).lows (us:=outsW c o)).row
 rw[K8] at this
 exact this
structure NotL (c:Nat)(o:Option (Nat->Bool))(rss:List (List Rat))(q R:List Rat):Prop where
 len:R.length=c
 low:Lows R
 up:0<sQ c (fun k=>qr q k*qr R k)
 out:∀ k,k<c->inE o k=false->0<=qr R k
 top:∀ W,WtsQ c rss W->sQ c (fun k=>qr W k*qr R k)<=0
theorem NotL.of {c:Nat}{o:Option (Nat->Bool)}{rss:List (List Rat)}{q ms:List Rat}(hq:OnE c o q)(hrs:∀ rs∈rss,RowR c rs)(hm:Lows ms)(lm:ms.length=rss.length)(nn:∀ j,j<rss.length->0<=qr ms j)
  (h:∀ i,i<(outsW c o).length+1->(if inE oneW i then (1:QQ) else 0)<=sQ rss.length (fun j=>qr ms j*qr ((narrow c o q rss).getD j []) i)):NotL c o rss q (comeW c rss ms):=by
 have en:∀ j,j<rss.length->(narrow c o q rss).getD j []=foldR q (rss.getD j []) (outsW c o):=fun j hj=>by
  unfold narrow
  rw[YI,YD,XM hj,Yf (l:=rss) (x:=rss[j]) (by simp[hj])]
  rfl
 have hr:∀ j,j<rss.length->RowR c (rss.getD j []):=fun j hj=>by
  rw[Yf (l:=rss) (x:=rss[j]) (by simp[hj])]
  exact hrs _ (YZ hj)
 refine⟨Pj,Cs hrs hm,?_,fun k hk z=>?_,fun W w=>?_⟩
 ·have h0:=h 0 (by omega)
  have e:sQ rss.length (fun j=>qr ms j*qr ((narrow c o q rss).getD j []) 0)=sQ c (fun k=>qr q k*qr (comeW c rss ms) k):=by
   rw[Kc hrs hm lm]
   refine Zp fun j hj=>?_
   rw[en j hj]
   congr 1
   show qv (mn q (rss.getD j []))=_
   exact Wu hq.low (hr j hj).lows hq.len (hr j hj).1
  rw[e] at h0
  have:(if inE oneW 0 then (1:QQ) else 0)=1:=rfl
  rw[this] at h0
  grind
 ·obtain⟨i,hi,rfl⟩:=Lo hk z
  have h1:=h (i+1) (by omega)
  have:(if inE oneW (i+1) then (1:QQ) else 0)=0:=rfl
  rw[this] at h1
  rw[Gz hrs hm lm hk]
  rw[Zp fun j hj=>by rw[en j hj,Gy hi]] at h1
  exact h1
 ·rw[Kc hrs hm lm]
  refine Z4p fun j hj=>Qr (nn j hj) ?_
  exact w.fit _ (by rw[Yf (l:=rss) (x:=rss[j]) (by simp[hj])];exact YZ hj)
theorem NotL.in_ {c:Nat}{o:Option (Nat->Bool)}{rss:List (List Rat)}{q R W:List Rat}(h:NotL c o rss q R)(w:WtsQ c rss W):sQ c (fun k=>if inE o k then qr W k*qr R k else 0)<=0:=by
 have t:=h.top W w
 have:sQ c (fun k=>if inE o k then qr W k*qr R k else 0)<=sQ c (fun k=>qr W k*qr R k):=Gr fun k hk=>by
  cases z:inE o k with
  | true=>simp
  | false=>simpa using _root_.Rat.mul_nonneg (w.nn k hk) (h.out k hk z)
 grind
structure ToldQ (c:Nat)(o:Option (Nat->Bool))(W t:List Rat):Prop where
 len:t.length=c
 low:Lows t
 s0:0<qv (shR c o W)
 at_:∀ k,k<c->qr t k*qv (shR c o W)=if inE o k then qr W k else 0
theorem Mu {c:Nat}{o:Option (Nat->Bool)}{W t:List Rat}(h:ToldQ c o W t)(g:Nat->QQ):sQ c (fun k=>qr t k*g k)*qv (shR c o W)=sQ c (fun k=>if inE o k then qr W k*g k else 0):=by
 rw[show sQ c (fun k=>qr t k*g k)*qv (shR c o W)=qv (shR c o W)*sQ c (fun k=>qr t k*g k) by grind,<-Ym]
 refine Zp fun k hk=>?_
 have:=h.at_ k hk
 cases z:inE o k with
 | true=>rw[z] at this;simp at this;simp;rw[<-this];grind
 | false=>rw[z] at this;simp at this;simp;grind
theorem ToldQ.on {c:Nat}{o:Option (Nat->Bool)}{rss:List (List Rat)}{W t:List Rat}(h:ToldQ c o W t)(w:WtsQ c rss W):OnE c o t:=by
 have s0:=h.s0
 refine⟨h.len,h.low,fun k hk=>?_,fun k hk z=>?_,?_⟩
 ·refine J4 (b:=qv (shR c o W)) ?_ s0
  rw[h.at_ k hk]
  cases inE o k
  ·simp
  ·simpa using w.nn k hk
 ·have:=h.at_ k hk
  rw[z] at this
  simp at this
  grind
 ·have e:=Mu h fun _=>1
  have e1:sQ c (fun k=>qr t k*1)=sQ c (qr t):=Zp fun k _=>by grind
  have e2:sQ c (fun k=>if inE o k then qr W k*1 else 0)=qv (shR c o W):=by
   rw[Ys w.low w.len]
   exact Zp fun k _=>by cases inE o k <;> simp <;> grind
  rw[e1,e2] at e
  have z:qv (shR c o W)≠0:=by grind
  have:sQ c (qr t)*qv (shR c o W) / qv (shR c o W)=1:=by rw[e];grind
  grind
theorem NotL.told {c:Nat}{o:Option (Nat->Bool)}{rss:List (List Rat)}{q R W t:List Rat}(h:NotL c o rss q R)(w:WtsQ c rss W)(ht:ToldQ c o W t):sQ c (fun k=>qr t k*qr R k)<=0:=by
 have e:=Mu ht (qr R)
 have i:=h.in_ w
 rw[<-e] at i
 have s0:=ht.s0
 by_cases z:sQ c (fun k=>qr t k*qr R k)<=0
 ·exact z
 ·have:=_root_.Rat.mul_pos (show 0<sQ c (fun k=>qr t k*qr R k) by grind) s0
  grind
end Sb
namespace Sb
open PySem L2
section
variable {P:Program}{w:World}{K:W.Frag}{mg:Str->Option Value}{base:Heap}
def iG (K:W.Frag):Sp:=fun vs H Q _=>∃ (a:Addr) (xs:List V) (rs:List Rat) (n:Nat),vs=[.ref a]/\(SqL K H a xs \/ SqT K H a xs)/\Rs K H rs xs/\(∀ r∈rs,Good n r)/\1+rs.length*(n+1)<=4000 ∧
 ∀ c H',Same H H'->SqT K H' c [.int (sumR rs).1,.int (sumR rs).2]->Q (.ref c) H'
theorem G7:FnScope ["worths","so_far","worth"] ["worths"] (defScope l6):=fsc
theorem Z3e (D:Def K mg "total" l6 ["worths"])(j9:Has P w K mg base 3 "plus" ["one","other"] (eL K addR))(eD:Con K mg "NOUGHT" (0,1)):Has P w K mg base 4 "total" ["worths"] (iG K):=by
 refine D.has fun f fd F=>F.ok G7 (fun vs H Q E h=>?_) (fun cdv A outer s H vs Q E hr h=>?_)
 ·obtain⟨a,xs,rs,n,rfl,_⟩:=h
  rfl
 ·obtain⟨a,xs,rs,n,rfl,hA,hRs,g,hb,k⟩:=h
  obtain⟨c_NOUGHT,m_NOUGHT,s_NOUGHT⟩:=eD
  have sc:=G7
  refine⟨_,(Z9 (Zk (i:=1) sc.nd rfl (Or.inl rfl) (Yx (v:=.ref c_NOUGHT) rfl m_NOUGHT rfl))
   (Z9 (V3 JR rfl (Z0h (pv 0)) (Zq (i:=2) sc.nd rfl (Or.inl rfl))
    (Zd (Zk (i:=1) sc.nd rfl (Or.inl rfl) (Zg j9 hr (Z0 (pv 1) (Z0 (pv 2) Z8))))))
   (Zd (Zi (pv 1))))),?_⟩
  have lx:=hRs.len
  refine⟨_,rfl,Ft (K:=K) (a:=a) (xs:=xs) (fun i σ H'=>Same H H'/\∃ (c:Addr) (x:Option V),σ=[some (.ref a),some (.ref c),x]/\SqT K H' c [.int (sumR (rs.take i)).1,.int (sumR (rs.take i)).2]) hA ⟨Same.refl _,c_NOUGHT,none,rfl,s_NOUGHT _⟩ (fun i σ H' _ h=>h.1) ?_ ?_⟩
  ·rintro i x σ H1 hi ⟨S1,c,x0,rfl,hc⟩
   obtain⟨r,er,ix⟩:=hRs.back hi
   obtain⟨b,rfl,hb'⟩:=ix.ext (Ext.same S1)
   have hil:i<rs.length:=(YG.mp er).1
   refine⟨_,rfl,_,rfl,c,b,_,r,1+rs.length*(n+1),rfl,hc,hb',Q5 g (by omega),(g r (YL er)).mono (M1 hil),hb,fun c2 H2 f2 S2 e2=>?_⟩
   refine⟨S1.trans S2,c2,_,rfl,?_⟩
   rw[Ps er]
   exact SqT.of e2
  ·rintro σ H1 ⟨S1,c,x0,rfl,hc⟩
   rw[<-lx,YN (YE _)] at hc
   exact⟨_,rfl,k c H1 S1 hc⟩
def parR (r s:Rat):Rat:=nrm (r.1*s.2) (r.2*s.1)
theorem Z33 {r s:Rat}(h:0<r.2)(hs:s.1≠0):r.2*s.1≠0:=Int.mul_ne_zero (by omega) hs
def iL (K:W.Frag):Sp:=fun vs H Q _=>∃ (a b:Addr) (r s:Rat) (n:Nat),vs=[.ref a,.ref b]/\SqT K H a [.int r.1,.int r.2]/\SqT K H b [.int s.1,.int s.2]/\Good n r/\Good n s/\n<=4000/\s.1≠0 ∧
 ∀ c H',H c=none->Same H H'->H' c=some (.tup [.int (parR r s).1,.int (parR r s).2])->Q (.ref c) H'
theorem Pz:FnScope ["one","other"] ["one","other"] (defScope lC):=fsc
theorem Z3l (D:Def K mg "parted" lC ["one","other"])(eE:Z4 P w K mg base):Has P w K mg base 3 "parted" ["one","other"] (iL K):=by
 refine D.has fun f fd F=>F.ok Pz (fun vs H Q E h=>?_) (fun cdv A outer s H vs Q E hr h=>?_)
 ·obtain⟨a,b,r,s,n,rfl,_⟩:=h
  rfl
 ·obtain⟨a,b,r,s,n,rfl,hA,hB,gr,gs,hn,h0,k⟩:=h
  have sc:=Pz
  refine⟨_,(Z9 (Yc (Zo Xk (Zj X6 (pv 1) Za (fun _ _=>rfl)) Za (Zt _))
    (Zd Vb)
    Zu)
   (Zd (Zi (Zg eE hr (Z0 (Zn Zw (Zj X6 (pv 0) Za (fun _ _=>rfl)) (Zj Yq (pv 1) Za (fun _ _=>rfl))) (Z0 (Zn Zw (Zj Yq (pv 0) Za (fun _ _=>rfl)) (Zj X6 (pv 1) Za (fun _ _=>rfl))) Z8)))))),?_⟩
  refine⟨_,rfl,b,_,_,rfl,rfl,hB,rfl,_,rfl,P0 (fun z=>h0 (V.int.inj z)) ?_⟩
  exact⟨_,rfl,_,_,_,rfl,rfl,hA,_,rfl,_,_,_,rfl,rfl,hB,_,_,rfl,rfl,gr.b1.mulOk gs.b2 (by omega) (by omega),_,rfl,_,_,_,rfl,rfl,hA,_,rfl,_,_,_,rfl,rfl,hB,_,_,rfl,rfl,gr.b2.mulOk gs.b1 (by omega) (by omega),_,_,rfl,Z33 gr.pos h0,Wy gr.b2 gs.b1 hn,k⟩
def natV (us:List Nat):List V:=us.map fun (k:Nat)=>V.int (k:Int)
def gX (K:W.Frag):Sp:=fun vs H Q _=>∃ (r a l:Addr) (rs q:List Rat) (us:List Nat) (c n n':Nat) (D D':Int) (Z Z':List Int),vs=[.ref r,.ref a,.ref l]/\RowAt K H r rs/\RowAt K H a q/\H l=some (.lst (natV us))/\rs.length=c/\q.length=c/\c<=100/\us.length<=100/\(∀ k∈us,k<c)/\RepL n D Z q/\RepL n' D' Z' rs/\n+n'+10<=4000 ∧
 ∀ (p:Addr) (H':Hp),Same H H'->RowAt K H' p (foldR q rs us)->Q (.ref p) H'
theorem Lf:FnScope ["row","weights","outside"] ["row","weights","outside"] (defScope lV):=fsc
theorem Z17 (D:Def K mg "folded" lV ["row","weights","outside"])(T:Blt mg)(jG:Has P w K mg base 4 "mean" ["weights","row"] (gK K)):Has P w K mg base 5 "folded" ["row","weights","outside"] (gX K):=by
 refine D.has fun f fd F=>F.ok Lf (fun vs H Q E h=>?_) (fun cdv A outer s H vs Q E hr h=>?_)
 ·obtain⟨r,a,l,rs,q,us,c,n,n',D,D',Z,Z',rfl,_⟩:=h
  rfl
 ·obtain⟨r,a,l,rs,q,us,c,n,n',D,D',Z,Z',rfl,hr',ha,hl,lr,lq,hc,hu,hus,rq,rr,hn,k⟩:=h
  have sc:=Lf
  have nd1:(["world","row"]:List Str).Nodup:=by decide +kernel
  refine⟨_,(Zd (Zi (Zn Z38 (Y9 (Z0 (Zg jG hr (Z0 (pv 1) (Z0 (pv 0) Z8))) Z8)) (Y0 Zz rfl T.tuple YX (Z0 (Yl (N:=["world","row"]) (k:=1) (fv:=[0]) rfl (Xq (pv 2))
   (fun _ _ _ _ _=>Zq (i:=0) nd1 rfl (Or.inl rfl)) (fun _ _ _ _ _=>Ye) (fun _ _ _ _ _=>(Zj (Fj (K:=K)) (pv 1) (pv 0) (fun _ _=>rfl))) Zx) Z8))))),?_⟩
  obtain⟨xr,sr,Rr⟩:=hr'
  obtain⟨xa,sa,Ra⟩:=ha
  have lx:=Rr.len
  refine⟨_,rfl,_,rfl,a,r,xa,xr,q,rs,n,n',D,D',Z,Z',rfl,.inr sa,Ra,.inr sr,Rr,by omega,by omega,rq,rr,by omega,by omega,by omega,fun m H1 S1 sm=>?_⟩
  refine⟨sz1,fun t ht=>?_⟩
  have S2:=S1.trans (Same.new (o:=.tup [.ref m]) ht)
  have sm2:=Zl (Same.new (o:=.tup [.ref m]) ht) sm
  have st:SqT K (upd H1 t (.tup [.ref m])) t [.ref m]:=SqT.of Zc
  generalize upd H1 t (.tup [.ref m])=H2 at *
  have hl2:=S2 _ _ hl
  have sr2:=Zl S2 sr
  have Rr2:=Rr.ext (Ext.same S2)
  refine⟨_,rfl,l,rfl,⟨_,SqL.of hl2⟩,fun d hd=>?_⟩
  refine⟨us.length,fun i ys H'=>Same H2 H'/\Rs K H' ((us.map fun k=>rs.getD k (0,1)).take i) ys,Zv (by omega),⟨Same.new hd,.nil⟩,?_,?_⟩
  ·rintro i ys H3 hi ⟨S3,R3⟩ hd3
   refine⟨⟨_,V.int (us[i]:Nat),SqL.of (S3 _ _ hl2),by unfold natV;simp[hi]⟩,?_⟩
   rintro x H4 ⟨rfl,fx⟩
   have hx:=fx _ (SqL.of (S3 _ _ hl2))
   have ex:x=V.int ((us[i]:Nat):Int):=by
    unfold natV at hx
    rw[YD,XM hi] at hx
    exact (YK hx).symm
   subst ex
   have hk:us[i]<xr.length:=by have:=hus us[i] (YZ hi);omega
   refine Yk ?_
   have er:rs[us[i]]?=some (rs[us[i]]'(by omega)):=by simp
   obtain⟨x1,ex1,b1,rfl,sb⟩:=(Rr2.ext (Ext.same S3)).at er
   refine⟨_,rfl,_,rfl,r,_,_,_,rfl,rfl,Zl S3 sr2,Zh ex1,?_⟩
   refine⟨hd3,fun q' o' e=>?_,?_⟩
   ·rw[Zf (Ze e hd)]
    exact S3 _ _ e
   ·have ec:(us.map fun k=>rs.getD k (0,1))[i]?=some (rs[us[i]]'(by omega)):=by
     rw[YD,XM hi]
     simp only [GT]
     rw[Yf er]
    rw[Y2 ec]
    exact (R3.ext (Ext.upd hd3)).snoc ⟨b1,rfl,(Ext.upd hd3).sq sb⟩
  ·rintro ys H3 ⟨S3,R3⟩ hd3
   rw[YN (by simp)] at R3
   refine⟨⟨_,SqL.of (S3 _ _ hl2),by unfold natV;simp⟩,?_⟩
   refine⟨d,ys,rfl,.inl ⟨SqL.of hd3,fun l2 hl3=>?_⟩⟩
   have S4:=Same.new (o:=.tup ys) hl3
   have S34:=S3.trans S4
   have ly:=R3.len
   rw[YC] at ly
   refine⟨t,l2,_,_,rfl,rfl,Zl S34 st,SqT.of Zc,by rw[<-ly];simp;exact Zv (by omega),fun p H5 S5 sq=>?_⟩
   exact k p H5 ((S2.trans S34).trans S5) ⟨_,sq,.cons ⟨m,rfl,Zl (S34.trans S5) sm2⟩ ((R3.ext (Ext.same S4)).ext (Ext.same S5))⟩
end
theorem Z22 {K:W.Frag}{t u:Addr}{xs ys:List V}{g:TG}{tb:TS}{D:Ends}{σ:L2.St}{H:Hp}(Pv:Nat->L2.St->Hp->Prop)(le:xs.length=ys.length)(h0:Pv 0 σ H)(hl:∀ i σ H,i<=xs.length->Pv i σ H->SqT K H t xs/\SqL K H u ys)
  (hs:∀ i x y σ H p,xs[i]?=some x->ys[i]?=some y->Pv i σ H->H p=none->g (.ref p) σ (upd H p (.tup [x,y])) fun σ2 H2=>tb { D with nx:=Pv (i+1),ct:=Pv (i+1),bk:=D.nx } σ2 H2) (hd:∀ σ H,Pv xs.length σ H->D.nx σ H) :
  ∃ W:Nat->Nat->L2.St->Hp->Prop,(∃ m,W 0 m σ H)/\∀ i m σ H,W i m σ H →
   ((ItzM K t u).stop i H/\D.nx σ H) \/ ((ItzM K t u).go i H/\∃ N:L2.St->Hp->Prop,(∀ σ' H',N σ' H'->∃ m',m'<m/\W (i+1) m' σ' H')/\∀ x H',(ItzM K t u).yld i H x H'->g x σ H' fun σ2 H2=>tb { D with nx:=N,ct:=N,bk:=D.nx } σ2 H2):=by
 refine⟨fun i m σ H=>m=xs.length - i/\i<=xs.length/\Pv i σ H,⟨xs.length,by simp,JY _,h0⟩,?_⟩
 rintro i m σ H ⟨rfl,hi,p⟩
 obtain⟨q1,q2⟩:=hl i σ H hi p
 by_cases hlt:i<xs.length
 ·refine .inr ⟨⟨xs,ys,q1,q2,hlt,by omega⟩,Pv (i+1),fun σ' H' p'=>⟨xs.length - (i+1),by omega,rfl,hlt,p'⟩,fun x H' y=>?_⟩
  obtain⟨pp,x0,y0,rfl,hp,rfl,fx,fy⟩:=y
  exact hs i x0 y0 σ H pp (fx xs q1) (fy ys q2) p hp
 ·have e:i=xs.length:=by omega
  subst e
  exact .inl ⟨⟨xs,ys,q1,q2,rfl⟩,hd σ H p⟩
def fillT (q ls:List Rat)(us:List Nat):Nat->List Rat
 | 0=>q
 | i+1=>(fillT q ls us i).set (us.getD i 0) (ls.getD i (0,1))
theorem Uf {q ls:List Rat}{us:List Nat}:∀ i,(fillT q ls us i).length=q.length
 | 0=>rfl
 | i+1=>by show ((fillT q ls us i).set _ _).length=_;rw[qj];exact Uf i
theorem Tu {q ls:List Rat}{us:List Nat}{C:Rat->Prop}(hq:∀ r∈q,C r)(h0:C (0,1))(hl:∀ r∈ls,C r):∀ i,∀ r∈fillT q ls us i,C r
 | 0=>hq
 | i+1=>fun r hr=>by
  rcases Y0o (show r∈(fillT q ls us i).set _ _ from hr) with h | h
  ·exact Tu hq h0 hl i r h
  ·rw[h,YI]
   cases e:ls[i]? with
   | none=>exact h0
   | some x=>exact hl x (YL e)
theorem Rs.set {K:W.Frag}{H:Hp}{rs:List Rat}{xs:List V}{k:Nat}{r:Rat}{v:V}(h:Rs K H rs xs)(i:IsR K H r v):Rs K H (rs.set k r) (xs.set k v):=by
 induction h generalizing k with
 | nil=>exact .nil
 | cons a t ih=>cases k with
  | zero=>exact .cons i t
  | succ k=>exact .cons a ih
theorem Ui {s:Rat}(h:Low s)(p:0<s.1):parR (1,1) s=(s.2,s.1):=by
 show nrm (1*s.2) (1*s.1)=_
 rw[GR,GR]
 exact Tk (r:=(s.2,s.1)) p (by rw[zl];exact h.cop)
section
variable {P:Program}{w:World}{K:W.Frag}{mg:Str->Option Value}{base:Heap}
def fT (K:W.Frag):Sp:=fun vs H Q _=>∃ (lo a l:Addr) (L q:List Rat) (us:List Nat) (c n:Nat),vs=[.ref lo,.ref a,.ref l]/\RowAt K H lo L/\RowAt K H a q/\H l=some (.lst (natV us))/\L.length=us.length+1/\q.length=c/\c<=100/\us.length<=100/\(∀ k∈us,k<c)/\(∀ r∈L,Good n r)/\(∀ r∈q,Good n r)/\1<=n/\1+c*(n+1)<=4000/\0<(sumR (fillT q (L.drop 1) us us.length)).1 ∧
 ∀ (p:Addr) (H':Hp),Same H H'->RowAt K H' p ((fillT q (L.drop 1) us us.length).map fun r=>mulR' r (parR (1,1) (sumR (fillT q (L.drop 1) us us.length))))->Q (.ref p) H'
theorem Qc:FnScope ["loads","weights","outside","filled","load","world"] ["loads","weights","outside"] (defScope kY):=fsc
theorem Ja (D:Def K mg "unfolded" kY ["loads","weights","outside"])(T:Blt mg)(jZ:Has P w K mg base 4 "total" ["worths"] (iG K))(jO:Has P w K mg base 3 "parted" ["one","other"] (iL K))(eS:Has P w K mg base 4 "multiplied" ["row","by"] (eN K))(j3:Con K mg "ONE" (1,1)):Has P w K mg base 5 "unfolded" ["loads","weights","outside"] (fT K):=by
 refine D.has fun f fd F=>F.ok Qc (fun vs H Q E h=>?_) (fun cdv A outer s H vs Q E hr h=>?_)
 ·obtain⟨lo,a,l,L,q,us,c,n,rfl,_⟩:=h
  rfl
 ·obtain⟨lo,a,l,L,q,us,c,n,rfl,⟨xL,sL,RL⟩,⟨xq,sq,Rq⟩,hl,lL,lq,hc,hu,hus,gL,gq,n1,hn,pos,k⟩:=h
  obtain⟨c_ONE,m_ONE,s_ONE⟩:=j3
  have sc:=Qc
  refine⟨_,(Z9 (Zk (i:=3) sc.nd rfl (Or.inl rfl) (Y0 Yp rfl T.list XV (Z0 (pv 1) Z8)))
   (Z9 (V3 JR rfl (Z30 rfl T.zip (Z0 (Z0k Z52 (pv 0) (Z2y Za) Z2z) (Z0 (pv 2) Z8))) (V4 (n:=2) rfl (Yh (Zq (i:=4) sc.nd rfl (Or.inl rfl)) (Yh (Zq (i:=5) sc.nd rfl (Or.inl rfl)) Xr)))
    (Zd (Uw (pv 4) (Sd (pv 3) (pv 5) V8))))
   (Zd (Zi (Zg eS hr (Z0 (Y0 Zz rfl T.tuple YX (Z0 (pv 3) Z8)) (Z0 (Zg jO hr (Z0 (Yx (v:=.ref c_ONE) rfl m_ONE rfl) (Z0 (Zg jZ hr (Z0 (pv 3) Z8)) Z8))) Z8))))))),?_⟩
  have lxL:=RL.len
  have lxq:=Rq.len
  refine⟨_,rfl,a,_,rfl,.inr sq,fun d hd=>?_⟩
  have S1:=Same.new (o:=.lst xq) hd
  refine⟨_,rfl,_,rfl,?_⟩
  refine Z60 ?_
  cases RL with
  | nil=>simp at lL
  | @cons r0 x0 Lt xt i0 Rt =>
  have lLt:Lt.length=us.length:=by simpa using lL
  have lxt:xt.length=us.length:=by have:=Rs.len Rt;omega
  refine⟨lo,_,rfl,Zl S1 sL,?_,fun p hp=>?_⟩
  ·intro z
   have:=z.1
   simp[HT.sIx] at this
  have ec:cutV (x0::xt) (some 1) none=xt:=Z6f (i:=1) (by simp)
  rw[ec]
  have S2:Same (upd H d (.lst xq)) (upd (upd H d (.lst xq)) p (.tup xt)):=Same.new hp
  have e2:SqT K (upd (upd H d (.lst xq)) p (.tup xt)) p xt:=SqT.of Zc
  have hd2:upd (upd H d (.lst xq)) p (.tup xt) d=some (.lst xq):=S2 _ _ Zc
  have nd:∀ b o,H b=some o->b≠d:=fun b o e=>Ze e hd
  have npd:p≠d:=fun z=>by rw[z,Zc] at hp;cases hp
  have S02:=S1.trans S2
  generalize upd (upd H d (.lst xq)) p (.tup xt)=H2 at *
  have lnat:(natV us).length=us.length:=by unfold natV;simp
  refine⟨_,rfl,p,l,rfl,⟨_,e2⟩,⟨_,SqL.of (S02 _ _ hl)⟩,?_⟩
  refine Z22 (K:=K) (t:=p) (u:=l) (xs:=xt) (ys:=natV us) (fun i σ H'=>Same H H'/\SqT K H' p xt/\H' l=some (.lst (natV us))/\(∃ ys,H' d=some (.lst ys)/\Rs K H' (fillT q Lt us i) ys)/\∃ x y,σ=[some (.ref lo),some (.ref a),some (.ref l),some (.ref d),x,y]) (by omega) ⟨S02,e2,S02 _ _ hl,⟨xq,hd2,Rq.ext (Ext.same S02)⟩,none,none,rfl⟩ (fun i σ H' _ h=>⟨h.2.1,SqL.of h.2.2.1⟩) ?_ ?_
  ·rintro i x y σ H3 p2 hx hy ⟨S3,sp,hl3,⟨ys,hd3,R3⟩,x1,y1,rfl⟩ hp2
   have hi:i<us.length:=by have:=(YG.mp hx).1;omega
   have ey:y=V.int ((us[i]:Nat):Int):=by
    unfold natV at hy
    rw[YD,XM hi] at hy
    exact (YK hy).symm
   subst ey
   have S4:=Same.new (o:=.tup [x,V.int ((us[i]:Nat):Int)]) hp2
   have hd4:=S4 _ _ hd3
   have sp4:=Zl S4 sp
   have hl4:=S4 _ _ hl3
   have R4:=R3.ext (Ext.same S4)
   have t4:SqT K (upd H3 p2 (.tup [x,V.int ((us[i]:Nat):Int)])) p2 [x,V.int ((us[i]:Nat):Int)]:=SqT.of Zc
   have S34:=S3.trans S4
   generalize upd H3 p2 (.tup [x,V.int ((us[i]:Nat):Int)])=H4 at *
   have ly:=Rs.len R4
   rw[Uf] at ly
   have hk:=hus us[i] (YZ hi)
   obtain⟨r1,er1,b1,rfl,sb1⟩:=(Rs.ext Rt (Ext.same S34)).back hx
   refine⟨_,_,rfl,t4,rfl,_,_,rfl,_,_,rfl,rfl,?_⟩
   refine⟨_,rfl,_,rfl,_,rfl,d,_,_,us[i],rfl,rfl,hd4,Jo (by omega) (by omega),?_⟩
   have X5:=Ext.upd (o:=.lst (ys.set us[i] (.ref b1))) hd4
   refine⟨fun b o e=>?_,X5.sq sp4,?_,⟨_,Zc,?_⟩,_,_,rfl⟩
   ·rw[Zf (nd b o e)]
    exact S34 _ _ e
   ·rw[Zf (nd l _ hl)]
    exact hl4
   ·have e1:fillT q Lt us (i+1)=(fillT q Lt us i).set us[i] r1:=by
     show (fillT q Lt us i).set (us.getD i 0) (Lt.getD i (0,1))=_
     rw[Yf er1,Yf (l:=us) (x:=us[i]) (by simp[hi])]
    rw[e1]
    exact Rs.set (R4.ext X5) ⟨b1,rfl,X5.sq sb1⟩
  ·rintro σ H3 ⟨S3,sp,hl3,⟨ys,hd3,R3⟩,x1,y1,rfl⟩
   rw[lxt] at R3
   have gF:∀ r∈fillT q Lt us us.length,Good n r:=Tu gq ⟨bd0 _,Xf 1 (by decide) n1,by decide,by decide⟩ (fun r hr=>gL r (YV _ hr)) _
   have lF:(fillT q Lt us us.length).length=c:=by rw[Uf];exact lq
   have pos':0<(sumR (fillT q Lt us us.length)).1:=pos
   have gS:Good (1+c*(n+1)) (sumR (fillT q Lt us us.length)):=by
    have:=Q5 gF (YE _)
    rw[YN (YE _),lF] at this
    exact this
   refine⟨_,rfl,d,ys,rfl,.inl ⟨SqL.of hd3,fun p3 hp3=>?_⟩⟩
   have S4:=Same.new (o:=.tup ys) hp3
   have R4:=R3.ext (Ext.same S4)
   have s4:SqT K (upd H3 p3 (.tup ys)) p3 ys:=SqT.of Zc
   have hd4:=S4 _ _ hd3
   have S04:=S3.trans S4
   generalize upd H3 p3 (.tup ys)=H4 at *
   have n4:n<=1+c*(n+1):=by
    have:0<c:=by
     rcases Y0e c with z | z
     ·rw[z] at lF
      rw[js lF] at pos'
      exact absurd pos' (by decide)
     ·exact z
    have:=GJ (n+1) this
    omega
   have g1:Good (1+c*(n+1)) (1,1):=⟨Xf 1 (by decide) (by omega),Xf 1 (by decide) (by omega),by decide,by decide⟩
   have ep:=Ui gS.low pos'
   have gp:Good (1+c*(n+1)) (parR (1,1) (sumR (fillT q Lt us us.length))):=by
    rw[ep]
    exact⟨gS.b2,gS.b1,pos',by rw[zl];exact gS.low.cop⟩
   refine⟨_,rfl,d,ys,_,n,rfl,.inl (SqL.of hd4),R4,gF,by rw[lF];exact hn,fun m H5 S5 sm=>?_⟩
   refine⟨c_ONE,m,(1,1),_,_,rfl,s_ONE _,sm,g1,gS,hn,by omega,fun m2 H6 f6 S6 e6=>?_⟩
   have S56:=S5.trans S6
   refine⟨p3,m2,_,_,_,rfl,⟨_,Zl S56 s4,R4.ext (Ext.same S56)⟩,SqT.of e6,by omega,fun r hr=>(gF r hr).mono n4,gp,hn,fun p7 H7 x7 S7 e7 R7=>?_⟩
   exact k p7 H7 ((S04.trans S56).trans S7) ⟨_,SqT.of e7,R7⟩
end
theorem Ka {q ls:List Rat}{us:List Nat}{k:Nat}:∀ {i:Nat},(∀ j,j<i->us.getD j 0≠k)->(fillT q ls us i).getD k (0,1)=q.getD k (0,1)
 | 0,_=>rfl
 | i+1,h=>by
  show ((fillT q ls us i).set (us.getD i 0) (ls.getD i (0,1))).getD k (0,1)=_
  rw[YI,JT (h i (by omega)),<-YI]
  exact Ka fun j hj=>h j (by omega)
theorem Fu {q ls:List Rat}{us:List Nat}(inj:∀ a b,a<us.length->b<us.length->us.getD a 0=us.getD b 0->a=b)(hk:∀ a,a<us.length->us.getD a 0<q.length){j:Nat}:∀ {i:Nat},i<=us.length->j<i->(fillT q ls us i).getD (us.getD j 0) (0,1)=ls.getD j (0,1)
 | 0,_,h=>absurd h (by omega)
 | i+1,hi,h=>by
  show ((fillT q ls us i).set (us.getD i 0) (ls.getD i (0,1))).getD (us.getD j 0) (0,1)=_
  by_cases e:j=i
  ·subst e
   rw[YI,JO (by rw[Uf];exact hk j (by omega))]
   rfl
  ·rw[YI,JT (fun z=>e (inj i j (by omega) (by omega) z).symm),<-YI]
   exact Fu inj hk (by omega) (by omega)
theorem Ru {c:Nat}{o:Option (Nat->Bool)}:∀ k∈outsW c o,k<c/\inE o k=false:=fun k hk=>by
 unfold outsW at hk
 simpa using hk
theorem Lp {c i:Nat}{o:Option (Nat->Bool)}(h:i<(outsW c o).length):(outsW c o).getD i 0<c/\inE o ((outsW c o).getD i 0)=false:=by
 rw[Yf (l:=outsW c o) (x:=(outsW c o)[i]) (by simp[h])]
 exact Ru _ (YZ h)
theorem Z0o {c:Nat}{o:Option (Nat->Bool)}:∀ a b,a<(outsW c o).length->b<(outsW c o).length->(outsW c o).getD a 0=(outsW c o).getD b 0->a=b:=fun a b ha hb e=>by
 have nd:(outsW c o).Nodup:=List.nodup_range.filter _
 rw[Yf (l:=outsW c o) (x:=(outsW c o)[a]) (by simp[ha]),Yf (l:=outsW c o) (x:=(outsW c o)[b]) (by simp[hb])] at e
 have pw:=List.pairwise_iff_getElem.mp nd
 rcases Nat.lt_trichotomy a b with z | z | z
 ·exact absurd e (pw a b ha hb z)
 ·exact z
 ·exact absurd e.symm (pw b a hb ha z)
structure NarL (c:Nat)(o:Option (Nat->Bool))(rss:List (List Rat))(q L:List Rat):Prop where
 len:L.length=(outsW c o).length+1
 low:Lows L
 nn:∀ i,i<(outsW c o).length+1->0<=qr L i
 one:qr L 0=1
 fit:∀ rs∈rss,qv (mn q rs)+sQ (outsW c o).length (fun i=>qr L (i+1)*qr rs ((outsW c o).getD i 0))<=0
theorem NarL.of {c:Nat}{o:Option (Nat->Bool)}{rss:List (List Rat)}{q gs:List Rat}{T:Sv.Tab}(lq:Lows q)(lenq:q.length=c)(hrs:∀ rs∈rss,RowR c rs)(h:MostT ((outsW c o).length+1) (narrow c o q rss) oneW gs T):NarL c o rss q (loadsR ((outsW c o).length+1) (narrow c o q rss).length T):=by
 have M:=h.sv
 have nrow:=Qp (c:=c) (o:=o) (q:=q) lq hrs
 have pb:=Xy h.inv.pos
 have x0:=M.x0
 have fit:=M.fit
 have lie:=congrArg (fun z:Int=>(z:QQ)) M.lie
 simp only [No,_root_.Rat.intCast_mul] at lie
 have ql:∀ i,i<(outsW c o).length+1->qr (loadsR ((outsW c o).length+1) (narrow c o q rss).length T) i=(Sv.endOf ((narrow c o q rss).length+2) ((outsW c o).length+1) T i:QQ) / (T.b:QQ):=fun i hi=>(Z08 hi).trans (U3 h.inv.pos)
 have low:Lows (loadsR ((outsW c o).length+1) (narrow c o q rss).length T):=fun r hr=>by
  unfold loadsR at hr
  obtain⟨i,_,rfl⟩:=XE.mp hr
  have:=h.inv.pos
  exact Yu (by omega)
 have len:(loadsR ((outsW c o).length+1) (narrow c o q rss).length T).length=(outsW c o).length+1:=by unfold loadsR;simp
 generalize loadsR ((outsW c o).length+1) (narrow c o q rss).length T=L at *
 generalize Sv.endOf ((narrow c o q rss).length+2) ((outsW c o).length+1) T=e at *
 have one:qr L 0=1:=by
  rw[Zp fun i hi=>by rw[Lm hi],Tf,Rj (n:=(outsW c o).length) fun k hk=>by show (0:QQ)*_=0;grind] at lie
  have:(1:QQ)*(e 0:QQ)+0=(T.b:QQ):=lie
  rw[ql 0 (by omega)]
  grind
 refine⟨len,low,fun i hi=>?_,one,fun rs hr=>?_⟩
 ·rw[ql i hi]
  exact J4 (b:=(T.b:QQ)) (by rw[Z0a (by grind)];exact _root_.Rat.intCast_nonneg.mpr (x0 i hi)) pb
 ·have m:foldR q rs (outsW c o)∈narrow c o q rss:=XE.mpr ⟨rs,hr,rfl⟩
  obtain⟨j,hj,ej⟩:=Y0W m
  have f:=_root_.Rat.intCast_le_intCast.mpr (fit j hj)
  rw[No] at f
  obtain⟨lp,ea⟩:=D4 nrow hj
  rw[Yf (l:=narrow c o q rss) (x:=(narrow c o q rss)[j]) (by simp[hj]),ej] at lp ea
  rw[Zp (g:=fun i=>(lcmB (foldR q rs (outsW c o)):QQ)*(T.b:QQ)*(qr L i*qr (foldR q rs (outsW c o)) i)) fun i hi=>by
   rw[_root_.Rat.intCast_mul,ea i hi,ql i hi]
   have:=Z0a (a:=(e i:QQ)) (b:=(T.b:QQ)) (by grind)
   grind,Ym] at f
  have f2:=Z09 (_root_.Rat.mul_pos (Xy lp) pb) f
  rw[Z25,one] at f2
  grind
section
variable {c:Nat}{o:Option (Nat->Bool)}{rss:List (List Rat)}{q L:List Rat}
def fillQ (c:Nat)(o:Option (Nat->Bool))(q L:List Rat):List Rat:=fillT q (L.drop 1) (outsW c o) (outsW c o).length
theorem W4 (hq:OnE c o q)(h:NarL c o rss q L):Lows (fillQ c o q L):=Tu hq.low R0 (fun r hr=>h.low r (Y0T hr)) _
theorem P9 (hq:OnE c o q):(fillQ c o q L).length=c:=by
 unfold fillQ
 rw[Uf]
 exact hq.len
theorem Z20 (hq:OnE c o q){i:Nat}(hi:i<(outsW c o).length):qr (fillQ c o q L) ((outsW c o).getD i 0)=qr L (i+1):=by
 unfold qr fillQ
 rw[Fu Z0o (fun a ha=>by rw[hq.len];exact (Lp ha).1) (YE _) hi]
 congr 1
 rw[YI,Y0g,ja,<-YI]
theorem Fr {k:Nat}(z:inE o k=true):qr (fillQ c o q L) k=qr q k:=by
 unfold qr fillQ
 rw[Ka fun j hj e=>by have:=(Lp hj).2;rw[e,z] at this;cases this]
theorem Z21 (hq:OnE c o q)(g:Nat->QQ):sQ c (fun k=>qr (fillQ c o q L) k*g k)=sQ c (fun k=>qr q k*g k)+sQ (outsW c o).length (fun i=>qr L (i+1)*g ((outsW c o).getD i 0)):=by
 rw[Dx hq (fun k _ z=>Fr z)]
 congr 1
 exact Zp fun i hi=>by rw[Z20 hq hi]
theorem Z74 (hq:OnE c o q)(h:NarL c o rss q L){k:Nat}(hk:k<c):0<=qr (fillQ c o q L) k:=by
 cases z:inE o k with
 | true=>rw[Fr z];exact hq.nn k hk
 | false =>
  obtain⟨i,hi,rfl⟩:=Lo hk z
  rw[Z20 hq hi]
  exact h.nn (i+1) (by omega)
theorem Z1z (hq:OnE c o q)(h:NarL c o rss q L):1<=qv (sumR (fillQ c o q L)):=by
 rw[J0 (W4 hq h),P9 hq]
 have e:=Z21 (L:=L) hq fun _=>1
 have e1:sQ c (fun k=>qr (fillQ c o q L) k*1)=sQ c (qr (fillQ c o q L)):=Zp fun k _=>by grind
 have e2:sQ c (fun k=>qr q k*1)=1:=(Zp (g:=qr q) fun k _=>by grind).trans hq.lie
 rw[e1,e2] at e
 rw[e]
 have:=Qi (n:=(outsW c o).length) (f:=fun i=>qr L (i+1)*1) fun i hi=>by have:=h.nn (i+1) (by omega);grind
 grind
def unfQ (c:Nat)(o:Option (Nat->Bool))(q L:List Rat):List Rat:=(fillQ c o q L).map fun r=>mulR' r (parR (1,1) (sumR (fillQ c o q L)))
theorem T7 (hq:OnE c o q)(h:NarL c o rss q L):0<(sumR (fillQ c o q L)).1:=(U2 (Xp (W4 hq h)).pos).mpr (by have:=Z1z hq h;grind)
theorem Tj (hq:OnE c o q)(h:NarL c o rss q L):Low (parR (1,1) (sumR (fillQ c o q L))):=by
 have ls:=Xp (W4 hq h)
 rw[Ui ls (T7 hq h)]
 exact⟨T7 hq h,by rw[zl];exact ls.cop⟩
theorem Z56 (hq:OnE c o q)(h:NarL c o rss q L):qv (parR (1,1) (sumR (fillQ c o q L)))*qv (sumR (fillQ c o q L))=1:=by
 have ls:=Xp (W4 hq h)
 have p:=T7 hq h
 rw[Ui ls p]
 have h1:=Wk p
 have h2:=Wk ls.pos
 show ((sumR (fillQ c o q L)).2:QQ) / ((sumR (fillQ c o q L)).1:QQ)*(((sumR (fillQ c o q L)).1:QQ) / ((sumR (fillQ c o q L)).2:QQ))=1
 grind
theorem Z2q (hq:OnE c o q):(unfQ c o q L).length=c:=by unfold unfQ;rw[YC];exact P9 hq
theorem Z2p (hq:OnE c o q)(h:NarL c o rss q L):Lows (unfQ c o q L):=fun r hr=>by
 unfold unfQ at hr
 obtain⟨x,hx,rfl⟩:=XE.mp hr
 exact Tp (W4 hq h x hx) (Tj hq h)
theorem Q3 (hq:OnE c o q)(h:NarL c o rss q L){k:Nat}(hk:k<c):qr (unfQ c o q L) k=qr (fillQ c o q L) k*qv (parR (1,1) (sumR (fillQ c o q L))):=by
 have hl:k<(fillQ c o q L).length:=by rw[P9 hq];exact hk
 have e1:(fillQ c o q L)[k]?=some (fillQ c o q L)[k]:=by simp[hl]
 unfold qr unfQ
 rw[YI,YD,e1,Yf e1]
 exact J1 (W4 hq h _ (YL e1)) (Tj hq h)
theorem Nm (hq:OnE c o q)(h:NarL c o rss q L)(hrs:∀ rs∈rss,RowR c rs):WtsQ c rss (unfQ c o q L):=by
 have ep:=Z56 hq h
 have s1:=Z1z hq h
 have pp:0<qv (parR (1,1) (sumR (fillQ c o q L))):=by
  have:=(U2 (Tj hq h).pos).mp (by rw[Ui (Xp (W4 hq h)) (T7 hq h)];exact (Xp (W4 hq h)).pos)
  exact this
 generalize ez:qv (parR (1,1) (sumR (fillQ c o q L)))=z at *
 refine⟨Z2q hq,Z2p hq h,fun k hk=>?_,fun rs hr=>?_,?_⟩
 ·rw[Q3 hq h hk,ez]
  exact _root_.Rat.mul_nonneg (Z74 hq h hk) (_root_.Rat.le_of_lt pp)
 ·have e:sQ c (fun k=>qr (unfQ c o q L) k*qr rs k)=z*sQ c (fun k=>qr (fillQ c o q L) k*qr rs k):=by
   rw[<-Ym]
   exact Zp fun k hk=>by rw[Q3 hq h hk,ez];grind
  rw[e,Z21 hq,<-Wu hq.low (hrs rs hr).lows hq.len (hrs rs hr).1]
  exact Qr (_root_.Rat.le_of_lt pp) (h.fit rs hr)
 ·have e:sQ c (qr (unfQ c o q L))=z*sQ c (qr (fillQ c o q L)):=by
   rw[<-Ym]
   exact Zp fun k hk=>by rw[Q3 hq h hk,ez];grind
  have e2:sQ c (qr (fillQ c o q L))=qv (sumR (fillQ c o q L)):=by rw[J0 (W4 hq h),P9 hq]
  rw[e,e2]
  exact ep
theorem Bf (hq:OnE c o q)(h:NarL c o rss q L)(hrs:∀ rs∈rss,RowR c rs):ToldQ c o (unfQ c o q L) q:=by
 have w:=Nm hq h hrs
 have es:qv (shR c o (unfQ c o q L))=qv (parR (1,1) (sumR (fillQ c o q L))):=by
  rw[Ys w.low w.len]
  have e:sQ c (fun k=>if inE o k then qr (unfQ c o q L) k else 0)=qv (parR (1,1) (sumR (fillQ c o q L)))*sQ c (qr q):=by
   rw[<-Ym]
   refine Zp fun k hk=>?_
   cases z:inE o k with
   | true=>simp only [zK];rw[Q3 hq h hk,Fr z];grind
   | false=>rw[hq.out k hk z];simp
  rw[e,hq.lie]
  grind
 refine⟨hq.len,hq.low,?_,fun k hk=>?_⟩
 ·rw[es]
  exact (U2 (Tj hq h).pos).mp (by rw[Ui (Xp (W4 hq h)) (T7 hq h)];exact (Xp (W4 hq h)).pos)
 ·rw[es]
  cases z:inE o k with
  | true=>simp only [zK];rw[Q3 hq h hk,Fr z]
  | false=>rw[hq.out k hk z];simp
end
theorem Z49 (m:Nat):evI (m+1) (fun k=>k == 0)=[0]:=by
 unfold evI
 rw[List.range_succ_eq_map]
 simp
theorem Z23 {n n':Nat}{D D':Int}{Z Z':List Int}{q rs:List Rat}{us:List Nat}(rq:RepL n D Z q)(rr:RepL n' D' Z' rs)(hl:q.length=rs.length)(hc:rs.length<=8)(hu:∀ k∈us,k<rs.length):RepL (n+n'+3) (D*D') ((List.zipWith (·*·) Z Z').sum::us.map fun k=>Z'.getD k 0*D) (foldR q rs us):=by
 have rm:=rq.mul rr hl
 refine⟨YY rq.pos rr.pos,(rq.bD.mul rr.bD).mono (by omega),by unfold foldR;simp,fun i W r hW hr=>?_⟩
 cases i with
 | zero =>
  cases hW
  cases hr
  obtain⟨e,l⟩:=rm.sum
  refine⟨e,Ss _ rm.bdW 3 ?_,l⟩
  rw[rm.len,JF]
  omega
 | succ i =>
  unfold foldR at hr
  rw[List.getElem?_cons_succ] at hW hr
  rw[YD] at hW hr
  cases e:us[i]? with
  | none=>rw[e] at hW;simp at hW
  | some k =>
   rw[e] at hW hr
   cases hW
   cases hr
   have hk:=hu k (YL e)
   have hz:k<Z'.length:=by rw[rr.len];exact hk
   have e1:rs[k]?=some rs[k]:=by simp[hk]
   have e2:Z'[k]?=some Z'[k]:=by simp[hz]
   obtain⟨a,b,l⟩:=rr.at_ k _ _ e2 e1
   show (rs.getD k (0,1)).1*(D*D')=Z'.getD k 0*D*(rs.getD k (0,1)).2/\Bd (n+n'+3) (Z'.getD k 0*D)/\Low (rs.getD k (0,1))
   rw[Yf e1,Yf e2]
   refine⟨?_,?_,l⟩
   ·have:rs[k].1*(D*D')=rs[k].1*D'*D:=by grind
    rw[this,a]
    grind
   ·have:=b.mul rq.bD
    exact this.mono (by omega)
theorem Lj {n:Nat}:∀ {rss:List (List Rat)},(∀ rs∈rss,∃ D Z,RepL n D Z rs)->∃ E:Int,0<E/\Bd (n*rss.length+1) E/\∀ rs∈rss,∃ Z,RepL (n*rss.length+1) E Z rs
 | [],_=>⟨1,by decide,Xf 1 (by decide) (by omega),fun _ h=>nomatch h⟩
 | r0::t,h=>by
  obtain⟨E,hE,bE,hr⟩:=Lj (rss:=t) fun rs hrs=>h rs (YV _ hrs)
  obtain⟨D,Z,r⟩:=h r0 XC
  have en:n*(r0::t).length+1=n+(n*t.length+1):=by rw[XY,Y0K];omega
  rw[en]
  refine⟨D*E,YY r.pos hE,r.bD.mul bE,fun rs hrs=>?_⟩
  rcases YS.mp hrs with rfl | hrs
  ·exact⟨_,r.scale hE bE⟩
  ·obtain⟨Z2,r2⟩:=hr rs hrs
   have:=r2.scale r.pos r.bD
   rw[XF E,ja _ n] at this
   exact⟨_,this⟩
theorem RepL.each {n:Nat}{D:Int}(hD:0<D)(bD:Bd n D):∀ {rs:List Rat},(∀ r∈rs,∃ W,r.1*D=W*r.2/\Bd n W/\Low r)->∃ Ws,RepL n D Ws rs
 | [],_=>⟨[],hD,bD,rfl,fun i W r h=>by simp at h⟩
 | r::t,h=>by
  obtain⟨Ws,p⟩:=RepL.each hD bD (rs:=t) fun x hx=>h x (YV _ hx)
  obtain⟨W,e⟩:=h r XC
  refine⟨W::Ws,hD,bD,by simp[p.len],fun i V x hV hx=>?_⟩
  cases i with
  | zero=>cases hV;cases hx;exact e
  | succ i=>exact p.at_ i V x (by simpa using hV) (by simpa using hx)
theorem Z2k {c n m:Nat}{rss:List (List Rat)}{ms:List Rat}{D:Int}{U:List Int}(hrs:∀ rs∈rss,rs.length=c/\∃ D Ws,RepL n D Ws rs)(rm:RepL m D U ms)(lm:ms.length=rss.length)(few:rss.length<=1024):∃ E W,RepL (m+(n*rss.length+1)+10) E W (comeW c rss ms):=by
 obtain⟨E,hE,bE,hr⟩:=Lj (n:=n) (rss:=rss) fun rs h=>(hrs rs h).2
 have rc:∀ k,k<c->∃ W,RepL (n*rss.length+1) E W (colR rss k):=fun k hk=>by
  refine RepL.each hE bE fun x hx=>?_
  unfold colR at hx
  obtain⟨rs,h,rfl⟩:=XE.mp hx
  obtain⟨Z,r⟩:=hr rs h
  have hl:=(hrs rs h).1
  have e1:rs[k]?=some (rs[k]'(by omega)):=by simp
  have e2:Z[k]?=some (Z[k]'(by rw[r.len];omega)):=by simp
  rw[Yf e1]
  exact⟨_,r.at_ k _ _ e2 e1⟩
 refine⟨E*D,RepL.each (YY hE rm.pos) ((bE.mul rm.bD).mono (by omega)) fun x hx=>?_⟩
 unfold comeW at hx
 obtain⟨k,hk,rfl⟩:=XE.mp hx
 have hk':k<c:=by simpa using hk
 obtain⟨W,r⟩:=rc k hk'
 have lc:(colR rss k).length=rss.length:=by unfold colR;simp
 have p:=r.mul rm (by rw[lc,lm])
 obtain⟨e,l⟩:=p.sum
 refine⟨_,e,(Ss _ p.bdW 10 ?_).mono (by omega),l⟩
 rw[p.len,JF,lc]
 omega
section
variable {c:Nat}{o:Option (Nat->Bool)}{rss:List (List Rat)}{q L:List Rat}
theorem Ry {n:Nat}{D:Int}{Z:List Int}{rs:List Rat}(h:RepL n D Z rs):∀ r∈rs,∃ W,r.1*D=W*r.2/\Bd n W/\Low r:=fun r hr=>by
 obtain⟨i,hi⟩:=XB hr
 have hl:i<Z.length:=by rw[h.len];exact (YG.mp hi).1
 exact⟨_,h.at_ i Z[i] r (by simp[hl]) hi⟩
theorem N4 {r S x:Rat}{D V Y:Int}(hr:0<r.2)(hs:0<S.2)(e1:r.1*D=V*r.2)(e:S.1*D=Y*S.2)(cr:x.1*(r.2*S.1)=r.1*S.2*x.2):x.1*Y=V*x.2:=by
 refine JM (Int.ne_of_gt (YY hr hs)) ?_
 have a1:r.2*S.2*(x.1*Y)=x.1*r.2*(Y*S.2):=by grind
 have a2:r.2*S.2*(V*x.2)=(V*r.2)*S.2*x.2:=by grind
 rw[a1,a2,<-e,<-e1]
 have a3:x.1*r.2*(S.1*D)=x.1*(r.2*S.1)*D:=by grind
 rw[a3,cr]
 grind
theorem Z6b {n N:Nat}{D E:Int}{Z U:List Int}(rq:RepL n D Z q)(rl:RepL N E U L):∃ W,RepL (n+N) (D*E) W (fillQ c o q L):=by
 refine RepL.each (YY rq.pos rl.pos) (rq.bD.mul rl.bD) (Tu (fun r hr=>?_) ⟨0,by simp,bd0 _,R0⟩ (fun r hr=>?_) _)
 ·obtain⟨W,e,b,l⟩:=Ry rq r hr
  exact⟨W*E,by rw[<-JL,e];grind,b.mul rl.bD,l⟩
 ·obtain⟨W,e,b,l⟩:=Ry rl r (Y0T hr)
  refine⟨D*W,?_,rq.bD.mul b,l⟩
  have:r.1*(D*E)=D*(r.1*E):=by grind
  rw[this,e]
  grind
theorem Z2o {n N:Nat}{D E:Int}{Z U:List Int}(hq:OnE c o q)(h:NarL c o rss q L)(rq:RepL n D Z q)(rl:RepL N E U L)(hc:c<=1024):∃ F V,RepL (n+N+10) F V (unfQ c o q L):=by
 obtain⟨W,rf⟩:=Z6b (c:=c) (o:=o) rq rl
 have p:=T7 hq h
 have ls:=Xp (W4 hq h)
 have ep:=Ui ls p
 have e:(sumR (fillQ c o q L)).1*(D*E)=W.sum*(sumR (fillQ c o q L)).2:=rf.sum.1
 have lf:=P9 (L:=L) hq
 have sp:0<W.sum:=by
  have:0<W.sum*(sumR (fillQ c o q L)).2:=by rw[<-e];exact YY p rf.pos
  exact Y0F this ls.pos
 refine⟨W.sum,RepL.each sp (Ss _ rf.bdW 10 (by rw[rf.len,lf];omega)) fun x hx=>?_⟩
 unfold unfQ at hx
 obtain⟨r,hr,rfl⟩:=XE.mp hx
 obtain⟨V,e1,b1,l1⟩:=Ry rf r hr
 have lx:=Tp l1 (Tj hq h)
 refine⟨V,?_,b1.mono (by omega),lx⟩
 rw[ep] at lx ⊢
 have cr:=Xd (r.1*(sumR (fillQ c o q L)).2) (r.2*(sumR (fillQ c o q L)).1)
 change (mulR' r ((sumR (fillQ c o q L)).2,(sumR (fillQ c o q L)).1)).1*(r.2*(sumR (fillQ c o q L)).1)=_*(mulR' r ((sumR (fillQ c o q L)).2,(sumR (fillQ c o q L)).1)).2 at cr
 exact N4 l1.pos ls.pos e1 e cr
end
theorem Z5a {l m:List Rat}(hl:Lows l)(hm:Lows m)(e:l.length=m.length)(h:∀ k,k<l.length->qr l k=qr m k):l=m:=by
 refine List.ext_getElem e fun k h1 h2=>?_
 have:=h k h1
 unfold qr at this
 rw[Yf (l:=l) (x:=l[k]) (by simp[h1]),Yf (l:=m) (x:=m[k]) (by simp[h2])] at this
 exact Sc (hl _ (YZ h1)) (hm _ (YZ h2)) this
def toldR (c:Nat)(o:Option (Nat->Bool))(W:List Rat):List Rat:=(cutR o W).map fun r=>nrm (r.1*(shR c o W).2) (r.2*(shR c o W).1)
theorem Z57 {r s:Rat}(lr:0<r.2)(ls:0<s.2)(h:0<s.1):qv (nrm (r.1*s.2) (r.2*s.1))*qv s=qv r:=by
 rw[U3 (YY lr h),_root_.Rat.intCast_mul,_root_.Rat.intCast_mul]
 unfold qv
 have a:=Wk lr
 have b:=Wk ls
 have d:=Wk h
 grind
section
variable {c:Nat}{o:Option (Nat->Bool)}{W:List Rat}
theorem Z2r (lw:W.length=c)(low:Lows W)(s0:0<(shR c o W).1):ToldQ c o W (toldR c o W):=by
 have lc:=Yt (o:=o) low
 have ls:Low (shR c o W):=Yo low (Yt (X2 c))
 refine⟨by unfold toldR;rw[YC,Yd];exact lw,fun r hr=>?_,(U2 ls.pos).mp s0,fun k hk=>?_⟩
 ·unfold toldR at hr
  obtain⟨x,hx,rfl⟩:=XE.mp hr
  have:=YY (lc x hx).pos s0
  exact Yu (by omega)
 ·have hl:k<(cutR o W).length:=by rw[Yd,lw];exact hk
  have e1:(cutR o W)[k]?=some (cutR o W)[k]:=by simp[hl]
  have e2:qr (toldR c o W) k*qv (shR c o W)=qr (cutR o W) k:=by
   unfold qr toldR
   rw[YI,YD,e1,Yf e1]
   exact Z57 (lc _ (YZ hl)).pos ls.pos s0
  rw[e2,Uv]
theorem Bi {n:Nat}{D:Int}{U:List Int}(lw:W.length=c)(r:RepL n D U W)(hc:c<=8)(s0:0<(shR c o W).1):∃ F V,RepL (n+4) F V (toldR c o W):=by
 have ro:=(RepL.ones c).cut o
 have lo:(cutR o (List.replicate c (1,1))).length=c:=by rw[Yd,XU]
 have rm:=r.mul ro (by rw[lo];exact lw)
 obtain⟨e,l⟩:=rm.sum
 replace e:(shR c o W).1*(D*1)=(List.zipWith (·*·) U (cutZ o (List.replicate c 1))).sum*(shR c o W).2:=e
 rw[qe] at e
 replace l:Low (shR c o W):=l
 have sp:0<(List.zipWith (·*·) U (cutZ o (List.replicate c 1))).sum:=by
  have:0<(List.zipWith (·*·) U (cutZ o (List.replicate c 1))).sum*(shR c o W).2:=by rw[<-e];exact YY s0 r.pos
  exact Y0F this l.pos
 refine⟨_,RepL.each sp ((Ss _ rm.bdW 3 (by rw[rm.len,JF,lo];omega)).mono (by omega)) fun x hx=>?_⟩
 unfold toldR at hx
 obtain⟨y,hy,rfl⟩:=XE.mp hx
 obtain⟨V,e1,b1,l1⟩:=Ry (r.cut o) y hy
 have:=YY l1.pos s0
 exact⟨V,N4 l1.pos l.pos e1 e (Xd _ _),b1.mono (by omega),Yu (by omega)⟩
end
theorem Sa {r:Rat}:qv (negR r)=-qv r:=by
 show ((-r.1:Int):QQ) / (r.2:QQ)=-((r.1:QQ) / (r.2:QQ))
 rw[_root_.Rat.intCast_neg]
 grind
theorem Gw {r s:Rat}(hr:0<r.2)(hs:0<s.2):leR r s ↔ qv r<=qv s:=by
 have e1:=Qk hr
 have e2:=Qk hs
 have p1:=Xy hr
 have p2:=Xy hs
 have p:=_root_.Rat.mul_pos p1 p2
 have c1:((r.1*s.2:Int):QQ)=qv r*((r.2:QQ)*(s.2:QQ)):=by rw[_root_.Rat.intCast_mul,<-e1];grind
 have c2:((s.1*r.2:Int):QQ)=qv s*((r.2:QQ)*(s.2:QQ)):=by rw[_root_.Rat.intCast_mul,<-e2];grind
 unfold leR
 rw[<-_root_.Rat.intCast_le_intCast,c1,c2]
 constructor
 ·intro h
  have:=J4 (a:=qv s - qv r) (b:=(r.2:QQ)*(s.2:QQ)) (by grind) p
  grind
 ·intro h
  have:=_root_.Rat.mul_nonneg (show 0<=qv s - qv r by grind) (_root_.Rat.le_of_lt p)
  grind
theorem Tt {o:Option (Nat->Bool)}{l m:List Rat}{u v:Rat}(hl:Lows l)(hm:Lows m)(lu:Low u)(lv:Low v)(e:l.length=m.length)(h:∀ k,k<l.length->inE o k=true->qr l k - qv u=qr m k - qv v):gP o l u=gP o m v:=by
 refine Z5a (Wp hl lu) (Wp hm lv) (by rw[Sm,Sm,e]) fun k hk=>?_
 rw[Sm] at hk
 rw[Ll hl lu hk,Ll hm lv (by omega)]
 cases z:inE o k with
 | true=>simpa using h k hk z
 | false=>rfl
theorem U9 {l:List Rat}(h:Lows l):Lows (ngR l):=fun r hr=>by
 unfold ngR at hr
 obtain⟨x,hx,rfl⟩:=XE.mp hr
 exact Tp (h x hx) ⟨by decide,by decide⟩
theorem Vt {l:List Rat}:(ngR l).length=l.length:=by unfold ngR;simp
theorem N3 {l:List Rat}{k:Nat}(h:Lows l)(hk:k<l.length):qr (ngR l) k=-qr l k:=by
 unfold ngR
 rw[J3 hk,J1 (Wb h k) ⟨by decide,by decide⟩]
 have:qv (-1,1)=-1:=by
  show qv (negR (1,1))=-1
  rw[Sa,Dp]
 rw[this]
 unfold qr
 grind
section
variable {c:Nat}{rss:List (List Rat)}{o:Option (Nat->Bool)}{as bs W:List Rat}{u v m:Rat}
theorem ConV.to (h:ConV c rss o as v)(lu:Low u)(e:gP o bs u=gP o as v):ConV c rss o bs u:=⟨lu,by rw[e];exact h.hit,by rw[e];exact h.top⟩
theorem ConV.le9 (h:ConV c rss o as u)(h':ConV c rss o as v)(ra:RowR c as):qv u<=qv v:=by
 obtain⟨W,w,e,s0⟩:=h.hit
 have lw:Lows W:=w.rep.elim fun n z=>z.elim fun D z=>z.elim fun L r=>fun x hx=>(r.good x hx).low
 have lg:=Yo lw (Wp (o:=o) ra.lows h.low)
 have a:=(Up lg.pos).mp (by omega)
 have t:=(U4 (Yo lw (Wp ra.lows h'.low)).pos).mp (h'.top W w)
 rw[Me lw w.len ra.lows ra.1 h.low] at a
 rw[Me lw w.len ra.lows ra.1 h'.low] at t
 have s:0<qv (shR c o W):=(U2 (Yo lw (Yt (X2 c))).pos).mp s0
 by_cases q:qv u<=qv v
 ·exact q
 ·have:=_root_.Rat.mul_pos (show 0<qv u - qv v by grind) s
  grind
theorem ConV.uniq9 (h:ConV c rss o as u)(h':ConV c rss o as v)(ra:RowR c as):u=v:=Sc h.low h'.low (by have:=h.le9 h' ra;have:=h'.le9 h ra;grind)
theorem ConV.shift (h:ConV c rss o as v)(la:Lows as)(lb:Lows bs)(lm:Low m)(e:bs.length=as.length)(q:∀ k,k<as.length->inE o k=true->qr bs k=qr as k+qv m):ConV c rss o bs (addR v m) :=
 h.to (Ww h.low lm) (Tt lb la (Ww h.low lm) h.low e fun k hk z=>by rw[q k (by omega) z,Nw h.low lm];grind)
theorem ConV.shiftN (h:ConV c rss o (ngR as) (negR u))(lu:Low u)(la:Lows as)(lb:Lows bs)(lm:Low m)(e:bs.length=as.length)(q:∀ k,k<as.length->inE o k=true->qr bs k=qr as k+qv m):ConV c rss o (ngR bs) (negR (addR u m)) :=
 h.to (negR.low (Ww lu lm)) (Tt (U9 lb) (U9 la) (negR.low (Ww lu lm)) h.low (by rw[Vt,Vt,e]) fun k hk z=>by
  rw[Vt] at hk
  rw[N3 lb hk,N3 la (by omega),q k (by omega) z,Sa,Sa,Nw lu lm]
  grind)
theorem ConV.cut (h:ConV c rss o as v)(la:Lows as):ConV c rss o (cutR o as) v:=h.to h.low (Tt (Yt la) la h.low h.low (by rw[Yd]) fun k hk z=>by rw[Uv,z];rfl)
theorem ConV.cutN (h:ConV c rss o (ngR as) v)(la:Lows as):ConV c rss o (ngR (cutR o as)) v:=h.to h.low (Tt (U9 (Yt la)) (U9 la) h.low h.low (by rw[Vt,Vt,Yd]) fun k hk z=>by
 rw[Vt] at hk
 rw[N3 (Yt la) hk,N3 la (by rw[Yd] at hk;exact hk),Uv,z]
 rfl)
theorem ConV.ones (h:ConV c rss o as v)(la:Lows as)(len:as.length=c)(q:∀ k,k<c->inE o k=true->qr as k=qv u)(lu:Low u):v=u:=by
 obtain⟨W,w,e,s0⟩:=h.hit
 have lw:Lows W:=w.rep.elim fun n z=>z.elim fun D z=>z.elim fun L r=>fun x hx=>(r.good x hx).low
 have lg:=Wp (o:=o) la h.low
 have e0:qv (mn W (gP o as v))=0:=by
  have a:=(U4 (Yo lw lg).pos).mp (by omega)
  have b:=(Up (Yo lw lg).pos).mp (by omega)
  grind
 have ls:Low (shR c o W):=Yo lw (Yt (X2 c))
 have s1:=(U2 ls.pos).mp s0
 rw[Wu lw lg w.len (by rw[Sm,len])] at e0
 have e1:sQ c (fun k=>qr W k*qr (gP o as v) k)=(qv u - qv v)*qv (shR c o W):=by
  rw[Ys lw w.len,<-Ym]
  refine Zp fun k hk=>?_
  rw[Ll la h.low (by omega)]
  cases z:inE o k with
  | true=>simp only [zK];rw[q k hk z];grind
  | false=>simp
 rw[e1] at e0
 refine Sc h.low lu ?_
 have:(qv u - qv v)*qv (shR c o W) / qv (shR c o W)=qv u - qv v:=by grind
 grind
theorem Gs {f:Nat->QQ}:∀ {n:Nat},(∀ k,k<n->0<=f k)->sQ n f=0->∀ k,k<n->f k=0
 | 0,_,_=>fun k hk=>absurd hk (by omega)
 | n+1,h,e=>fun k hk=>by
  have e':sQ n f+f n=0:=e
  have a:=Qi (n:=n) (f:=f) fun k hk=>h k (by omega)
  have b:=h n (by omega)
  by_cases z:k=n
  ·rw[z]
   grind
  ·exact Gs (n:=n) (fun k hk=>h k (by omega)) (by grind) k (by omega)
theorem Dk (w:WtsQ c rss W)(h:1<=qv (shR c o W)):∀ k,k<c->inE o k=false->qr W k=0:=by
 have e:sQ c (fun k=>if inE o k then 0 else qr W k)=1 - qv (shR c o W):=by
  rw[Ys w.low w.len]
  have l:=w.lie
  have:sQ c (qr W)=sQ c (fun k=>if inE o k then 0 else qr W k)+sQ c (fun k=>if inE o k then qr W k else 0):=by
   rw[<-U1]
   exact Zp fun k hk=>by cases inE o k <;> simp <;> grind
  grind
 have nn:∀ k,k<c->0<=(if inE o k then 0 else qr W k):=fun k hk=>by
  cases inE o k
  ·simpa using w.nn k hk
  ·simp
 have p:=Qi nn
 have z:=Gs nn (by grind)
 intro k hk i
 have:=z k hk
 rw[i] at this
 simpa using this
theorem Kh (w:WtsQ c rss W)(h:1<=qv (shR c o W))(la:Lows as)(len:as.length=c)(lv:Low v):qv (mn W (gP o as v))=qv (mn W as) - qv v:=by
 rw[Wu w.low (Wp la lv) w.len (by rw[Sm,len]),Wu w.low la w.len len]
 have out:=Dk w h
 have e:sQ c (fun k=>qr W k*qr (gP o as v) k)=sQ c (fun k=>qr W k*qr as k) + -qv v*sQ c (qr W):=by
  rw[<-Ym,<-U1]
  refine Zp fun k hk=>?_
  rw[Ll la lv (by omega)]
  cases z:inE o k with
  | true=>simp;grind
  | false=>rw[out k hk z];simp;grind
 rw[e,w.lie]
 grind
theorem ConV.most (h:ConV c rss o as v)(hrs:∀ rs∈rss,RowR c rs)(one:∀ W,Wts c rss W->1<=qv (shR c o W))(la:Lows as)(len:as.length=c):MostV c rss as v:=by
 refine⟨h.low,?_,fun W w=>?_⟩
 ·obtain⟨W,w,e,_⟩:=h.hit
  have wq:=w.toQ hrs
  refine⟨W,w,Sc (Yo wq.low la) h.low ?_⟩
  have lg:=Yo wq.low (Wp (o:=o) la h.low)
  have a:=(U4 lg.pos).mp (by omega)
  have b:=(Up lg.pos).mp (by omega)
  rw[Kh wq (one W w) la len h.low] at a b
  grind
 ·have wq:=w.toQ hrs
  have lg:=Yo wq.low (Wp (o:=o) la h.low)
  refine (Gw (Yo wq.low la).pos h.low.pos).mpr ?_
  have a:=(U4 lg.pos).mp (h.top W w)
  rw[Kh wq (one W w) la len h.low] at a
  grind
theorem Z5j (l:LeastV c rss (papR c o) (1,1))(hrs:∀ rs∈rss,RowR c rs):∀ W,Wts c rss W->1<=qv (shR c o W):=fun W w=>by
 have wq:=w.toQ hrs
 have:=(Gw (show (0:Int)<1 by decide) (Yo wq.low (Ub c o)).pos).mp (l.bot W w)
 rw[Dp] at this
 exact this
def meetE:Option (Nat->Bool)->Option (Nat->Bool)->Option (Nat->Bool)
 | none,b=>b
 | a,none=>a
 | some p,some q=>some fun k=>p k && q k
theorem Ff (a b:Option (Nat->Bool))(k:Nat):inE (meetE a b) k=(inE a k && inE b k):=by
 cases a with
 | none=>cases b <;> rfl
 | some p=>cases b with
  | none=>show p k=(p k && true);rw[Y10]
  | some q=>rfl
theorem ToldQ.again {o':Option (Nat->Bool)}{q t:List Rat}(lw:Lows W)(len:W.length=c)(h:ToldQ c o W q)(h':ToldQ c o' q t):ToldQ c (meetE o o') W t:=by
 have s:qv (shR c (meetE o o') W)=qv (shR c o' q)*qv (shR c o W):=by
  rw[Ys lw len,Ys h.low h.len,show sQ c (fun k=>if inE o' k then qr q k else 0)*qv (shR c o W)=qv (shR c o W)*sQ c (fun k=>if inE o' k then qr q k else 0) by grind,<-Ym]
  refine Zp fun k hk=>?_
  have e:=h.at_ k hk
  rw[Ff]
  cases inE o' k with
  | false=>simp
  | true =>
   simp only [Y10,zK]
   rw[<-e]
   grind
 refine⟨h'.len,h'.low,?_,fun k hk=>?_⟩
 ·rw[s]
  exact _root_.Rat.mul_pos h'.s0 h.s0
 ·have e:=h.at_ k hk
  have e':=h'.at_ k hk
  rw[s,show qr t k*(qv (shR c o' q)*qv (shR c o W))=qr t k*qv (shR c o' q)*qv (shR c o W) by grind,e',Ff]
  cases inE o' k with
  | false=>simp
  | true =>
   simp only [Y10,zK]
   exact e
end
theorem Do {K:W.Frag}{C e l:Addr}{H1:Hp}{xs:List V}{E:XK}(he:H1 e=none)(hl:H1 l=some (.lst xs))(hw:∀ (d q:Addr) (H':Hp),Same H1 H'->H1 q=none->H' d=some (.xd [("multiples",.ref q)])->H' q=some (.lst xs)->E (.ref C) (some d) H') :
  fM K C [.ref e,.ref l] (upd H1 e (excN e C none)) (fun v H2=>v=.non/\∃ dd,H2 e=some (excN e C dd)/\E (.ref C) dd (unT H2 e)) E0:=by
 have nl:l≠e:=Ze hl he
 refine⟨e,l,xs,rfl,Zc,SqL.of (by rw[Zf nl];exact hl),fun d q H' hq hd h1 h2 h3 kp=>⟨rfl,some d,h1,?_⟩⟩
 have nq:q≠e:=fun z=>by rw[z,Zc] at hq;cases hq
 have nd:d≠e:=fun z=>by rw[z,Zc] at hd;cases hd
 rw[Zf nq] at hq
 refine hw d q _ (fun b o hb=>?_) hq (by rw[Vn nd];exact h2) (by rw[Vn nq];exact h3)
 have nb:b≠e:=Ze hb he
 rw[Vn nb]
 exact kp b o (by rw[Zf nb];exact hb) nb
section
variable {P:Program}{w:World}{K:W.Frag}{mg:Str->Option Value}{base:Heap}{C fI:Addr}{fdI:FuncData}
def gE (K:W.Frag):Sp:=fun vs H Q _=>∃ (l:Addr) (c n N M:Nat) (os:List Offr),vs=[.int (c:Int),.ref l]/\OffsAt K H l c os/\BookM c n N M os/\(∃ ls,Wts c (gainsP os os.length) ls)/\2<=c/\c<=100 ∧
 ∀ (t lo:Addr) (H':Hp),Same H H'->SqT K H' t [.str "fair",.ref lo]->Q (.ref t) H'
theorem Ld:FnScope ["count","offers","found"] ["count","offers"] (defScope lU):=fsc
theorem C0 (D:Def K mg "judged" lU ["count","offers"])(fB:Z3 P w K mg base)(fD:Has P w K mg base 5 "gains" ["offers"] (eR K))(eD:Con K mg "NOUGHT" (0,1)):Has P w K mg base 6 "judged" ["count","offers"] (gE K):=by
 refine D.has fun f fd F=>F.ok Ld (fun vs H Q E h=>?_) (fun cdv A outer s H vs Q E hr h=>?_)
 ·obtain⟨l,c,n,N,M,os,rfl,_⟩:=h
  rfl
 ·obtain⟨l,c,n,N,M,os,rfl,hO,bg,⟨ls,wl⟩,hc2,hc,k⟩:=h
  obtain⟨c_NOUGHT,m_NOUGHT,s_NOUGHT⟩:=eD
  have sc:=Ld
  refine⟨_,(Z9 (Zk (i:=2) sc.nd rfl (Or.inl rfl) (Zg fB hr (Z0 (pv 0) (Z0 (Zg fD hr (Z0 (pv 1) Z8)) (Z0 Yn (Z0 (Zn Fc (Y9 (Z0 (Yx (v:=.ref c_NOUGHT) rfl m_NOUGHT rfl) Z8)) (pv 0)) Z8))))))
   (Z9 (Yc (Zo Xk (Zj Ya (pv 2) Za (fun _ _=>rfl)) X7 (Zt _))
    (Zd Vb)
    Zu)
   (Zd (Zi (Y9 (Z0 X7 (Z0 (Zj Ya (pv 2) Za (fun _ _=>rfl)) Z8))))))),?_⟩
  have few:=bg.few
  have nN:=bg.nN
  have sides:=bg.sides
  have n1:=bg.m1
  refine⟨_,rfl,_,rfl,l,c,n,os,rfl,hO,few,by omega,bg.n4,bg.good,fun d H1 fd S1 hR1=>?_⟩
  refine⟨sz1,fun t ht=>⟨_,rfl,t,c,[.ref c_NOUGHT],rfl,rfl,SqT.of Zc,by omega,by simp,by simp;omega,fun p hp=>?_⟩⟩
  have S2:Same H1 (upd H1 t (.tup [.ref c_NOUGHT])):=Same.new ht
  have et:(c:Int).toNat=c:=by omega
  have ef:(List.replicate (c:Int).toNat [V.ref c_NOUGHT]).flatten=List.replicate c (V.ref c_NOUGHT):=by rw[et];simp
  rw[ef]
  have S3:=S2.trans (Same.new (o:=.tup (List.replicate c (V.ref c_NOUGHT))) hp)
  have R3:RowAt K (upd (upd H1 t (.tup [.ref c_NOUGHT])) p (.tup (List.replicate c (V.ref c_NOUGHT)))) p (List.replicate c (0,1)):=⟨_,SqT.of Zc,Rs.rep ⟨c_NOUGHT,rfl,s_NOUGHT _⟩ c⟩
  generalize upd (upd H1 t (.tup [.ref c_NOUGHT])) p (.tup (List.replicate c (V.ref c_NOUGHT)))=H3 at *
  obtain⟨ads,hd,hP⟩:=hR1
  have S03:=S1.trans S3
  have zr:=Tx c bg.m1
  have zn:∃ D Ws,RepL M D Ws (List.replicate c ((0,1):Rat)):=⟨_,_,zr⟩
  refine⟨d,p,.non,c,M,N,gainsP os os.length,none,List.replicate c (0,1),rfl,⟨ads,S3 _ _ hd,Yy hP (Ext.same S3)⟩,rfl,R3,by simp,bg.rep,zn,by omega,by omega,by omega,by omega,fun T' I=>bg.bd _ _ T' ⟨_,_,zr.cut none⟩ I,by omega,by omega,by omega,fun Tb q t4 xs H4 fq S4 nt hq rs4 sq=>?_,fun Tb q t4 va lo xs H4 fq S4 mt hq rs4 iv rl sq=>?_⟩
  ·exact (nt.noloadsq bg.rows (wl.toQ bg.rows)).elim
  ·refine⟨_,rfl,t4,_,_,_,rfl,rfl,sq,Zh (j:=0) rfl,rfl,_,rfl,X9 ?_⟩
   refine⟨_,rfl,t4,_,_,_,rfl,rfl,sq,Zh (j:=2) rfl,sz2,fun t6 ht6=>?_⟩
   have S6:=Same.new (o:=.tup [.str "fair",.ref lo]) ht6
   exact k t6 lo _ ((S03.trans S4).trans S6) (SqT.of Zc)
def i6 (K:W.Frag):Sp:=fun vs H Q _=>∃ (l:Addr) (c n N M:Nat) (os:List Offr),vs=[.int (c:Int),.ref l]/\OffsAt K H l c os/\BookM c n N M os/\(∃ ls,Wts c (gainsP os os.length) ls)/\2<=c/\c<=100/\∀ (H':Hp),Same H H'->Q .non H'
theorem Bq:FnScope ["count","offers","told"] ["count","offers"] (defScope kG):=fsc
theorem Z5o (D:Def K mg "refuse_beaten" kG ["count","offers"])(jQ:Has P w K mg base 6 "judged" ["count","offers"] (gE K)):Has P w K mg base 7 "refuse_beaten" ["count","offers"] (i6 K):=by
 refine D.has fun f fd F=>F.ok Bq (fun vs H Q E h=>?_) (fun cdv A outer s H vs Q E hr h=>?_)
 ·obtain⟨l,c,n,N,M,os,rfl,_⟩:=h
  rfl
 ·obtain⟨l,c,n,N,M,os,rfl,hO,bg,wl,hc2,hc,k⟩:=h
  have sc:=Bq
  refine⟨_,(Z9 (Zk (i:=2) sc.nd rfl (Or.inl rfl) (Zg jQ hr (Z0 (pv 0) (Z0 (pv 1) Z8))))
   (Zd (Yc (Zo Xk (Zj Ya (pv 2) Za (fun _ _=>rfl)) X7 (Zt _))
    (Zd Vb)
    Zu))),?_⟩
  refine⟨_,rfl,_,rfl,l,c,n,N,M,os,rfl,hO,bg,wl,hc2,hc,fun t lo H1 S1 ht=>?_⟩
  refine⟨_,rfl,t,_,_,_,rfl,rfl,ht,Zh (j:=0) rfl,rfl,_,rfl,X9 ?_⟩
  exact k _ S1
def jU (K:W.Frag)(C:Addr):Sp:=fun vs H Q E=>∃ (l g:Addr) (ve:V) (c n N M:Nat) (os:List Offr) (o:Option (Nat->Bool)) (as:List Rat) (D:Int) (Z:List Int),vs=[.int (c:Int),.ref l,ve,.ref g]/\OffsAt K H l c os/\BookM c n N M os/\EvAt K H c o ve/\RowAt K H g as/\as.length=c/\RepL M D Z as/\(∃ ls,Wts c (gainsP os os.length) ls)/\2<=c/\c<=100 ∧
 (∀ (va:Addr) (v:Rat) (H':Hp),Same H H'->ConV c (gainsP os os.length) o as v->Good (N+M) v->SqT K H' va [.int v.1,.int v.2]->Q (.ref va) H') ∧
 (∀ (d:Addr) (T:Sv.Tab) (gs:List Rat) (H':Hp),Same H H'->NoneT c (gainsP os os.length) o gs T->E (.ref C) (some d) H')
theorem Z4m:FnScope ["count","offers","event","row","found"] ["count","offers","event","row"] (defScope kI):=fsc
theorem Z6s (D:Def K mg "greatest_left" kI ["count","offers","event","row"])(x_NoChance:ExcI K mg "NoChance" C fI)(F_NoChance:FnOk P w K mg base CX0 1 fI fdI ["self","multiples"] (fM K C))(b_NoChance:Binds K fdI ["self","multiples"] [])(fB:Z3 P w K mg base)(fD:Has P w K mg base 5 "gains" ["offers"] (eR K))(gB:Has P w K mg base 7 "refuse_beaten" ["count","offers"] (i6 K)):HasD P w K mg base 8 "greatest_left" ["count","offers","event","row"] (jU K C):=by
 refine D.hasD Z4m (fun vs H Q E h=>?_) (fun f cdv A outer s H vs Q E hr h=>?_)
 ·obtain⟨l,g,ve,c,n,N,M,os,o,as,D,Z,rfl,_⟩:=h
  rfl
 ·obtain⟨l,g,ve,c,n,N,M,os,o,as,D,Z,rfl,⟨vs,hl,hP⟩,bg,hE,hg,la,ra,wl,hc2,hc,kQ,kE⟩:=h
  have sc:=Z4m
  refine⟨_,(Z9 (Zk (i:=4) sc.nd rfl (Or.inl rfl) (Zg fB hr (Z0 (pv 0) (Z0 (Zg fD hr (Z0 (pv 1) Z8)) (Z0 (pv 2) (Z0 (pv 3) Z8))))))
   (Z9 (Yc (Zo Xk (Zj Ya (pv 4) Za (fun _ _=>rfl)) X7 (Zt _))
    (Z9 (W8 (Zg gB hr (Z0 (pv 0) (Z0 (pv 1) Z8))))
    (Zd (Dq x_NoChance F_NoChance b_NoChance (hr.mono (by decide)) rfl (Z0 (Zj Ya (pv 4) Za (fun _ _=>rfl)) Z8))))
    Zu)
   (Zd (Zi (Zj Ya (pv 4) Za (fun _ _=>rfl)))))),?_⟩
  have few:=bg.few
  have nN:=bg.nN
  have sides:=bg.sides
  have n1:=bg.m1
  refine⟨_,rfl,_,rfl,l,c,n,os,rfl,⟨vs,hl,hP⟩,few,by omega,bg.n4,bg.good,fun d H1 fd S1 hR1=>?_⟩
  refine⟨_,rfl,_,rfl,d,g,ve,c,M,N,gainsP os os.length,o,as,rfl,hR1,hE.same S1,hg.same S1,la,bg.rep,⟨_,_,ra⟩,by omega,by omega,by omega,by omega,fun T' I=>bg.bd _ _ T' ⟨_,_,ra.cut o⟩ I,by omega,by omega,by omega,fun T q t4 xs H4 fq S4 nt hq rs4 sq=>?_,fun T q t4 va lo xs H4 fq S4 mt hq rs4 iv rl sq=>?_⟩
  ·refine⟨_,rfl,t4,_,_,_,rfl,rfl,sq,Zh (j:=0) rfl,rfl,_,rfl,Wt ?_⟩
   have S04:=S1.trans S4
   refine⟨_,rfl,_,rfl,l,c,n,N,M,os,rfl,⟨vs,S04 _ _ hl,Zy hP (Ext.same S04)⟩,bg,wl,hc2,hc,fun H5 S5=>?_⟩
   have S05:=S04.trans S5
   refine⟨_,rfl,t4,_,_,_,rfl,rfl,Zl S5 sq,Zh (j:=1) rfl,sz1,fun e he=>?_⟩
   exact Do he (S5 _ _ hq) fun d3 q2 H' S' fq2 e1 e2=>kE d3 T _ H' (S05.trans S') nt
  ·refine⟨_,rfl,t4,_,_,_,rfl,rfl,sq,Zh (j:=0) rfl,rfl,_,rfl,X9 ?_⟩
   obtain⟨va',e,sv⟩:=iv
   cases e
   have bd:=bg.bd _ _ _ ⟨_,_,ra.cut o⟩ mt.inv
   have gv:=mt.goodM ra bd
   refine⟨_,rfl,t4,_,_,_,rfl,rfl,sq,Zh (j:=1) rfl,?_⟩
   exact kQ va _ _ (S1.trans S4) (mt.conq bg.rows ⟨la,_,_,_,ra⟩) gv sv
def fY (K:W.Frag)(C:Addr):Sp:=fun vs H Q E=>∃ (l g:Addr) (ve:V) (c n N M:Nat) (os:List Offr) (o:Option (Nat->Bool)) (as:List Rat) (D:Int) (Z:List Int),vs=[.int (c:Int),.ref l,ve,.ref g]/\OffsAt K H l c os/\BookM c n N M os/\EvAt K H c o ve/\RowAt K H g as/\as.length=c/\RepL M D Z as/\(∃ ls,Wts c (gainsP os os.length) ls)/\2<=c/\c<=100 ∧
 (∀ (t a b:Addr) (u v:Rat) (H':Hp),Same H H'->SqT K H' t [.ref a,.ref b]->SqT K H' a [.int u.1,.int u.2]->SqT K H' b [.int v.1,.int v.2]->ConV c (gainsP os os.length) o as v->ConV c (gainsP os os.length) o (ngR as) (negR u)->Good (N+M) u->Good (N+M) v->Q (.ref t) H') ∧
 (∀ (d:Addr) (T:Sv.Tab) (gs:List Rat) (H':Hp),Same H H'->NoneT c (gainsP os os.length) o gs T->E (.ref C) (some d) H')
theorem Qf:FnScope ["count","offers","event","row","greatest","least"] ["count","offers","event","row"] (defScope lE):=fsc
theorem Jc (D:Def K mg "learned" lE ["count","offers","event","row"])(eV:HasD P w K mg base 8 "greatest_left" ["count","offers","event","row"] (jU K C))(gO:Has P w K mg base 5 "turned" ["row"] (fU K))(fO:Has P w K mg base 3 "minus" ["one","other"] (eL K subR))(eD:Con K mg "NOUGHT" (0,1)):HasD P w K mg base 9 "learned" ["count","offers","event","row"] (fY K C):=by
 refine D.hasD Qf (fun vs H Q E h=>?_) (fun f cdv A outer s H vs Q E hr h=>?_)
 ·obtain⟨l,g,ve,c,n,N,M,os,o,as,D,Z,rfl,_⟩:=h
  rfl
 ·obtain⟨l,g,ve,c,n,N,M,os,o,as,D,Z,rfl,⟨vs,hl,hP⟩,bg,hE,hg,la,ra,wl,hc2,hc,kQ,kE⟩:=h
  obtain⟨c_NOUGHT,m_NOUGHT,s_NOUGHT⟩:=eD
  have sc:=Qf
  refine⟨_,(Z9 (Zk (i:=4) sc.nd rfl (Or.inl rfl) (Ny eV (hr.mono (by decide)) rfl Qz (Z0 (pv 0) (Z0 (pv 1) (Z0 (pv 2) (Z0 (pv 3) Z8))))))
   (Z9 (Zk (i:=5) sc.nd rfl (Or.inl rfl) (Zg fO hr (Z0 (Yx (v:=.ref c_NOUGHT) rfl m_NOUGHT rfl) (Z0 (Ny eV (hr.mono (by decide)) rfl Qz (Z0 (pv 0) (Z0 (pv 1) (Z0 (pv 2) (Z0 (Zg gO hr (Z0 (pv 3) Z8)) Z8))))) Z8))))
   (Zd (Zi (Y9 (Z0 (pv 5) (Z0 (pv 4) Z8))))))),?_⟩
  have nN:=bg.nN
  have n1:=bg.m1
  have ra':RepL M D _ (ngR as):=M4 ra
  have la':(ngR as).length=c:=by unfold ngR;rw[YC];exact la
  refine⟨_,rfl,_,rfl,_,rfl,_,rfl,l,g,ve,c,n,N,M,os,o,as,_,_,rfl,⟨vs,hl,hP⟩,bg,hE,hg,la,ra,wl,hc2,hc,fun va v H1 S1 cv gv sv=>?_,fun d T gs H' S' nt=>kE d T gs H' S' nt⟩
  refine⟨_,rfl,_,rfl,_,rfl,_,rfl,g,as,M,rfl,hg.same S1,by omega,ra.good,by omega,by omega,fun g2 H2 S2 R2=>?_⟩
  have S02:=S1.trans S2
  refine⟨l,g2,ve,c,n,N,M,os,o,ngR as,_,_,rfl,⟨vs,S02 _ _ hl,Zy hP (Ext.same S02)⟩,bg,hE.same S02,R2,la',ra',wl,hc2,hc,fun vb u H3 S3 cu gu su=>?_,fun d T gs H' S' nt=>kE d T gs H' (S02.trans S') nt⟩
  refine⟨c_NOUGHT,vb,(0,1),u,N+M,rfl,s_NOUGHT _,su,⟨bd0 _,Xf 1 (by decide) (by omega),by decide,by decide⟩,gu,by omega,fun m H4 fm S4 e4=>?_⟩
  rw[Q6 gu.low] at e4
  refine⟨_,rfl,_,rfl,sz2,fun t ht=>?_⟩
  have S5:=Same.new (o:=.tup [.ref m,.ref va]) ht
  have S45:=S4.trans S5
  exact kQ t m va (negR u) v _ ((S02.trans S3).trans S45) (SqT.of Zc) (SqT.of (S5 _ _ e4)) (Zl ((S2.trans S3).trans S45) sv) cv (by rw[negR.neg];exact cu) (Z1g gu) gv
end
theorem Z3a {c:Nat}{rss:List (List Rat)}(hrs:∀ rs∈rss,RowR c rs):∀ W,Wts c rss W->1<=qv (shR c none W):=fun W w=>by
 have wq:=w.toQ hrs
 have e:qv (shR c none W)=1:=(Ys wq.low wq.len).trans wq.lie
 rw[e]
 exact _root_.Rat.le_refl
theorem MostV.leastq {c:Nat}{rss:List (List Rat)}{as:List Rat}{v:Rat}(h:MostV c rss (as.map fun r=>mulR' r (-1,1)) v)(hrs:∀ rs∈rss,RowR c rs)(la:Lows as)(len:as.length=c):LeastV c rss as (negR v):=by
 have key:∀ W,Wts c rss W->Low (mn W as)/\Low (mn W (ngR as))/\qv (mn W (ngR as))=-qv (mn W as):=fun W w=>by
  have wq:=w.toQ hrs
  refine⟨Yo wq.low la,Yo wq.low (U9 la),?_⟩
  rw[Wu wq.low (U9 la) wq.len (by rw[Vt];exact len),Wu wq.low la wq.len len,show -sQ c (fun k=>qr W k*qr as k)=(-1)*sQ c (fun k=>qr W k*qr as k) by grind,<-Ym]
  exact Zp fun k hk=>by rw[N3 la (by omega)];grind
 refine⟨negR.low h.low,?_,fun W w=>?_⟩
 ·obtain⟨W,w,e⟩:=h.hit
  obtain⟨l1,l2,e2⟩:=key W w
  have e:mn W (ngR as)=v:=e
  refine⟨W,w,Sc l1 (negR.low h.low) ?_⟩
  rw[Sa,<-e,e2]
  grind
 ·obtain⟨l1,l2,e2⟩:=key W w
  have t:=(Gw l2.pos h.low.pos).mp (h.top W w)
  refine (Gw (negR.low h.low).pos l1.pos).mpr ?_
  rw[Sa]
  grind
section
variable {P:Program}{w:World}{K:W.Frag}{mg:Str->Option Value}{base:Heap}{C:Addr}
def fE (K:W.Frag):Sp:=fun vs H Q _=>∃ (l g:Addr) (c n N M:Nat) (os:List Offr) (as:List Rat) (D:Int) (Z:List Int),vs=[.int (c:Int),.ref l,.ref g]/\OffsAt K H l c os/\BookM c n N M os/\RowAt K H g as/\as.length=c/\RepL M D Z as/\(∃ ls,Wts c (gainsP os os.length) ls)/\2<=c/\c<=100 ∧
 ∀ (t q va lo:Addr) (v:Rat) (H':Hp),Same H H'->MostV c (gainsP os os.length) as v->Good (N+M) v->SqT K H' va [.int v.1,.int v.2]->SqT K H' t [.ref va,.ref q,.ref lo]->Q (.ref t) H'
theorem Mw:FnScope ["count","offers","row","found"] ["count","offers","row"] (defScope l5):=fsc
theorem Z0s (D:Def K mg "upper" l5 ["count","offers","row"])(fB:Z3 P w K mg base)(fD:Has P w K mg base 5 "gains" ["offers"] (eR K)):Has P w K mg base 6 "upper" ["count","offers","row"] (fE K):=by
 refine D.has fun f fd F=>F.ok Mw (fun vs H Q E h=>?_) (fun cdv A outer s H vs Q E hr h=>?_)
 ·obtain⟨l,g,c,n,N,M,os,as,D,Z,rfl,_⟩:=h
  rfl
 ·obtain⟨l,g,c,n,N,M,os,as,D,Z,rfl,hO,bg,hg,la,ra,⟨ls0,wl⟩,hc2,hc,k⟩:=h
  have sc:=Mw
  refine⟨_,(Z9 (Zk (i:=3) sc.nd rfl (Or.inl rfl) (Zg fB hr (Z0 (pv 0) (Z0 (Zg fD hr (Z0 (pv 1) Z8)) (Z0 Yn (Z0 (pv 2) Z8))))))
   (Z9 (Yc (Zo Xk (Zj Ya (pv 3) Za (fun _ _=>rfl)) X7 (Zt _))
    (Zd Vb)
    Zu)
   (Zd (Zi (Y9 (Z0 (Zj Ya (pv 3) Za (fun _ _=>rfl)) (Z0 (Zj Ya (pv 3) Za (fun _ _=>rfl)) (Z0 (Zj Ya (pv 3) Za (fun _ _=>rfl)) Z8)))))))),?_⟩
  have few:=bg.few
  have nN:=bg.nN
  have sides:=bg.sides
  have n1:=bg.m1
  refine⟨_,rfl,_,rfl,l,c,n,os,rfl,hO,few,by omega,bg.n4,bg.good,fun d H1 fd S1 hR1=>?_⟩
  refine⟨_,rfl,d,g,.non,c,M,N,gainsP os os.length,none,as,rfl,hR1,rfl,hg.same S1,la,bg.rep,⟨_,_,ra⟩,by omega,by omega,by omega,by omega,fun T' I=>bg.bd _ _ T' ⟨_,_,ra.cut none⟩ I,by omega,by omega,by omega,fun T q t4 xs H4 fq S4 nt hq rs4 sq=>?_,fun T q t4 va lo xs H4 fq S4 mt hq rs4 iv rl sq=>?_⟩
  ·exact (nt.noloadsq bg.rows (wl.toQ bg.rows)).elim
  ·refine⟨_,rfl,t4,_,_,_,rfl,rfl,sq,Zh (j:=0) rfl,rfl,_,rfl,X9 ?_⟩
   obtain⟨va',e,sv⟩:=iv
   cases e
   refine⟨_,rfl,t4,_,_,_,rfl,rfl,sq,Zh (j:=1) rfl,_,rfl,t4,_,_,_,rfl,rfl,sq,Zh (j:=3) rfl,_,rfl,t4,_,_,_,rfl,rfl,sq,Zh (j:=2) rfl,sz3,fun t hp=>?_⟩
   have S5:Same H4 (upd H4 t (.tup [.ref va,.ref q,.ref lo])):=Same.new hp
   have bd:=bg.bd _ _ _ ⟨_,_,ra.cut none⟩ mt.inv
   have rr:RowR c as:=⟨la,_,_,_,ra⟩
   exact k t q va lo _ _ ((S1.trans S4).trans S5) ((mt.conq bg.rows rr).most bg.rows (Z3a bg.rows) rr.lows la) (mt.goodM ra bd) (Zl S5 sv) (SqT.of Zc)
def fX (K:W.Frag):Sp:=fun vs H Q _=>∃ (l g:Addr) (c n N M:Nat) (os:List Offr) (as:List Rat) (D:Int) (Z:List Int),vs=[.int (c:Int),.ref l,.ref g]/\OffsAt K H l c os/\BookM c n N M os/\RowAt K H g as/\as.length=c/\RepL M D Z as/\(∃ ls,Wts c (gainsP os os.length) ls)/\2<=c/\c<=100 ∧
 ∀ (t q va lo:Addr) (u:Rat) (H':Hp),Same H H'->LeastV c (gainsP os os.length) as u->SqT K H' va [.int u.1,.int u.2]->SqT K H' t [.ref va,.ref q,.ref lo]->Q (.ref t) H'
theorem L8:FnScope ["count","offers","row","told"] ["count","offers","row"] (defScope mG):=fsc
theorem Z11 (D:Def K mg "lower" mG ["count","offers","row"])(fZ:Has P w K mg base 6 "upper" ["count","offers","row"] (fE K))(gO:Has P w K mg base 5 "turned" ["row"] (fU K))(fO:Has P w K mg base 3 "minus" ["one","other"] (eL K subR))(eD:Con K mg "NOUGHT" (0,1)):Has P w K mg base 7 "lower" ["count","offers","row"] (fX K):=by
 refine D.has fun f fd F=>F.ok L8 (fun vs H Q E h=>?_) (fun cdv A outer s H vs Q E hr h=>?_)
 ·obtain⟨l,g,c,n,N,M,os,as,D,Z,rfl,_⟩:=h
  rfl
 ·obtain⟨l,g,c,n,N,M,os,as,D,Z,rfl,⟨vs,hl,hP⟩,bg,hg,la,ra,wl,hc2,hc,k⟩:=h
  obtain⟨c_NOUGHT,m_NOUGHT,s_NOUGHT⟩:=eD
  have sc:=L8
  refine⟨_,(Z9 (Zk (i:=3) sc.nd rfl (Or.inl rfl) (Zg fZ hr (Z0 (pv 0) (Z0 (pv 1) (Z0 (Zg gO hr (Z0 (pv 2) Z8)) Z8)))))
   (Zd (Zi (Y9 (Z0 (Zg fO hr (Z0 (Yx (v:=.ref c_NOUGHT) rfl m_NOUGHT rfl) (Z0 (Zj Ya (pv 3) Za (fun _ _=>rfl)) Z8))) (Z0 (Zj Ya (pv 3) Za (fun _ _=>rfl)) (Z0 (Zj Ya (pv 3) Za (fun _ _=>rfl)) Z8))))))),?_⟩
  have nN:=bg.nN
  have n1:=bg.m1
  have ln:(as.map fun r=>mulR' r (-1,1)).length=c:=by rw[YC];exact la
  refine⟨_,rfl,_,rfl,_,rfl,g,as,M,rfl,hg,by omega,ra.good,by omega,by omega,fun g2 H1 S1 R1=>?_⟩
  refine⟨l,g2,c,n,N,M,os,_,_,_,rfl,⟨vs,S1 _ _ hl,Zy hP (Ext.same S1)⟩,bg,R1,ln,M4 ra,wl,hc2,hc,fun t q va lo v H2 S2 mv gv sv sq=>?_⟩
  refine⟨_,rfl,t,_,_,_,rfl,rfl,sq,Zh (j:=0) rfl,c_NOUGHT,va,(0,1),v,N+M,rfl,s_NOUGHT _,sv,⟨bd0 _,Xf 1 (by decide) (by omega),by decide,by decide⟩,gv,by omega,fun m H3 fm S3 e3=>?_⟩
  rw[Q6 gv.low] at e3
  have rr:RowR c as:=⟨la,_,_,_,ra⟩
  have lv:=mv.leastq bg.rows rr.lows la
  have sq3:=Zl S3 sq
  refine⟨_,rfl,t,_,_,_,rfl,rfl,sq3,Zh (j:=1) rfl,_,rfl,t,_,_,_,rfl,rfl,sq3,Zh (j:=2) rfl,sz3,fun t2 hp=>?_⟩
  have S4:Same H3 (upd H3 t2 (.tup [.ref m,.ref q,.ref lo])):=Same.new hp
  exact k t2 q m lo _ _ ((S1.trans S2).trans (S3.trans S4)) lv (SqT.of (S4 _ _ e3)) (SqT.of Zc)
def gD (K:W.Frag):Sp:=fun vs H Q _=>∃ (l:Addr) (ve:V) (c n N M:Nat) (os:List Offr) (o:Option (Nat->Bool)),vs=[.int (c:Int),.ref l,ve]/\OffsAt K H l c os/\BookM c n N M os/\EvAt K H c o ve/\(∃ ls,Wts c (gainsP os os.length) ls)/\2<=c/\c<=100 ∧
 ∀ (t al ah:Addr) (u:Rat) (H':Hp),Same H H'->SqT K H' t [.ref al,.ref ah]->SqT K H' al [.int u.1,.int u.2]->LeastV c (gainsP os os.length) (papR c o) u->Q (.ref t) H'
theorem Py:FnScope ["count","offers","event","paper"] ["count","offers","event"] (defScope lK):=fsc
theorem Dz (D:Def K mg "shares" lK ["count","offers","event"])(f7:Has P w K mg base 3 "paper_of" ["count","event"] (gJ K))(fZ:Has P w K mg base 6 "upper" ["count","offers","row"] (fE K))(iA:Has P w K mg base 7 "lower" ["count","offers","row"] (fX K)):Has P w K mg base 8 "shares" ["count","offers","event"] (gD K):=by
 refine D.has fun f fd F=>F.ok Py (fun vs H Q E h=>?_) (fun cdv A outer s H vs Q E hr h=>?_)
 ·obtain⟨l,ve,c,n,N,M,os,o,rfl,_⟩:=h
  rfl
 ·obtain⟨l,ve,c,n,N,M,os,o,rfl,⟨vs,hl,hP⟩,bg,hE,wl,hc2,hc,k⟩:=h
  have sc:=Py
  refine⟨_,(Z9 (Zk (i:=3) sc.nd rfl (Or.inl rfl) (Zg f7 hr (Z0 (pv 0) (Z0 (pv 2) Z8))))
   (Zd (Zi (Y9 (Z0 (Zj Ya (Zg iA hr (Z0 (pv 0) (Z0 (pv 1) (Z0 (pv 3) Z8)))) Za (fun _ _=>rfl)) (Z0 (Zj Ya (Zg fZ hr (Z0 (pv 0) (Z0 (pv 1) (Z0 (pv 3) Z8)))) Za (fun _ _=>rfl)) Z8)))))),?_⟩
  have la:=Ve c o
  have ra:=(Vd c o).mono bg.m1
  refine⟨_,rfl,_,rfl,c,ve,o,rfl,hE,by omega,by omega,fun g H1 S1 R1=>?_⟩
  replace R1:RowAt K H1 g (papR c o):=R1
  refine⟨_,rfl,_,rfl,_,rfl,l,g,c,n,N,M,os,papR c o,_,_,rfl,⟨vs,S1 _ _ hl,Zy hP (Ext.same S1)⟩,bg,R1,la,ra,wl,hc2,hc,fun t q va lo u H2 S2 lu su sq=>?_⟩
  have S02:=S1.trans S2
  refine⟨t,_,_,_,rfl,rfl,sq,Zh (j:=0) rfl,?_⟩
  refine⟨_,rfl,_,rfl,_,rfl,l,g,c,n,N,M,os,papR c o,_,_,rfl,⟨vs,S02 _ _ hl,Zy hP (Ext.same S02)⟩,bg,R1.same S2,la,ra,wl,hc2,hc,fun t' q' va' lo' v H4 S4 mv gv sv sq'=>?_⟩
  refine⟨t',_,_,_,rfl,rfl,sq',Zh (j:=0) rfl,sz2,fun p hp=>?_⟩
  have S5:Same H4 (upd H4 p (.tup [.ref va,.ref va'])):=Same.new hp
  exact k p va va' u _ (S02.trans (S4.trans S5)) (SqT.of Zc) (Zl (S4.trans S5) su) lu
end
theorem Z1h (us:List Nat):(natV us).length=us.length:=by unfold natV;simp
section
variable {P:Program}{w:World}{K:W.Frag}{mg:Str->Option Value}{base:Heap}
def i8 (K:W.Frag):Sp:=fun vs H Q _=>∃ (l a:Addr) (ve:V) (c:Nat) (os:List Offr) (o:Option (Nat->Bool)) (q:List Rat) (D:Int) (Z:List Int),vs=[.int (c:Int),.ref l,ve,.ref a]/\OffsAt K H l c os/\BookU c 91 os/\(gainsP os os.length).length<=6/\EvAt K H c o ve/\RowAt K H a q/\OnE c o q/\RepL 18 D Z q/\2<=c/\c<=5 ∧
 (∀ (t p:Addr) (L:List Rat) (H':Hp),Same H H'->SqT K H' t [.str "left",.ref p]->RowAt K H' p (unfQ c o q L)->NarL c o (gainsP os os.length) q L->(∃ D U,RepL 743 D U (unfQ c o q L))->Q (.ref t) H') ∧
 (∀ (t p:Addr) (R:List Rat) (H':Hp),Same H H'->SqT K H' t [.str "not",.ref p]->RowAt K H' p (cutR o R)->NotL c o (gainsP os os.length) q R->(∃ D U,RepL 1384 D U R)->Q (.ref t) H')
theorem Bu:FnScope ["count","offers","event","weights","outside","rows","narrow","width","found"] ["count","offers","event","weights"] (defScope mT):=fsc
theorem Z5r (D:Def K mg "left" mT ["count","offers","event","weights"])(T:Blt mg)(jJ:Has P w K mg base 1 "is_in" ["world","event"] (hI K))(fD:Has P w K mg base 5 "gains" ["offers"] (eR K))(jR:Has P w K mg base 5 "folded" ["row","weights","outside"] (gX K))(fB:Z3 P w K mg base)(iD:Has P w K mg base 2 "cut" ["row","event"] (gZ K))(jS:Has P w K mg base 5 "come_to" ["count","rows","multiples"] (g0 K))(iV:Has P w K mg base 5 "unfolded" ["loads","weights","outside"] (fT K))(eD:Con K mg "NOUGHT" (0,1)):Has P w K mg base 6 "left" ["count","offers","event","weights"] (i8 K):=by
 refine D.has fun f fd F=>F.ok Bu (fun vs H Q E h=>?_) (fun cdv A outer s H vs Q E hr h=>?_)
 ·obtain⟨l,a,ve,c,os,o,q,D,Z,rfl,_⟩:=h
  rfl
 ·obtain⟨l,a,ve,c,os,o,q,D,Z,rfl,hO,bu,six,hE,hq,on,rq,c2,c5,kL,kN⟩:=h
  obtain⟨c_NOUGHT,m_NOUGHT,s_NOUGHT⟩:=eD
  have sc:=Bu
  have nd1:(["world","event"]:List Str).Nodup:=by decide +kernel
  have nd2:(["row","weights","outside"]:List Str).Nodup:=by decide +kernel
  refine⟨_,(Z9 (Zk (i:=4) sc.nd rfl (Or.inr rfl) (Yl (N:=["world","event"]) (k:=1) (fv:=[2]) rfl (Yz rfl T.range (Z0 (pv 0) Z8))
   (fun _ _ _ _ _=>Zq (i:=0) nd1 rfl (Or.inl rfl)) (fun _ _ _ _ _=>Rl (Vp (Xz (Zg jJ hr (Z0 (pv 0) (Z0 (pv 1) Z8)))))) (fun _ _ _ _ _=>(pv 0)) Zx))
   (Z9 (Zk (i:=5) sc.nd rfl (Or.inl rfl) (Zg fD hr (Z0 (pv 1) Z8)))
   (Z9 (Wv (i:=6) (N:=["row","weights","outside"]) (k:=1) (fv:=[3,4]) sc.nd rfl (Or.inl rfl) rfl (Xq (pv 5))
   (fun _ _ _ _ _=>Zq (i:=0) nd2 rfl (Or.inl rfl)) (fun _ _ _ _ _=>Ye) (fun _ _ _ _ _=>(Zg jR hr (Z0 (pv 0) (Z0 (pv 1) (Z0 (pv 2) Z8))))) Zx)
   (Z9 (Zk (i:=7) sc.nd rfl (Or.inl rfl) (Zn X1 Za (Y1 Yb rfl T.len zu (Z0 (pv 4) Z8))))
   (Z9 (Zk (i:=8) sc.nd rfl (Or.inl rfl) (Zg fB hr (Z0 (pv 7) (Z0 (pv 6) (Z0 (Y9 (Z0 Za Z8)) (Z0 (Zn F9 (Y9 (Z0 (Yx (v:=.ref c_NOUGHT) rfl m_NOUGHT rfl) Z8)) (pv 7)) Z8))))))
   (Z9 (Yc (Zo Xk (Zj Ya (pv 8) Za (fun _ _=>rfl)) X7 (Zt _))
    (Zd (Zi (Y9 (Z0 X7 (Z0 (Zg iD hr (Z0 (Zg jS hr (Z0 (pv 0) (Z0 (pv 5) (Z0 (Zj Ya (pv 8) Za (fun _ _=>rfl)) Z8)))) (Z0 (pv 2) Z8))) Z8)))))
    Zu)
   (Zd (Zi (Y9 (Z0 X7 (Z0 (Zg iV hr (Z0 (Zj Ya (pv 8) Za (fun _ _=>rfl)) (Z0 (pv 3) (Z0 (pv 4) Z8)))) Z8))))))))))),?_⟩
  refine⟨_,rfl,(c:Int),rfl,(by omega),(by omega),fun d hd=>?_⟩
  have et:(c:Int).toNat=c:=by omega
  rw[et]
  refine⟨c,fun i ys H2=>Same H H2/\ys=natV ((List.range i).filter fun k=>!inE o k),Zv (by omega),⟨Same.new hd,rfl⟩,?_,?_⟩
  ·rintro i ys H2 hi ⟨S2,rfl⟩ hd2
   refine⟨hi,?_⟩
   rintro x H3 ⟨rfl,rfl⟩
   have e0:(0+(i:Int))=((i:Nat):Int):=by omega
   rw[e0]
   refine Qq ?_
   refine⟨_,rfl,_,rfl,i,c,o,ve,rfl,hE.same S2,hi,_,rfl,?_⟩
   have ef:(List.range (i+1)).filter (fun k=>!inE o k)=(List.range i).filter (fun k=>!inE o k)++if inE o i then [] else [i]:=by
    rw[zt,qq]
    cases z:inE o i <;> simp[z]
   cases z:inE o i with
   | true =>
    refine X9 ⟨hd2,S2,?_⟩
    rw[ef,z]
    simp
   | false =>
    refine Wt ⟨_,rfl,hd2,fun q' o' e=>?_,?_⟩
    ·rw[Zf (Ze e hd)]
     exact S2 _ _ e
    ·rw[ef,z]
     unfold natV
     simp
  rintro ys H1 ⟨S1,rfl⟩ hd1
  refine⟨YE _,?_⟩
  replace hd1:H1 d=some (.lst (natV (outsW c o))):=hd1
  have lo:(outsW c o).length<=c:=by
   unfold outsW
   exact XQ (Y0O _ _) (by simp)
  obtain⟨vs,hl,hP⟩:=hO
  have few:=bu.few
  refine⟨_,rfl,l,c,91,os,rfl,⟨vs,S1 _ _ hl,Zy hP (Ext.same S1)⟩,few,by omega,by decide,bu.good,fun dr H2 fd2 S2 hR2=>?_⟩
  have rep:=bu.rep
  generalize gainsP os os.length=rss at *
  have rows:∀ rs∈rss,RowR c rs:=fun rs hr=>RowR.of (rep rs hr).1 (rep rs hr).2
  obtain⟨ads,hdr,hA⟩:=hR2
  have lads:=JK hA
  have S02:=S1.trans S2
  replace hd1:=S2 _ _ hd1
  replace hq:=hq.same S02
  replace hE:=hE.same S02
  clear S1 S2 hP hl
  refine⟨_,rfl,dr,rfl,⟨_,SqL.of hdr⟩,fun dn hdn=>?_⟩
  refine⟨rss.length,fun i ys H'=>Same H2 H'/\∃ bs:List Addr,ys=bs.map V.ref/\Paired (RowAt K H') bs ((narrow c o q rss).take i),Zv (by omega),⟨Same.new hdn,[],rfl,.nil⟩,?_,?_⟩
  ·rintro i ys H3 hi ⟨S3,bs,rfl,P3⟩ hd3
   have hia:i<ads.length:=by omega
   refine⟨⟨_,V.ref (ads[i]'hia),SqL.of (S3 _ _ hdr),by simp[hia]⟩,?_⟩
   rintro x H4 ⟨rfl,fx⟩
   have ex:x=V.ref (ads[i]'hia):=by
    have:=fx _ (SqL.of (S3 _ _ hdr))
    rw[YD,XM hia] at this
    exact (YK this).symm
   subst ex
   have er:rss[i]?=some rss[i]:=by simp[hi]
   have R4:=(Paired.getB hA (show ads[i]?=some ads[i] by simp[hia]) er).same S3
   obtain⟨lr,D',Z',rr⟩:=rep rss[i] (YZ hi)
   refine Yk ?_
   refine⟨_,rfl,_,rfl,_,rfl,ads[i],a,d,rss[i],q,outsW c o,c,18,91,D,D',Z,Z',rfl,R4,hq.same S3,S3 _ _ hd1,lr,on.len,by omega,by omega,fun k hk=>(Ru k hk).1,rq,rr,by decide,fun p H5 S5 R5=>?_⟩
   have hd5:=S5 _ _ hd3
   refine⟨hd5,fun q' o' e=>?_,bs++[p],by simp,?_⟩
   ·rw[Zf (Ze e hdn)]
    exact S5 _ _ (S3 _ _ e)
   ·have ec:(narrow c o q rss)[i]?=some (foldR q rss[i] (outsW c o)):=by
     unfold narrow
     rw[YD,er]
     rfl
    rw[Y2 ec]
    exact Y0t (Yy P3 ((Ext.same S5).trans (Ext.upd hd5))) (R5.ext (Ext.upd hd5))
  rintro ys H3 ⟨S3,bs,rfl,P3⟩ hd3
  have ln:(narrow c o q rss).length=rss.length:=by unfold narrow;simp
  rw[YN (by omega)] at P3
  refine⟨⟨_,SqL.of (S3 _ _ hdr),by rw[YC];omega⟩,?_⟩
  replace hd1:=S3 _ _ hd1
  replace hdr:=S3 _ _ hdr
  replace hA:=Yy hA (Ext.same S3)
  replace hq:=hq.same S3
  replace hE:=hE.same S3
  have S03:=S02.trans S3
  clear S02 S3
  refine⟨_,rfl,d,_,rfl,.inl (SqL.of hd1),?_⟩
  rw[Z1h]
  refine⟨_,_,rfl,rfl,?_⟩
  have ew:(1+(((outsW c o).length:Nat):Int))=(((outsW c o).length+1:Nat):Int):=by omega
  have et2:(1+(((outsW c o).length:Nat):Int)).toNat=(outsW c o).length+1:=by omega
  refine⟨_,rfl,_,rfl,sz1,fun t0 ht0=>?_⟩
  have T1:Same H3 (upd H3 t0 (.tup [.int 0])):=Same.new ht0
  have s0:SqT K (upd H3 t0 (.tup [.int 0])) t0 [.int 0]:=SqT.of Zc
  generalize upd H3 t0 (.tup [.int 0])=H4 at *
  refine⟨sz1,fun t ht=>?_⟩
  have T2:Same H4 (upd H4 t (.tup [.ref c_NOUGHT])):=Same.new ht
  have s1:SqT K (upd H4 t (.tup [.ref c_NOUGHT])) t [.ref c_NOUGHT]:=SqT.of Zc
  generalize upd H4 t (.tup [.ref c_NOUGHT])=H5 at *
  refine⟨_,rfl,t,_,[.ref c_NOUGHT],rfl,rfl,s1,by omega,by simp,?_,fun p H6 T3 sp=>?_⟩
  ·show 1*_<=1000
   rw[et2]
   omega
  have T123:=(T1.trans T2).trans T3
  have s06:=Zl (T2.trans T3) s0
  have ef:(List.replicate (1+(((outsW c o).length:Nat):Int)).toNat [V.ref c_NOUGHT]).flatten=List.replicate ((outsW c o).length+1) (V.ref c_NOUGHT):=by rw[et2];simp
  replace sp:SqT K H6 p (List.replicate ((outsW c o).length+1) (V.ref c_NOUGHT)):=by rw[<-ef];exact sp
  have R6:RowAt K H6 p (List.replicate ((outsW c o).length+1) (0,1)):=⟨_,sp,Rs.rep ⟨c_NOUGHT,rfl,s_NOUGHT _⟩ _⟩
  have E6:EvAt K H6 ((outsW c o).length+1) oneW (.ref t0):=⟨t0,rfl,by rw[Z49];exact s06⟩
  replace hd1:=T123 _ _ hd1
  replace hdr:=T123 _ _ hdr
  replace hA:=Yy hA (Ext.same T123)
  replace hq:=hq.same T123
  replace hE:=hE.same T123
  replace hd3:=T123 _ _ hd3
  replace P3:=Yy P3 (Ext.same T123)
  have S06:=S03.trans T123
  clear S03 T1 T2 T3 T123 s0 s1 s06 sp ef
  have nrep:∀ ns∈narrow c o q rss,ns.length=(outsW c o).length+1/\∃ D Ws,RepL 112 D Ws ns:=fun ns hn=>by
   obtain⟨rs,h,rfl⟩:=XE.mp hn
   obtain⟨lr,D',Z',rr⟩:=rep rs h
   exact⟨K8,_,_,Z23 rq rr (by rw[on.len,lr]) (by omega) fun k hk=>by rw[lr];exact (Ru k hk).1⟩
  have zr:=Tx ((outsW c o).length+1) (show 1<=112 by decide)
  have nbd:∀ T':Sv.Tab,InvR ((outsW c o).length+1) (narrow c o q rss) oneW (cutR oneW (List.replicate ((outsW c o).length+1) (0,1))) T'->TabBd 715 ((narrow c o q rss).length+2) ((outsW c o).length+1) T':=fun T' I=>Jy (fun ns hn=>(nrep ns hn).2) ⟨_,_,(Tx ((outsW c o).length+1) (YE 1)).cut oneW⟩ (by omega) (by decide) I
  refine⟨dn,p,.ref t0,(outsW c o).length+1,112,715,narrow c o q rss,oneW,List.replicate ((outsW c o).length+1) (0,1),by rw[<-ew];rfl,⟨bs,hd3,P3⟩,E6,R6,by simp,nrep,⟨_,_,zr⟩,by decide,by decide,by decide,by decide,nbd,by omega,by omega,by omega,fun T q7 t7 xs H7 fq S7 nt hq7 rs7 sq=>?_,fun T q7 t7 va lo7 xs H7 fq S7 mt hq7 rs7 iv rl sq=>?_⟩
  ·refine⟨_,rfl,t7,_,_,_,rfl,rfl,sq,Zh (j:=0) rfl,rfl,_,rfl,Wt ?_⟩
   have nn:=Z40 (b:=1) nrep nt.inv.pos (by decide) nt.sv.1
   have rm:=Z1j nrep nt.inv.pos (TabOk.of nt.inv) (nbd _ nt.inv) (i:=(narrow c o q rss).length) (b:=1) (by omega) (by decide) (Xf 1 (by decide) (by decide))
   have lm:(multR ((outsW c o).length+1) (narrow c o q rss) T (narrow c o q rss).length 1).length=rss.length:=by rw[Lv,ln]
   have lows:=C7 (c:=(outsW c o).length+1) (i:=(narrow c o q rss).length) (rss:=narrow c o q rss) nt.inv.pos
   have nq:=fun i (hi:i<(outsW c o).length+1)=>nt.q (Qp on.low rows) hi
   rw[ln] at nq
   have nl:NotL c o rss q (comeW c rss (multR ((outsW c o).length+1) (narrow c o q rss) T (narrow c o q rss).length 1)):=by
    refine NotL.of on rows lows lm (fun j hj=>?_) fun i hi=>?_
    ·refine (Up (Wb lows j).pos).mp ?_
     have hj':j<(multR ((outsW c o).length+1) (narrow c o q rss) T (narrow c o q rss).length 1).length:=by omega
     rw[Yf (l:=multR ((outsW c o).length+1) (narrow c o q rss) T (narrow c o q rss).length 1) (x:=(multR ((outsW c o).length+1) (narrow c o q rss) T (narrow c o q rss).length 1)[j]) (by simp[hj'])]
     exact nn _ (YZ hj')
    ·rw[ln]
     exact nq i hi
   obtain⟨DR,UR,rR⟩:=Z2k (n:=91) rep rm lm (by omega)
   refine⟨_,rfl,_,rfl,_,rfl,t7,_,_,_,rfl,rfl,sq,Zh (j:=1) rfl,?_⟩
   refine⟨dr,q7,c,rss,_,rfl,⟨ads,S7 _ _ hdr,Yy hA (Ext.same S7)⟩,⟨xs,hq7,rs7⟩,lm,by omega,by omega,fun rs hr=>⟨(rep rs hr).1,fun r h=>(rep rs hr).2.elim fun D z=>z.elim fun Z y=>(y.good r h).mono (by decide)⟩,⟨_,_,_,by decide,rm⟩,fun ar H8 S8 R8=>?_⟩
   refine⟨_,rfl,ar,ve,_,o,rfl,R8,by rw[Pj];exact (hE.same S7).same S8,by rw[Pj];omega,fun p9 H9 S9 R9=>?_⟩
   refine⟨sz2,fun tt htt=>?_⟩
   have S10:=Same.new (o:=.tup [.str "not",.ref p9]) htt
   exact kN tt p9 _ _ ((S06.trans (S7.trans (S8.trans S9))).trans S10) (SqT.of Zc) (R9.same S10) nl ⟨DR,UR,rR.mono (by omega)⟩
  ·refine⟨_,rfl,t7,_,_,_,rfl,rfl,sq,Zh (j:=0) rfl,rfl,_,rfl,X9 ?_⟩
   have nar:=NarL.of on.low on.len rows mt
   have rL:=Cf mt.inv.pos (TabOk.of mt.inv) (nbd _ mt.inv)
   generalize loadsR ((outsW c o).length+1) (narrow c o q rss).length T=L at *
   refine⟨_,rfl,t7,_,_,_,rfl,rfl,sq,Zh (j:=2) rfl,_,rfl,_,rfl,?_⟩
   refine⟨lo7,a,d,L,q,outsW c o,c,715,rfl,rl,hq.same S7,S7 _ _ hd1,nar.len,on.len,by omega,by omega,fun k hk=>(Ru k hk).1,rL.good,fun r hr=>(rq.good r hr).mono (by decide),by decide,by omega,T7 on nar,fun p9 H9 S9 R9=>?_⟩
   refine⟨sz2,fun tt htt=>?_⟩
   have S10:=Same.new (o:=.tup [.str "left",.ref p9]) htt
   obtain⟨DU,UU,rU⟩:=Z2o on nar rq rL (by omega)
   exact kL tt p9 L _ ((S06.trans (S7.trans S9)).trans S10) (SqT.of Zc) (R9.same S10) nar ⟨DU,UU,rU.mono (by decide)⟩
end
end Sb
namespace Sb
open PySem PySem.Spec PyProof.Rows L2
section
variable {X:Cx}{K:W.Frag}
theorem Z5g (hu:X.A.units+64<cLine)(hK:X.K=K:=by rfl):OpR X (compareOp .Eq) (rAlike K true):=by
 subst hK
 intro pins s σ H x y v u Q I rx ry h
 obtain⟨n,a,b,xs,ys,rfl,rfl,hn,h,p,q⟩:=h
 cases rx
 cases ry
 have lp:=JK p
 rcases h with ⟨h1,h2⟩ | ⟨h1,h2⟩
 ·obtain⟨i1,r1,p1,_⟩:=I.list h1
  obtain⟨i2,r2,p2,_⟩:=I.list h2
  have l1:=r1.length
  have l2:=r2.length
  refine SeqAt.RcAt.lists (A:=X.A) (e:=fun _=>true) p1.isList p2.isList (by simp;omega) (by omega) (fun j h1 h2=>V2 I (by show X.A.units+1+n<cLine;omega) p r1 r2 j h1 h2) _ _ _ _ ?_
  rw[Vk]
  exact⟨.bl true,H,I,rfl,q⟩
 ·obtain⟨i1,r1,p1,_⟩:=I.tuple h1
  obtain⟨i2,r2,p2,_⟩:=I.tuple h2
  have l1:=r1.length
  have l2:=r2.length
  refine SeqAt.RcAt.tuples (A:=X.A) (e:=fun _=>true) p1 p2 (by omega) (fun j h1 h2=>V2 I (by show X.A.units+1+n<cLine;omega) p r1 r2 j h1 h2) _ _ _ _ ?_
  have e:(i1.toArray.size == i2.toArray.size)=true:=by simp;omega
  rw[Vk,e]
  exact⟨.bl true,H,I,rfl,q⟩
end
section
variable {P:Program}{w:World}{K:W.Frag}{mg:Str->Option Value}{base:Heap}
def iN (K:W.Frag):Sp:=fun vs H Q _=>∃ (a:Addr) (c n:Nat) (rs:List Rat),vs=[.ref a,.int (c:Int)]/\RowAt K H a rs/\rs.length=c/\(∀ r∈rs,Good n r)/\n<=8000/\∀ H',Same H H'->Q (.bl true) H'
theorem Gj:FnScope ["_law_found","_law_count","_law_one"] ["_law_found","_law_count"] (defScope mJ):=fsc
theorem Z3r (D:Def K mg "_law_is_row" mJ ["_law_found","_law_count"])(T:Blt mg)(g6:Has P w K mg base 3 "_law_is_ratio" ["_law_found"] (i9 K)):Has P w K mg base 4 "_law_is_row" ["_law_found","_law_count"] (iN K):=by
 refine D.has fun f fd F=>F.ok Gj (fun vs H Q E h=>?_) (fun cdv A outer s H vs Q E hr h=>?_)
 ·obtain⟨a,c,n,rs,rfl,_⟩:=h
  rfl
 ·obtain⟨a,c,n,rs,rfl,⟨xs,hxs,hrs⟩,lr,g,hn,k⟩:=h
  have sc:=Gj
  refine⟨_,(Z9 (Yc (PW.pt (Th (Vp (Xz (Y1 Xl rfl T.isinstance XT (Z0 (pv 0) (Z0 (Ti T.tuple YX) Z8))))) (U5 (Zo Lq (Y1 Yb rfl T.len zu (Z0 (pv 0) Z8)) (pv 1) (Zt _)))))
    (Zd (Zi Vz))
    Zu)
   (Z9 (V3 JR rfl (Vq (pv 0)) (Zq (i:=2) sc.nd rfl (Or.inl rfl))
    (Zd (Yc (Vp (Xz (Zg g6 hr (Z0 (pv 2) Z8))))
     (Zd (Zi Vz))
     Zu)))
   (Zd (Zi Vz)))),?_⟩
  have lx:=hrs.len
  refine⟨_,rfl,_,_,_,_,rfl,hxs,Ud,_,rfl,X9 ?_⟩
  refine⟨_,rfl,a,_,rfl,.inr hxs,_,rfl,rfl,_,rfl,Fn (by rw[show xs.length=c by omega]) ?_⟩
  refine⟨_,rfl,a,rfl,⟨_,hxs⟩,Fs (K:=K) (a:=a) (xs:=xs) (fun i σ H'=>Same H H'/\∃ (x:Option V),σ=[some (.ref a),some (.int (c:Int)),x]) ⟨Same.refl _,none,rfl⟩ (fun i σ H' _ h=>Zl h.1 hxs) ?_ ?_⟩
  ·rintro i x σ H2 hix ⟨S2,x1,rfl⟩
   obtain⟨r,er,b,rfl,hb⟩:=(hrs.ext (Ext.same S2)).back hix
   refine⟨_,rfl,b,r,n,rfl,hb,g r (YL er),hn,fun H3 S3=>⟨_,rfl,X9 ?_⟩⟩
   exact⟨S2.trans S3,_,rfl⟩
  ·rintro σ H2 ⟨S2,x1,rfl⟩
   exact k _ S2
end
section
variable {X:Cx}{K:W.Frag}
def rEqE (K:W.Frag):R2:=fun x y H Q=>(x=.non/\∃ (b:Addr) (ys:List V),y=.ref b/\SqT K H b ys/\Q (.bl false) H) \/ rEqI K x y H Q
theorem Z5h (hu:X.A.units<cLine)(hK:X.K=K:=by rfl):OpR X (compareOp .Eq) (rEqE K):=by
 subst hK
 intro pins s σ H x y v u Q I rx ry h
 rcases h with ⟨rfl,b,ys,rfl,hb,q⟩ | h
 ·cases rx
  cases ry
  obtain⟨its,r1,p1,_⟩:=I.tuple hb
  exact SeqAt.RcAt.none_tuple p1 hu _ _ _ _ ⟨.bl false,H,I,rfl,q⟩
 ·exact Z0q hu rfl pins s σ H x y v u Q I rx ry h
end
end Sb
namespace Sb
open PySem L2
section
variable {P:Program}{w:World}{K:W.Frag}{mg:Str->Option Value}{base:Heap}{C:Addr}
def eZ (K:W.Frag):Sp:=fun vs H Q _=>∃ (a:Addr) (ve:V) (c n:Nat) (o:Option (Nat->Bool)) (W:List Rat) (D:Int) (U:List Int),vs=[.ref a,ve]/\RowAt K H a W/\WtsQ c [] W/\RepL n D U W/\EvAt K H c o ve/\n<=3900/\c<=8 ∧
 ((shR c o W).1=0->∀ H',Same H H'->Q .non H')/\∀ (p:Addr) (t:List Rat) (H':Hp),Same H H'->RowAt K H' p t->ToldQ c o W t->(∃ D U,RepL (n+4) D U t)->Q (.ref p) H'
theorem Qg:FnScope ["_law_weights_here","_law_event_here","_law_share"] ["_law_weights_here","_law_event_here"] (defScope k6):=fsc
theorem Jd (D:Def K mg "_law_learned" k6 ["_law_weights_here","_law_event_here"])(T:Blt mg)(fJ:Has P w K mg base 4 "_law_mean" ["_law_weights_here","_law_row_here"] (gM K))(eK:Z5 P w K mg base)(fC:Has P w K mg base 3 "_law_parted" ["_law_one","_law_other"] (fW K)):Has P w K mg base 5 "_law_learned" ["_law_weights_here","_law_event_here"] (eZ K):=by
 refine D.has fun f fd F=>F.ok Qg (fun vs H Q E h=>?_) (fun cdv A outer s H vs Q E hr h=>?_)
 ·obtain⟨a,ve,c,n,o,W,D,U,rfl,_⟩:=h
  rfl
 ·obtain⟨a,ve,c,n,o,W,D,U,rfl,⟨us,hus,hrs⟩,wq,rW,hE,hn,hc,kN,kT⟩:=h
  have sc:=Qg
  have nd1:(["_law_one"]:List Str).Nodup:=by decide +kernel
  have nd2:(["_law_one","_law_share"]:List Str).Nodup:=by decide +kernel
  refine⟨_,(Z9 (Zk (i:=2) sc.nd rfl (Or.inr rfl) (Zg fJ hr (Z0 (pv 0) (Z0 (Zg eK hr (Z0 (Yl (N:=["_law_one"]) (k:=1) (fv:=[]) rfl (Vq (pv 0))
   (fun _ _ _ _ _=>Zq (i:=0) nd1 rfl (Or.inl rfl)) (fun _ _ _ _ _=>Ye) (fun _ _ _ _ _=>(Y9 (Z0 Za (Z0 Za Z8)))) Zx) (Z0 (pv 1) Z8))) Z8))))
   (Z9 (Yc (Zo Xk (Zj X6 (pv 2) Za (fun _ _=>rfl)) Za (Zt _))
    (Zd (Zi Yn))
    Zu)
   (Zd (Zi (Y0 Zz rfl T.tuple YX (Z0 (Yl (N:=["_law_one","_law_share"]) (k:=1) (fv:=[2]) rfl (Vq (Zg eK hr (Z0 (pv 0) (Z0 (pv 1) Z8))))
   (fun _ _ _ _ _=>Zq (i:=0) nd2 rfl (Or.inl rfl)) (fun _ _ _ _ _=>Ye) (fun _ _ _ _ _=>(Zg fC hr (Z0 (pv 0) (Z0 (pv 1) Z8)))) Zx) Z8)))))),?_⟩
  have lus:=hrs.len
  have lw:=wq.len
  refine⟨_,rfl,_,rfl,a,rfl,⟨_,hus⟩,fun d hd=>?_⟩
  refine⟨c,fun j ys H'=>Same H H'/\Rs K H' (List.replicate j (1,1)) ys,Zv (by omega),⟨Same.new hd,.nil⟩,?_,?_⟩
  ·rintro j ys H10 hj ⟨S10,R10⟩ hd10
   refine⟨⟨us,us[j]'(by omega),Zl S10 hus,by simp⟩,?_⟩
   rintro x' H3 ⟨rfl,fx⟩
   refine Yk ?_
   refine⟨sz2,fun p hp=>?_⟩
   have S11:Same H3 (upd H3 p (.tup [.int 1,.int 1])):=Same.new hp
   have hd11:=S11 _ _ hd10
   refine⟨hd11,fun q o' e=>?_,?_⟩
   ·rw[Zf (Ze e hd)]
    exact S11 _ _ (S10 _ _ e)
   ·rw[jt]
    exact (R10.ext ((Ext.same S11).trans (Ext.upd hd11))).snoc ⟨p,rfl,(Ext.upd hd11).sq (SqT.of Zc)⟩
  rintro ys H10 ⟨S10,R10⟩ hd10
  refine⟨⟨us,Zl S10 hus,by omega⟩,_,rfl,d,ve,ys,List.replicate c (1,1),o,rfl,.inl (SqL.of hd10),R10,by rw[XU];exact hE.same S10,by rw[XU];omega,fun p11 H11 S11 R11=>?_⟩
  obtain⟨ys11,h11,r11⟩:=R11
  have S011:=S10.trans S11
  have ro:=(RepL.ones c).cut o
  have lo:(cutR o (List.replicate c (1,1))).length=c:=by rw[Yd,XU]
  refine⟨a,p11,us,ys11,W,_,n,1,_,_,_,_,rfl,.inr (Zl S011 hus),hrs.ext (Ext.same S011),.inr h11,r11,by rw[lo];exact lw,by rw[lo];omega,rW,ro,by omega,fun ash H12 S12 e12=>?_⟩
  replace e12:SqT K H12 ash [.int (shR c o W).1,.int (shR c o W).2]:=e12
  have S012:=S011.trans S12
  have shG:Good (n+1+10) (shR c o W):=(rW.mul ro (by rw[lo];exact lw)).sumGood (k:=10) (by rw[JF,lo];omega)
  have shN:0<=(shR c o W).1:=by
   refine (Up shG.low.pos).mpr ?_
   rw[Ys wq.low lw]
   exact Qi fun k hk=>by cases inE o k <;> simp <;> exact wq.nn k hk
  refine⟨_,rfl,ash,_,_,rfl,rfl,e12,rfl,_,rfl,?_⟩
  refine Xe (fun h=>?_) (fun h=>?_)
  ·have h0:(shR c o W).1=0:=by
    have:=XI h
    injection this
   exact kN h0 _ S012
  ·have h0:(shR c o W).1≠0:=fun z=>h (XX (by rw[z]))
   have s0:0<(shR c o W).1:=by omega
   refine⟨_,rfl,_,rfl,a,ve,us,W,o,rfl,.inr (Zl S012 hus),hrs.ext (Ext.same S012),by rw[lw];exact hE.same S012,by omega,fun p13 H13 S13 R13=>?_⟩
   obtain⟨ys13,h13,r13⟩:=R13
   have l13:=r13.len
   have lcut:(cutR o W).length=c:=by rw[Yd];exact lw
   have S013:=S012.trans S13
   refine⟨p13,rfl,⟨_,h13⟩,fun d2 hd2=>?_⟩
   refine⟨c,fun j ys H'=>Same H13 H'/\Rs K H' ((toldR c o W).take j) ys,Zv (by omega),⟨Same.new hd2,.nil⟩,?_,?_⟩
   ·rintro j ys H14 hj ⟨S14,R14⟩ hd14
    refine⟨⟨ys13,ys13[j]'(by omega),Zl S14 h13,by simp⟩,?_⟩
    rintro x' H3 ⟨rfl,fx⟩
    obtain⟨r,er,b1,rfl,sb⟩:=(r13.ext (Ext.same S14)).back (fx _ (Zl S14 h13))
    refine Yk ?_
    refine⟨_,rfl,_,rfl,b1,ash,r,shR c o W,n+1+10,rfl,sb,Zl (S13.trans S14) e12,((rW.cut o).good r (YL er)).mono (by omega),shG,s0,by omega,fun aq H15 f15 S15 e15=>?_⟩
    have hd15:=S15 _ _ hd14
    refine⟨hd15,fun q o' e=>?_,?_⟩
    ·rw[Zf (Ze e hd2)]
     exact S15 _ _ (S14 _ _ e)
    ·have ec:(toldR c o W)[j]?=some (nrm (r.1*(shR c o W).2) (r.2*(shR c o W).1)):=by
      unfold toldR
      rw[YD,er]
      rfl
     rw[Y2 ec]
     exact (R14.ext ((Ext.same S15).trans (Ext.upd hd15))).snoc ⟨aq,rfl,(Ext.upd hd15).sq (SqT.of e15)⟩
   rintro ys2 H14 ⟨S14,R14⟩ hd14
   have lt:(toldR c o W).length=c:=by unfold toldR;rw[YC];exact lcut
   rw[YN (by omega)] at R14
   refine⟨⟨_,Zl S14 h13,by omega⟩,d2,ys2,rfl,.inl ⟨SqL.of hd14,fun l2 hl2=>?_⟩⟩
   have S15:=Same.new (o:=.tup ys2) hl2
   exact kT l2 _ _ ((S013.trans S14).trans S15) ⟨_,SqT.of Zc,R14.ext (Ext.same S15)⟩ (Z2r lw wq.low s0) (Bi lw rW (by omega) s0)
end
theorem Df {C:Addr}{tb:(L2.St->XK)->TS}{ts:TS}{Ds:Ends}{σ:L2.St}{H:Hp}(R:XK)(h1:∀ EX:L2.St->XK,(∀ cls dd H',R cls dd H'->EX σ cls dd H')->tb EX Ds σ H)(h2:∀ cls dd H',R cls dd H'->cls=.ref C/\ts Ds σ H'):tTryD C tb ts Ds σ H:=h1 _ h2
theorem Z6c {c i:Nat}(hi:i<c):evI c (fun k=>k == i)=[(i:Int)]:=by
 induction c with
 | zero=>omega
 | succ c ih =>
  rw[Pe]
  by_cases q:c=i
  ·subst q
   have:evI c (fun k=>k == c)=evI c (fun _=>false):=Nf fun k hk=>by simp;omega
   rw[this]
   have z:∀ m,evI m (fun _=>false)=[]:=fun m=>by unfold evI;simp
   rw[z]
   simp
  ·rw[ih (by omega)]
   simp[q]
section
variable {P:Program}{w:World}{K:W.Frag}{mg:Str->Option Value}{base:Heap}{C:Addr}
def iI (K:W.Frag):Sp:=fun vs H Q _=>∃ (b:Addr) (c:Nat),vs=[.ref b,.int (c:Int)]/\BagAt H b 101/\1<=c/\c<=100/\∀ (ve:V) (o:Option (Nat->Bool)) (H':Hp),SameX b H H'->EvAt K H' c o ve->Q ve H'
theorem Ga:FnScope ["_law_bag_here","_law_count","_law_event_here"] ["_law_bag_here","_law_count"] (defScope kS):=fsc
theorem Z3i (D:Def K mg "_law_some_event" kS ["_law_bag_here","_law_count"])(fQ:Has P w K mg base 2 "_law_event" ["_law_bag_here","_law_count"] (gN K))(eA:Z2 P w K mg base):Has P w K mg base 3 "_law_some_event" ["_law_bag_here","_law_count"] (iI K):=by
 refine D.has fun f fd F=>F.ok Ga (fun vs H Q E h=>?_) (fun cdv A outer s H vs Q E hr h=>?_)
 ·obtain⟨b,c,rfl,_⟩:=h
  rfl
 ·obtain⟨b,c,rfl,hB,c1,hc,k⟩:=h
  have hU:=zy (Z1v hr)
  have sc:=Ga
  refine⟨_,(Z9 (Zk (i:=2) sc.nd rfl (Or.inl rfl) (Zg fQ hr (Z0 (pv 0) (Z0 (pv 1) Z8))))
   (Z9 (Yc (Zo (Z5h (K:=K) hU) (pv 2) (Y9 Z8) (Zt _))
    (Zd (Zk (i:=2) sc.nd rfl (Or.inl rfl) (Y9 (Z0 (Zg eA hr (Z0 (pv 0) (Z0 (pv 1) Z8))) Z8))))
    Zu)
   (Zd (Zi (pv 2))))),?_⟩
  refine⟨_,rfl,_,rfl,b,c,_,rfl,hB,by omega,by omega,fun ve H3 o B3 S3 E3=>?_⟩
  have B3':BagAt H3 b 1000:=B3.mono (by omega)
  refine⟨_,rfl,sz0,fun t0 ht0=>?_⟩
  have S4:Same H3 (upd H3 t0 (.tup [])):=Same.new ht0
  have e4:upd H3 t0 (.tup []) t0=some (.tup []):=Zc
  generalize upd H3 t0 (.tup [])=H4 at *
  have S14:=S3.trans (SameX.of S4)
  have E4:=E3.same S4
  cases o with
  | none =>
   have ev:ve=.non:=E4
   subst ev
   exact .inl ⟨rfl,t0,[],rfl,SqT.of e4,_,rfl,X9 ⟨_,rfl,k _ none _ S14 E4⟩⟩
  | some p =>
   obtain⟨ae,rfl,hA⟩:=id E4
   refine .inr ⟨ae,t0,evI c p,[],rfl,rfl,hA,SqT.of e4,_,rfl,?_⟩
   refine Xe (fun h=>?_) (fun h=>⟨_,rfl,k _ (some p) _ S14 E4⟩)
   have B4:=B3'.same S4
   refine⟨_,rfl,_,rfl,b,_,_,rfl,B4,by omega,by omega,Fg (by omega),fun y H5 y0 y1 B5 S5=>?_⟩
   obtain⟨j,rfl,hj⟩:=Z4v y0 y1
   refine⟨sz1,fun t5 ht5=>?_⟩
   have S6:Same H5 (upd H5 t5 (.tup [.int (j:Int)])):=Same.new ht5
   exact⟨_,rfl,k _ (some fun k=>k == j) _ ((S14.trans S5).trans (SameX.of S6)) ⟨t5,rfl,by rw[Z6c (by omega)];exact SqT.of Zc⟩⟩
def i7 (K:W.Frag):Sp:=fun vs H Q _=>∃ (v1 v2:V) (c:Nat) (o1 o2:Option (Nat->Bool)),vs=[v1,v2]/\EvAt K H c o1 v1/\EvAt K H c o2 v2/\c<=100/\∀ (v:V) (H':Hp),Same H H'->EvAt K H' c (meetE o1 o2) v->Q v H'
theorem Bt:FnScope ["_law_one","_law_other"] ["_law_one","_law_other"] (defScope mR):=fsc
theorem Z5q (D:Def K mg "_law_meet" mR ["_law_one","_law_other"])(T:Blt mg):Has P w K mg base 1 "_law_meet" ["_law_one","_law_other"] (i7 K):=by
 refine D.has fun f fd F=>F.ok Bt (fun vs H Q E h=>?_) (fun cdv A outer s H vs Q E hr h=>?_)
 ·obtain⟨v1,v2,c,o1,o2,rfl,_⟩:=h
  rfl
 ·obtain⟨v1,v2,c,o1,o2,rfl,h1,h2,hc,k⟩:=h
  have sc:=Bt
  have nd1:(["_law_k","_law_other"]:List Str).Nodup:=by decide +kernel
  refine⟨_,(Z9 (Yc (Zo Xn (pv 0) Yn (Zt _))
    (Zd (Zi (pv 1)))
    Zu)
   (Z9 (Yc (Zo Xn (pv 1) Yn (Zt _))
    (Zd (Zi (pv 0)))
    Zu)
   (Zd (Zi (Y0 Zz rfl T.tuple YX (Z0 (Yl (N:=["_law_k","_law_other"]) (k:=1) (fv:=[1]) rfl (Vq (pv 0))
   (fun _ _ _ _ _=>Zq (i:=0) nd1 rfl (Or.inl rfl)) (fun _ _ _ _ _=>Rl (Zo (Z0p (K:=K)) (pv 0) (pv 1) rfl)) (fun _ _ _ _ _=>(pv 0)) Zx) Z8)))))),?_⟩
  cases o1 with
  | none =>
   have e:v1=.non:=h1
   subst e
   exact⟨_,rfl,rfl,_,rfl,Wt ⟨_,rfl,k _ _ (Same.refl _) (by cases o2 <;> exact h2)⟩⟩
  | some p =>
   obtain⟨a1,rfl,s1⟩:=id h1
   refine⟨_,rfl,rfl,_,rfl,X9 ?_⟩
   cases o2 with
   | none =>
    have e:v2=.non:=h2
    subst e
    exact⟨_,rfl,rfl,_,rfl,Wt ⟨_,rfl,k _ _ (Same.refl _) h1⟩⟩
   | some q =>
    obtain⟨a2,rfl,s2⟩:=id h2
    refine⟨_,rfl,rfl,_,rfl,X9 ?_⟩
    have ll:((evI c p).map V.int).length=(evI c p).length:=by simp
    have lc:(evI c p).length<=c:=by
     unfold evI
     rw[YC]
     exact XQ (Y0O _ _) (by simp)
    refine⟨_,rfl,a1,rfl,⟨_,s1⟩,fun d hd=>?_⟩
    refine⟨(evI c p).length,fun i ys H'=>Same H H'/\ys=(((evI c p).take i).filter fun z=>decide (z∈evI c q)).map V.int,Zv (by omega),⟨Same.new hd,rfl⟩,?_,?_⟩
    ·rintro i ys H3 hi ⟨S3,rfl⟩ hd3
     refine⟨⟨_,V.int (evI c p)[i],Zl S3 s1,by simp[hi]⟩,?_⟩
     rintro x H4 ⟨rfl,fx⟩
     have ex:x=V.int (evI c p)[i]:=by
      have:=fx _ (Zl S3 s1)
      rw[YD,XM hi] at this
      exact (YK this).symm
     subst ex
     refine Qq ?_
     have tk:(evI c p).take (i+1)=(evI c p).take i++[(evI c p)[i]]:=Y2 (by simp[hi])
     refine⟨_,rfl,_,rfl,a2,_,rfl,.inr (Zl S3 s2),rfl,Ul _,_,rfl,?_⟩
     have iv:=Ts (evI c p)[i] (evI c q)
     refine Xe (fun h=>?_) (fun h=>?_)
     ·have h':decide ((evI c p)[i]∈evI c q)=true:=iv.symm.trans h
      refine⟨_,rfl,hd3,fun q' o' e=>?_,?_⟩
      ·rw[Zf (Ze e hd)]
       exact S3 _ _ e
      ·rw[tk,qq,zT (p:=fun z=>decide (z∈evI c q)) h']
       simp
     ·have h':¬ decide ((evI c p)[i]∈evI c q)=true:=fun z=>h (iv.trans z)
      refine⟨hd3,S3,?_⟩
      rw[tk,qq,zU (p:=fun z=>decide (z∈evI c q)) h']
      simp
    rintro ys H3 ⟨S3,rfl⟩ hd3
    rw[YN (YE _),Z27] at hd3
    refine⟨⟨_,Zl S3 s1,by omega⟩,d,_,rfl,.inl ⟨SqL.of hd3,fun l2 hl2=>?_⟩⟩
    exact k _ _ (S3.trans (Same.new hl2)) ⟨l2,rfl,SqT.of Zc⟩
def gU (K:W.Frag):Sp:=fun vs H Q _=>∃ (l g:Addr) (ve:V) (c:Nat) (os:List Offr) (o:Option (Nat->Bool)) (as:List Rat) (D:Int) (Z:List Int),vs=[.int (c:Int),.ref l,ve,.ref g]/\OffsAt K H l c os/\BookU c 91 os/\(gainsP os os.length).length<=6/\EvAt K H c o ve/\RowAt K H g as/\as.length=c/\RepL 91 D Z as/\(∃ ls,Wts c (gainsP os os.length) ls)/\2<=c/\c<=5 ∧
 (∀ (t a b:Addr) (u v:Rat) (H':Hp),Same H H'->SqT K H' t [.ref a,.ref b]->SqT K H' a [.int u.1,.int u.2]->SqT K H' b [.int v.1,.int v.2]->ConV c (gainsP os os.length) o as v->ConV c (gainsP os os.length) o (ngR as) (negR u)->Good 770 u->Good 770 v->Q (.ref t) H') ∧
 ((∀ W,Wts c (gainsP os os.length) W->(shR c o W).1=0)->∀ H',Same H H'->Q .non H')
theorem L3:FnScope ["_law_count","_law_offers","_law_event_here","_law_row_here"] ["_law_count","_law_offers","_law_event_here","_law_row_here"] (defScope lN):=fsc
theorem Z0x (D:Def K mg "_law_prices" lN ["_law_count","_law_offers","_law_event_here","_law_row_here"])(T:Blt mg)(k_NoChance:CatchBy K C C)(m_NoChance:mg "NoChance"=some (.ref C))(jH:HasD P w K mg base 9 "learned" ["count","offers","event","row"] (fY K C)):Has P w K mg base 10 "_law_prices" ["_law_count","_law_offers","_law_event_here","_law_row_here"] (gU K) true:=by
 refine D.has fun f fd F=>F.ok L3 (fun vs H Q E h=>?_) (fun cdv A outer s H vs Q E hr h=>?_)
 ·obtain⟨l,g,ve,c,os,o,as,D,Z,rfl,_⟩:=h
  rfl
 ·obtain⟨l,g,ve,c,os,o,as,D,Z,rfl,⟨vs,hl,hP⟩,bu,six,hE,hg,la,ra,wl,c2,c5,kV,kN⟩:=h
  have sc:=L3
  refine⟨_,(Zd (Z2w rfl rfl k_NoChance m_NoChance rfl (fun _ _ _ hL=>(Zd (Zi (Ny jH (hr.mono (by decide)) rfl hL (Z0 (pv 0) (Z0 (Y0 (Pp (K:=K)) rfl T.list XV (Z0 (pv 1) Z8)) (Z0 (pv 2) (Z0 (pv 3) Z8)))))))) (fun _ _ _=>(Zd (Zi Yn))))),?_⟩
  have bm:BookM c 91 679 91 os:=bu.toM six (by decide) (by decide)
  refine Df (fun cls dd H'=>cls=.ref C/\Same H H'/\∃ T gs,NoneT c (gainsP os os.length) o gs T) (fun EX hEX=>?_) ?_
  case refine_2 =>
   rintro cls dd H' ⟨rfl,S',T',gs,nt⟩
   exact⟨rfl,kN (fun W ww=>nt.noshareq bm.rows (ww.toQ bm.rows)) _ S'⟩
  refine⟨_,rfl,_,rfl,l,vs,rfl,.inl (SqL.of hl),fun lc1 hlc=>?_⟩
  have T1:=Same.new (o:=.lst vs) hlc
  have f1:upd H lc1 (.lst vs) lc1=some (.lst vs):=Zc
  generalize upd H lc1 (.lst vs)=G1 at *
  exact⟨_,rfl,_,rfl,lc1,g,ve,c,91,679,91,os,o,as,_,_,rfl,⟨vs,f1,Zy hP (Ext.same T1)⟩,bm,hE.same T1,hg.same T1,la,ra,wl,c2,by omega,fun t au av u v H9 S9 ht su sv cv cu gu gv=>kV t au av u v _ (T1.trans S9) ht su sv cv cu gu gv,fun d3 T3 gs3 H' S' nt=>hEX _ _ _ ⟨rfl,T1.trans S',T3,gs3,nt⟩⟩
def TryV (K:W.Frag)(H:Hp)(n c:Nat)(o:Option (Nat->Bool))(v:V):Prop:=v=.non \/ ∃ (b:Addr) (q:List Rat),v=.ref b/\RowAt K H b q/\OnE c o q/\∃ D Z,RepL n D Z q
def iF (K:W.Frag):Sp:=fun vs H Q _=>∃ (l:Addr) (v1 v2 vw:V) (c:Nat) (os:List Offr) (o1 o2:Option (Nat->Bool)),vs=[.int (c:Int),.ref l,v1,v2,vw]/\OffsAt K H l c os/\BookU c 91 os/\(gainsP os os.length).length<=6/\EvAt K H c o1 v1/\EvAt K H c o2 v2/\TryV K H 14 c o1 vw/\2<=c/\c<=5/\∀ H',Same H H'->Q (.bl true) H'
theorem G6:FnScope ["_law_count","_law_offers","_law_one","_law_other","_law_weights_here","_law_then","_law_found"] ["_law_count","_law_offers","_law_one","_law_other","_law_weights_here"] (defScope kU):=fsc
theorem Z3d (D:Def K mg "_law_left_twice" kU ["_law_count","_law_offers","_law_one","_law_other","_law_weights_here"])(T:Blt mg)(jW:Has P w K mg base 6 "left" ["count","offers","event","weights"] (i8 K))(eJ:Has P w K mg base 5 "_law_learned" ["_law_weights_here","_law_event_here"] (eZ K))(jI:Has P w K mg base 1 "_law_meet" ["_law_one","_law_other"] (i7 K))(i3:Has P w K mg base 4 "_law_is_row" ["_law_found","_law_count"] (iN K)):Has P w K mg base 7 "_law_left_twice" ["_law_count","_law_offers","_law_one","_law_other","_law_weights_here"] (iF K):=by
 refine D.has fun f fd F=>F.ok G6 (fun vs H Q E h=>?_) (fun cdv A outer s H vs Q E hr h=>?_)
 ·obtain⟨l,v1,v2,vw,c,os,o1,o2,rfl,_⟩:=h
  rfl
 ·obtain⟨l,v1,v2,vw,c,os,o1,o2,rfl,⟨vs,hl,hP⟩,bu,six,hE1,hE2,hV,c2,c5,k⟩:=h
  have sc:=G6
  refine⟨_,(Z9 (Yc (PW.pt (Th (Zo Xn (pv 4) Yn (Zt _)) (U5 (Zo Lq (Zj Ya (Zg jW hr (Z0 (pv 0) (Z0 (Y0 Yp rfl T.list XV (Z0 (pv 1) Z8)) (Z0 (pv 2) (Z0 (pv 4) Z8))))) Za (fun _ _=>rfl)) X7 (Zt _)))))
    (Zd (Zi Vz))
    Zu)
   (Z9 (Zk (i:=5) sc.nd rfl (Or.inl rfl) (Zg eJ hr (Z0 (pv 4) (Z0 (pv 3) Z8))))
   (Z9 (Yc (Zo Xn (pv 5) Yn (Zt _))
    (Zd (Zi Vz))
    Zu)
   (Z9 (Zk (i:=6) sc.nd rfl (Or.inl rfl) (Zg jW hr (Z0 (pv 0) (Z0 (Y0 Yp rfl T.list XV (Z0 (pv 1) Z8)) (Z0 (Zg jI hr (Z0 (pv 2) (Z0 (pv 3) Z8))) (Z0 (pv 5) Z8))))))
   (Zd (Zi (Ux (Y1 Xl rfl T.isinstance XT (Z0 (pv 6) (Z0 (Ti T.tuple YX) Z8))) (Ux (Xs Xk (Zj Ya (pv 6) Za (fun _ _=>rfl)) X7 (Zt _)) (Se (Zg i3 hr (Z0 (Zj Ya (pv 6) Za (fun _ _=>rfl)) (Z0 (pv 0) Z8)))))))))))),?_⟩
  have rows:∀ rs∈gainsP os os.length,RowR c rs:=fun rs hr=>RowR.of (bu.rep rs hr).1 (bu.rep rs hr).2
  rcases hV with rfl | ⟨aq,q,rfl,Rq,on,D,Z,rq⟩
  ·exact⟨_,rfl,rfl,_,rfl,Wt (Wt (k _ (Same.refl _)))⟩
  ·refine⟨_,rfl,rfl,_,rfl,X9 ?_⟩
   refine⟨_,rfl,_,rfl,l,vs,rfl,.inl (SqL.of hl),fun lc hlc=>?_⟩
   have T1:=Same.new (o:=.lst vs) hlc
   have f1:upd H lc (.lst vs) lc=some (.lst vs):=Zc
   generalize upd H lc (.lst vs)=G1 at *
   refine⟨_,rfl,_,rfl,lc,aq,v1,c,os,o1,q,D,Z,rfl,⟨vs,f1,Zy hP (Ext.same T1)⟩,bu,six,hE1.same T1,Rq.same T1,on,rq.mono (by decide),c2,c5,fun t p L H1 S1 ht Rp nar rU=>?_,fun t p R H1 S1 ht Rp nl rR=>?_⟩
   case refine_2=>exact⟨t,_,_,_,rfl,rfl,ht,Zh (j:=0) rfl,rfl,_,rfl,Wt (k _ (T1.trans S1))⟩
   replace S1:=T1.trans S1
   refine⟨t,_,_,_,rfl,rfl,ht,Zh (j:=0) rfl,rfl,_,rfl,Fn rfl ?_⟩
   have wU:=Nm on nar rows
   have tU:=Bf on nar rows
   refine⟨_,rfl,_,rfl,aq,v2,c,14,o2,q,_,_,rfl,Rq.same S1,⟨on.len,on.low,on.nn,(fun _ h=>nomatch h),on.lie⟩,rq,hE2.same S1,by decide,by omega,fun z H2 S2=>?_,fun p2 t2 H2 S2 R2 tq rt=>?_⟩
   ·exact⟨_,rfl,rfl,_,rfl,Wt (k _ (S1.trans S2))⟩
   refine⟨_,rfl,rfl,_,rfl,X9 ?_⟩
   have S02:=S1.trans S2
   have tm:=tU.again wU.low wU.len tq
   obtain⟨D2,Z2,r2⟩:=rt
   refine⟨_,rfl,_,rfl,l,vs,rfl,.inl (SqL.of (S02 _ _ hl)),fun lc2 hlc2=>?_⟩
   have T2:=Same.new (o:=.lst vs) hlc2
   have f2:upd H2 lc2 (.lst vs) lc2=some (.lst vs):=Zc
   generalize upd H2 lc2 (.lst vs)=G2 at *
   have S0G:=S02.trans T2
   refine⟨_,rfl,_,rfl,v1,v2,c,o1,o2,rfl,hE1.same S0G,hE2.same S0G,by omega,fun vm H3 S3 E3=>?_⟩
   have S03:=S0G.trans S3
   refine⟨_,rfl,lc2,p2,vm,c,os,meetE o1 o2,t2,D2,Z2,rfl,⟨vs,S3 _ _ f2,Zy hP (Ext.same S03)⟩,bu,six,E3,R2.same (T2.trans S3),tm.on wU,r2,c2,c5,fun t4 p4 L4 H4 S4 ht4 Rp4 nar4 rU4=>?_,fun t4 p4 R4 H4 S4 ht4 Rp4 nl4 rR4=>?_⟩
   ·obtain⟨DU,UU,rU⟩:=rU4
    have wU4:=Nm (tm.on wU) nar4 rows
    refine⟨_,rfl,_,_,_,_,rfl,ht4,Ud,_,rfl,Wt ?_⟩
    refine⟨_,rfl,t4,_,_,_,rfl,rfl,ht4,Zh (j:=0) rfl,rfl,_,rfl,Wt ?_⟩
    exact⟨_,rfl,t4,_,_,_,rfl,rfl,ht4,Zh (j:=1) rfl,_,rfl,p4,c,743,_,rfl,Rp4,wU4.len,rU.good,by decide,fun H5 S5=>k _ ((S03.trans S4).trans S5)⟩
   ·have a:=nl4.told wU tm
    have b:=nl4.up
    exact absurd b (by grind)
end
theorem at8b (z:Int):∃ c:Nat,atI [V.int 2,.int 3,.int 4,.int 3,.int 2,.int 3,.int 4,.int 5] (z % 8)=some (.int c)/\2<=c/\c<=5:=by
 have h:z % 8=0 \/ z % 8=1 \/ z % 8=2 \/ z % 8=3 \/ z % 8=4 \/ z % 8=5 \/ z % 8=6 \/ z % 8=7:=by omega
 rcases h with e | e | e | e | e | e | e | e <;> rw[e]
 ·exact⟨2,Zh (j:=0) rfl,by decide,by decide⟩
 ·exact⟨3,Zh (j:=1) rfl,by decide,by decide⟩
 ·exact⟨4,Zh (j:=2) rfl,by decide,by decide⟩
 ·exact⟨3,Zh (j:=3) rfl,by decide,by decide⟩
 ·exact⟨2,Zh (j:=4) rfl,by decide,by decide⟩
 ·exact⟨3,Zh (j:=5) rfl,by decide,by decide⟩
 ·exact⟨4,Zh (j:=6) rfl,by decide,by decide⟩
 ·exact⟨5,Zh (j:=7) rfl,by decide,by decide⟩
theorem WtsR.wts9 {c:Nat}{Ws:List Int}{ws:List Rat}(wt:WtsR c Ws ws):Wts c [] ws:=(show FairB c Ws [] from ⟨(fun _ h=>nomatch h),(fun _ h=>nomatch h),by decide⟩).wts wt
theorem Z0e {as:List Rat}{m:Rat}(six:∀ r∈as,Six r)(sm:Six m):∃ Z,RepL 91 6 Z (as.map fun x=>addR x m):=RepL.each (by decide) (Xf 3 (by decide) (by decide)) fun r hr=>by
 obtain⟨x,hx,rfl⟩:=XE.mp hr
 have s:=six x hx
 refine⟨_,Nv s.g.pos sm.g.pos s.rep.1 sm.rep.1,?_,Ww s.g.low sm.g.low⟩
 exact (s.rep.2.add sm.rep.2).mono (by decide)
theorem Pr {K:W.Frag}{H:Hp}{a b:Addr}{r:Rat}(h1:SqT K H a [.int r.1,.int r.2])(h2:SqT K H b [.int r.1,.int r.2]):EqU K H 1 (.ref a) (.ref b):=.inr ⟨a,b,_,_,rfl,rfl,.inr ⟨h1,h2⟩,.cons ⟨rfl,rfl⟩ (.cons ⟨rfl,rfl⟩ .nil)⟩
theorem Vr {K:W.Frag}{H:Hp}{a b a' b':Addr}{r s:Rat}(h1:SqT K H a [.int r.1,.int r.2])(h2:SqT K H a' [.int r.1,.int r.2])(h3:SqT K H b [.int s.1,.int s.2])(h4:SqT K H b' [.int s.1,.int s.2]):Paired (EqU K H 1) [.ref a,.ref b] [.ref a',.ref b']:=.cons (Pr h1 h2) (.cons (Pr h3 h4) .nil)
theorem Mc {t1 t2:TS}{Ds:Ends}{σ:L2.St}{H:Hp}(h1:t1 { Ds with nx:=fun σ' H'=>σ'=σ/\Same H H' } σ H)(h2:∀ H',Same H H'->t2 Ds σ H'):tSeq (tJ t1) t2 Ds σ H:=⟨fun σ' H'=>σ'=σ/\Same H H',h1,fun σ' H' z=>by rw[z.1];exact h2 H' z.2⟩
def PriceV (K:W.Frag)(H:Hp)(c:Nat)(rss:List (List Rat))(o:Option (Nat->Bool))(as:List Rat)(vf:V):Prop:=(vf=.non/\∀ W,Wts c rss W->(shR c o W).1=0) \/ ∃ (t a b:Addr) (u v:Rat),vf=.ref t/\SqT K H t [.ref a,.ref b]/\SqT K H a [.int u.1,.int u.2]/\SqT K H b [.int v.1,.int v.2]/\ConV c rss o as v/\ConV c rss o (ngR as) (negR u)/\Good 770 u/\Good 770 v
theorem PriceV.same {K:W.Frag}{H H':Hp}{c:Nat}{rss:List (List Rat)}{o:Option (Nat->Bool)}{as:List Rat}{vf:V}(h:PriceV K H c rss o as vf)(S:Same H H'):PriceV K H' c rss o as vf:=by
 rcases h with h | ⟨t,a,b,u,v,e,h1,h2,h3,z⟩
 ·exact .inl h
 ·exact .inr ⟨t,a,b,u,v,e,Zl S h1,Zl S h2,Zl S h3,z⟩
theorem Mo {c:Nat}{rss:List (List Rat)}{o:Option (Nat->Bool)}{as:List Rat}{v:Rat}(h:ConV c rss o as v)(n:∀ W,Wts c rss W->(shR c o W).1=0):False:=by
 obtain⟨W,w,_,s0⟩:=h.hit
 have:=n W w
 omega
section
variable {P:Program}{w:World}{K:W.Frag}{mg:Str->Option Value}{base:Heap}{C:Addr}
def spLaw (K:W.Frag):Sp:=fun vs H Q _=>∃ (a:Addr) (ns:List Int),vs=[.ref a]/\SqL K H a (ns.map V.int)/\∀ H',Q (.bl true) H'
theorem Z4k:FnScope ["_law_script","_law_count","_law_weights_here","_law_offers","_law_one","_law_other","_law_drawn","_law_some","_law_row_here","_law_more","_law_found","_law_raised"] ["_law_script"] (defScope m5):=fsc
theorem Z6q {f:Addr}{fd:FuncData}(F:Fun K "law" "law" m5 f fd)(T:Blt mg)(gA:Has P w K mg base 1 "_law_cell" ["_law_script","_law_k"] (hZ K))(eF:Has P w K mg base 2 "_law_bag" ["_law_script","_law_at"] (h9 K))(gR:Has P w K mg base 7 "_law_fair_book" ["_law_script","_law_count"] (iS K))(eU:Has P w K mg base 3 "_law_some_event" ["_law_bag_here","_law_count"] (iI K))(eT:Has P w K mg base 3 "_law_weights" ["_law_bag_here","_law_count"] (eX K))(eJ:Has P w K mg base 5 "_law_learned" ["_law_weights_here","_law_event_here"] (eZ K))(gC:Has P w K mg base 7 "_law_left_twice" ["_law_count","_law_offers","_law_one","_law_other","_law_weights_here"] (iF K))(gQ:Has P w K mg base 4 "_law_row" ["_law_bag_here","_law_count"] (hG K))(fP:Has P w K mg base 3 "_law_small" ["_law_bag_here"] (fV K))(eO:Has P w K mg base 10 "_law_prices" ["_law_count","_law_offers","_law_event_here","_law_row_here"] (gU K) true)(eH:Z7 P w K mg base)(eK:Z5 P w K mg base)(jN:Has P w K mg base 8 "shares" ["count","offers","event"] (gD K))(fZ:Has P w K mg base 6 "upper" ["count","offers","row"] (fE K))(iA:Has P w K mg base 7 "lower" ["count","offers","row"] (fX K)):FnOk P w K mg base CX0 11 f fd ["_law_script"] (spLaw K) true:=by
 refine F.ok Z4k (fun vs H Q E h=>?_) (fun cdv A outer s H vs Q E hr h=>?_)
 ·obtain⟨a,ns,rfl,_⟩:=h
  rfl
 ·obtain⟨a,ns,rfl,hS,k⟩:=h
  have hU:=zy (Z1v hr)
  have hU64:=hr.units
  have sc:=Z4k
  have nd1:(["_law_worth","_law_more"]:List Str).Nodup:=by decide +kernel
  have nd2:(["_law_k"]:List Str).Nodup:=by decide +kernel
  refine⟨_,(Z9 (Zk (i:=1) sc.nd rfl (Or.inl rfl) (Zj Y6 (Wl (Z0 Za (Z0 Za (Z0 Za (Z0 Za (Z0 Za (Z0 Za (Z0 Za (Z0 Za Z8))))))))) (Zn Wn (Zg gA hr (Z0 (pv 0) (Z0 Za Z8))) Za) (fun _ _=>rfl)))
   (Z9 (Uw (Zg gR hr (Z0 (pv 0) (Z0 (pv 1) Z8))) (V4 (n:=2) rfl (Yh (Zq (i:=2) sc.nd rfl (Or.inl rfl)) (Yh (Zq (i:=3) sc.nd rfl (Or.inl rfl)) Xr))))
   (Z9 (Zk (i:=4) sc.nd rfl (Or.inl rfl) (Zg eU hr (Z0 (Zg eF hr (Z0 (pv 0) (Z0 Za Z8))) (Z0 (pv 1) Z8))))
   (Z9 (Zk (i:=5) sc.nd rfl (Or.inl rfl) (Zg eU hr (Z0 (Zg eF hr (Z0 (pv 0) (Z0 Za Z8))) (Z0 (pv 1) Z8))))
   (Z9 (Zk (i:=6) sc.nd rfl (Or.inl rfl) (Zg eT hr (Z0 (Zg eF hr (Z0 (pv 0) (Z0 Za Z8))) (Z0 (pv 1) Z8))))
   (Z9 (V3 JR rfl (Xq (Wl (Z0 (pv 2) (Z0 (pv 6) Z8)))) (Zq (i:=7) sc.nd rfl (Or.inl rfl))
    (Zd (Yc (Vp (Xz (Zg gC hr (Z0 (pv 1) (Z0 (pv 3) (Z0 (pv 4) (Z0 (pv 5) (Z0 (Zg eJ hr (Z0 (pv 7) (Z0 (pv 4) Z8))) Z8))))))))
     (Zd (Zi Vz))
     Zu)))
   (Z9 (Xj (Zk (i:=8) sc.nd rfl (Or.inl rfl) (Zg gQ hr (Z0 (Zg eF hr (Z0 (pv 0) (Z0 Za Z8))) (Z0 (pv 1) Z8)))))
   (Z9 (Zk (i:=9) sc.nd rfl (Or.inr rfl) (Zg fP hr (Z0 (Zg eF hr (Z0 (pv 0) (Z0 Za Z8))) Z8)))
   (Z9 (Xj (Zk (i:=10) sc.nd rfl (Or.inl rfl) (Rm eO (hr.mono (by decide)) rfl (Z0 (pv 1) (Z0 (pv 3) (Z0 (pv 4) (Z0 (pv 8) Z8)))))))
   (Z9 (Xj (Zk (i:=11) sc.nd rfl (Or.inl rfl) (Rm eO (hr.mono (by decide)) rfl (Z0 (pv 1) (Z0 (pv 3) (Z0 (pv 4) (Z0 (Y0 Zz rfl T.tuple YX (Z0 (Yl (N:=["_law_worth","_law_more"]) (k:=1) (fv:=[9]) rfl (Vq (pv 8))
   (fun _ _ _ _ _=>Zq (i:=0) nd1 rfl (Or.inl rfl)) (fun _ _ _ _ _=>Ye) (fun _ _ _ _ _=>(Zg eH hr (Z0 (pv 0) (Z0 (pv 1) Z8)))) Zx) Z8)) Z8)))))))
   (Z9 (Yc (PW.pt (Th (Zo Xn (pv 10) Yn (Zt _)) (U5 (Zo Xn (pv 11) Yn (Zt _)))))
    (Zd (Zi (Ux (Xs Xn (pv 10) Yn (Zt _)) (Ux (Xs Xn (pv 11) Yn (Zt _)) (Se (Xs Xn (Zg eJ hr (Z0 (pv 2) (Z0 (pv 4) Z8))) Yn (Zt _)))))))
    Zu)
   (Z9 (Xj (Yc (Zo (J8 (K:=K) hU64) (pv 11) (Y9 (Z0 (Zg eH hr (Z0 (Zj Ya (pv 10) Za (fun _ _=>rfl)) (Z0 (pv 9) Z8))) (Z0 (Zg eH hr (Z0 (Zj Ya (pv 10) Za (fun _ _=>rfl)) (Z0 (pv 9) Z8))) Z8))) (Zt _))
    (Zd (Zi Vz))
    Zu))
   (Z9 (Xj (Yc (Zo (J8 (K:=K) hU64) (Rm eO (hr.mono (by decide)) rfl (Z0 (pv 1) (Z0 (pv 3) (Z0 (pv 4) (Z0 (Zg eK hr (Z0 (pv 8) (Z0 (pv 4) Z8))) Z8))))) (pv 10) (Zt _))
    (Zd (Zi Vz))
    Zu))
   (Z9 (Xj (Yc (Zo (J8 (K:=K) hU64) (Rm eO (hr.mono (by decide)) rfl (Z0 (pv 1) (Z0 (pv 3) (Z0 (pv 4) (Z0 (Zg eK hr (Z0 (Yl (N:=["_law_k"]) (k:=1) (fv:=[]) rfl (Yz rfl T.range (Z0 (pv 1) Z8))
   (fun _ _ _ _ _=>Zq (i:=0) nd2 rfl (Or.inl rfl)) (fun _ _ _ _ _=>Ye) (fun _ _ _ _ _=>(Y9 (Z0 Za (Z0 Za Z8)))) Zx) (Z0 (pv 4) Z8))) Z8))))) (Y9 (Z0 (Y9 (Z0 Za (Z0 Za Z8))) (Z0 (Y9 (Z0 Za (Z0 Za Z8))) Z8))) (Zt _))
    (Zd (Zi Vz))
    Zu))
   (Z9 (Yc (Zo (Z5f (K:=K) hU) (Zj Ya (Zg jN hr (Z0 (pv 1) (Z0 (Y0 Yp rfl T.list XV (Z0 (pv 3) Z8)) (Z0 (pv 4) Z8)))) Za (fun _ _=>rfl)) (Y9 (Z0 Za (Z0 Za Z8))) (Zt _))
    (Zd (Zi Vz))
    Zu)
   (Zd (Zi (Xs (Z5g (K:=K) hU64) (pv 10) (Y9 (Z0 (Zj Ya (Zg iA hr (Z0 (pv 1) (Z0 (Y0 Yp rfl T.list XV (Z0 (pv 3) Z8)) (Z0 (pv 8) Z8)))) Za (fun _ _=>rfl)) (Z0 (Zj Ya (Zg fZ hr (Z0 (pv 1) (Z0 (Y0 Yp rfl T.list XV (Z0 (pv 3) Z8)) (Z0 (pv 8) Z8)))) Za (fun _ _=>rfl)) Z8))) (Zt _))))))))))))))))))),?_⟩
  refine⟨sz8,fun l0 hl0=>?_⟩
  have S0:Same H (upd H l0 (.lst [.int 2,.int 3,.int 4,.int 3,.int 2,.int 3,.int 4,.int 5])):=Same.new hl0
  have e0:upd H l0 (.lst [.int 2,.int 3,.int 4,.int 3,.int 2,.int 3,.int 4,.int 5]) l0=some (.lst [.int 2,.int 3,.int 4,.int 3,.int 2,.int 3,.int 4,.int 5]):=Zc
  generalize upd H l0 (.lst [.int 2,.int 3,.int 4,.int 3,.int 2,.int 3,.int 4,.int 5])=H0 at *
  replace hS:=W5 S0 hS
  refine⟨_,rfl,a,_,ns,rfl,hS,by decide,by decide,fun z=>⟨_,_,rfl,rfl,Tn (by decide),?_⟩⟩
  obtain⟨c,ec,c2,c5⟩:=at8b z
  refine⟨l0,_,_,_,rfl,rfl,SqL.of e0,ec,?_⟩
  refine⟨_,rfl,_,rfl,a,c,ns,rfl,hS,by omega,by omega,fun t aw l H1 Ws ws os S1 ht hw wt hO fb=>?_⟩
  refine⟨t,_,rfl,ht,rfl,_,_,rfl,_,_,rfl,rfl,?_⟩
  replace hS:=W5 S1 hS
  obtain⟨vs,hl,hP⟩:=hO
  have few:=fb.few
  have bu:=fb.book
  have ww:=fb.wts wt
  have sd6:(gainsP os os.length).length<=6:=by
   have:=Pa os
   rw[T4]
   omega
  have rows:∀ rs∈gainsP os os.length,RowR c rs:=fun rs hr=>RowR.of (bu.rep rs hr).1 (bu.rep rs hr).2
  refine⟨_,rfl,a,7,ns,rfl,hS,by decide,fun b7 H2 fb2 S2 B2=>?_⟩
  refine⟨_,rfl,b7,c,rfl,B2,by omega,by omega,fun v1 o1 H3 S3 E1=>?_⟩
  have S13:=Same.viaX fb2 S2 S3
  refine⟨_,rfl,a,8,ns,rfl,W5 S13 hS,by decide,fun b8 H4 fb4 S4 B4=>?_⟩
  refine⟨_,rfl,b8,c,rfl,B4,by omega,by omega,fun v2 o2 H5 S5 E2=>?_⟩
  have S35:=Same.viaX fb4 S4 S5
  have S15:=S13.trans S35
  refine⟨_,rfl,a,9,ns,rfl,W5 S15 hS,by decide,fun b9 H6 fb6 S6 B6=>?_⟩
  refine⟨_,rfl,b9,c,_,rfl,B6,by omega,by omega,by omega,fun ad H7 Wd wd B7 S7 Rd wtd=>?_⟩
  have S57:=Same.viaX fb6 S6 S7
  have S17:=S15.trans S57
  replace hS:=W5 S17 hS
  replace hl:=S17 _ _ hl
  replace hP:=Zy hP (Ext.same S17)
  replace hw:=hw.same S17
  replace E1:=E1.same (S35.trans S57)
  replace E2:=E2.same S57
  refine⟨_,rfl,_,rfl,sz2,fun lt hlt=>?_⟩
  have T1:=Same.new (o:=.lst [.ref aw,.ref ad]) hlt
  have f1:upd H7 lt (.lst [.ref aw,.ref ad]) lt=some (.lst [.ref aw,.ref ad]):=Zc
  generalize upd H7 lt (.lst [.ref aw,.ref ad])=H8 at *
  replace hS:=W5 T1 hS
  replace hl:=T1 _ _ hl
  replace hP:=Zy hP (Ext.same T1)
  replace hw:=hw.same T1
  replace E1:=E1.same T1
  replace E2:=E2.same T1
  replace Rd:=Rd.same T1
  refine⟨lt,rfl,⟨_,SqL.of f1⟩,K7 (K:=K) (a:=lt) (xs:=[.ref aw,.ref ad]) (fun _ σ H'=>Same H8 H'/\∃ (x1:Option V),σ=[some (.ref a),some (.int (c:Int)),some (.ref aw),some (.ref l),some v1,some v2,some (.ref ad),x1,none,none,none,none]) ⟨Same.refl _,none,rfl⟩ (fun _ σ H' _ h=>SqL.of (h.1 _ _ f1)) ?_ ?_⟩
  ·rintro n x σ H9 hx ⟨S9,x1,rfl⟩
   have hx':∃ ax Wx wx,x=.ref ax/\RowAt K H8 ax wx/\WtsR c Wx wx:=by
    rcases YS.mp (YL hx) with rfl | hv
    ·exact⟨aw,Ws,ws,rfl,hw,wt⟩
    ·obtain rfl:=JP.mp hv
     exact⟨ad,Wd,wd,rfl,Rd,wtd⟩
   obtain⟨ax,Wx,wx,rfl,Rx,wtx⟩:=hx'
   have wq:=wtx.wts9.toQ (fun _ h=>nomatch h)
   refine⟨_,rfl,_,rfl,_,rfl,_,rfl,_,rfl,_,rfl,ax,v1,c,10,o1,wx,_,_,rfl,Rx.same S9,wq,wtx.rep,E1.same S9,by decide,by omega,fun z H' S'=>?_,fun p t H' S' R' tq rt=>?_⟩
   ·have S8':=S9.trans S'
    exact⟨l,v1,v2,_,c,os,o1,o2,rfl,⟨vs,S8' _ _ hl,Zy hP (Ext.same S8')⟩,bu,sd6,E1.same S8',E2.same S8',.inl rfl,c2,c5,fun H2 S2=>⟨_,rfl,X9 ⟨S8'.trans S2,_,rfl⟩⟩⟩
   ·have S8':=S9.trans S'
    exact⟨l,v1,v2,_,c,os,o1,o2,rfl,⟨vs,S8' _ _ hl,Zy hP (Ext.same S8')⟩,bu,sd6,E1.same S8',E2.same S8',.inr ⟨p,t,rfl,R',tq.on wq,rt⟩,c2,c5,fun H2 S2=>⟨_,rfl,X9 ⟨S8'.trans S2,_,rfl⟩⟩⟩
  rintro σ H9 ⟨S9,x1,rfl⟩
  replace hS:=W5 S9 hS
  replace hl:=S9 _ _ hl
  replace hP:=Zy hP (Ext.same S9)
  replace hw:=hw.same S9
  replace E1:=E1.same S9
  refine⟨fun σ H'=>∃ (ag:Addr) (as:List Rat),σ=[some (.ref a),some (.int (c:Int)),some (.ref aw),some (.ref l),some v1,some v2,some (.ref ad),x1,some (.ref ag),none,none,none]/\Same H9 H'/\RowAt K H' ag as/\as.length=c/\∀ r∈as,Six r,?_,?_⟩
  ·refine⟨_,rfl,a,10,ns,rfl,hS,by decide,fun b H2 fb2 S2 B2=>?_⟩
   exact⟨_,rfl,b,c,_,rfl,B2,by omega,by omega,fun ag H3 as B3 S3 R3 l3 six3=>⟨ag,as,rfl,Same.viaX fb2 S2 S3,R3,l3,six3⟩⟩
  rintro σ H10 ⟨ag,as,rfl,S10,Ra,la,six⟩
  refine⟨_,rfl,a,11,ns,rfl,W5 S10 hS,by decide,fun b H11 fb2 S11 B2=>?_⟩
  refine⟨b,_,rfl,B2,by omega,fun am H12 m B3 S12 em sm=>?_⟩
  have S1012:=Same.viaX fb2 S11 S12
  have S912:=S10.trans S1012
  replace hl:=S912 _ _ hl
  replace hP:=Zy hP (Ext.same S912)
  replace hw:=hw.same S912
  replace E1:=E1.same S912
  replace Ra:=Ra.same S1012
  have smm:SqT K H12 am [.int m.1,.int m.2]:=SqT.of em
  have r6:=RepL.six six
  have lows:Lows as:=fun r hr=>(six r hr).g.low
  refine⟨fun σ H'=>∃ (vf:V),σ=[some (.ref a),some (.int (c:Int)),some (.ref aw),some (.ref l),some v1,some v2,some (.ref ad),x1,some (.ref ag),some (.ref am),some vf,none]/\Same H12 H'/\PriceV K H' c (gainsP os os.length) o1 as vf,?_,?_⟩
  ·exact⟨_,rfl,_,rfl,_,rfl,_,rfl,l,ag,v1,c,os,o1,as,6,_,rfl,⟨vs,hl,hP⟩,bu,sd6,E1,Ra,la,r6.mono (by decide),⟨ws,ww⟩,c2,c5,fun t a b u v H' S' ht ha hb cv cu gu gv=>⟨_,rfl,S',.inr ⟨t,a,b,u,v,rfl,ht,ha,hb,cv,cu,gu,gv⟩⟩,fun no H' S'=>⟨_,rfl,S',.inl ⟨rfl,no⟩⟩⟩
  rintro σ H13 ⟨vf,rfl,S13,pf⟩
  replace hl:=S13 _ _ hl
  replace hP:=Zy hP (Ext.same S13)
  replace hw:=hw.same S13
  replace E1:=E1.same S13
  replace Ra:=Ra.same S13
  replace smm:=Zl S13 smm
  have lb:(as.map fun x=>addR x m).length=c:=by rw[YC];exact la
  obtain⟨Zb,rb⟩:=Z0e six sm
  refine⟨fun σ H'=>∃ (vr:V),σ=[some (.ref a),some (.int (c:Int)),some (.ref aw),some (.ref l),some v1,some v2,some (.ref ad),x1,some (.ref ag),some (.ref am),some vf,some vr]/\Same H13 H'/\PriceV K H' c (gainsP os os.length) o1 (as.map fun x=>addR x m) vr,?_,?_⟩
  ·obtain⟨xa,hxa,has⟩:=id Ra
   have lxa:=has.len
   refine⟨_,rfl,_,rfl,_,rfl,_,rfl,ag,rfl,⟨_,hxa⟩,fun d hd=>?_⟩
   refine⟨c,fun i ys H'=>Same H13 H'/\Rs K H' ((as.map fun x=>addR x m).take i) ys,Zv (by omega),⟨Same.new hd,.nil⟩,?_,?_⟩
   ·rintro j ys H14 hj ⟨S14,R14⟩ hd14
    refine⟨⟨xa,xa[j]'(by omega),Zl S14 hxa,by simp⟩,?_⟩
    rintro x' H3 ⟨rfl,fx⟩
    obtain⟨r,er,b1,rfl,sb⟩:=(has.ext (Ext.same S14)).back (fx _ (Zl S14 hxa))
    refine Yk ?_
    refine⟨_,rfl,_,rfl,b1,am,r,m,21,rfl,sb,Zl S14 smm,(six r (YL er)).g,sm.g,by decide,fun aq H15 f15 S15 e15=>?_⟩
    have hd15:=S15 _ _ hd14
    refine⟨hd15,fun q o' e=>?_,?_⟩
    ·rw[Zf (Ze e hd)]
     exact S15 _ _ (S14 _ _ e)
    ·have ec:(as.map fun x=>addR x m)[j]?=some (addR r m):=by rw[YD,er];rfl
     rw[Y2 ec]
     exact (R14.ext ((Ext.same S15).trans (Ext.upd hd15))).snoc ⟨aq,rfl,(Ext.upd hd15).sq (SqT.of e15)⟩
   rintro ys H14 ⟨S14,R14⟩ hd14
   rw[YN (by omega)] at R14
   refine⟨⟨_,Zl S14 hxa,by omega⟩,d,ys,rfl,.inl ⟨SqL.of hd14,fun l2 hl2=>?_⟩⟩
   have S15:=Same.new (o:=.tup ys) hl2
   have S35:=S14.trans S15
   exact⟨l,l2,v1,c,os,o1,_,6,_,rfl,⟨vs,S35 _ _ hl,Zy hP (Ext.same S35)⟩,bu,sd6,E1.same S35,⟨_,SqT.of Zc,R14.ext (Ext.same S15)⟩,lb,rb,⟨ws,ww⟩,c2,c5,fun t a b u v H' S' ht ha hb cv cu gu gv=>⟨_,rfl,S35.trans S',.inr ⟨t,a,b,u,v,rfl,ht,ha,hb,cv,cu,gu,gv⟩⟩,fun no H' S'=>⟨_,rfl,S35.trans S',.inl ⟨rfl,no⟩⟩⟩
  rintro σ H14 ⟨vr,rfl,S14,pr⟩
  replace hl:=S14 _ _ hl
  replace hP:=Zy hP (Ext.same S14)
  replace hw:=hw.same S14
  replace E1:=E1.same S14
  replace Ra:=Ra.same S14
  replace smm:=Zl S14 smm
  replace pf:=pf.same S14
  have wq:=ww.toQ rows
  rcases pf with ⟨rfl,no⟩ | ⟨t,au,av,u,v,rfl,ht,su,sv,cv,cu,gu,gv⟩
  ·rcases pr with ⟨rfl,no2⟩ | ⟨t,au,av,u,v,rfl,ht,su,sv,cv,cu,gu,gv⟩
   ·refine⟨_,rfl,rfl,_,rfl,Wt (Wt ?_)⟩
    refine⟨_,rfl,rfl,_,rfl,Wt ⟨_,rfl,rfl,_,rfl,Wt ?_⟩⟩
    refine⟨_,rfl,_,rfl,aw,v1,c,10,o1,ws,_,_,rfl,hw,⟨wq.len,wq.low,wq.nn,(fun _ h=>nomatch h),wq.lie⟩,wt.rep,E1,by decide,by omega,fun z H' S'=>⟨rfl,k _⟩,fun p t H' S' R' tq rt=>?_⟩
    have s1:=(U2 (Yo wq.low (Yt (X2 c))).pos).mpr tq.s0
    have s2:0<(shR c o1 ws).1:=s1
    have:=no ws ww
    omega
   ·exact (Mo cv no).elim
  rcases pr with ⟨rfl,no2⟩ | ⟨t',au',av',u',v',rfl,ht',su',sv',cv',cu',gu',gv'⟩
  ·exact (Mo cv no2).elim
  refine⟨_,rfl,rfl,_,rfl,X9 ⟨_,rfl,rfl,_,rfl,X9 ?_⟩⟩
  have lowb:Lows (as.map fun x=>addR x m):=fun r hr=>(rb.good r hr).low
  have qb:∀ k,k<as.length->inE o1 k=true->qr (as.map fun x=>addR x m) k=qr as k+qv m:=fun k hk _=>by
   rw[J3 hk]
   exact Nw (Wb lows k) sm.g.low
  have rowb:RowR c (as.map fun x=>addR x m):=⟨lb,_,_,_,rb⟩
  have rowa:RowR c as:=⟨la,_,_,_,r6⟩
  obtain rfl:=cv'.uniq9 (cv.shift lows lowb sm.g.low (by rw[YC]) qb) rowb
  obtain rfl:u'=addR u m:=by
   have:=congrArg negR (cu'.uniq9 (cu.shiftN gu.low lows lowb sm.g.low (by rw[YC]) qb) (Z1d rowb))
   rw[negR.neg,negR.neg] at this
   exact this
  refine Mc ?_ fun H17 S17=>?_
  ·refine⟨_,rfl,_,rfl,t,_,_,_,rfl,rfl,ht,Zh (j:=0) rfl,_,rfl,au,am,u,m,770,rfl,su,smm,gu,sm.g.mono (by decide),by decide,fun p1 H15 f15 S15 e15=>?_⟩
   refine⟨_,rfl,t,_,_,_,rfl,rfl,Zl S15 ht,Zh (j:=1) rfl,_,rfl,av,am,v,m,770,rfl,Zl S15 sv,Zl S15 smm,gv,sm.g.mono (by decide),by decide,fun p2 H16 f16 S16 e16=>?_⟩
   refine⟨sz2,fun pT hT=>?_⟩
   have T1:=Same.new (o:=.tup [.ref p1,.ref p2]) hT
   have f1:upd H16 pT (.tup [.ref p1,.ref p2]) pT=some (.tup [.ref p1,.ref p2]):=Zc
   generalize upd H16 pT (.tup [.ref p1,.ref p2])=H17 at *
   have S17:=(S15.trans S16).trans T1
   exact⟨1,t',pT,_,_,rfl,rfl,by decide,.inr ⟨Zl S17 ht',SqT.of f1⟩,Vr (Zl S17 su') (SqT.of ((S16.trans T1) _ _ e15)) (Zl S17 sv') (SqT.of (T1 _ _ e16)),_,rfl,X9 ⟨rfl,S17⟩⟩
  replace hl:=S17 _ _ hl
  replace hP:=Zy hP (Ext.same S17)
  replace E1:=E1.same S17
  replace Ra:=Ra.same S17
  replace ht:=Zl S17 ht
  replace su:=Zl S17 su
  replace sv:=Zl S17 sv
  refine Mc ?_ fun H19 S1719=>?_
  ·obtain⟨xa,hxa,has⟩:=id Ra
   refine⟨_,rfl,_,rfl,_,rfl,_,rfl,_,rfl,ag,v1,xa,as,o1,rfl,.inr hxa,has,by rw[la];exact E1,by omega,fun pc H18 S18 R18=>?_⟩
   refine⟨l,pc,v1,c,os,o1,cutR o1 as,6,_,rfl,⟨vs,S18 _ _ hl,Zy hP (Ext.same S18)⟩,bu,sd6,E1.same S18,R18,by rw[Yd];exact la,(r6.cut o1).mono (by decide),⟨ws,ww⟩,c2,c5,fun t2 a2 b2 u2 w2 H19 S19 ht2 sa2 sb2 cv2 cu2 _ _=>?_,fun no=>(Mo cv no).elim⟩
   obtain rfl:=(cv.cut lows).uniq9 cv2 (rowa.cut o1)
   obtain rfl:u=u2:=by
    have:=congrArg negR ((cu.cutN lows).uniq9 cu2 (Z1d (rowa.cut o1)))
    rw[negR.neg,negR.neg] at this
    exact this
   have S1719:=S18.trans S19
   exact⟨_,rfl,1,t2,t,_,_,rfl,rfl,by decide,.inr ⟨ht2,Zl S1719 ht⟩,Vr sa2 (Zl S1719 su) sb2 (Zl S1719 sv),_,rfl,X9 ⟨rfl,S1719⟩⟩
  replace hl:=S1719 _ _ hl
  replace hP:=Zy hP (Ext.same S1719)
  replace E1:=E1.same S1719
  replace Ra:=Ra.same S1719
  replace ht:=Zl S1719 ht
  replace su:=Zl S1719 su
  replace sv:=Zl S1719 sv
  refine Mc ?_ fun H25 S1925=>?_
  ·refine⟨_,rfl,_,rfl,_,rfl,_,rfl,(c:Int),rfl,(by omega),(by omega),fun d hd=>?_⟩
   have et:(c:Int).toNat=c:=by omega
   rw[et]
   refine⟨c,fun j ys H'=>Same H19 H'/\Rs K H' (List.replicate j (1,1)) ys,Zv (by omega),⟨Same.new hd,.nil⟩,?_,?_⟩
   ·rintro j ys H20 hj ⟨S20,R20⟩ hd20
    refine⟨hj,?_⟩
    rintro x H3 ⟨rfl,rfl⟩
    refine Yk ?_
    refine⟨sz2,fun p hp=>?_⟩
    have S21:=Same.new (o:=.tup [.int 1,.int 1]) hp
    have hd21:=S21 _ _ hd20
    refine⟨hd21,fun q o' e=>?_,?_⟩
    ·rw[Zf (Ze e hd)]
     exact S21 _ _ (S20 _ _ e)
    ·rw[jt]
     exact (R20.ext ((Ext.same S21).trans (Ext.upd hd21))).snoc ⟨p,rfl,(Ext.upd hd21).sq (SqT.of Zc)⟩
   rintro ys H20 ⟨S20,R20⟩ hd20
   refine⟨YE _,_,rfl,d,v1,ys,_,o1,rfl,.inl (SqL.of hd20),R20,by rw[XU];exact E1.same S20,by rw[XU];omega,fun pc H21 S21 R21=>?_⟩
   have S1921:=S20.trans S21
   have ro:=(RepL.ones c).cut o1
   have lo:(cutR o1 (List.replicate c (1,1))).length=c:=by rw[Yd,XU]
   refine⟨l,pc,v1,c,os,o1,_,_,_,rfl,⟨vs,S1921 _ _ hl,Zy hP (Ext.same S1921)⟩,bu,sd6,E1.same S1921,R21,lo,ro.mono (by decide),⟨ws,ww⟩,c2,c5,fun t2 a2 b2 u2 w2 H22 S22 ht2 sa2 sb2 cv2 cu2 gu2 _=>?_,fun no=>(Mo cv no).elim⟩
   have lw1:=Yt (o:=o1) (X2 c)
   have q1:∀ k,k<c->inE o1 k=true->qr (cutR o1 (List.replicate c (1,1))) k=qv (1,1):=fun k hk z=>by
    rw[Uv,z,Gx hk,Dp]
    rfl
   obtain rfl:=cv2.ones lw1 lo q1 Ly
   obtain rfl:u2=(1,1):=by
    have:=congrArg negR (cu2.ones (u:=negR (1,1)) (U9 lw1) (by rw[Vt];exact lo) (fun k hk z=>by rw[N3 lw1 (by omega),q1 k hk z,Sa]) (negR.low Ly))
    rw[negR.neg] at this
    exact this
   have S1922:=S1921.trans S22
   refine⟨sz2,fun z1 hz1=>?_⟩
   have T1:=Same.new (o:=.tup [.int 1,.int 1]) hz1
   have g1:upd H22 z1 (.tup [.int 1,.int 1]) z1=some (.tup [.int 1,.int 1]):=Zc
   generalize upd H22 z1 (.tup [.int 1,.int 1])=H23 at *
   refine⟨sz2,fun z2 hz2=>?_⟩
   have T2:=Same.new (o:=.tup [.int 1,.int 1]) hz2
   have g2:upd H23 z2 (.tup [.int 1,.int 1]) z2=some (.tup [.int 1,.int 1]):=Zc
   generalize upd H23 z2 (.tup [.int 1,.int 1])=H24 at *
   refine⟨sz2,fun z3 hz3=>?_⟩
   have T3:=Same.new (o:=.tup [.ref z1,.ref z2]) hz3
   have g3:upd H24 z3 (.tup [.ref z1,.ref z2]) z3=some (.tup [.ref z1,.ref z2]):=Zc
   generalize upd H24 z3 (.tup [.ref z1,.ref z2])=H25 at *
   have T23:=T2.trans T3
   have T13:=T1.trans T23
   exact⟨1,t2,z3,_,_,rfl,rfl,by decide,.inr ⟨Zl T13 ht2,SqT.of g3⟩,Vr (r:=(1,1)) (s:=(1,1)) (Zl T13 sa2) (SqT.of (T23 _ _ g1)) (Zl T13 sb2) (SqT.of (T3 _ _ g2)),_,rfl,X9 ⟨rfl,S1922.trans T13⟩⟩
  replace hl:=S1925 _ _ hl
  replace hP:=Zy hP (Ext.same S1925)
  replace E1:=E1.same S1925
  replace Ra:=Ra.same S1925
  replace ht:=Zl S1925 ht
  replace su:=Zl S1925 su
  replace sv:=Zl S1925 sv
  have bm:BookM c 91 679 91 os:=bu.toM sd6 (by decide) (by decide)
  refine⟨_,rfl,_,rfl,l,vs,rfl,.inl (SqL.of hl),fun lc hlc=>?_⟩
  have T1:=Same.new (o:=.lst vs) hlc
  have f1:upd H25 lc (.lst vs) lc=some (.lst vs):=Zc
  generalize upd H25 lc (.lst vs)=H26 at *
  refine⟨_,rfl,lc,v1,c,91,679,91,os,o1,rfl,⟨vs,f1,Zy hP (Ext.same T1)⟩,bm,E1.same T1,⟨ws,ww⟩,c2,by omega,fun t2 al ah u2 H27 S27 ht2 sal lu=>?_⟩
  refine⟨t2,_,_,_,rfl,rfl,ht2,Zh (j:=0) rfl,sz2,fun pz hpz=>?_⟩
  have T2:=Same.new (o:=.tup [.int 1,.int 1]) hpz
  refine⟨al,pz,[u2.1,u2.2],[1,1],rfl,rfl,Zl T2 sal,SqT.of Zc,_,rfl,Xe (fun _=>k _) fun h=>?_⟩
  have e1:u2=(1,1):=by
   have:[u2.1,u2.2]=[1,1]:=by simpa using h
   simp at this
   exact Prod.ext this.1 this.2
  subst e1
  have one:=Z5j lu rows
  have S2528:=(T1.trans S27).trans T2
  generalize upd H27 pz (.tup [.int 1,.int 1])=H28 at *
  replace hl:=S2528 _ _ hl
  replace hP:=Zy hP (Ext.same S2528)
  replace Ra:=Ra.same S2528
  replace ht:=Zl S2528 ht
  replace su:=Zl S2528 su
  replace sv:=Zl S2528 sv
  have mv:=cv.most rows one lows la
  have lv:LeastV c (gainsP os os.length) as u:=by
   have:=(cu.most rows one (U9 lows) (by rw[Vt];exact la)).leastq rows lows la
   rw[negR.neg] at this
   exact this
  refine⟨_,rfl,_,rfl,_,rfl,l,vs,rfl,.inl (SqL.of hl),fun lc2 hlc2=>?_⟩
  have T1:=Same.new (o:=.lst vs) hlc2
  have f1:upd H28 lc2 (.lst vs) lc2=some (.lst vs):=Zc
  generalize upd H28 lc2 (.lst vs)=H29 at *
  refine⟨_,rfl,lc2,ag,c,91,679,91,os,as,6,_,rfl,⟨vs,f1,Zy hP (Ext.same T1)⟩,bm,Ra.same T1,la,r6.mono (by decide),⟨ws,ww⟩,c2,by omega,fun t3 q3 va3 lo3 u3 H30 S30 lv3 sva3 ht3=>?_⟩
  obtain rfl:=lv3.unique lv
  refine⟨t3,_,_,_,rfl,rfl,ht3,Zh (j:=0) rfl,?_⟩
  have S2830:=T1.trans S30
  refine⟨_,rfl,_,rfl,l,vs,rfl,.inl (SqL.of (S2830 _ _ hl)),fun lc3 hlc3=>?_⟩
  have T2:=Same.new (o:=.lst vs) hlc3
  have f2:upd H30 lc3 (.lst vs) lc3=some (.lst vs):=Zc
  generalize upd H30 lc3 (.lst vs)=H31 at *
  have S2831:=S2830.trans T2
  refine⟨_,rfl,lc3,ag,c,91,679,91,os,as,6,_,rfl,⟨vs,f2,Zy hP (Ext.same S2831)⟩,bm,Ra.same S2831,la,r6.mono (by decide),⟨ws,ww⟩,c2,by omega,fun t4 q4 va4 lo4 w4 H32 S32 mv4 gv4 sva4 ht4=>?_⟩
  obtain rfl:=mv4.unique mv
  refine⟨t4,_,_,_,rfl,rfl,ht4,Zh (j:=0) rfl,sz2,fun pe hpe=>?_⟩
  have T3:=Same.new (o:=.tup [.ref va3,.ref va4]) hpe
  have S2833:=(S2831.trans S32).trans T3
  exact⟨1,t,pe,_,_,rfl,rfl,by decide,.inr ⟨Zl S2833 ht,SqT.of Zc⟩,Vr (Zl S2833 su) (Zl ((T2.trans S32).trans T3) sva3) (Zl S2833 sv) (Zl T3 sva4),k _⟩
end
end Sb
theorem Sb.len1 {us:List PySem.Value}(h:us.length=1):∃ a0,us=[a0]:=by
 match us,h with
 | [a0],_=>exact⟨a0,rfl⟩
theorem Sb.len2 {us:List PySem.Value}(h:us.length=2):∃ a0 a1,us=[a0,a1]:=by
 match us,h with
 | [a0,a1],_=>exact⟨a0,a1,rfl⟩
theorem Sb.len3 {us:List PySem.Value}(h:us.length=3):∃ a0 a1 a2,us=[a0,a1,a2]:=by
 match us,h with
 | [a0,a1,a2],_=>exact⟨a0,a1,a2,rfl⟩
theorem Sb.len4 {us:List PySem.Value}(h:us.length=4):∃ a0 a1 a2 a3,us=[a0,a1,a2,a3]:=by
 match us,h with
 | [a0,a1,a2,a3],_=>exact⟨a0,a1,a2,a3,rfl⟩
theorem Sb.len5 {us:List PySem.Value}(h:us.length=5):∃ a0 a1 a2 a3 a4,us=[a0,a1,a2,a3,a4]:=by
 match us,h with
 | [a0,a1,a2,a3,a4],_=>exact⟨a0,a1,a2,a3,a4,rfl⟩
namespace PySem.W.Fast
theorem tw3202304072821543726:True:=⟨⟩
theorem te4613020240504357798:True:=⟨⟩
theorem tw4613020240504357798:True:=⟨⟩
theorem tw2035666659519433429:True:=⟨⟩
theorem tw3819123973138188917:True:=⟨⟩
theorem tw2304354002805622315:True:=⟨⟩
theorem tw12433451468561811032:True:=⟨⟩
theorem tw14766542809298327643:True:=⟨⟩
theorem tw16190855693681203595:True:=⟨⟩
theorem tw16948282744062934991:True:=⟨⟩
theorem tw8753995403464668222:True:=⟨⟩
theorem tw15196134008486733517:True:=⟨⟩
theorem tw9934074560065541033:True:=⟨⟩
theorem tw8813123431137792007:True:=⟨⟩
theorem tw8277228983459827609:True:=⟨⟩
theorem tw9203685352173377566:True:=⟨⟩
theorem tw12780723377044613865:True:=⟨⟩
theorem tw13151366798057803043:True:=⟨⟩
theorem tw6209275746451748483:True:=⟨⟩
theorem tw17004132772334409242:True:=⟨⟩
theorem tw795186219229711670:True:=⟨⟩
theorem tw688982788730846693:True:=⟨⟩
theorem tw4758480511787047117:True:=⟨⟩
theorem tw8204640780423561395:True:=⟨⟩
theorem tw4077473116503773502:True:=⟨⟩
theorem tw10512506668361582201:True:=⟨⟩
theorem tw9666963444698099291:True:=⟨⟩
theorem tw9133804520909907643:True:=⟨⟩
theorem tw9272403103317708588:True:=⟨⟩
theorem tw15468491213524085614:True:=⟨⟩
theorem tw13728503093342970577:True:=⟨⟩
theorem tw5690596645179083651:True:=⟨⟩
theorem tw18445725105898624288:True:=⟨⟩
theorem tw8741695782186246227:True:=⟨⟩
theorem tw879052079054219735:True:=⟨⟩
theorem tw7348957407935735931:True:=⟨⟩
theorem tw10096147495788984091:True:=⟨⟩
theorem tw11741857113347407269:True:=⟨⟩
theorem tw3394008160256807180:True:=⟨⟩
theorem tw6827674520993330082:True:=⟨⟩
theorem tw16324985866757592999:True:=⟨⟩
theorem tw3588062782657250027:True:=⟨⟩
theorem tw6328718810060904125:True:=⟨⟩
theorem tw3241977236898041202:True:=⟨⟩
theorem tw18123710074468852970:True:=⟨⟩
theorem tw12436420910217254121:True:=⟨⟩
theorem tw9465598255718571743:True:=⟨⟩
theorem tw14956110924288406844:True:=⟨⟩
theorem tw9194311111439678986:True:=⟨⟩
theorem tw10386749322517249401:True:=⟨⟩
theorem tw10328146262142342035:True:=⟨⟩
theorem tw5921553359675582871:True:=⟨⟩
theorem tw1837506558397218640:True:=⟨⟩
theorem tw13323241896627800783:True:=⟨⟩
theorem tw11622781432957865291:True:=⟨⟩
theorem tw4439266013724537500:True:=⟨⟩
theorem tw779409489017140166:True:=⟨⟩
theorem tw5316966919253145826:True:=⟨⟩
theorem tw1851994672072790865:True:=⟨⟩
theorem tw2862121653833427420:True:=⟨⟩
theorem tw6830383113301633220:True:=⟨⟩
theorem tw9278757949325904064:True:=⟨⟩
theorem tw10278585806407463338:True:=⟨⟩
theorem tw4266692325391930405:True:=⟨⟩
theorem tw12644059573766136186:True:=⟨⟩
theorem tw4715225591549093906:True:=⟨⟩
theorem tw6262998335889831820:True:=⟨⟩
theorem tw5208264249892970420:True:=⟨⟩
theorem tw2982042673391735270:True:=⟨⟩
theorem tw6506978941982623216:True:=⟨⟩
theorem tw7086884004330598840:True:=⟨⟩
theorem tw17117748063942432646:True:=⟨⟩
theorem tw15361655700370752621:True:=⟨⟩
theorem tw10692845467024760086:True:=⟨⟩
theorem tw1402114613219514463:True:=⟨⟩
theorem tw5800107250823493427:True:=⟨⟩
theorem tw15247567041175505097:True:=⟨⟩
theorem tw11166012601484781693:True:=⟨⟩
theorem tw14561512453583639326:True:=⟨⟩
theorem tw12628421895782391302:True:=⟨⟩
theorem tw14566131253949845914:True:=⟨⟩
theorem tw6190655195907553868:True:=⟨⟩
theorem tw13717661717878081533:True:=⟨⟩
theorem tw5047600439676448670:True:=⟨⟩
theorem tw9609293983655957241:True:=⟨⟩
theorem tw18132179473951689767:True:=⟨⟩
theorem tw9486998572068950899:True:=⟨⟩
theorem tw640520430619514616:True:=⟨⟩
theorem tw15260852431621058747:True:=⟨⟩
theorem tw6159161968619788302:True:=⟨⟩
theorem tw16293480694098012710:True:=⟨⟩
theorem tw5397281153122449081:True:=⟨⟩
theorem tw14966962549450009667:True:=⟨⟩
theorem tw671100848258028614:True:=⟨⟩
theorem tw10809464680593483636:True:=⟨⟩
theorem tw2523740086186534439:True:=⟨⟩
theorem tw11524381116197646391:True:=⟨⟩
theorem tw2172693881491222712:True:=⟨⟩
theorem tw9666209482266560916:True:=⟨⟩
theorem tw10129329513426442326:True:=⟨⟩
theorem tw16720781266069840631:True:=⟨⟩
theorem tw4168692202873427758:True:=⟨⟩
theorem tw18236630485071211051:True:=⟨⟩
theorem tw13208284382915903297:True:=⟨⟩
theorem tw3551223686022687172:True:=⟨⟩
theorem tw4619944397150709823:True:=⟨⟩
theorem tw4630102996024959564:True:=⟨⟩
theorem tw16283622693321766150:True:=⟨⟩
theorem tw5008099148610003878:True:=⟨⟩
theorem tw9362284239356016411:True:=⟨⟩
theorem tw13423722392581981064:True:=⟨⟩
theorem tw13884706969913480222:True:=⟨⟩
theorem tw10164569826226358091:True:=⟨⟩
theorem tw16392488212933457434:True:=⟨⟩
theorem tw14471394404763512909:True:=⟨⟩
theorem tw3605181521287195090:True:=⟨⟩
theorem tw13477298373201408912:True:=⟨⟩
theorem tw212723887385845083:True:=⟨⟩
theorem tw11265341666120538381:True:=⟨⟩
theorem tw4622877896057759094:True:=⟨⟩
theorem tw15211931512291361758:True:=⟨⟩
theorem tw7543601635711229470:True:=⟨⟩
theorem tw3151452010585433737:True:=⟨⟩
theorem tw977482884217053681:True:=⟨⟩
theorem tw16179109766990542989:True:=⟨⟩
theorem tw876927081738772336:True:=⟨⟩
theorem tw14728063043182709453:True:=⟨⟩
theorem tw339838358028193111:True:=⟨⟩
theorem tw10783973457071481956:True:=⟨⟩
theorem tw5902783297058041363:True:=⟨⟩
theorem tw6978168103209565671:True:=⟨⟩
theorem tw6417838379388034528:True:=⟨⟩
theorem tw7400879620193501947:True:=⟨⟩
theorem tw7723954803932440364:True:=⟨⟩
theorem tw6719031476021196852:True:=⟨⟩
theorem tw6508503771505829342:True:=⟨⟩
theorem tw3045819278107123918:True:=⟨⟩
theorem tw1517370258880516898:True:=⟨⟩
theorem tw7189349839836945677:True:=⟨⟩
theorem tw17290876544318644301:True:=⟨⟩
theorem tw3245818093046243606:True:=⟨⟩
theorem tw10090193706410614598:True:=⟨⟩
theorem tw2274597199740503172:True:=⟨⟩
theorem tw2872964473958506461:True:=⟨⟩
theorem tw13795508720784131376:True:=⟨⟩
theorem tw1813878289801872056:True:=⟨⟩
theorem tw17808169745271378198:True:=⟨⟩
theorem tw16782588372769482142:True:=⟨⟩
theorem tw1128533326667775247:True:=⟨⟩
theorem tw5702571531953825033:True:=⟨⟩
theorem tw1864916833276196256:True:=⟨⟩
theorem tw11118173815927280085:True:=⟨⟩
theorem tw18321668893383481059:True:=⟨⟩
theorem tw2904850874112867908:True:=⟨⟩
theorem tw8809950716256507791:True:=⟨⟩
theorem tw12675254226362239594:True:=⟨⟩
theorem tw11346101512013967308:True:=⟨⟩
theorem tw14868047510205870898:True:=⟨⟩
theorem tw5779828612487847526:True:=⟨⟩
theorem tw1569255640254909708:True:=⟨⟩
theorem tw7702789262707515112:True:=⟨⟩
theorem tw3995213151797730951:True:=⟨⟩
theorem tw16885948297790163137:True:=⟨⟩
theorem tw5069849398141713993:True:=⟨⟩
theorem tw4791883181481817915:True:=⟨⟩
theorem tw7911616825437508903:True:=⟨⟩
theorem tw17341075078509007415:True:=⟨⟩
theorem tw16062017754649125741:True:=⟨⟩
theorem tw547753303633452578:True:=⟨⟩
theorem tw12096442462463652422:True:=⟨⟩
theorem tw8681748872134704667:True:=⟨⟩
theorem tw494997649500913863:True:=⟨⟩
theorem tw2970611489904540432:True:=⟨⟩
theorem tw8722497544146793527:True:=⟨⟩
theorem tw9776240382454115307:True:=⟨⟩
theorem tw3951094063516268099:True:=⟨⟩
theorem tw3278549129118254991:True:=⟨⟩
theorem tw17475963336996556518:True:=⟨⟩
theorem tw6184225121502322387:True:=⟨⟩
theorem tw13142492191472121041:True:=⟨⟩
theorem tw1051107633792463007:True:=⟨⟩
theorem tw18057288905273518671:True:=⟨⟩
theorem tw11242461670548680402:True:=⟨⟩
theorem tw8198242476580003048:True:=⟨⟩
theorem tw1268163075021420485:True:=⟨⟩
theorem tw17088134373572854908:True:=⟨⟩
theorem tw11161093227122791525:True:=⟨⟩
theorem tw5551574797777625537:True:=⟨⟩
theorem tw9778847424926831948:True:=⟨⟩
theorem tw3312060535899679900:True:=⟨⟩
theorem tw4030579535924611446:True:=⟨⟩
theorem tw1357285511484015806:True:=⟨⟩
theorem tw8761122739467484401:True:=⟨⟩
theorem tw2267132187287120942:True:=⟨⟩
theorem tw17633080996428719424:True:=⟨⟩
theorem tw17897162879498195775:True:=⟨⟩
theorem tw5550262134009704531:True:=⟨⟩
theorem tw6964144666578130898:True:=⟨⟩
theorem tw6787444536890617862:True:=⟨⟩
theorem tw16664067051307790899:True:=⟨⟩
theorem tw10282323876177765667:True:=⟨⟩
theorem tw16251612409204179728:True:=⟨⟩
theorem tw2992833326789019660:True:=⟨⟩
theorem tw1677622053265801208:True:=⟨⟩
theorem tw4207185754078197184:True:=⟨⟩
theorem tw16155260123964496205:True:=⟨⟩
theorem tw3210697011727083109:True:=⟨⟩
theorem tw11790858555706260428:True:=⟨⟩
theorem tw13793424390060107113:True:=⟨⟩
theorem tw5469528979705640810:True:=⟨⟩
theorem tw13067791373817117135:True:=⟨⟩
theorem tw12731963902898951819:True:=⟨⟩
theorem tw114345514649648439:True:=⟨⟩
theorem tw5932507241466851890:True:=⟨⟩
theorem tw10164649082170852861:True:=⟨⟩
theorem tw11211951790999489261:True:=⟨⟩
theorem tw9881988099538057290:True:=⟨⟩
theorem tw16124980538409055394:True:=⟨⟩
theorem tw15090231182648800808:True:=⟨⟩
theorem tw18153013190309997958:True:=⟨⟩
theorem tw12322221551902165402:True:=⟨⟩
theorem tw6177035505934745752:True:=⟨⟩
theorem tw6617796070485502233:True:=⟨⟩
theorem tw4527932572431992295:True:=⟨⟩
theorem tw2849429885148042515:True:=⟨⟩
theorem tw5782873990403594578:True:=⟨⟩
theorem tw1604603714614472479:True:=⟨⟩
theorem tw17821919707026574595:True:=⟨⟩
theorem tw533029921680200387:True:=⟨⟩
theorem tw16468297333319563286:True:=⟨⟩
theorem tw6370383832197255462:True:=⟨⟩
theorem tw2638375577448901807:True:=⟨⟩
theorem tw13758673322920260456:True:=⟨⟩
theorem tw3577213741499563711:True:=⟨⟩
theorem tw16077821251259508696:True:=⟨⟩
theorem tw16633610360893690437:True:=⟨⟩
theorem tw507127095866921840:True:=⟨⟩
theorem tw12170958085617811759:True:=⟨⟩
theorem tw16427961578250465389:True:=⟨⟩
theorem tw15416847748614392440:True:=⟨⟩
theorem tw4230593777469526358:True:=⟨⟩
theorem tw7676502589965221849:True:=⟨⟩
theorem tw9075633504297861634:True:=⟨⟩
theorem tw12294419843695242700:True:=⟨⟩
theorem tw1007711241492462704:True:=⟨⟩
theorem tw12020274197445322815:True:=⟨⟩
theorem tw6317115510323678538:True:=⟨⟩
theorem tw1654845110932789021:True:=⟨⟩
theorem tw9065630009288262352:True:=⟨⟩
theorem tw12634494915149769269:True:=⟨⟩
theorem tw4303027820668694171:True:=⟨⟩
theorem tw17859019488444095461:True:=⟨⟩
theorem tw14120943181150005288:True:=⟨⟩
theorem tw6977044487047467213:True:=⟨⟩
theorem tw14724671001867282078:True:=⟨⟩
theorem tw12206104359198732642:True:=⟨⟩
theorem tw4262216706970517027:True:=⟨⟩
theorem tw8731980759488978421:True:=⟨⟩
theorem tw4427245941995823117:True:=⟨⟩
theorem tw7903554035844651579:True:=⟨⟩
theorem tw16417642299112856738:True:=⟨⟩
theorem tw6615568271740571114:True:=⟨⟩
theorem tw8898551002443598472:True:=⟨⟩
theorem tw12400528749763370649:True:=⟨⟩
theorem tw17171696199383750896:True:=⟨⟩
theorem tw12009260888457922234:True:=⟨⟩
theorem tw16768485218928217794:True:=⟨⟩
theorem tw4429141642222332409:True:=⟨⟩
theorem tw4400404390584622008:True:=⟨⟩
theorem tw15661285574750683723:True:=⟨⟩
theorem tw5266894723035783979:True:=⟨⟩
theorem tw4096220033178417102:True:=⟨⟩
theorem tw14187060062491558040:True:=⟨⟩
theorem tw4388657729869135624:True:=⟨⟩
theorem tw12618684757166832327:True:=⟨⟩
theorem tw3189298294443889112:True:=⟨⟩
theorem tw5629019910899747993:True:=⟨⟩
theorem tw11877669547707657813:True:=⟨⟩
theorem tw9766321962828924352:True:=⟨⟩
theorem tw4813702984896010679:True:=⟨⟩
theorem tw13972208277927409842:True:=⟨⟩
theorem tw11228866805189160763:True:=⟨⟩
theorem tw696534279560153549:True:=⟨⟩
theorem tw57119215192000593:True:=⟨⟩
theorem tw9299840305453371561:True:=⟨⟩
theorem tw3732736733648555297:True:=⟨⟩
theorem tw3752980591745276260:True:=⟨⟩
theorem tw13323561202863799939:True:=⟨⟩
theorem tw7840207447687047723:True:=⟨⟩
theorem tw2838869623295471636:True:=⟨⟩
theorem tw2438163457488929893:True:=⟨⟩
theorem tw1295306715186531669:True:=⟨⟩
theorem tw17874011358213431856:True:=⟨⟩
theorem tw17614413880862207071:True:=⟨⟩
theorem tw5766332988900547855:True:=⟨⟩
theorem tw13143061247331829803:True:=⟨⟩
theorem tw13421832913115406874:True:=⟨⟩
theorem tw7777109678172025290:True:=⟨⟩
theorem tw17641449561140516835:True:=⟨⟩
theorem tw11832626840269837787:True:=⟨⟩
theorem tw2561439427780620574:True:=⟨⟩
theorem tw8685010908500513748:True:=⟨⟩
theorem tw2052963337059673895:True:=⟨⟩
theorem tw1932801212616865128:True:=⟨⟩
theorem tw11268118539303842745:True:=⟨⟩
theorem tw1106156547087751356:True:=⟨⟩
theorem tw4744739720348313263:True:=⟨⟩
theorem tw6254372734519250649:True:=⟨⟩
theorem tw2125836523240841945:True:=⟨⟩
theorem tw8086363819980674325:True:=⟨⟩
theorem tw7680305981230066997:True:=⟨⟩
theorem tw5996225373273968105:True:=⟨⟩
theorem tw10276733032201526864:True:=⟨⟩
theorem tw13704233564989786120:True:=⟨⟩
theorem tw7609511674203679491:True:=⟨⟩
theorem tw10374808774710217929:True:=⟨⟩
theorem tw5855416271124810806:True:=⟨⟩
theorem tw2770057230961106550:True:=⟨⟩
theorem tw1815687401073908086:True:=⟨⟩
theorem tw6246130564130820315:True:=⟨⟩
theorem tw17150953971424054851:True:=⟨⟩
theorem tw3645001230119511525:True:=⟨⟩
theorem tw2202294830551863600:True:=⟨⟩
theorem tw14725591391507288690:True:=⟨⟩
theorem tw14626147609525687297:True:=⟨⟩
theorem tw10383980042673312962:True:=⟨⟩
theorem tw3640282866723331417:True:=⟨⟩
theorem tw9820061738968100961:True:=⟨⟩
theorem tw14746419040139104802:True:=⟨⟩
theorem tw14523572085256419994:True:=⟨⟩
theorem tw5816983880206700819:True:=⟨⟩
theorem tw6400545573708341134:True:=⟨⟩
theorem tw14717763959731049167:True:=⟨⟩
theorem tw15453040388048521558:True:=⟨⟩
theorem tw8440930692287365717:True:=⟨⟩
theorem tw347475562563219100:True:=⟨⟩
theorem tw6989050700784199298:True:=⟨⟩
theorem tw14033497743106707687:True:=⟨⟩
theorem tw12481715187854416554:True:=⟨⟩
theorem tw1392854586077587818:True:=⟨⟩
theorem tw5944419200025331538:True:=⟨⟩
theorem tw674595409523275214:True:=⟨⟩
theorem tw6827678583919419116:True:=⟨⟩
theorem tw10035479603857200101:True:=⟨⟩
theorem tw11460631961804781223:True:=⟨⟩
theorem tw7705151001952535172:True:=⟨⟩
theorem tw13237163335115829019:True:=⟨⟩
theorem tw1789797701768332646:True:=⟨⟩
theorem tw15536156768046128417:True:=⟨⟩
theorem tw9476834368159485091:True:=⟨⟩
theorem tw14253098152514921339:True:=⟨⟩
theorem tw6722945197804649492:True:=⟨⟩
theorem tw3365046580939942970:True:=⟨⟩
theorem tw11184839392786488639:True:=⟨⟩
theorem tw10675681172910699141:True:=⟨⟩
theorem tw14575153451099823871:True:=⟨⟩
theorem tw1363817906936593725:True:=⟨⟩
theorem tw3189063819294810106:True:=⟨⟩
theorem tw14060162156940637978:True:=⟨⟩
theorem tw14066166180985871366:True:=⟨⟩
theorem tw9929654057840020902:True:=⟨⟩
theorem tw6295424555734472115:True:=⟨⟩
theorem tw9828393364593777116:True:=⟨⟩
end PySem.W.Fast
abbrev Sb.pk:PySem.Program:=PySem.Challenge.rw_surebook_k32_learned_twice.prog
theorem Sb.bn1 {C:List PySem.Value->Prop}{us:List PySem.Value}(h:us.length=1)(k:∀ a0,C [a0]):C us:=by
 obtain⟨a0,rfl⟩:=Sb.len1 h
 exact k _
theorem Sb.bn2 {C:List PySem.Value->Prop}{us:List PySem.Value}(h:us.length=2)(k:∀ a0 a1,C [a0,a1]):C us:=by
 obtain⟨a0,a1,rfl⟩:=Sb.len2 h
 exact k _ _
theorem Sb.bn3 {C:List PySem.Value->Prop}{us:List PySem.Value}(h:us.length=3)(k:∀ a0 a1 a2,C [a0,a1,a2]):C us:=by
 obtain⟨a0,a1,a2,rfl⟩:=Sb.len3 h
 exact k _ _ _
theorem Sb.bn4 {C:List PySem.Value->Prop}{us:List PySem.Value}(h:us.length=4)(k:∀ a0 a1 a2 a3,C [a0,a1,a2,a3]):C us:=by
 obtain⟨a0,a1,a2,a3,rfl⟩:=Sb.len4 h
 exact k _ _ _ _
theorem Sb.bn5 {C:List PySem.Value->Prop}{us:List PySem.Value}(h:us.length=5)(k:∀ a0 a1 a2 a3 a4,C [a0,a1,a2,a3,a4]):C us:=by
 obtain⟨a0,a1,a2,a3,a4,rfl⟩:=Sb.len5 h
 exact k _ _ _ _ _
open PySem PySem.W PyProof.Rows
set_option maxRecDepth 100000 in
set_option maxHeartbeats 0 in
theorem PySem.Challenge.cw_surebook_k32_learned_twice_holds : PySem.Challenge.rw_surebook_k32_learned_twice.Holds := by
 w_on; o_law; k_head; (case hw=>w_witness2)
 k_fill
 refine L2.Bc (l:=PySem.Challenge.rw_surebook_k32_learned_twice) (n:=63) (k:=11) (x:="_law_script") (CX:=L2.CX0) (sp:=Sb.spLaw) (sr:=true) rfl (by decide) rfl ⟨fun _=>rfl,by decide,by decide⟩ (fun w h Y=>PySem.W.kIn_of Y) ?F (fun K H a ns hl hO hS=>⟨a,ns,rfl,hS,fun _=>rfl⟩) (fun _ _ _ _ z=>z)
 case F =>
  intro w mg fa h KX G hmg
  have n_len:mg "len"=none:=by
   refine' JC KX G ?z
   (case z=>k_is)
  have n_abs:mg "abs"=none:=by
   refine' JC KX G ?z
   (case z=>k_is)
  have n_isinstance:mg "isinstance"=none:=by
   refine' JC KX G ?z
   (case z=>k_is)
  have n_int:mg "int"=none:=by
   refine' JC KX G ?z
   (case z=>k_is)
  have n_bool:mg "bool"=none:=by
   refine' JC KX G ?z
   (case z=>k_is)
  have n_tuple:mg "tuple"=none:=by
   refine' JC KX G ?z
   (case z=>k_is)
  have n_range:mg "range"=none:=by
   refine' JC KX G ?z
   (case z=>k_is)
  have n_zip:mg "zip"=none:=by
   refine' JC KX G ?z
   (case z=>k_is)
  have n_enumerate:mg "enumerate"=none:=by
   refine' JC KX G ?z
   (case z=>k_is)
  have n_any:mg "any"=none:=by
   refine' JC KX G ?z
   (case z=>k_is)
  have n_sum:mg "sum"=none:=by
   refine' JC KX G ?z
   (case z=>k_is)
  have n_list:mg "list"=none:=by
   refine' JC KX G ?z
   (case z=>k_is)
  have n_min:mg "min"=none:=by
   refine' JC KX G ?z
   (case z=>k_is)
  have T:Sb.Blt mg:=⟨n_len,n_abs,n_isinstance,n_int,n_bool,n_tuple,n_range,n_zip,n_enumerate,n_any,n_sum,n_list,n_min⟩
  have nR:Sb.Def (L2.KOf KX) mg "is_whole" Sb.kO ["value"]:=by
   dsimp only [L2.KOf]
   refine' Sb.Zm KX G ?a ?l ?c ?k (fun _ _ _ _ _ _ _ h=>by obtain⟨a0,rfl⟩:=Sb.len1 h;rfl)
   case a|l|c|k=>k_is
  have nE:Sb.Def (L2.KOf KX) mg "common_divisor" Sb.kF ["one","other"]:=by
   dsimp only [L2.KOf]
   refine' Sb.Zm KX G ?a ?l ?c ?k (fun _ _ _ _ _ _ _ h=>by obtain⟨a0,a1,rfl⟩:=Sb.len2 h;rfl)
   case a|l|c|k=>k_is
  have pX:Sb.Def (L2.KOf KX) mg "lowest" Sb.lP ["top","bottom"]:=by
   dsimp only [L2.KOf]
   refine' Sb.Zm KX G ?a ?l ?c ?k (fun _ _ _ _ _ _ _ h=>by obtain⟨a0,a1,rfl⟩:=Sb.len2 h;rfl)
   case a|l|c|k=>k_is
  have qU:Sb.Def (L2.KOf KX) mg "ratio" Sb.lM ["top","bottom"]:=by
   dsimp only [L2.KOf]
   refine' Sb.Zm KX G ?a ?l ?c ?k (fun _ _ _ _ _ _ _ h=>by obtain⟨a0,a1,rfl⟩:=Sb.len2 h;rfl)
   case a|l|c|k=>k_is
  have sE:Sb.Def (L2.KOf KX) mg "plus" Sb.mQ ["one","other"]:=by
   dsimp only [L2.KOf]
   refine' Sb.Zm KX G ?a ?l ?c ?k (fun _ _ _ _ _ _ _ h=>by obtain⟨a0,a1,rfl⟩:=Sb.len2 h;rfl)
   case a|l|c|k=>k_is
  have qV:Sb.Def (L2.KOf KX) mg "minus" Sb.mF ["one","other"]:=by
   dsimp only [L2.KOf]
   refine' Sb.Zm KX G ?a ?l ?c ?k (fun _ _ _ _ _ _ _ h=>by obtain⟨a0,a1,rfl⟩:=Sb.len2 h;rfl)
   case a|l|c|k=>k_is
  have qQ:Sb.Def (L2.KOf KX) mg "times" Sb.l8 ["one","other"]:=by
   dsimp only [L2.KOf]
   refine' Sb.Zm KX G ?a ?l ?c ?k (fun _ _ _ _ _ _ _ h=>by obtain⟨a0,a1,rfl⟩:=Sb.len2 h;rfl)
   case a|l|c|k=>k_is
  have pW:Sb.Def (L2.KOf KX) mg "parted" Sb.lC ["one","other"]:=by
   dsimp only [L2.KOf]
   refine' Sb.Zm KX G ?a ?l ?c ?k (fun _ _ _ _ _ _ _ h=>by obtain⟨a0,a1,rfl⟩:=Sb.len2 h;rfl)
   case a|l|c|k=>k_is
  have nM:Sb.Def (L2.KOf KX) mg "common_bottom" Sb.kJ ["several"]:=by
   dsimp only [L2.KOf]
   refine' Sb.Zm KX G ?a ?l ?c ?k (fun _ _ _ _ _ _ _ h=>by obtain⟨a0,rfl⟩:=Sb.len1 h;rfl)
   case a|l|c|k=>k_is
  have o5:Sb.Def (L2.KOf KX) mg "whole_by" Sb.lA ["several","bottom"]:=by
   dsimp only [L2.KOf]
   refine' Sb.Zm KX G ?a ?l ?c ?k (fun _ _ _ _ _ _ _ h=>by obtain⟨a0,a1,rfl⟩:=Sb.len2 h;rfl)
   case a|l|c|k=>k_is
  have n9:Sb.Def (L2.KOf KX) mg "multiplied" Sb.kK ["row","by"]:=by
   dsimp only [L2.KOf]
   refine' Sb.Zm KX G ?a ?l ?c ?k (fun _ _ _ _ _ _ _ h=>by obtain⟨a0,a1,rfl⟩:=Sb.len2 h;rfl)
   case a|l|c|k=>k_is
  have pU:Sb.Def (L2.KOf KX) mg "turned" Sb.lJ ["row"]:=by
   dsimp only [L2.KOf]
   refine' Sb.Zm KX G ?a ?l ?c ?k (fun _ _ _ _ _ _ _ h=>by obtain⟨a0,rfl⟩:=Sb.len1 h;rfl)
   case a|l|c|k=>k_is
  have qP:Sb.Def (L2.KOf KX) mg "total" Sb.l6 ["worths"]:=by
   dsimp only [L2.KOf]
   refine' Sb.Zm KX G ?a ?l ?c ?k (fun _ _ _ _ _ _ _ h=>by obtain⟨a0,rfl⟩:=Sb.len1 h;rfl)
   case a|l|c|k=>k_is
  have sF:Sb.Def (L2.KOf KX) mg "mean" Sb.mS ["weights","row"]:=by
   dsimp only [L2.KOf]
   refine' Sb.Zm KX G ?a ?l ?c ?k (fun _ _ _ _ _ _ _ h=>by obtain⟨a0,a1,rfl⟩:=Sb.len2 h;rfl)
   case a|l|c|k=>k_is
  have qX:Sb.Def (L2.KOf KX) mg "is_in" Sb.mV ["world","event"]:=by
   dsimp only [L2.KOf]
   refine' Sb.Zm KX G ?a ?l ?c ?k (fun _ _ _ _ _ _ _ h=>by obtain⟨a0,a1,rfl⟩:=Sb.len2 h;rfl)
   case a|l|c|k=>k_is
  have sY:Sb.Def (L2.KOf KX) mg "cut" Sb.m6 ["row","event"]:=by
   dsimp only [L2.KOf]
   refine' Sb.Zm KX G ?a ?l ?c ?k (fun _ _ _ _ _ _ _ h=>by obtain⟨a0,a1,rfl⟩:=Sb.len2 h;rfl)
   case a|l|c|k=>k_is
  have o8:Sb.Def (L2.KOf KX) mg "paper_of" Sb.lD ["count","event"]:=by
   dsimp only [L2.KOf]
   refine' Sb.Zm KX G ?a ?l ?c ?k (fun _ _ _ _ _ _ _ h=>by obtain⟨a0,a1,rfl⟩:=Sb.len2 h;rfl)
   case a|l|c|k=>k_is
  have sH:Sb.Def (L2.KOf KX) mg "gain" Sb.mW ["offer","word"]:=by
   dsimp only [L2.KOf]
   refine' Sb.Zm KX G ?a ?l ?c ?k (fun _ _ _ _ _ _ _ h=>by obtain⟨a0,a1,rfl⟩:=Sb.len2 h;rfl)
   case a|l|c|k=>k_is
  have o4:Sb.Def (L2.KOf KX) mg "words_of" Sb.k9 ["offer"]:=by
   dsimp only [L2.KOf]
   refine' Sb.Zm KX G ?a ?l ?c ?k (fun _ _ _ _ _ _ _ h=>by obtain⟨a0,rfl⟩:=Sb.len1 h;rfl)
   case a|l|c|k=>k_is
  have qT:Sb.Def (L2.KOf KX) mg "sides" Sb.mD ["offers"]:=by
   dsimp only [L2.KOf]
   refine' Sb.Zm KX G ?a ?l ?c ?k (fun _ _ _ _ _ _ _ h=>by obtain⟨a0,rfl⟩:=Sb.len1 h;rfl)
   case a|l|c|k=>k_is
  have qY:Sb.Def (L2.KOf KX) mg "gains" Sb.mK ["offers"]:=by
   dsimp only [L2.KOf]
   refine' Sb.Zm KX G ?a ?l ?c ?k (fun _ _ _ _ _ _ _ h=>by obtain⟨a0,rfl⟩:=Sb.len1 h;rfl)
   case a|l|c|k=>k_is
  have o9:Sb.Def (L2.KOf KX) mg "as_ratio" Sb.lI ["multiple"]:=by
   dsimp only [L2.KOf]
   refine' Sb.Zm KX G ?a ?l ?c ?k (fun _ _ _ _ _ _ _ h=>by obtain⟨a0,rfl⟩:=Sb.len1 h;rfl)
   case a|l|c|k=>k_is
  have pQ:Sb.Def (L2.KOf KX) mg "come_to" Sb.lY ["count","rows","multiples"]:=by
   dsimp only [L2.KOf]
   refine' Sb.Zm KX G ?a ?l ?c ?k (fun _ _ _ _ _ _ _ h=>by obtain⟨a0,a1,a2,rfl⟩:=Sb.len3 h;rfl)
   case a|l|c|k=>k_is
  have nX:Sb.Def (L2.KOf KX) mg "first_table" Sb.kP ["lines"]:=by
   dsimp only [L2.KOf]
   refine' Sb.Zm KX G ?a ?l ?c ?k (fun _ _ _ _ _ _ _ h=>by obtain⟨a0,rfl⟩:=Sb.len1 h;rfl)
   case a|l|c|k=>k_is
  have pM:Sb.Def (L2.KOf KX) mg "line_of" Sb.lQ ["table","owner"]:=by
   dsimp only [L2.KOf]
   refine' Sb.Zm KX G ?a ?l ?c ?k (fun _ _ _ _ _ _ _ h=>by obtain⟨a0,a1,rfl⟩:=Sb.len2 h;rfl)
   case a|l|c|k=>k_is
  have p0:Sb.Def (L2.KOf KX) mg "end_of" Sb.mO ["table","thing"]:=by
   dsimp only [L2.KOf]
   refine' Sb.Zm KX G ?a ?l ?c ?k (fun _ _ _ _ _ _ _ h=>by obtain⟨a0,a1,rfl⟩:=Sb.len2 h;rfl)
   case a|l|c|k=>k_is
  have oM:Sb.Def (L2.KOf KX) mg "number_at" Sb.k4 ["table","owner","thing"]:=by
   dsimp only [L2.KOf]
   refine' Sb.Zm KX G ?a ?l ?c ?k (fun _ _ _ _ _ _ _ h=>by obtain⟨a0,a1,a2,rfl⟩:=Sb.len3 h;rfl)
   case a|l|c|k=>k_is
  have pP:Sb.Def (L2.KOf KX) mg "helping" Sb.lH ["table","owner"]:=by
   dsimp only [L2.KOf]
   refine' Sb.Zm KX G ?a ?l ?c ?k (fun _ _ _ _ _ _ _ h=>by obtain⟨a0,a1,rfl⟩:=Sb.len2 h;rfl)
   case a|l|c|k=>k_is
  have oA:Sb.Def (L2.KOf KX) mg "goes_ahead" Sb.kW ["table","column","one","other"]:=by
   dsimp only [L2.KOf]
   refine' Sb.Zm KX G ?a ?l ?c ?k (fun _ _ _ _ _ _ _ h=>by obtain⟨a0,a1,a2,a3,rfl⟩:=Sb.len4 h;rfl)
   case a|l|c|k=>k_is
  have oN:Sb.Def (L2.KOf KX) mg "going_out" Sb.k7 ["table","column"]:=by
   dsimp only [L2.KOf]
   refine' Sb.Zm KX G ?a ?l ?c ?k (fun _ _ _ _ _ _ _ h=>by obtain⟨a0,a1,rfl⟩:=Sb.len2 h;rfl)
   case a|l|c|k=>k_is
  have o7:Sb.Def (L2.KOf KX) mg "replaced" Sb.kZ ["numbers","place","number"]:=by
   dsimp only [L2.KOf]
   refine' Sb.Zm KX G ?a ?l ?c ?k (fun _ _ _ _ _ _ _ h=>by obtain⟨a0,a1,a2,rfl⟩:=Sb.len3 h;rfl)
   case a|l|c|k=>k_is
  have qZ:Sb.Def (L2.KOf KX) mg "freed" Sb.mL ["line","key_line","column","bottom"]:=by
   dsimp only [L2.KOf]
   refine' Sb.Zm KX G ?a ?l ?c ?k (fun _ _ _ _ _ _ _ h=>by obtain⟨a0,a1,a2,a3,rfl⟩:=Sb.len4 h;rfl)
   case a|l|c|k=>k_is
  have oO:Sb.Def (L2.KOf KX) mg "exchanged" Sb.kX ["table","place","column"]:=by
   dsimp only [L2.KOf]
   refine' Sb.Zm KX G ?a ?l ?c ?k (fun _ _ _ _ _ _ _ h=>by obtain⟨a0,a1,a2,rfl⟩:=Sb.len3 h;rfl)
   case a|l|c|k=>k_is
  have p8:Sb.Def (L2.KOf KX) mg "driven" Sb.lX ["table","owner"]:=by
   dsimp only [L2.KOf]
   refine' Sb.Zm KX G ?a ?l ?c ?k (fun _ _ _ _ _ _ _ h=>by obtain⟨a0,a1,rfl⟩:=Sb.len2 h;rfl)
   case a|l|c|k=>k_is
  have n6:Sb.Def (L2.KOf KX) mg "whole_line" Sb.kR ["row","end"]:=by
   dsimp only [L2.KOf]
   refine' Sb.Zm KX G ?a ?l ?c ?k (fun _ _ _ _ _ _ _ h=>by obtain⟨a0,a1,rfl⟩:=Sb.len2 h;rfl)
   case a|l|c|k=>k_is
  have qR:Sb.Def (L2.KOf KX) mg "start" Sb.l9 ["count","rows","event","goal"]:=by
   dsimp only [L2.KOf]
   refine' Sb.Zm KX G ?a ?l ?c ?k (fun _ _ _ _ _ _ _ h=>by obtain⟨a0,a1,a2,a3,rfl⟩:=Sb.len4 h;rfl)
   case a|l|c|k=>k_is
  have m9:Sb.Def (L2.KOf KX) mg "shown_multiples" Sb.kD ["count","rows","table","owner","bottom"]:=by
   dsimp only [L2.KOf]
   refine' Sb.Zm KX G ?a ?l ?c ?k (fun _ _ _ _ _ _ _ h=>by obtain⟨a0,a1,a2,a3,a4,rfl⟩:=Sb.len5 h;rfl)
   case a|l|c|k=>k_is
  have qS:Sb.Def (L2.KOf KX) mg "solve" Sb.mB ["count","rows","event","aim"]:=by
   dsimp only [L2.KOf]
   refine' Sb.Zm KX G ?a ?l ?c ?k (fun _ _ _ _ _ _ _ h=>by obtain⟨a0,a1,a2,a3,rfl⟩:=Sb.len4 h;rfl)
   case a|l|c|k=>k_is
  have pY:Sb.Def (L2.KOf KX) mg "judged" Sb.lU ["count","offers"]:=by
   dsimp only [L2.KOf]
   refine' Sb.Zm KX G ?a ?l ?c ?k (fun _ _ _ _ _ _ _ h=>by obtain⟨a0,a1,rfl⟩:=Sb.len2 h;rfl)
   case a|l|c|k=>k_is
  have nI:Sb.Def (L2.KOf KX) mg "refuse_beaten" Sb.kG ["count","offers"]:=by
   dsimp only [L2.KOf]
   refine' Sb.Zm KX G ?a ?l ?c ?k (fun _ _ _ _ _ _ _ h=>by obtain⟨a0,a1,rfl⟩:=Sb.len2 h;rfl)
   case a|l|c|k=>k_is
  have qN:Sb.Def (L2.KOf KX) mg "upper" Sb.l5 ["count","offers","row"]:=by
   dsimp only [L2.KOf]
   refine' Sb.Zm KX G ?a ?l ?c ?k (fun _ _ _ _ _ _ _ h=>by obtain⟨a0,a1,a2,rfl⟩:=Sb.len3 h;rfl)
   case a|l|c|k=>k_is
  have qW:Sb.Def (L2.KOf KX) mg "lower" Sb.mG ["count","offers","row"]:=by
   dsimp only [L2.KOf]
   refine' Sb.Zm KX G ?a ?l ?c ?k (fun _ _ _ _ _ _ _ h=>by obtain⟨a0,a1,a2,rfl⟩:=Sb.len3 h;rfl)
   case a|l|c|k=>k_is
  have pV:Sb.Def (L2.KOf KX) mg "shares" Sb.lK ["count","offers","event"]:=by
   dsimp only [L2.KOf]
   refine' Sb.Zm KX G ?a ?l ?c ?k (fun _ _ _ _ _ _ _ h=>by obtain⟨a0,a1,a2,rfl⟩:=Sb.len3 h;rfl)
   case a|l|c|k=>k_is
  have nJ:Sb.Def (L2.KOf KX) mg "greatest_left" Sb.kI ["count","offers","event","row"]:=by
   dsimp only [L2.KOf]
   refine' Sb.Zm KX G ?a ?l ?c ?k (fun _ _ _ _ _ _ _ h=>by obtain⟨a0,a1,a2,a3,rfl⟩:=Sb.len4 h;rfl)
   case a|l|c|k=>k_is
  have pO:Sb.Def (L2.KOf KX) mg "learned" Sb.lE ["count","offers","event","row"]:=by
   dsimp only [L2.KOf]
   refine' Sb.Zm KX G ?a ?l ?c ?k (fun _ _ _ _ _ _ _ h=>by obtain⟨a0,a1,a2,a3,rfl⟩:=Sb.len4 h;rfl)
   case a|l|c|k=>k_is
  have pZ:Sb.Def (L2.KOf KX) mg "folded" Sb.lV ["row","weights","outside"]:=by
   dsimp only [L2.KOf]
   refine' Sb.Zm KX G ?a ?l ?c ?k (fun _ _ _ _ _ _ _ h=>by obtain⟨a0,a1,a2,rfl⟩:=Sb.len3 h;rfl)
   case a|l|c|k=>k_is
  have o6:Sb.Def (L2.KOf KX) mg "unfolded" Sb.kY ["loads","weights","outside"]:=by
   dsimp only [L2.KOf]
   refine' Sb.Zm KX G ?a ?l ?c ?k (fun _ _ _ _ _ _ _ h=>by obtain⟨a0,a1,a2,rfl⟩:=Sb.len3 h;rfl)
   case a|l|c|k=>k_is
  have sG:Sb.Def (L2.KOf KX) mg "left" Sb.mT ["count","offers","event","weights"]:=by
   dsimp only [L2.KOf]
   refine' Sb.Zm KX G ?a ?l ?c ?k (fun _ _ _ _ _ _ _ h=>by obtain⟨a0,a1,a2,a3,rfl⟩:=Sb.len4 h;rfl)
   case a|l|c|k=>k_is
  have oU:Sb.Def (L2.KOf KX) mg "_law_cell" Sb.mX ["_law_script","_law_k"]:=by
   dsimp only [L2.KOf]
   refine' Sb.Zm KX G ?a ?l ?c ?k (fun _ _ _ _ _ _ _ h=>by obtain⟨a0,a1,rfl⟩:=Sb.len2 h;rfl)
   case a|l|c|k=>k_is
  have oB:Sb.Def (L2.KOf KX) mg "_law_whole" Sb.lZ ["_law_found"]:=by
   dsimp only [L2.KOf]
   refine' Sb.Zm KX G ?a ?l ?c ?k (fun _ _ _ _ _ _ _ h=>by obtain⟨a0,rfl⟩:=Sb.len1 h;rfl)
   case a|l|c|k=>k_is
  have pE:Sb.Def (L2.KOf KX) mg "_law_bag" Sb.m7 ["_law_script","_law_at"]:=by
   dsimp only [L2.KOf]
   refine' Sb.Zm KX G ?a ?l ?c ?k (fun _ _ _ _ _ _ _ h=>by obtain⟨a0,a1,rfl⟩:=Sb.len2 h;rfl)
   case a|l|c|k=>k_is
  have oP:Sb.Def (L2.KOf KX) mg "_law_take" Sb.mP ["_law_bag_here","_law_many"]:=by
   dsimp only [L2.KOf]
   refine' Sb.Zm KX G ?a ?l ?c ?k (fun _ _ _ _ _ _ _ h=>by obtain⟨a0,a1,rfl⟩:=Sb.len2 h;rfl)
   case a|l|c|k=>k_is
  have pC:Sb.Def (L2.KOf KX) mg "_law_low" Sb.m4 ["_law_top","_law_bottom"]:=by
   dsimp only [L2.KOf]
   refine' Sb.Zm KX G ?a ?l ?c ?k (fun _ _ _ _ _ _ _ h=>by obtain⟨a0,a1,rfl⟩:=Sb.len2 h;rfl)
   case a|l|c|k=>k_is
  have oQ:Sb.Def (L2.KOf KX) mg "_law_plus" Sb.mH ["_law_one","_law_other"]:=by
   dsimp only [L2.KOf]
   refine' Sb.Zm KX G ?a ?l ?c ?k (fun _ _ _ _ _ _ _ h=>by obtain⟨a0,a1,rfl⟩:=Sb.len2 h;rfl)
   case a|l|c|k=>k_is
  have oG:Sb.Def (L2.KOf KX) mg "_law_minus" Sb.lT ["_law_one","_law_other"]:=by
   dsimp only [L2.KOf]
   refine' Sb.Zm KX G ?a ?l ?c ?k (fun _ _ _ _ _ _ _ h=>by obtain⟨a0,a1,rfl⟩:=Sb.len2 h;rfl)
   case a|l|c|k=>k_is
  have oC:Sb.Def (L2.KOf KX) mg "_law_times" Sb.lS ["_law_one","_law_other"]:=by
   dsimp only [L2.KOf]
   refine' Sb.Zm KX G ?a ?l ?c ?k (fun _ _ _ _ _ _ _ h=>by obtain⟨a0,a1,rfl⟩:=Sb.len2 h;rfl)
   case a|l|c|k=>k_is
  have nP:Sb.Def (L2.KOf KX) mg "_law_is_ratio" Sb.lG ["_law_found"]:=by
   dsimp only [L2.KOf]
   refine' Sb.Zm KX G ?a ?l ?c ?k (fun _ _ _ _ _ _ _ h=>by obtain⟨a0,rfl⟩:=Sb.len1 h;rfl)
   case a|l|c|k=>k_is
  have n0:Sb.Def (L2.KOf KX) mg "_law_is_row" Sb.mJ ["_law_found","_law_count"]:=by
   dsimp only [L2.KOf]
   refine' Sb.Zm KX G ?a ?l ?c ?k (fun _ _ _ _ _ _ _ h=>by obtain⟨a0,a1,rfl⟩:=Sb.len2 h;rfl)
   case a|l|c|k=>k_is
  have nZ:Sb.Def (L2.KOf KX) mg "_law_parted" Sb.lO ["_law_one","_law_other"]:=by
   dsimp only [L2.KOf]
   refine' Sb.Zm KX G ?a ?l ?c ?k (fun _ _ _ _ _ _ _ h=>by obtain⟨a0,a1,rfl⟩:=Sb.len2 h;rfl)
   case a|l|c|k=>k_is
  have oS:Sb.Def (L2.KOf KX) mg "_law_mean" Sb.mI ["_law_weights_here","_law_row_here"]:=by
   dsimp only [L2.KOf]
   refine' Sb.Zm KX G ?a ?l ?c ?k (fun _ _ _ _ _ _ _ h=>by obtain⟨a0,a1,rfl⟩:=Sb.len2 h;rfl)
   case a|l|c|k=>k_is
  have pD:Sb.Def (L2.KOf KX) mg "_law_cut" Sb.mU ["_law_row_here","_law_event_here"]:=by
   dsimp only [L2.KOf]
   refine' Sb.Zm KX G ?a ?l ?c ?k (fun _ _ _ _ _ _ _ h=>by obtain⟨a0,a1,rfl⟩:=Sb.len2 h;rfl)
   case a|l|c|k=>k_is
  have oE:Sb.Def (L2.KOf KX) mg "_law_small" Sb.mC ["_law_bag_here"]:=by
   dsimp only [L2.KOf]
   refine' Sb.Zm KX G ?a ?l ?c ?k (fun _ _ _ _ _ _ _ h=>by obtain⟨a0,rfl⟩:=Sb.len1 h;rfl)
   case a|l|c|k=>k_is
  have pA:Sb.Def (L2.KOf KX) mg "_law_row" Sb.mY ["_law_bag_here","_law_count"]:=by
   dsimp only [L2.KOf]
   refine' Sb.Zm KX G ?a ?l ?c ?k (fun _ _ _ _ _ _ _ h=>by obtain⟨a0,a1,rfl⟩:=Sb.len2 h;rfl)
   case a|l|c|k=>k_is
  have nS:Sb.Def (L2.KOf KX) mg "_law_weights" Sb.lB ["_law_bag_here","_law_count"]:=by
   dsimp only [L2.KOf]
   refine' Sb.Zm KX G ?a ?l ?c ?k (fun _ _ _ _ _ _ _ h=>by obtain⟨a0,a1,rfl⟩:=Sb.len2 h;rfl)
   case a|l|c|k=>k_is
  have oH:Sb.Def (L2.KOf KX) mg "_law_event" Sb.mM ["_law_bag_here","_law_count"]:=by
   dsimp only [L2.KOf]
   refine' Sb.Zm KX G ?a ?l ?c ?k (fun _ _ _ _ _ _ _ h=>by obtain⟨a0,a1,rfl⟩:=Sb.len2 h;rfl)
   case a|l|c|k=>k_is
  have pB:Sb.Def (L2.KOf KX) mg "_law_mid" Sb.mZ ["_law_weights_here","_law_row_here","_law_event_here"]:=by
   dsimp only [L2.KOf]
   refine' Sb.Zm KX G ?a ?l ?c ?k (fun _ _ _ _ _ _ _ h=>by obtain⟨a0,a1,a2,rfl⟩:=Sb.len3 h;rfl)
   case a|l|c|k=>k_is
  have oF:Sb.Def (L2.KOf KX) mg "_law_offer" Sb.mE ["_law_bag_here","_law_weights_here","_law_loose"]:=by
   dsimp only [L2.KOf]
   refine' Sb.Zm KX G ?a ?l ?c ?k (fun _ _ _ _ _ _ _ h=>by obtain⟨a0,a1,a2,rfl⟩:=Sb.len3 h;rfl)
   case a|l|c|k=>k_is
  have nF:Sb.Def (L2.KOf KX) mg "_law_fair_book" Sb.k8 ["_law_script","_law_count"]:=by
   dsimp only [L2.KOf]
   refine' Sb.Zm KX G ?a ?l ?c ?k (fun _ _ _ _ _ _ _ h=>by obtain⟨a0,a1,rfl⟩:=Sb.len2 h;rfl)
   case a|l|c|k=>k_is
  have nU:Sb.Def (L2.KOf KX) mg "_law_learned" Sb.k6 ["_law_weights_here","_law_event_here"]:=by
   dsimp only [L2.KOf]
   refine' Sb.Zm KX G ?a ?l ?c ?k (fun _ _ _ _ _ _ _ h=>by obtain⟨a0,a1,rfl⟩:=Sb.len2 h;rfl)
   case a|l|c|k=>k_is
  have nA:Sb.Def (L2.KOf KX) mg "_law_some_event" Sb.kS ["_law_bag_here","_law_count"]:=by
   dsimp only [L2.KOf]
   refine' Sb.Zm KX G ?a ?l ?c ?k (fun _ _ _ _ _ _ _ h=>by obtain⟨a0,a1,rfl⟩:=Sb.len2 h;rfl)
   case a|l|c|k=>k_is
  have oR:Sb.Def (L2.KOf KX) mg "_law_meet" Sb.mR ["_law_one","_law_other"]:=by
   dsimp only [L2.KOf]
   refine' Sb.Zm KX G ?a ?l ?c ?k (fun _ _ _ _ _ _ _ h=>by obtain⟨a0,a1,rfl⟩:=Sb.len2 h;rfl)
   case a|l|c|k=>k_is
  have nY:Sb.Def (L2.KOf KX) mg "_law_prices" Sb.lN ["_law_count","_law_offers","_law_event_here","_law_row_here"]:=by
   dsimp only [L2.KOf]
   refine' Sb.Zm KX G ?a ?l ?c ?k (fun _ _ _ _ _ _ _ h=>by obtain⟨a0,a1,a2,a3,rfl⟩:=Sb.len4 h;rfl)
   case a|l|c|k=>k_is
  have nC:Sb.Def (L2.KOf KX) mg "_law_left_twice" Sb.kU ["_law_count","_law_offers","_law_one","_law_other","_law_weights_here"]:=by
   dsimp only [L2.KOf]
   refine' Sb.Zm KX G ?a ?l ?c ?k (fun _ _ _ _ _ _ _ h=>by obtain⟨a0,a1,a2,a3,a4,rfl⟩:=Sb.len5 h;rfl)
   case a|l|c|k=>k_is
  have m8:Sb.Con (L2.KOf KX) mg "NOUGHT" (0,1):=by
   dsimp only [L2.KOf]
   refine' Sb.Z2h KX G ?a ?l
   case a|l=>k_is
  have rY:Sb.Con (L2.KOf KX) mg "ONE" (1,1):=by
   dsimp only [L2.KOf]
   refine' Sb.Z2h KX G ?a ?l
   case a|l=>k_is
  have sX:Sb.ConI mg "ROW" 0:=by
   refine' Sb.Q0 KX G ?a
   (case a=>k_is)
  have r8:Sb.ConI mg "ASK" 1:=by
   refine' Sb.Q0 KX G ?a
   (case a=>k_is)
  have rZ:Sb.ConI mg "BID" 2:=by
   refine' Sb.Q0 KX G ?a
   (case a=>k_is)
  have qM:Sb.ConI mg "EVENT" 3:=by
   refine' Sb.Q0 KX G ?a
   (case a=>k_is)
  have y_Table:Sb.TabHere (L2.KOf KX) mg:=by
   dsimp only [L2.KOf]
   refine' Sb.Z51 KX G ?xaC ?xa1 ?xi1 ?xl1 ?xc1 ?xk1 ?xpg ?xhd ?xpo ?xsa ?xmk ?xkc ?xnL ?xnO ?xnH ?xnB ?xnK
   case xaC|xa1|xi1|xl1|xc1|xk1|xpg|xhd|xpo|xsa|xmk|xkc|xnL|xnO|xnH|xnB|xnK=>k_is
  obtain ⟨C_T,f_T,fd_T,tc,mk_T,F_T,b_T⟩:=y_Table
  have y_NC:Sb.ErrHere (L2.KOf KX) mg "NoChance" "NoChance.__init__" Sb.kH:=by
   dsimp only [L2.KOf]
   refine' Sb.Z6d KX G ?zNCeC ?zNCe1 ?zNCei ?zNCel ?zNCec ?zNCek ?zNCes ?zNCen ?zNCeg ?zNCeh ?zNCex ?zNCet ?zNCeu ?zNCem ?zNCeb ?zNCeo ?zNCebd
   case zNCeC|zNCe1|zNCei|zNCel|zNCec|zNCek|zNCes|zNCen|zNCeg|zNCeh|zNCex|zNCet|zNCeu|zNCem|zNCeb=>k_is
   (case zNCeo=>kernel_rfl); (case zNCebd=>exact fun us hl=>by obtain ⟨a0,a1,rfl⟩:=Sb.len2 hl; rfl)
  obtain ⟨C_NC,f_NC,fd_NC,x_NC,F_NC,b_NC,s_NC,r_NC⟩:=y_NC
  have y_base:Sb.BaseHere (L2.KOf KX) mg "SureError":=by
   dsimp only [L2.KOf]
   refine' Sb.Z4e KX G ?ba ?br ?bt ?bf
   case ba|br|bt|bf=>k_is
  obtain ⟨D_SE,B_SE⟩:=y_base
  have y_cNC:Sb.CatchHere (L2.KOf KX) mg "NoChance" "NoChance":=by
   dsimp only [L2.KOf]
   refine' Sb.Z2l KX G ?xcNCa ?xcNCb ?xcNCn ?xcNCe ?xcNCi ?xcNCk
   (case xcNCa=>k_is); (case xcNCb=>k_is); (case xcNCn=>k_is); (case xcNCe=>k_is); (case xcNCi=>kit_is); (case xcNCk=>k_is)
  obtain ⟨Cq_cNC,D_cNC,k_cNC,m_cNC,n_cNC⟩:=y_cNC
  obtain rfl:=Sb.Z1k m_cNC x_NC.bd
  obtain rfl:=Sb.Z1k n_cNC x_NC.bd
  refine' Sb.Z62 (st:=Sb.m5) KX G hmg ?a ?l ?c ?k ?b ?ok
  case a|l|c|k=>k_is
  (case b=>exact fun s v=>.of_eq rfl)
  case ok =>
   intro fd base F
   have sC:=Sb.Z6r (P:=Sb.pk) (w:=w) (base:=base) nE T
   have oY:=Sb.Z10 pX sC
   have tF:=Sb.C2 (P:=Sb.pk) (w:=w) (base:=base) nR T
   have qB:=Sb.Z0w qU tF oY
   have rX:=Sb.Z19 nM sC
   have sZ:=Sb.Dy (P:=Sb.pk) (w:=w) (base:=base) o5
   have qJ:=Sb.Z5u (P:=Sb.pk) (w:=w) (base:=base) qX
   have pL:=Sb.Z6t sY T qJ m8
   have sB:=Sb.Z3m o8 pL rY
   have c_T:Sb.HasT _ w (L2.KOf KX) mg base C_T:=⟨f_T,fd_T,mk_T,Sb.Z3g (P:=Sb.pk) (w:=w) (base:=base) F_T tc,b_T⟩
   have rS:=Sb.Z3u nX T tc c_T
   have nW:=Sb.Z12 (P:=Sb.pk) (w:=w) (base:=base) pM tc
   have rV:=Sb.Z3x p0 tc nW
   have rM:=Sb.Z3n oM tc nW
   have sR:=Sb.C3 pP T tc nW
   have sS:=Sb.Z5v (P:=Sb.pk) (w:=w) (base:=base) oA tc
   have rP:=Sb.Z3s oN T tc sS
   have qA:=Sb.Jb (P:=Sb.pk) (w:=w) (base:=base) o7 T
   have rQ:=Sb.Z3t qZ T qA
   have sV:=Sb.Z5x oO tc c_T rQ qA
   have qK:=Sb.Z18 p8 tc sR sV rP
   have tK:=Sb.Lr n6 rX sZ
   have rF:=Sb.Z3h qR tK sB rS
   have rJ:=Sb.Z3k m9 T tc rM rX qB
   have nD:=Sb.Z0u qS T tc pL rF qK rJ rX qB rV
   have oJ:=Sb.Z3o qV oY
   have sT:=Sb.Z5w sH T oJ pL sX r8 rZ qM
   have rA:=Sb.Z3b (P:=Sb.pk) (w:=w) (base:=base) o4 r8 rZ
   have rH:=Sb.Z3j qT T rA
   have nQ:=Sb.Z16 qY rH sT
   have rE:=Sb.Z3f qQ oY
   have qD:=Sb.M2 n9 T rE
   have oV:=Sb.Z0t pU qD
   have qL:=Sb.Z5y (P:=Sb.pk) (w:=w) (base:=base) oU T
   have rB:=Sb.Z3c (P:=Sb.pk) (w:=w) (base:=base) oB T
   have oZ:=Sb.Z6p (P:=Sb.pk) (w:=w) (base:=base) pC T
   have sD:=Sb.Z5z pE qL
   have nG:=Sb.Z5m (P:=Sb.pk) (w:=w) (base:=base) oP
   have oK:=Sb.Z3q oQ oZ
   have qH:=Sb.Z14 oG oZ
   have qF:=Sb.Z13 oC oZ
   have sP:=Sb.Z5t nP T rB oZ
   have oW:=Sb.Z0y nZ oZ
   have pJ:=Sb.Z15 oS T oK qF
   have pG:=Sb.Z5s (P:=Sb.pk) (w:=w) (base:=base) pD T
   have pH:=Sb.Z0v oE nG oZ
   have sA:=Sb.Z5n pA T pH
   have n5:=Sb.J9 nS T nG oZ
   have pK:=Sb.Z3w oH T nG
   have tE:=Sb.Z6o pB T pJ pG oW
   have rK:=Sb.Z0z oF T nG pK sA tE oZ oK qH
   have rT:=Sb.Z3v nF T sD nG n5 rK
   have sJ:=Sb.Z5p sE oY
   have rD:=Sb.Z3e qP sJ m8
   have pI:=Sb.Z3p sF T rX sZ qB
   have tG:=Sb.Je (P:=Sb.pk) (w:=w) (base:=base) nR T
   have tI:=Sb.Z6u o9 tG
   have sW:=Sb.Z1a pQ T tI pI
   have sK:=Sb.Z3l pW oY
   have sU:=Sb.Z17 pZ T pI
   have tD:=Sb.Ja o6 T rD sK qD rY
   have rO:=Sb.Qo (P:=Sb.pk) (w:=w) (base:=base) F_NC T x_NC B_SE s_NC
   have pS:=Sb.C0 pY nD nQ m8
   have sI:=Sb.Z5o nI pS
   have tH:=Sb.Z6s nJ x_NC rO b_NC nD nQ sI
   have pF:=Sb.Jc pO tH oV oJ m8
   have sO:=Sb.Z5r sG T qJ nQ sU nD pL sW tD m8
   have nV:=Sb.Z0s qN nD nQ
   have oX:=Sb.Z11 qW nV oV oJ m8
   have pR:=Sb.Dz pV sB nV oX
   have rN:=Sb.Z3r n0 T sP
   have o0:=Sb.Jd nU T pJ pG oW
   have rG:=Sb.Z3i nA pK nG
   have sM:=Sb.Z5q (P:=Sb.pk) (w:=w) (base:=base) oR T
   have qC:=Sb.Z0x nY T k_cNC n_cNC pF
   have rC:=Sb.Z3d nC T sO o0 sM rN
   exact Sb.Z6q F T qL sD rT rG n5 o0 rC sA pH qC oK pG pR nV oX
#print axioms PySem.Challenge.cw_surebook_k32_learned_twice_holds
