import PyProof.Rows.All
import Wide.All
import OpenK.AllK
import Wide.FinOn
import Lean
import PyProof.EqAt
import PyProof.EqKinds
import PyProof.TupleCall
import PySem.Challenge.RW_surebook_k29_left_weights
set_option Elab.async false
set_option linter.all false
set_option maxRecDepth 100000
abbrev YA:=@PySem.Heap.get?_push_of_some
abbrev YB:=@PySem.wpAny_bind
abbrev YC:=@List.length_map
abbrev YD:=@List.getElem?_map
abbrev YE:=@Nat.le_refl
abbrev YF:=@List.getD_eq_getElem?_getD
abbrev YG:=@if_neg
abbrev YH:=@List.getElem?_eq_some_iff
abbrev YI:=@List.mem_of_getElem?
abbrev YJ:=@PySem.Heap.lt_size
abbrev YK:=@Option.some.inj
abbrev YL:=@List.mem_append_left
abbrev YM:=@if_pos
abbrev YN:=@List.take_of_length_le
abbrev YO:=@PySem.Heap.get?_push_size
abbrev YQ:=@List.size_toArray
abbrev YR:=@PySem.wpAny_pure
abbrev YS:=@List.mem_cons
abbrev YT:=@Bool.false_ne_true
abbrev YU:=@Classical.byContradiction
abbrev YV:=@List.mem_cons_of_mem
abbrev YW:=@Nat.lt_of_lt_of_le
abbrev YX:=@List.getElem_mem
abbrev YY:=@PyProof.Rows.boot_tuple
abbrev YZ:=@Int.mul_pos
abbrev XA:=@Nat.ne_of_lt
abbrev XB:=@List.getElem?_of_mem
abbrev XC:=@List.mem_cons_self
abbrev XD:=@List.length_append
abbrev XE:=@of_decide_eq_true
abbrev XF:=@decide_eq_true
abbrev XG:=@List.mem_map
abbrev XH:=@Int.mul_comm
abbrev XI:=@List.not_mem_nil
abbrev XJ:=@PySem.wpAny_field
abbrev XL:=@List.mem_append_right
abbrev XM:=@PySem.Heap.size_push
abbrev XN:=@List.getElem?_eq_getElem
abbrev XO:=@Ne.symm
abbrev XQ:=@Nat.lt_irrefl
abbrev XR:=@PySem.F.plainAttrs_list
abbrev XS:=@PyProof.Rows.callWith_type1
abbrev XT:=@PySem.Heap.get?_update_other
abbrev XU:=@Nat.le_trans
abbrev XV:=@PyProof.Rows.boot_isinstance
abbrev XW:=@PySem.Paired.length
abbrev XX:=@List.map_append
abbrev XY:=@List.getElem?_append_right
abbrev XZ:=@List.length_cons
abbrev JA:=@List.lookup_cons
abbrev JB:=@PySem.wpAny_loadPart'
abbrev JC:=@PySem.PassesOwn.never
abbrev JD:=@PySem.W.mg_none_of
abbrev JE:=@List.getElem?_append_left
abbrev JF:=@beq_eq_false_iff_ne
abbrev JG:=@List.length_zipWith
abbrev JH:=@Bool.and_eq_true
abbrev JI:=@decide_eq_false
abbrev JJ:=@PySem.Heap.get?_update_self
abbrev JK:=@Nat.le_of_lt
abbrev JL:=@PySem.wpAny_callSpecial?_slot
abbrev JM:=@Int.mul_assoc
abbrev JN:=@Int.eq_of_mul_eq_mul_left
abbrev JO:=@List.getElem?_set_self
abbrev JP:=@List.mem_singleton
abbrev JQ:=@PySem.F.slot_list_append
abbrev JR:=@PySem.F.type_list_append
abbrev JS:=@List.length_replicate
abbrev JT:=@Int.mul_le_mul_of_nonneg_right
abbrev JU:=@List.getElem?_set_ne
abbrev JV:=@List.mem_append
abbrev JW:=@PySem.F.store_ValueError
abbrev JX:=@PySem.wpAny_newObj_type
abbrev JY:=@PySem.F.slot_tuple_iterator_next
abbrev JZ:=@Nat.zero_le
abbrev GA:=@Nat.lt_of_le_of_lt
abbrev GB:=@PySem.wpAny_holding
abbrev GC:=@List.length_take
abbrev GD:=@Nat.le_add_right
abbrev GE:=@PyProof.Rows.boot_list
abbrev GF:=@PySem.wpAny_pyIter_list
abbrev GG:=@List.getElem?_zipWith
abbrev GH:=@PySem.wpAny_seqItems
abbrev GI:=@Bool.eq_iff_iff
abbrev GJ:=@Int.mul_nonpos_of_nonpos_of_nonneg
abbrev GK:=@PySem.wpAny_call_entry
abbrev GL:=@Int.mul_one
abbrev GM:=@Nat.mul_le_mul_right
abbrev GN:=@List.mem_range
abbrev GO:=@PySem.wpAny_mono
abbrev GP:=@or_false
abbrev GQ:=@Int.mul_zero
abbrev GR:=@PySem.wpAny_loadPart_at
abbrev GS:=@PySem.F.excBase_ValueError
abbrev GT:=@PySem.Heap.SameBut.update
abbrev GU:=@Int.one_mul
abbrev GV:=@Option.map_some
abbrev GW:=@List.getElem?_toArray
abbrev GX:=@Int.natAbs_dvd_natAbs
abbrev GY:=@Bool.false_eq_true
abbrev GZ:=@PySem.wpAny_pyIter_tuple
abbrev qa:=@beq_iff_eq
abbrev qb:=@PySem.wpAny_Call_Name_kw
abbrev qc:=@beq_self_eq_true
abbrev qd:=@List.eq_of_mem_replicate
abbrev qe:=@PySem.wpAny_setField
abbrev qf:=@Nat.pow_le_pow_right
abbrev qg:=@Int.natAbs_mul
abbrev qh:=@List.append_nil
abbrev qi:=@List.length_set
abbrev qj:=@Array.length_toList
abbrev qk:=@List.replicate_succ
abbrev qm:=@List.getElem?_range
abbrev qo:=@Nat.ne_of_gt
abbrev qp:=@PySem.Obj.data_mapFields
abbrev qq:=@Int.mul_nonneg
abbrev qu:=@Array.getElem?_eq_some_iff
abbrev qz:=@Int.lt_of_mul_lt_mul_left
abbrev z9:=@PySem.wpAny_passesOwn
abbrev zc:=@Int.toNat_natCast
abbrev zd:=@PySem.wpAny_truthy_bool
abbrev ze:=@Nat.le_succ
abbrev zf:=@PySem.boot_len
abbrev zg:=@PyProof.Rows.slot_tuple_getitem
abbrev zh:=@PySem.mem_of_lookup
abbrev zj:=@PySem.W.kia_one
abbrev zk:=@PySem.SeqAt.EqAt.int_int
abbrev zl:=@Int.gcd_comm
abbrev zm:=@PySem.wpAny_setField_rec
abbrev zo:=@Int.zero_mul
abbrev zq:=@Int.emod_lt_of_pos
abbrev zt:=@PySem.F.args_tuple_iterator_next_1
abbrev zu:=@PySem.SeqAt.EqAt.same
abbrev zv:=@List.range_succ
abbrev zw:=@Int.emod_nonneg
abbrev zx:=@PySem.wpAny_standAt
abbrev zy:=@List.sum_cons
abbrev zz:=@PySem.Obj.isFreed_of_fields
abbrev zA:=@PyProof.Rows.boot_int
abbrev zB:=@Nat.lt_of_succ_lt
abbrev zC:=@PySem.F.entry_tuple_iterator_next
abbrev zD:=@decide_eq_true_eq
abbrev zE:=@Int.mul_lt_mul_of_pos_right
abbrev zF:=@Int.eq_of_mul_eq_mul_right
abbrev zG:=@Option.isSome_iff_exists
abbrev zH:=@PySem.F.args_tuple_add_2
abbrev zI:=@PySem.wpAny_comprehension_free
abbrev zJ:=@PySem.AutoSeq1.sub_tuple_tuple
abbrev zK:=@List.mem_filter
abbrev zL:=@PySem.wpAny_execs_nil
abbrev zM:=@List.forIn_cons
abbrev zN:=@PySem.slot_listiter_next
abbrev zO:=@PySem.wpAny_rule
abbrev zP:=@List.filter_append
abbrev zQ:=@List.getElem?_replicate
abbrev zR:=@PySem.F.entry_tuple_add
abbrev zS:=@Nat.le_mul_of_pos_right
abbrev zT:=@PySem.Paired.snoc
abbrev zU:=@PySem.F.slot_list_index
abbrev zV:=@PySem.F.type_list_index
abbrev zW:=@PySem.codeAny_mono
abbrev zX:=@PySem.F.slot_tuple_add
abbrev zY:=@List.flatten_cons
abbrev zZ:=@Nat.add_comm
abbrev ja:=@Int.gcd_dvd_right
abbrev jb:=@PySem.wpAny_pyIter_enum
abbrev jc:=@PyProof.Rows.boot_bool
abbrev jd:=@List.map_set
abbrev je:=@List.ext_getElem?
abbrev jf:=@PySem.plainObj_wpAny_Assign_Attribute
abbrev jg:=@PyProof.Rows.boot_sum
abbrev jh:=@List.getElem?_eq_none
abbrev ji:=@PySem.wpAny_isInstance
abbrev jj:=@PyProof.Rows.callWith_builtin1
abbrev jk:=@PySem.call_meets
abbrev jm:=@Nat.not_lt
abbrev jn:=@PySem.F.slot_tuple_mul
abbrev jo:=@List.ext_getElem
abbrev jp:=@PySem.wpAny_pyIter_zip
abbrev jq:=@PySem.wpAny_attempt
abbrev jr:=@if_true
abbrev js:=@List.getElem?_mapIdx
abbrev jt:=@List.eq_nil_of_length_eq_zero
abbrev ju:=@List.nodup_cons
abbrev jv:=@PySem.F.slot_zip_next
abbrev jw:=@PySem.wpAny_ite_false
abbrev jx:=@PySem.F.slot_int_rmul
abbrev jy:=@List.length_nil
abbrev jz:=@Nat.two_pow_pos
abbrev Y00:=@List.filterMap_cons
abbrev Y01:=@Int.mul_fdiv_cancel
abbrev Y02:=@PySem.wpAny_isSubtype_exc
abbrev Y03:=@List.flatMap_append
abbrev Y04:=@Nat.mul_comm
abbrev Y05:=@Int.gcd_pos_of_ne_zero_left
abbrev Y06:=@PySem.isSubtype_stop
abbrev Y07:=@PySem.F.slot_range_iterator_next
abbrev Y08:=@if_false
abbrev Y09:=@PySem.Calls.Name_function_global
abbrev Y0a:=@List.mem_filterMap
abbrev Y0b:=@PySem.W.looks_findIn
abbrev Y0c:=@PySem.Calls.spliced_cons
abbrev Y0d:=@PySem.wpAny_call
abbrev Y0e:=@Nat.eq_zero_or_pos
abbrev Y0f:=@Nat.eq_of_mul_eq_mul_right
abbrev Y0g:=@List.getElem?_drop
abbrev Y0h:=@List.forIn_nil
abbrev Y0i:=@PySem.wpAny_letOwnedTupleGo_enum
abbrev Y0j:=@Int.gcd_sub_mul_left_left
abbrev Y0k:=@Array.getElem?_eq_getElem
abbrev Y0l:=@PySem.wpAny_binaryOp_repeat_ref
abbrev Y0m:=@PySem.wpAny_letOwnedTupleGo_zip
abbrev Y0n:=@Int.le_of_mul_le_mul_left
abbrev Y0o:=@List.mem_or_eq_of_mem_set
abbrev Y0p:=@PySem.Obj.cls_mapFields
abbrev Y0q:=@PySem.sizeLine_eq
abbrev Y0r:=@PySem.Calls.spliced_nil
abbrev Y0s:=@PySem.W.mg_of
abbrev Y0t:=@PySem.SeqAt.RcAt.tuples
abbrev Y0u:=@Int.neg_mul
abbrev Y0v:=@PySem.W.hideAll_get
abbrev Y0w:=@List.map_cons
abbrev Y0x:=@Nat.add_assoc
abbrev Y0y:=@PySem.noFill_tuple_add
abbrev Y0z:=@Nat.le_of_not_lt
abbrev Y0A:=@Int.gcd_dvd_left
abbrev Y0B:=@PySem.AutoSeq1.idx_int
abbrev Y0C:=@List.all_eq_true
abbrev Y0D:=@List.filter_cons_of_pos
abbrev Y0E:=@List.filter_cons_of_neg
abbrev Y0F:=@List.mem_flatMap
abbrev Y0G:=@Int.pos_of_mul_pos_left
abbrev Y0H:=@PySem.typeIs_int
abbrev Y0I:=@Nat.succ_mul
abbrev Y0J:=@Int.fmod_nonneg_of_pos
abbrev Y0K:=@PySem.callType_new
abbrev Y0L:=@Nat.mul_succ
abbrev Y0M:=@PySem.wpAny_updateSeq
abbrev Y0N:=@List.of_mem_zip
abbrev Y0O:=@PyProof.Rows.boot_abs
abbrev Y0P:=@PySem.wpAny_letGo
abbrev Y0Q:=@Nat.pow_add
abbrev Y0R:=@Nat.log2_lt
abbrev Y0S:=@Int.natAbs_neg
abbrev Y0T:=@List.replicate_succ'
abbrev Y0U:=@List.mem_of_mem_drop
abbrev Y0V:=@Nat.mul_le_mul_left
abbrev Y0W:=@Nat.lt_two_pow_self
abbrev Y0X:=@List.getElem_of_mem
abbrev Y0Y:=@PySem.seq_tuple_add
abbrev Y0Z:=@PySem.wpAny_onRaise
abbrev Y10:=@Int.dvd_trans
abbrev Y11:=@Array.append_assoc
abbrev Y12:=@Array.find?_toList
abbrev Y13:=@Int.fmod_lt_of_pos
abbrev Y14:=@not_or
abbrev Y15:=@List.getElem?_take
abbrev Y16:=@Option.isSome_some
abbrev Y17:=@List.contains_cons
abbrev Y18:=@of_decide_eq_false
abbrev Y19:=@Nat.pow_succ
abbrev Y1a:=@Nat.lt_or_ge
abbrev Y1b:=@Int.mul_add
abbrev Y1c:=@Int.le_refl
abbrev Y1d:=@Nat.pow_pos
theorem Sb.sz0:0<=PySem.sizeLine:=by decide
theorem Sb.sz1:1<=PySem.sizeLine:=by decide
theorem Sb.sz2:2<=PySem.sizeLine:=by decide
theorem Sb.sz3:3<=PySem.sizeLine:=by decide
theorem Sb.sz4:4<=PySem.sizeLine:=by decide
theorem Sb.sz8:8<=PySem.sizeLine:=by decide
namespace Sb
open PySem PySem.Spec PyProof.Rows
def NoCtx (o:Obj):Prop:=∃ vs,o.data=.fields vs/\vs[2]?=some .none
def Qt (A:Around)(h:Heap):Prop:=A.handled=none \/ ∃ a o,A.handled=some (.ref a)/\h.get? a=some o/\NoCtx o
def QtP (A:Around)(pn:List (Addr × Obj)):Prop:=A.handled=none \/ ∃ p∈pn,A.handled=some (.ref p.1)/\NoCtx p.2
theorem QtP.at {A:Around}{pn:List (Addr × Obj)}{h:Heap}(q:QtP A pn)(k:∀ p∈pn,h.get? p.1=some p.2):Qt A h :=
 q.imp id fun ⟨p,hp,e,n⟩=>⟨p.1,p.2,e,k p hp,n⟩
theorem QtP.sub {A:Around}{pn pm:List (Addr × Obj)}(q:QtP A pn)(k:∀ p∈pn,p∈pm):QtP A pm:=q.imp id fun ⟨p,hp,e,n⟩=>⟨p,k p hp,e,n⟩
theorem Qt.keeps {A:Around}{h h':Heap}(q:Qt A h)(k:∀ b o,h.get? b=some o->NoCtx o->h'.get? b=some o):Qt A h':=q.imp id fun ⟨a,o,e,g,n⟩=>⟨a,o,e,k a o g n,n⟩
theorem Qt.but {A:Around}{h:Heap}{a:Addr}{o:Obj}{f:Obj->Obj}(q:Qt A h)(ha:h.get? a=some o)(n:¬ NoCtx o):Qt A (h.update a f) :=
 q.imp id fun ⟨b,u,e,g,m⟩=>⟨b,u,e,(GT ..).extBut b u (fun z=>n (by rw[z,ha] at g;cases g;exact m)) g,m⟩
theorem Ph:entryFor table "proto.unchain"=some Builtin.«proto.unchain»:=entryFor_of_tree (by kernel_rfl)
section
variable {prog:Program}{w:World}{A:Around}{E:Value->Shared->Prop}{s:Shared}
theorem Km {α:Type}{e:Addr}{oe:Obj}{vs:Array Value}{Q:α->Shared->Prop}(hq:Qt A s.heap)(he:s.heap.get? e=some oe)(hd:oe.data=.fields vs)(hz:2<vs.size)(hn:∀ a,A.handled=some (.ref a)->a≠e)
  (h:∀ h':Heap,Heap.SameBut e s.heap h'->(∃ o',h'.get? e=some o'/\o'.cls=oe.cls)->E (.ref e) { s with heap:=h' }):wpAny (model prog w) A (raiseNew (.ref e):Sem α) Q E s:=by
 unfold raiseNew
 refine YB (wpAny_handled ?_)
 rcases hq with hh | ⟨a,o,hh,ha,xs,hx,h2⟩
 ·rw[hh]
  first
   | exact wpAny_throw (h s.heap (Heap.SameBut.refl ..) ⟨_,he,rfl⟩)
   | exact YB (YR (wpAny_throw (h s.heap (Heap.SameBut.refl ..) ⟨_,he,rfl⟩)))
 ·have ne:=hn a hh
  rw[hh]
  dsimp only
  have nb:(Value.ref a != Value.ref e)=true:=by simpa using ne
  rw[YM nb]
  refine YB (GB (wpAny_runValue (codeAny_builtin Ph ?_)))
  show wpAny _ _ (field (.ref a) 2 >>= _) _ _ s
  refine YB (XJ ha hx (x:=.none) h2 ?_)
  refine YR ?_
  simp only [updateField]
  refine YB (YB (wpAny_load he ?_))
  rw[hd]
  show wpAny _ _ (if 2<vs.size then _ else _) _ _ _
  rw[YM hz]
  refine wpAny_update he ?_
  refine wpAny_throw (h _ (GT ..) ⟨_,JJ _ he ?_,?_⟩)
  ·exact zz (qp hd _)
  ·exact Y0p ..
theorem Rx {α:Type}{Q:α->Shared->Prop}(hq:Qt A s.heap)
  (h:∀ (h':Heap) (e:Addr),(∀ b o,s.heap.get? b=some o->h'.get? b=some o)->(∃ o,h'.get? e=some o/\o.cls=.type "StopIteration")->E (.ref e) { s with heap:=h' }) :
  wpAny (model prog w) A (newExc (.type "StopIteration") [] >>= fun e=>(raiseNew e:Sem α)) Q E s:=by
 refine YB ?_
 simp only [newExc,newTuple]
 refine YB (JX ?_ (by size_fits))
 refine YB (m:=firstArgMember _ _) (wpAny_of_eq (a:=Value.none) (by first | rfl | (simp only [firstArgMember];rfl)) ?_)
 refine JX ?_ (by size_fits)
 have sz:∀ (o:Obj),(s.heap.push o).objs.size=s.heap.objs.size+1:=fun o=>XM ..
 refine Km (hq.keeps fun b o hb _=>YA _ (YA _ hb)) (YO _ rfl) rfl (by simp[ownMembersOf]) (fun a ha z=>?_) fun h' sb ho=>?_
 ·rcases hq with q | ⟨b,o,q,hb,_⟩
  ·rw[q] at ha;cases ha
  ·rw[q] at ha
   cases ha
   have:=YJ hb
   rw[z,sz] at this
   exact XQ _ (zB this)
 ·refine h h' _ (fun b o hb=>?_) ho
  refine sb.extBut b o (fun z=>?_) (YA _ (YA _ hb))
  have:=YJ hb
  rw[z,sz] at this
  exact XQ _ (zB this)
theorem Qo {it l:Addr}{i:Nat}{items}{Q:Option Value->Shared->Prop}(hq:Qt A s.heap)
  (hit:s.heap.IsListIter it l i) (hl:s.heap.IsList l items) (hx:items[i]?=none)
  (hQ:∀ h',Heap.ExtBut it s.heap h'->Q none { s with heap:=h' }):wpAny (model prog w) A (pyNext (.ref it)) Q E s:=by
 obtain⟨o,ho,hc,hd⟩:=id hit
 obtain⟨ol,hol,_,nl,hdl⟩:=hl
 unfold pyNext
 refine YB (jq (JL (name:=Str.ofString "__next__") hit.typeIs zN
  (GK zN hit.typeIs entry_listiter_next ?_ (args_listiter_next _))))
 show wpAny _ _ (field (.ref it) 0 >>= _) _ _ s
 refine YB (XJ ho hd (x:=.ref l) rfl ?_)
 show wpAny _ _ (if (Value.ref l == Value.none)=true then _ else _) _ _ s
 rw[YG (show ¬ ((Value.ref l == Value.none)=true) from YT)]
 show wpAny _ _ (field (.ref it) 1 >>= _) _ _ s
 refine YB (XJ ho hd (x:=.int i 0) rfl ?_)
 show wpAny _ _ (seqItems? (.ref l) >>= _) _ _ s
 refine YB (GH hol hdl ?_)
 simp only [zc,hx]
 refine YB (zO (YB (qe ho hd (by simp) ?_)))
 refine Rx (hq:=(hq.but ho fun n=>?_)) fun h' e k he=>?_
 ·obtain⟨vs,e1,e2⟩:=n
  rw[hd] at e1
  cases e1
  simp at e2
 obtain⟨oe,h1,h2⟩:=he
 refine YB (ji (T:="StopIteration") (b:=true) ⟨_,h1,h2⟩ Y06 ?_)
 exact YR (hQ _ fun b o hb e=>k b o ((GT ..).extBut b o hb e))
theorem Sj {it t:Addr}{i:Nat}{items}{Q:Option Value->Shared->Prop}(hq:Qt A s.heap)
  (hit:s.heap.IsTupleIter it t i) (ht:s.heap.IsTuple t items) (hx:items[i]?=none)
  (hQ:∀ h',Heap.ExtBut it s.heap h'->Q none { s with heap:=h' }):wpAny (model prog w) A (pyNext (.ref it)) Q E s:=by
 obtain⟨o,ho,hc,hd⟩:=id hit
 obtain⟨ol,hol,_,nl,hdl⟩:=ht
 unfold pyNext
 refine YB (jq (JL (name:=Str.ofString "__next__") hit.typeIs JY
  (GK JY hit.typeIs zC ?_ (zt _))))
 show wpAny _ _ (field (.ref it) 0 >>= _) _ _ s
 refine YB (XJ ho hd (x:=.ref t) rfl ?_)
 show wpAny _ _ (if (Value.ref t == Value.none)=true then _ else _) _ _ s
 rw[YG (show ¬ ((Value.ref t == Value.none)=true) from YT)]
 show wpAny _ _ (field (.ref it) 1 >>= _) _ _ s
 refine YB (XJ ho hd (x:=.int i 0) rfl ?_)
 show wpAny _ _ (seqItems? (.ref t) >>= _) _ _ s
 refine YB (GH hol hdl ?_)
 simp only [zc,hx]
 refine YB (zO (YB (qe ho hd (by simp) ?_)))
 refine Rx (hq:=(hq.but ho fun n=>?_)) fun h' e k he=>?_
 ·obtain⟨vs,e1,e2⟩:=n
  rw[hd] at e1
  cases e1
  simp at e2
 obtain⟨oe,h1,h2⟩:=he
 refine YB (ji (T:="StopIteration") (b:=true) ⟨_,h1,h2⟩ Y06 ?_)
 exact YR (hQ _ fun b o hb e=>k b o ((GT ..).extBut b o hb e))
theorem Sm {it:Addr}{x left step:Int}{Q:Option Value->Shared->Prop}(hq:Qt A s.heap)(hit:IsRangeIter s.heap it x left step)(hleft:left<=0)
  (hQ:∀ h',Heap.ExtBut it s.heap h'->Q none { s with heap:=h' }):wpAny (model prog w) A (pyNext (.ref it)) Q E s:=by
 have hT:s.TypeIs (.ref it) "range_iterator":=⟨_,hit,rfl⟩
 unfold pyNext
 refine YB (jq (JL (name:=Str.ofString "__next__") hT Y07
  (GK Y07 hT F.entry_range_iterator_next ?_ (F.args_range_iterator_next_1 _))))
 show wpAny _ _ (field (.ref it) 0 >>= _) _ _ s
 refine YB (XJ hit rfl (x:=rawInt x) rfl ?_)
 show wpAny _ _ (field (.ref it) 1 >>= _) _ _ s
 refine YB (XJ hit rfl (x:=rawInt left) rfl ?_)
 show wpAny _ _ (field (.ref it) 2 >>= _) _ _ s
 refine YB (XJ hit rfl (x:=rawInt step) rfl ?_)
 show wpAny _ _ (if left<=0 then _ else _) _ _ s
 rw[YM hleft]
 refine YB (zO ?_)
 refine YB ?_
 refine Rx (hq:=hq) fun h' e k he=>?_
 obtain⟨oe,h1,h2⟩:=he
 refine YB (ji (T:="StopIteration") (b:=true) ⟨_,h1,h2⟩ Y06 ?_)
 exact YR (hQ _ fun b o hb e=>k b o e)
theorem Pf {t:Addr}{items:Array Value}{Q:List Value->Shared->Prop}(hq:Qt A s.heap)(ht:IsTup s.heap t items)
  (hQ:∀ h',Heap.ExtBut s.heap.objs.size s.heap h'->Q items.toList { s with heap:=h' }):wpAny (model prog w) A (unpackItems (.ref t) items.size none) Q E s:=by
 have hlt:t≠s.heap.objs.size:=by obtain⟨o,ho,_⟩:=ht;exact XA (YJ ho)
 unfold unpackItems
 refine YB ?_
 ·unfold notIterableAtAll
  refine YB (wpAny_specialOf ht.typeIs slot_tuple_iter.lookup ?_)
  refine YR ?_
  simp only [GY,Y08]
  refine YB (GB (iter_tuple ht ?_))
  refine YB (GB (draw_tuple hlt items.size 0 _ _ ⟨_,YO _ rfl,rfl,rfl⟩ (ht.push _) (by omega) fun h₁ hit₁ hs₁=>?_))
  have hall:List.take items.size (List.drop 0 items.toList)=items.toList:=by
   rw[List.drop_zero];exact YN (by simp)
  rw[hall]
  rw[YG (by simp)]
  have ht₁:IsTup h₁ t items:=(ht.push _).extBut hs₁.extBut hlt
  have kp:∀ b o,s.heap.get? b=some o->h₁.get? b=some o:=fun b o e=>hs₁.extBut b o (fun z=>by have:=YJ e;rw[z] at this;exact XQ _ this) (YA _ e)
  refine YB (GB (Sj (hq.keeps fun b o e _=>kp b o e) hit₁ ht₁ (by simp) fun h₂ he₂=>?_))
  simp only [Option.isSome_none,GY,Y08]
  refine YR (hQ h₂ fun b o hb e=>he₂ b o hb (kp b o e))
theorem Pe {env:Env}{elts:List Expr}{x1}{pos:Pos}{t:Addr}{items:Array Value}{Q:Unit->Shared->Prop}(hq:Qt A s.heap)(ht:IsTup s.heap t items)
  (hn:(assignEach elts env).length=items.size) (hstar:(assignEach elts env).findIdx? (·.1)=none)
  (h:∀ h',Heap.ExtBut s.heap.objs.size s.heap h'->wpAny (model prog w) A (assignInOrder ((assignEach elts env).map (·.2)) items.toList) Q E { s with heap:=h' }) :
  wpAny (model prog w) A (assign (.Tuple elts x1 pos) env (.ref t)) Q E s:=by
 rw[assign_Tuple]
 refine YB (zx ?_)
 unfold unpack
 rw[hn,hstar]
 exact YB (GB (Pf hq ht h))
end
theorem Walks.listQ {prog:Program}{w:World}{A:Around}{qs:List (Addr × Obj)}(hq:QtP A qs)(I ax:Addr)(hne:ax≠I)(hqs:∀ p∈qs,p.1≠I)(items:Array Value) :
  Walks prog w A I (I::ax::qs.map Prod.fst) [I] items.size (fun i v=>items[i]?=some v) (fun i h=>h.IsListIter I ax i/\h.IsList ax items/\∀ p∈qs,h.get? p.1=some p.2) where
 sub:=fun b hb=>by simp at hb;simp[hb]
 frame:=fun _ _ _ st hk=>⟨st.1.at fun o e=>hk I (by simp) o e,st.2.1.at fun o e=>hk ax (by simp) o e,fun p hp=>hk p.1 (by simp;exact .inr (.inr ⟨p.2,hp⟩)) p.2 (st.2.2 p hp)⟩
 item:=fun i s Q E hi st hQ=>by
  refine wpAny_pyNext_list_item st.1 st.2.1 (x:=items[i]) (by simp[hi]) fun h' hit' hs'=>?_
  exact hQ _ h' s.toks (by simp[hi]) ⟨hit',st.2.1.extBut hs'.extBut hne,fun p hp=>hs'.extBut p.1 p.2 (hqs p hp) (st.2.2 p hp)⟩ fun b o hb e=>hs'.extBut b o (fun h=>hb (by simp[h])) e
 done:=fun s Q E st hQ=>Qo (hq.at st.2.2) st.1 st.2.1 (by simp) fun h' he'=>hQ h' s.toks fun b o hb e=>he' b o (fun h=>hb (by simp[h])) e
 self:=fun _ _ _ _ st hQ=>wpAny_pyIter_listiter st.1 hQ
theorem Q9 {prog:Program}{w:World}{A:Around}{I:Addr}{a c:Int}{n:Nat}(i:Nat)(s:Shared)(Q:Option Value->Shared->Prop)(E:Value->Shared->Prop)(hi:i<n)(st:IsRangeIter s.heap I (a+(i:Nat)*c) ((n:Int) - (i:Nat)) c)
  (hQ:∀ v h' tk,(∃ t,v=Value.int (a+i*c) t)->IsRangeIter h' I (a+((i+1:Nat):Int)*c) ((n:Int) - ((i+1:Nat):Int)) c->(∀ b o,b ∉ [I]->s.heap.get? b=some o->h'.get? b=some o)->Q (some v) { s with heap:=h',toks:=tk }) :
  wpAny (model prog w) A (pyNext (.ref I)) Q E s:=by
 refine wpAny_pyNext_range_item st (by omega) fun h' hit' hs'=>?_
 refine hQ _ h' _ ⟨_,rfl⟩ ?_ fun b o hb e=>hs'.extBut b o (fun h=>hb (by simp[h])) e
 have e1:a+((i+1:Nat):Int)*c=a+(i:Int)*c+c:=by push_cast;rw[Int.add_mul,GU,Int.add_assoc]
 have e2:(n:Int) - ((i+1:Nat):Int)=(n:Int) - (i:Int) - 1:=by push_cast;omega
 rw[e1,e2];exact hit'
def QtE (A:Around)(h:Heap)(H:Addr->Option α)(fs:List Addr):Prop:=A.handled=none \/ ∃ a o,A.handled=some (.ref a)/\h.get? a=some o/\NoCtx o/\H a=none/\a ∉ fs/\∀ v,o.data≠.cell v
def qpin (A:Around)(h:Heap):List (Addr × Obj):=match A.handled with
 | some (.ref a)=>match h.get? a with
  | some o=>[(a,o)]
  | none=>[]
 | _=>[]
theorem QtE.pin {A:Around}{h:Heap}{H:Addr->Option α}{fs:List Addr}(q:QtE A h H fs):QtP A (qpin A h):=by
 rcases q with q | ⟨a,o,e,g,n,_⟩
 ·exact .inl q
 ·refine .inr ⟨(a,o),?_,e,n⟩
  unfold qpin
  rw[e]
  dsimp only
  rw[g]
  simp
theorem QtE.mem {A:Around}{h:Heap}{H:Addr->Option α}{fs:List Addr}(q:QtE A h H fs)(p:Addr × Obj)(hp:p∈qpin A h):h.get? p.1=some p.2/\H p.1=none/\p.1 ∉ fs/\∀ v,p.2.data≠.cell v:=by
 rcases q with q | ⟨a,o,e,g,n,h1,h2,h3⟩
 ·unfold qpin at hp
  rw[q] at hp
  cases hp
 ·unfold qpin at hp
  rw[e] at hp
  dsimp only at hp
  rw[g] at hp
  obtain rfl:p=(a,o):=by simpa using hp
  exact⟨g,h1,h2,h3⟩
section
variable {prog:Program}{w:World}{A:Around}{E:Value->Shared->Prop}{s:Shared}
theorem Tc {it l:Addr}{i:Nat}{items}{Q:Value->Shared->Prop}(hq:Qt A s.heap)
  (hit:s.heap.IsListIter it l i) (hl:s.heap.IsList l items) (hx:items[i]?=none)
  (hE:∀ h' e,Heap.ExtBut it s.heap h'->(∃ o,h'.get? e=some o/\o.cls=.type "StopIteration")->E (.ref e) { s with heap:=h' }) :
  wpAny (model prog w) A (Builtin.SmallTypes.nextOf (.ref it)) Q E s:=by
 obtain⟨o,ho,hc,hd⟩:=id hit
 obtain⟨ol,hol,_,nl,hdl⟩:=hl
 unfold Builtin.SmallTypes.nextOf
 refine YB (JL (name:=Str.ofString "__next__") hit.typeIs zN
  (GK zN hit.typeIs entry_listiter_next ?_ (args_listiter_next _)))
 show wpAny _ _ (field (.ref it) 0 >>= _) _ _ s
 refine YB (XJ ho hd (x:=.ref l) rfl ?_)
 show wpAny _ _ (if (Value.ref l == Value.none)=true then _ else _) _ _ s
 rw[YG (show ¬ ((Value.ref l == Value.none)=true) from YT)]
 show wpAny _ _ (field (.ref it) 1 >>= _) _ _ s
 refine YB (XJ ho hd (x:=.int i 0) rfl ?_)
 show wpAny _ _ (seqItems? (.ref l) >>= _) _ _ s
 refine YB (GH hol hdl ?_)
 simp only [zc,hx]
 refine YB (zO (YB (qe ho hd (by simp) ?_)))
 refine Rx (hq:=(hq.but ho fun n=>?_)) fun h' e k he=>?_
 ·obtain⟨vs,e1,e2⟩:=n
  rw[hd] at e1
  cases e1
  simp at e2
 exact hE _ _ (fun b o hb e=>k b o ((GT ..).extBut b o hb e)) he
end
theorem Draws.listQ {prog:Program}{w:World}{A:Around}{qs:List (Addr × Obj)}(hq:QtP A qs)(it l:Addr)(hne:l≠it)(hqs:∀ p∈qs,p.1≠it)(items:Array Value) :
  Draws prog w A it (it::l::qs.map Prod.fst) items.size (fun i v=>items[i]?=some v) (fun i h=>h.IsListIter it l i/\h.IsList l items/\∀ p∈qs,h.get? p.1=some p.2) where
 live:=fun _ _ st=>let ⟨o,ho,_⟩:=st.1;⟨o,ho⟩
 frame:=fun _ _ _ st hk=>⟨st.1.at fun o e=>hk it (by simp) o e,st.2.1.at fun o e=>hk l (by simp) o e,fun p hp=>hk p.1 (by simp;exact .inr (.inr ⟨p.2,hp⟩)) p.2 (st.2.2 p hp)⟩
 item:=fun i s Q E hi st hQ=>by
  refine wpAny_nextOf_list_item st.1 st.2.1 (x:=items[i]) (by simp[hi]) fun h' hit' hs'=>?_
  exact hQ _ h' s.toks (by simp[hi]) ⟨hit',st.2.1.extBut hs'.extBut hne,fun p hp=>hs'.extBut p.1 p.2 (hqs p hp) (st.2.2 p hp)⟩ hs'
 done:=fun s Q E st hE=>Tc (hq.at st.2.2) st.1 st.2.1 (by simp) hE
section
variable {prog:Program}{w:World}{A:Around}{E:Value->Shared->Prop}{s:Shared}{l:Addr}{xs:Array (Int × Tok)}{qs:List (Addr × Obj)}
theorem Z17 {Q:Value->Shared->Prop}(hp:∀ p∈qs,s.heap.get? p.1=some p.2)(hl:s.heap.IsList l (intItems xs))
  (h:∀ s₂:Shared,s₂={ s with heap:=s.heap.push { cls:=.type "list_iterator",data:=.fields #[.ref l,.int 0 0] } } →
   (s₂.heap.IsListIter s.heap.objs.size l 0/\s₂.heap.IsList l (intItems xs)/\∀ p∈qs,s₂.heap.get? p.1=some p.2)->(∀ b∈s.heap.objs.size::l::qs.map Prod.fst,b<s₂.heap.objs.size)->l≠s.heap.objs.size->(∀ p∈qs,p.1≠s.heap.objs.size)->Q (.ref s.heap.objs.size) s₂) :
  wpAny (model prog w) A (pyIter (.ref l)) Q E s:=by
 refine iter_intList hl fun s₂ e st hb hne=>h s₂ e ⟨st.1,st.2,fun p q=>?_⟩ (fun b m=>?_) hne fun p q=>XA (YJ (hp p q))
 ·rw[e]
  exact YA _ (hp p q)
 ·rcases YS.mp m with m | m
  ·exact hb b (by simp[m])
  ·rcases YS.mp m with m | m
   ·exact hb b (by simp[m])
   ·obtain⟨p,q,rfl⟩:=XG.mp m
    rw[e]
    show _<(s.heap.push _).objs.size
    rw[XM]
    exact Nat.lt_succ_of_lt (YJ (hp p q))
theorem Z6f {Q:Value->Shared->Prop}(hq:QtP A qs)(hp:∀ p∈qs,s.heap.get? p.1=some p.2)(hl:s.heap.IsList l (intItems xs))(hne:0<xs.size)
  (h:∀ v h' tk,(intItems xs)[argBest (fun i j=>decide (numAt xs i<numAt xs j)) (xs.size - 1)]?=some v->(∀ b o,s.heap.get? b=some o->h'.get? b=some o)->Q v { s with heap:=h',toks:=tk }) :
  wpAny (model prog w) A (call (.builtin "min") [.ref l]) Q E s:=by
 refine call_min_walk (Z17 hp hl fun s₂ e st hfp hlI hqI=>?_)
 subst e
 refine⟨_,_,_,_,_,_,_,rfl,Walks.listQ (A:=A.in1) hq _ l hlI hqI (intItems xs),st,hfp,by simpa [intItems] using hne,CmpOf.ints_lt (numAt xs) (fun _ _=>intItems_at),fun v h' tk hP hk=>?_⟩
 exact h v h' tk (by simpa [intItems] using hP) (old_kept hk)
theorem Z60 {Q:Value->Shared->Prop}(hq:QtP A qs)(hp:∀ p∈qs,s.heap.get? p.1=some p.2)(hl:s.heap.IsList l (intItems xs))
  (h:∀ h' tk t',(∀ b o,s.heap.get? b=some o->h'.get? b=some o)->Q (.int (preSum (numAt xs) xs.size) t') { s with heap:=h',toks:=tk }) :
  wpAny (model prog w) A (call (.builtin "sum") [.ref l]) Q E s:=by
 refine call_sum_walkG (Z17 hp hl fun s₂ e st hfp hlI hqI=>?_)
 subst e
 refine⟨_,_,_,_,_,_,numAt xs,rfl,Walks.listQ (A:=A.in1) hq _ l hlI hqI (intItems xs),st,hfp,(fun _ _=>intItems_at),fun h' tk t' hk=>?_⟩
 have:=h h' tk t' (old_kept hk)
 simpa [intItems] using this
end
theorem Walks.rangeQ {prog:Program}{w:World}{A:Around}{qs:List (Addr × Obj)}(hq:QtP A qs)(I:Addr)(hqs:∀ p∈qs,p.1≠I)(a c:Int)(n:Nat) :
  Walks prog w A I (I::qs.map Prod.fst) [I] n (fun i v=>∃ t,v=.int (a+i*c) t) (fun i h=>IsRangeIter h I (a+(i:Nat)*c) ((n:Int) - (i:Nat)) c/\∀ p∈qs,h.get? p.1=some p.2) where
 sub:=fun b hb=>by simp at hb;simp[hb]
 frame:=fun _ _ _ st hk=>⟨hk I (by simp) _ st.1,fun p hp=>hk p.1 (by simp;exact .inr ⟨p.2,hp⟩) p.2 (st.2 p hp)⟩
 item:=fun i s Q E hi st hQ=>by
  refine Q9 i s _ _ hi st.1 fun v h' tk hv st' hk=>hQ v h' tk hv ⟨st',fun p hp=>hk p.1 p.2 (by simp[hqs p hp]) (st.2 p hp)⟩ fun b o hb e=>hk b o hb e
 done:=fun s Q E st hQ=>Sm (hq.at st.2) st.1 (by omega) fun h' he'=>hQ h' s.toks fun b o hb e=>he' b o (fun h=>hb (by simp[h])) e
 self:=fun _ _ _ _ st hQ=>wpAny_pyIter_rangeiter st.1 hQ
section
variable {prog:Program}{w:World}{A:Around}{s:Shared}
theorem P0 {R:Result->Shared->Prop}{r:Addr}{a b c:Int}{t u v:Tok}{n:Nat}{qs:List (Addr × Obj)}(hq:QtP A qs)(hp:∀ p∈qs,s.heap.get? p.1=some p.2)(hr:IsRange s.heap r a b c t u v)(hsmall:Builtin.Range.small a b c=true)
  (hn:Builtin.Range.rangeSize a b c=n) (hlen:n<=2 ^ 24) (S:Addr) (res:Value) (c₀:Nat) (hS:s.heap.get? S=some { cls:=.type "list",data:=.seq #[] c₀ }) (hSq:∀ p∈qs,p.1≠S)
  (hR:∀ h' tk acc' c',(∀ b o,b≠S->s.heap.get? b=some o->h'.get? b=some o)->h'.get? S=some { cls:=.type "list",dict:=none,data:=.seq acc' c',slots:=#[] } →
   ItemsOf (fun i v=>∃ t,v=.int (a+i*c) t) acc' n->R (.ok (.ret res)) { s with heap:=h',toks:=tk }) :
  wpAny (model prog w) A.in1 (Builtin.List.listExtendWith (.ref S) (.ref r) res)
   (fun fin s'=>match fin with | .done f=>R (.ok f) s' | .again c'=>c'.quiet=true/\codeAny (model prog w) A c' R s') (fun e s'=>R (.error e) s') s:=by
 have hSr:S≠r:=fun e=>by rw[e,hr] at hS;simp at hS
 have hSlt:S<s.heap.objs.size:=YJ hS
 have hSI:S≠s.heap.objs.size:=XA hSlt
 have hSf:S ∉ s.heap.objs.size::qs.map Prod.fst:=fun hm=>(YS.mp hm).elim hSI fun hm=>by
  obtain⟨p,q,e⟩:=XG.mp hm
  exact hSq p q e
 have W:=(Walks.rangeQ (prog:=prog) (w:=w) (A:=A.in1) hq s.heap.objs.size (fun p q=>XA (YJ (hp p q))) a c n).toS
 have key:∀ (h:Heap) (c₁ tk:Nat),IsRangeIter h s.heap.objs.size (a+((0:Nat):Int)*c) ((n:Int) - ((0:Nat):Int)) c->(∀ b o,b≠S->s.heap.get? b=some o->h.get? b=some o) →
   h.get? S=some { cls:=.type "list",data:=.seq #[] c₁ }->codeAny (model prog w) A (.builtin "list.extend.loop" ⟨[.ref S,.ref s.heap.objs.size,res],[]⟩) R { s with heap:=h,toks:=tk }:=by
  intro h c₁ tk hit hk hS₁
  refine codeAny_extend_loopS W (by rw[Y0q];omega) S hSf res n 0 _ #[] c₁ rfl (JZ _) ⟨hit,fun p q=>hk p.1 p.2 (hSq p q) (hp p q)⟩ hS₁ (ItemsOf.nil _) fun s' acc' c' hm hS' hacc=>?_
  rw[Moved.eq_with hm]
  refine hR s'.heap s'.toks acc' c' (fun b o hb e=>hm.heap b o (fun hmem=>?_) (hk b o hb e)) hS' hacc
  rcases YS.mp hmem with e' | hmem
  ·exact hb e'
  ·exact absurd (YJ e) (by rw[JP.mp hmem];exact XQ _)
 unfold Builtin.List.listExtendWith
 refine YB (wpAny_typeOf (T:="range") ⟨_,hr,rfl⟩ ?_)
 have h1:Builtin.List.listSameRef (.ref S) (.ref r)=false:=by simp[Builtin.List.listSameRef,hSr]
 have h2:(Value.type "range" == Value.type "list")=false:=by decide
 have h3:(Value.type "range" == Value.type "tuple")=false:=by decide
 simp only [h1,h2,h3,Bool.or_false,GY,Y08]
 refine YB (wpAny_pyIter_range hr hsmall ?_)
 refine YB (GB (wpAny_hint_range (n:=n) (YA _ hr) hn hlen ?_))
 have hit₁:IsRangeIter (s.heap.push { cls:=.type "range_iterator",data:=.fields #[rawInt a,rawInt (Builtin.Range.rangeSize a b c),rawInt c] }) s.heap.objs.size (a+((0:Nat):Int)*c) ((n:Int) - ((0:Nat):Int)) c:=by
  show IsRangeIter _ _ _ _ _;rw[hn];simpa using YO _ rfl
 have hS₁:=YA { cls:=.type "range_iterator",data:=.fields #[rawInt a,rawInt (Builtin.Range.rangeSize a b c),rawInt c] } hS
 refine wpAny_ite_split (fun _=>?_) (fun _=>YR ⟨plainId_quiet F.plain_extend_loop _,key _ c₀ _ hit₁ (fun b o _ e=>YA _ e) hS₁⟩)
 refine YB (zO ?_)
 refine YB ?_
 show wpAny _ _ (updateSeq S (·.push .none) >>= fun _=>updateSeq S (·.pop)) _ _ _
 refine YB (Y0M hS₁ rfl ?_)
 have hS₂:=JJ (Obj.mapSeq (·.push Value.none)) hS₁ rfl
 refine Y0M (hz:=by seq_fits) hS₂ rfl ?_
 have hS₃:=JJ (Obj.mapSeq (·.pop)) hS₂ rfl
 refine YR ⟨plainId_quiet F.plain_extend_loop _,key _ _ _ ?_ (fun b o hb e=>?_) hS₃⟩
 ·exact (XT _ _ hSI).trans ((XT _ _ hSI).trans hit₁)
 ·exact (XT _ _ (XO hb)).trans ((XT _ _ (XO hb)).trans (YA _ e))
theorem Th {R:Result->Shared->Prop}{r:Addr}{a b c:Int}{t u v:Tok}{n:Nat}{qs:List (Addr × Obj)}(hq:QtP A qs)(hp:∀ p∈qs,s.heap.get? p.1=some p.2)(hr:IsRange s.heap r a b c t u v)(hsmall:Builtin.Range.small a b c=true)
  (hn:Builtin.Range.rangeSize a b c=n) (hlen:n<=2 ^ 24) (S:Addr) (hS:s.heap.get? S=some { cls:=.type "list",data:=.seq #[] }) (hSq:∀ p∈qs,p.1≠S)
  (hR:∀ h' tk acc' c',(∀ b o,b≠S->s.heap.get? b=some o->h'.get? b=some o)->h'.get? S=some { cls:=.type "list",dict:=none,data:=.seq acc' c',slots:=#[] } →
   ItemsOf (fun i v=>∃ t,v=.int (a+i*c) t) acc' n->R (.ok (.ret .none)) { s with heap:=h',toks:=tk }) :
  wpAny (model prog w) A.in1 (Builtin.«list.__init__» ⟨[.ref S,.ref r],[]⟩)
   (fun fin s'=>match fin with | .done f=>R (.ok f) s' | .again c'=>c'.quiet=true/\codeAny (model prog w) A c' R s') (fun e s'=>R (.error e) s') s:=by
 have hSr:S≠r:=fun e=>by rw[e,hr] at hS;simp at hS
 show wpAny _ _ (do let old ← Builtin.List.listItems (.ref S);Builtin.List.listUpdate (.ref S) (fun _=>#[]);letGo old.toList.reverse;Builtin.List.listExtendWith (.ref S) (.ref r) .none) _ _ s
 refine YB ?_
 unfold Builtin.List.listItems
 refine YB (GH hS rfl (YR ?_))
 show wpAny _ _ (updateSeq S (fun _=>#[]) >>= fun _=>letGo (#[]:Array Value).toList.reverse >>= fun _=>Builtin.List.listExtendWith (.ref S) (.ref r) .none) _ _ s
 refine YB (Y0M hS rfl ?_)
 have hS₂:=JJ (Obj.mapSeq (fun _=>(#[]:Array Value))) hS rfl
 have oth:∀ b o,b≠S->s.heap.get? b=some o->(s.heap.update S (Obj.mapSeq (fun _=>(#[]:Array Value)))).get? b=some o :=
  fun b o hb e=>(XT _ _ (XO hb)).trans e
 refine YB (Y0P ?_)
 refine P0 hq (fun p q=>oth p.1 p.2 (hSq p q) (hp p q)) (oth r _ (XO hSr) hr) hsmall hn hlen S .none _ hS₂ hSq fun h' tk acc' c' hk hS' hacc=>?_
 exact hR h' tk acc' c' (fun b o hb e=>hk b o hb (oth b o hb e)) hS' hacc
end
section
variable {prog:Program}{w:World}{A:Around}{E:Value->Shared->Prop}{s:Shared}
theorem Nw {Q:Value->Shared->Prop}{r:Addr}{a b c:Int}{t u v:Tok}{n:Nat}{qs:List (Addr × Obj)}(hq:QtP A qs)(hp:∀ p∈qs,s.heap.get? p.1=some p.2)(hr:IsRange s.heap r a b c t u v)(hsmall:Builtin.Range.small a b c=true)
  (hn:Builtin.Range.rangeSize a b c=n) (hlen:n<=2 ^ 24)
  (hQ:∀ h' tk acc' c',(∀ b o,s.heap.get? b=some o->h'.get? b=some o) →
   h'.get? s.heap.objs.size=some { cls:=.type "list",dict:=none,data:=.seq acc' c',slots:=#[] }->ItemsOf (fun i v=>∃ t,v=.int (a+i*c) t) acc' n->Q (.ref s.heap.objs.size) { s with heap:=h',toks:=tk }) :
  wpAny (model prog w) A (call (.type "list") [.ref r]) Q E s:=by
 refine callType_codes (Q₁:=fun obj s₁=>obj=.ref s.heap.objs.size/\s₁={ s with heap:=s.heap.push { cls:=.type "list",data:=.seq #[] } }) F.called_list (F.typeCall_list_1 _) F.entry_list_init
  (code_list_new _ ⟨rfl,rfl⟩) fun obj s₁ h₁=>?_
 obtain⟨rfl,rfl⟩:=h₁
 have hS:(s.heap.push { cls:=.type "list",data:=.seq #[] }).get? s.heap.objs.size=some { cls:=.type "list",data:=.seq #[] }:=YO _ rfl
 refine⟨⟨_,hS,rfl⟩,F.args_list_init_2 _ _,Th (A:=A.in1) hq (fun p q=>YA _ (hp p q)) (YA _ hr) hsmall hn hlen _ hS (fun p q=>XA (YJ (hp p q))) fun h' tk acc' c' hk hS' hacc=>?_⟩
 exact⟨rfl,hQ h' tk acc' c' (fun b o e=>hk b o (XA (YJ e)) (YA _ e)) hS' hacc⟩
end
end Sb
namespace L2
open PySem PySem.Spec PyProof.Rows
abbrev Key:=Sum Int Str
def keyIs:Key->Value->Bool
 | .inl k,v=>Value.isInt k v
 | .inr x,v=>Value.isStrOf x v
def keyH (w:World):Key->Int
 | .inl k=>hashInt k
 | .inr x=>hashStr w x
theorem Ys:∀ {k:Key} {v:Value},keyIs k v=true->(∃ i t,k=Sum.inl i/\v=Value.int i t) \/ (∃ x t,k=Sum.inr x/\v=Value.str x t)
 | .inl i,v,h=>by
  obtain⟨t,e⟩:=Value.isInt_shape (k:=i) (v:=v) h
  exact .inl ⟨i,t,rfl,e⟩
 | .inr x,v,h=>by
  obtain⟨t,e⟩:=Value.isStrOf_shape (x:=x) (v:=v) h
  exact .inr ⟨x,t,rfl,e⟩
theorem Z5m (a b:Int):decide ((Sum.inl a:Key)=Sum.inl b)=(a == b):=by
 by_cases e:a=b
 ·subst e;simp
 ·have h:¬ (Sum.inl a:Key)=Sum.inl b:=fun q=>e (Sum.inl.inj q)
  rw[JI h]
  exact (JF.mpr e).symm
theorem Z5j (a b:Str):decide ((Sum.inr a:Key)=Sum.inr b)=decide (a=b):=by
 by_cases e:a=b
 ·subst e;simp
 ·have h:¬ (Sum.inr a:Key)=Sum.inr b:=fun q=>e (Sum.inr.inj q)
  rw[JI h,JI e]
theorem Z5l (a:Int)(b:Str):decide ((Sum.inl a:Key)=Sum.inr b)=false:=JI (fun q=>nomatch q)
theorem Z5k (a:Str)(b:Int):decide ((Sum.inr a:Key)=Sum.inl b)=false:=JI (fun q=>nomatch q)
def mixKind (prog:Program)(w:World):PySem.KeyKind prog w Key where
 is:=keyIs
 hash:=keyH w
 inj:=fun v a b ha hb=>by
  rcases Ys ha with ⟨i,t,rfl,rfl⟩ | ⟨x,t,rfl,rfl⟩
  ·rcases Ys hb with ⟨j,u,rfl,e⟩ | ⟨y,u,rfl,e⟩
   ·injection e with e1 _;rw[e1]
   ·exact nomatch e
  ·rcases Ys hb with ⟨j,u,rfl,e⟩ | ⟨y,u,rfl,e⟩
   ·exact nomatch e
   ·injection e with e1 _;rw[e1]
 byValue:=fun k v h=>by
  rcases Ys h with ⟨i,t,rfl,rfl⟩ | ⟨x,t,rfl,rfl⟩ <;> rfl
 pyHash:=fun hv h=>by
  rcases Ys hv with ⟨i,t,rfl,rfl⟩ | ⟨x,t,rfl,rfl⟩
  ·exact wpAny_pyHash_int h
  ·exact wpAny_pyHash_str h
 eqBool:=fun hu hv h=>by
  rcases Ys hu with ⟨i,t,rfl,rfl⟩ | ⟨x,t,rfl,rfl⟩
  ·rcases Ys hv with ⟨j,u,rfl,rfl⟩ | ⟨y,u,rfl,rfl⟩
   ·rw[Z5m] at h;exact wpAny_eqBool_int h
   ·rw[Z5l] at h;exact SeqAt.EqAt.int_str i t y u _ _ _ _ h
  ·rcases Ys hv with ⟨j,u,rfl,rfl⟩ | ⟨y,u,rfl,rfl⟩
   ·rw[Z5k] at h;exact SeqAt.EqAt.str_int x t j u _ _ _ _ h
   ·rw[Z5j] at h;exact wpAny_eqBool_str h
 «strs»:=fun k x t v h=>by
  rcases Ys h with ⟨i,u,rfl,e⟩ | ⟨y,u,rfl,e⟩
  ·exact nomatch e
  ·injection e with e1 _
   subst e1
   cases v <;> rfl
end L2
namespace L2
open PySem PySem.Spec PyProof.Rows
inductive V where
 | non | bl (b:Bool) | int (i:Int) | str (x:Str) | byt (b:Array UInt8) | flt (b:UInt64) | ref (a:Addr) | ty (n:String)
 deriving DecidableEq
def RelV:V->Value->Prop
 | .non,u=>u=Value.none
 | .bl b,u=>u=Value.bool b
 | .int i,u=>∃ t,u=Value.int i t
 | .str x,u=>∃ t,u=Value.str x t
 | .byt b,u=>∃ t,u=Value.bytes b t
 | .flt b,u=>∃ t,u=Value.float b t
 | .ref a,u=>u=Value.ref a
 | .ty n,u=>u=Value.type n
abbrev Vals:List V->List Value->Prop:=Paired RelV
theorem Vals.length {xs:List V}{us:List Value}(r:Vals xs us):xs.length=us.length:=XW r
theorem Vals.get:∀ {xs:List V} {us:List Value} {i:Nat} {x:V},Vals xs us->xs[i]?=some x->∃ u,us[i]?=some u/\RelV x u
 | _,_,_,_,.nil,e=>by simp at e
 | _,_,0,_,.cons r _,e=>by simp at e;subst e;exact⟨_,rfl,r⟩
 | _,_,i+1,x,.cons _ t,e=>by
  obtain⟨u,h1,h2⟩:=Vals.get (i:=i) (x:=x) t (by simpa using e)
  exact⟨u,by simpa using h1,h2⟩
theorem Vals.set {x:V}{u:Value}(r:RelV x u):∀ {xs:List V} {us:List Value} (i:Nat),Vals xs us->Vals (xs.set i x) (us.set i u)
 | _,_,_,.nil=>.nil
 | _,_,0,.cons _ t=>.cons r t
 | _,_,i+1,.cons q t=>.cons q (Vals.set r i t)
theorem Vals.append:∀ {xs ys:List V} {us ws:List Value},Vals xs us->Vals ys ws->Vals (xs++ys) (us++ws)
 | _,_,_,_,.nil,s=>s
 | _,_,_,_,.cons r t,s=>.cons r (Vals.append t s)
theorem Vals.take:∀ {xs:List V} {us:List Value} (n:Nat),Vals xs us->Vals (xs.take n) (us.take n)
 | _,_,0,_=>.nil
 | _,_,_+1,.nil=>.nil
 | _,_,n+1,.cons r t=>.cons r (Vals.take n t)
theorem Vals.drop:∀ {xs:List V} {us:List Value} (n:Nat),Vals xs us->Vals (xs.drop n) (us.drop n)
 | _,_,0,r=>r
 | _,_,_+1,.nil=>.nil
 | _,_,n+1,.cons _ t=>Vals.drop n t
def RelO:Option V->Option Value->Prop
 | some v,some u=>RelV v u
 | none,none=>True
 | _,_=>False
def KV {κ:Type}:List (κ × V)->List (κ × Value)->Prop:=Paired fun (p:κ × V) (q:κ × Value)=>p.1=q.1/\RelV p.2 q.2
def kV:Key->V
 | .inl i=>.int i
 | .inr x=>.str x
inductive HO where
 | lst (xs:List V)
 | tup (xs:List V)
 | dK (kvs:List (Key × V)) | dT (kvs:List (List Key × V))
 | set (S:Int->Bool) (n:Nat)
 | ins (C dx:Addr) (fs:List (Str × V))
 | own (x:Addr)
 | xd (fs:List (Str × V))
 | met (f x:Addr)
 | rng (lo hi:Int)
 | frz (o:Obj) (u:HO)
 | tbl (ps:Array Value)
 | ext (φ:Heap->Prop)
abbrev Hp:=Addr->Option HO
def upd (H:Hp)(a:Addr)(o:HO):Hp:=fun b=>if b=a then some o else H b
theorem Zc {H:Hp}{a:Addr}{o:HO}:upd H a o a=some o:=by unfold upd;rw[YM rfl]
theorem Zf {H:Hp}{a b:Addr}{o:HO}(h:b≠a):upd H a o b=H b:=by unfold upd;rw[YG h]
theorem Z4c {H:Hp}{a b:Addr}{o u:HO}(h:H a=some o)(h':H b=some u)(d:o≠u):a≠b:=by
 intro e;subst e;rw[h] at h';exact d (YK h')
theorem Ze {H:Hp}{a b:Addr}{o:HO}(h:H a=some o)(h':H b=none):a≠b:=by
 intro e;subst e;rw[h] at h';cases h'
section
variable (P:Program)(w:World)
def ObjOk (H:Hp)(h:Heap)(a:Addr):HO->Prop
 | .lst xs=>xs.length<=sizeLine/\∃ (its:List Value) (n:Nat),Vals xs its/\h.get? a=some { cls:=.type "list",data:=.seq its.toArray n }
 | .tup xs=>xs.length<=sizeLine/\∃ its:List Value,Vals xs its/\IsTup h a its.toArray
 | .dK kvs=>kvs.length<=sizeLine/\(a == sysModules)=false/\∃ vs,KV kvs vs/\h.DictOf (mixKind P w) a vs
 | .dT kvs=>kvs.length<=sizeLine/\(a == sysModules)=false/\∃ xs:List (List Key × Addr × Value),
   Paired (fun (p:List Key × V) (q:List Key × Addr × Value)=>p.1=q.1/\H q.2.1=some (.tup (p.1.map kV))/\RelV p.2 q.2.2) kvs xs ∧
   ∃ o es ep,h.get? a=some o/\o.ExactDict/\o.data=.dict es ep/\es.toList=xs.map (entryOfKey (tupleKind (mixKind P w)))/\(xs.map (·.1)).Nodup
 | .set S n=>h.SetOf (intKind P w) a S n
 | .ins C dx fs=>H dx=some (.own a)/\fs.length<=1000/\dx≠a/\h.get? a=some (W.instObj C dx) ∧
   ∃ mA,h.Ns1 dx mA/\(∀ f,RelO (fs.lookup f) (mA f))/\PySem.Within mA (fs.map (·.1))
 | .own _=>∃ o,h.get? a=some o
 | .xd fs=>∃ mA,h.Ns1 a mA/\∀ f,RelO (fs.lookup f) (mA f)
 | .rng lo hi=>∃ t u v,h.get? a=some { cls:=.type "range",data:=.fields #[.int lo t,.int hi u,.int 1 v] }
 | .frz o u=>h.get? a=some o/\ObjOk H h a u
 | .tbl ps=>h.get? a=some { cls:=.none,data:=.fields ps }
 | .met f x=>h.get? a=some (W.methodObj (.ref f) (.ref x))
 | .ext φ=>φ h/\(∃ o,h.get? a=some o)/\∀ h1 h2:Heap,φ h1->(∀ o,h1.get? a=some o->h2.get? a=some o)->φ h2
def HOk (H:Hp)(h:Heap):Prop:=∀ a o,H a=some o->ObjOk P w H h a o
end
section
variable {P:Program}{w:World}{H H':Hp}{h h':Heap}{a:Addr}{o:HO}
theorem ObjOk.lt (x:ObjOk P w H h a o):a<h.objs.size:=by
 cases o with
 | lst xs=>obtain⟨_,_,_,_,e⟩:=x;exact YJ e
 | tup xs=>obtain⟨_,_,_,p⟩:=x;exact p.lt
 | dK kvs=>obtain⟨_,_,_,_,o,_,_,e,_⟩:=x;exact YJ e
 | dT kvs=>obtain⟨_,_,_,_,o,_,_,e,_⟩:=x;exact YJ e
 | set S n=>obtain⟨o,_,_,_,e,_⟩:=x;exact YJ e
 | ins C dx fs=>obtain⟨_,_,_,e,_⟩:=x;exact YJ e
 | own y=>obtain⟨_,e⟩:=x;exact YJ e
 | xd fs=>obtain⟨_,⟨_,_,_,e,_⟩,_⟩:=x;exact YJ e
 | rng lo hi=>obtain⟨_,_,_,e⟩:=x;exact YJ e
 | frz ob u=>obtain⟨e,_⟩:=x;exact YJ e
 | tbl ps=>exact YJ (show h.get? a=some _ from x)
 | met f y=>exact YJ (show h.get? a=some _ from x)
 | ext φ=>obtain⟨_,⟨_,e⟩,_⟩:=x;exact YJ e
theorem Paired.mapP {α β:Type}{F G:α->β->Prop}:∀ {l₁:List α} {l₂:List β},Paired F l₁ l₂->(∀ a b,F a b->G a b)->Paired G l₁ l₂
 | _,_,.nil,_=>.nil
 | _,_,.cons r t,f=>.cons (f _ _ r) (Paired.mapP t f)
theorem ObjOk.stay (x:ObjOk P w H h a o)(k:∀ b u,(b=a \/ H b=some (.own a))->h.get? b=some u->h'.get? b=some u)
  (ho:∀ b,H b=some (.own a)->H' b=some (.own a)) (ht:∀ b xs,H b=some (.tup xs)->H' b=some (.tup xs)):ObjOk P w H' h' a o:=by
 induction o with
 | lst xs=>obtain⟨z,its,n,r,e⟩:=x;exact⟨z,its,n,r,k _ _ (.inl rfl) e⟩
 | tup xs=>obtain⟨z,its,r,ob,e,c⟩:=x;exact⟨z,its,r,ob,k _ _ (.inl rfl) e,c⟩
 | dK kvs=>obtain⟨z,y,vs,r,ob,es,ep,e,c⟩:=x;exact⟨z,y,vs,r,ob,es,ep,k _ _ (.inl rfl) e,c⟩
 | dT kvs =>
  obtain⟨z,y,xs,r,ob,es,ep,e,c⟩:=x
  exact⟨z,y,xs,Paired.mapP r fun p q z=>⟨z.1,ht _ _ z.2.1,z.2.2⟩,ob,es,ep,k _ _ (.inl rfl) e,c⟩
 | set S n=>obtain⟨ob,es,ep,t,e,c⟩:=x;exact⟨ob,es,ep,t,k _ _ (.inl rfl) e,c⟩
 | ins C dx fs =>
  obtain⟨d,z,ne,e,mA,⟨od,es,ep,e2,c⟩,r⟩:=x
  exact⟨ho _ d,z,ne,k _ _ (.inl rfl) e,mA,⟨od,es,ep,k _ _ (.inr d) e2,c⟩,r⟩
 | own y=>obtain⟨ob,e⟩:=x;exact⟨ob,k _ _ (.inl rfl) e⟩
 | xd fs=>obtain⟨mA,⟨od,es,ep,e,c⟩,r⟩:=x;exact⟨mA,⟨od,es,ep,k _ _ (.inl rfl) e,c⟩,r⟩
 | rng lo hi=>obtain⟨t,u,v,e⟩:=x;exact⟨t,u,v,k _ _ (.inl rfl) e⟩
 | frz ob u ih=>obtain⟨e,q⟩:=x;exact⟨k _ _ (.inl rfl) e,ih q⟩
 | tbl ps =>
  have e:h.get? a=some { cls:=.none,data:=.fields ps }:=x
  show h'.get? a=some { cls:=.none,data:=.fields ps }
  exact k a _ (.inl rfl) e
 | met f y =>
  have e:h.get? a=some (W.methodObj (.ref f) (.ref y)):=x
  show h'.get? a=some (W.methodObj (.ref f) (.ref y))
  exact k a _ (.inl rfl) e
 | ext φ=>obtain⟨p,⟨o,e⟩,st⟩:=x;exact⟨st _ _ p fun o q=>k _ _ (.inl rfl) q,⟨o,k _ _ (.inl rfl) e⟩,st⟩
theorem HOk.lt (x:HOk P w H h)(e:H a=some o):a<h.objs.size:=(x a o e).lt
theorem HOk.fresh (x:HOk P w H h)(e:h.objs.size<=a):H a=none:=by
 cases q:H a with
 | none=>rfl
 | some u=>exact absurd (YW (x.lt q) e) (XQ _)
theorem HOk.kept (x:HOk P w H h)(k:∀ b u,h.get? b=some u->h'.get? b=some u):HOk P w H h':=fun a o e =>
 (x a o e).stay (fun b u _ q=>k b u q) (fun _ q=>q) fun _ _ q=>q
theorem HOk.laid (x:HOk P w H h)(k:∀ b u,h.get? b=some u->h'.get? b=some u)(hp:h.objs.size<=a)(new:ObjOk P w (upd H a o) h' a o):HOk P w (upd H a o) h':=fun b u e=>by
 have hn:=x.fresh hp
 by_cases hb:b=a
 ·subst hb;rw[Zc] at e;cases e;exact new
 ·rw[Zf hb] at e
  exact (x b u e).stay (fun c v _ q=>k c v q) (fun c q=>by rw[Zf (Ze q hn)];exact q) fun c xs q=>by rw[Zf (Ze q hn)];exact q
end
def Rd (H:Hp)(a:Addr)(u:HO):Prop:=H a=some u \/ ∃ o,H a=some (.frz o u)
theorem Rd.ok {P:Program}{w:World}{H:Hp}{h:Heap}{a:Addr}{u:HO}(r:Rd H a u)(x:HOk P w H h):ObjOk P w H h a u:=by
 rcases r with r | ⟨o,r⟩
 ·exact x a u r
 ·obtain⟨_,q⟩:=x a _ r
  exact q
def Mut:Option HO->Prop
 | some (.lst _)=>True
 | some (.dK _)=>True
 | some (.dT _)=>True
 | some (.set _ _)=>True
 | some (.ins _ _ _)=>True
 | some (.ext _)=>True
 | _=>False
section
variable {P:Program}{w:World}{H:Hp}{h h':Heap}{x e:Addr}{o':HO}
theorem HOk.write (ok:HOk P w H h)(mu:Mut (H x))(he:e=x \/ H e=some (.own x))(k:∀ b u,b≠e->h.get? b=some u->h'.get? b=some u)(heo:∃ u,h'.get? e=some u)
  (new:ObjOk P w (upd H x o') h' x o'):HOk P w (upd H x o') h':=fun b u q=>by
 have nown:∀ c y,H c=some (.own y)->c≠x:=fun c y r z=>by subst z;rw[r] at mu;exact mu
 have ntup:∀ c xs,H c=some (.tup xs)->c≠x:=fun c xs r z=>by subst z;rw[r] at mu;exact mu
 by_cases hb:b=x
 ·subst hb;rw[Zc] at q;cases q;exact new
 ·rw[Zf hb] at q
  by_cases hbe:b=e
  ·have q':H b=some (.own x):=by
    rcases he with z | z
    ·exact absurd (hbe.trans z) hb
    ·rw[hbe];exact z
   rw[q] at q';cases q'
   obtain⟨v,hv⟩:=heo
   exact⟨v,by rw[hbe];exact hv⟩
  ·refine (ok b u q).stay (fun c v hc r=>k c v ?_ r) (fun c r=>by rw[Zf (nown c b r)];exact r) fun c xs r=>by rw[Zf (ntup c xs r)];exact r
   rcases hc with rfl | hc
   ·exact hbe
   ·rintro rfl
    rcases he with z | z
    ·exact nown c b hc z
    ·rw[hc] at z;cases z;exact hb rfl
end
structure Un (fs ex:List Addr)(H H':Hp)(h h':Heap):Prop where
 keep:∀ b o,h.get? b=some o->H b=none->b ∉ fs->b ∉ ex->h'.get? b=some o
 slot:∀ b o,h.get? b=some o->H b=none->b∈fs->b ∉ ex->∃ sl,h'.get? b=some { o with slots:=sl }
 free:∀ b o,h.get? b=some o->H b=none->b ∉ ex->H' b=none
 there:∀ b o,h.get? b=some o->b ∉ ex->∃ o',h'.get? b=some o'
 tups:∀ b xs,H b=some (.tup xs)->H' b=some (.tup xs)
 frzs:∀ b o u,H b=some (.frz o u)->H' b=some (.frz o u)
 tbls:∀ b ps,H b=some (.tbl ps)->∃ more,H' b=some (.tbl (ps++more))
section
variable {fs fs' ex ex':List Addr}{H H1 H2:Hp}{h h1 h2 h':Heap}{a x e:Addr}{o:HO}
theorem Un.any (u:Un fs ex H H1 h h1){b:Addr}{ob:Obj}(q:h.get? b=some ob)(n:H b=none)(hx:b ∉ ex):∃ sl,h1.get? b=some { ob with slots:=sl }:=by
 by_cases hb:b∈fs
 ·exact u.slot b ob q n hb hx
 ·exact⟨ob.slots,u.keep b ob q n hb hx⟩
theorem Un.kept (k:∀ b u,h.get? b=some u->h'.get? b=some u):Un fs ex H H h h' :=
 ⟨fun b ob q _ _ _=>k b ob q,fun b ob q _ _ _=>⟨ob.slots,k b ob q⟩,fun _ _ _ n _=>n,fun b ob q _=>⟨ob,k b ob q⟩,fun _ _ q=>q,fun _ _ _ q=>q,fun _ ps q=>⟨#[],by rw[q];simp⟩⟩
theorem Un.refl:Un fs ex H H h h:=Un.kept fun _ _ q=>q
theorem Un.laid (k:∀ b u,h.get? b=some u->h'.get? b=some u)(hp:h.objs.size<=a)(hn:H a=none):Un fs ex H (upd H a o) h h' where
 keep:=fun b u q _ _ _=>k b u q
 slot:=fun b u q _ _ _=>⟨u.slots,k b u q⟩
 free:=fun b u q n _=>by rw[Zf (XA (YW (YJ q) hp))];exact n
 there:=fun b u q _=>⟨u,k b u q⟩
 tups:=fun b xs q=>by rw[Zf (Ze q hn)];exact q
 frzs:=fun b u xs q=>by rw[Zf (Ze q hn)];exact q
 tbls:=fun b ps q=>⟨#[],by rw[Zf (Ze q hn),q];simp⟩
theorem Un.write (mu:Mut (H x))(he:e=x \/ H e=some (.own x))(k:∀ b u,b≠e->h.get? b=some u->h'.get? b=some u)(heo:∃ u,h'.get? e=some u):Un fs ex H (upd H x o) h h':=by
 have hx:∀ b,H b=none->b≠x:=fun b n z=>by subst z;rw[n] at mu;exact mu
 have hb:∀ b,H b=none->b≠e:=fun b n z=>by
  subst z
  rcases he with r | r
  ·exact hx b n r
  ·rw[n] at r;cases r
 have hm:∀ b u,H b=some u->¬ Mut (some u)->b≠x:=fun b u q nm z=>by subst z;rw[q] at mu;exact nm mu
 refine⟨fun b u q n _ _=>k b u (hb b n) q,fun b u q n _ _=>⟨u.slots,k b u (hb b n) q⟩,fun b u q n _=>by rw[Zf (hx b n)];exact n,fun b u q _=>?_,
  fun b xs q=>by rw[Zf (hm b _ q fun z=>z)];exact q,fun b u xs q=>by rw[Zf (hm b _ q fun z=>z)];exact q,fun b ps q=>⟨#[],by rw[Zf (hm b _ q fun z=>z),q];simp⟩⟩
 by_cases hbe:b=e
 ·subst hbe;exact heo
 ·exact⟨u,k b u hbe q⟩
end
def trk (h:Heap)(H:Hp):List Addr:=(List.range h.objs.size).filter fun a=>(H a).isSome
def hidT (h:Heap)(H:Hp):Heap:=W.hideAll h (trk h H)
theorem C3 (h:Heap)(H:Hp):(hidT h H).objs.size=h.objs.size:=W.hideAll_size _ _
theorem Z1a {h:Heap}{H:Hp}{b:Addr}{o:Obj}(e:h.get? b=some o)(n:H b=none):(hidT h H).get? b=some o :=
 Y0v _ e fun hm=>by
  have q:(H b).isSome=true:=(zK.mp hm).2
  rw[n] at q;simp at q
theorem Z3f {h:Heap}{H:Hp}{b:Addr}{o:Obj}(e:(hidT h H).get? b=some o):h.get? b=some o/\H b=none:=by
 have e':h.get? b=some o:=W.of_hideAll (trk h H) e
 refine⟨e',?_⟩
 cases q:H b with
 | none=>rfl
 | some x =>
  have hm:b∈trk h H:=zK.mpr ⟨GN.mpr (YJ e'),by simp[q]⟩
  have z:(hidT h H).get? b=none:=W.hideAll_none (trk h H) hm
  rw[z] at e;cases e
def allNews (g h:Heap)(L:Addr):List (Addr × Obj):=(List.range h.objs.size).filterMap fun a=>if a=L \/ (g.get? a).isSome=true then none else (h.get? a).map fun o=>(a,o)
def rest (g h:Heap)(L d:Addr):List (Addr × Obj):=(allNews g h L).filter fun p=>decide (p.1≠d)
end L2
namespace L2
open PySem PySem.Spec PyProof.Rows
structure Mod (K:W.Frag)(mg:Str->Option Value)(base:Heap):Prop where
 kin:K.In base
 glob:base.Ns mainGlobals mg
 blt:∃ mb,base.Ns builtinsNs mb/\∀ x:Str,x≠"__name__"->mb x=bootBuiltins x
 nolimit:base.NoLimit
structure Cx where
 prog:Program
 w:World
 K:W.Frag
 mg:Str->Option Value
 base:Heap
 A:Around
 N:List Str
 s₀:Shared
 H₀:Hp
 env:Env
 outer:List Env
 stack:List Env
 ex:List Addr
 fn:Str->Bool
 calm:Bool
 pn:List (Addr × Obj)
 xe:Value->Shared->Prop
def frs (l:List Env):List Addr:=l.filterMap (·.frame)
abbrev Cx.fs (X:Cx):List Addr:=frs X.outer
def Vis (sc:Scope)(x:Str):Prop:=sc.names.lookup x=some .local \/ sc.names.lookup x=some .cell \/ sc.names.lookup x=some .free
def Loc (sc:Scope)(x:Str):Prop:=sc.names.lookup x=some .local \/ sc.names.lookup x=some .cell
def Look (env:Env)(h:Heap)(m:Str->Option Value)(x:Str)(u:Value):Prop :=
 (env.kindOf x=some .local/\m x=some u) \/ ((env.kindOf x=some .cell \/ env.kindOf x=some .free)/\∃ c,env.cells.lookup x=some c/\h.IsCell c (some u))
structure Cx.Ok (X:Cx):Prop where
 mod:Mod X.K X.mg X.base
 kind:X.env.scope.kind=.function
 glob:X.env.globals=mainGlobals
 blt:X.env.builtins=builtinsNs
 above:X.s₀.heap.objs.size<=X.env.locals
 inj:∀ x y c,X.env.cells.lookup x=some c->X.env.cells.lookup y=some c->x=y
 has:∀ x,(X.env.kindOf x=some .cell \/ X.env.kindOf x=some .free)->∃ c,X.env.cells.lookup x=some c
 cab:∀ x c,X.fn x=true->X.env.cells.lookup x=some c->X.s₀.heap.objs.size<=c
 hd:X.calm=true->Sb.QtP X.A X.pn
 frames:X.A.frames=some X.stack
 stk:X.stack=X.outer \/ (X.stack=X.env::X.outer/\X.env.frame=some X.env.locals)
 exf:∀ b∈X.ex,b≠X.env.locals/\∀ x c,X.env.cells.lookup x=some c->c≠b
 bs:∀ b o,X.base.get? b=some o->X.s₀.heap.get? b=some o/\X.H₀ b=none
 bsz:X.base.objs.size<=X.s₀.heap.objs.size
 noex:∀ b o,X.base.get? b=some o->b ∉ X.ex
 exfs:∀ b∈X.ex,b ∉ X.fs
 funs:X.s₀.heap.FunFrames X.base X.outer
 frf:∀ b∈X.fs,X.H₀ b=none
structure Inv (X:Cx)(pins:List (Addr × Obj))(σ:List (Option V))(H:Hp)(s:Shared):Prop where
 ok:X.Ok
 os:s.os=X.s₀.os
 bare:AllBare s.gens
 base:Un X.fs X.ex X.H₀ H X.s₀.heap s.heap
 loc:∃ m,s.heap.Ns X.env.locals m/\∀ (i:Nat) (x:Str) (v:V),X.N[i]?=some x->σ[i]?=some (some v)->Vis X.env.scope x->∃ u,RelV v u/\Look X.env s.heap m x u
 cell:∀ x c,X.env.cells.lookup x=some c->∃ v,s.heap.IsCell c v
 free:H X.env.locals=none
 freeC:∀ x c,X.env.cells.lookup x=some c->H c=none
 pin:∀ p∈X.pn++pins,s.heap.get? p.1=some p.2/\H p.1=none/\p.1≠X.env.locals/\p.1 ∉ X.fs/\∀ v,p.2.data≠.cell v
 hok:HOk X.prog X.w H s.heap
 len:σ.length=X.N.length
theorem Inv.qt {X:Cx}{pins:List (Addr × Obj)}{σ:List (Option V)}{H:Hp}{s:Shared}(I:Inv X pins σ H s)(hc:X.calm=true):Sb.Qt X.A s.heap:=(I.ok.hd hc).at fun p hp=>(I.pin p (YL _ hp)).1
section
variable {X:Cx}{pins:List (Addr × Obj)}{σ:List (Option V)}{H H':Hp}{s:Shared}{h':Heap}
theorem Cx.Ok.nofr (ok:X.Ok){b:Addr}{o:Obj}(e:X.base.get? b=some o):b ∉ X.fs:=fun hb=>by
 have:=(ok.funs.mem hb).1
 rw[e] at this;cases this
theorem Inv.bs (I:Inv X pins σ H s):∀ b o,X.base.get? b=some o->s.heap.get? b=some o/\H b=none:=fun b o e =>
 ⟨I.base.keep b o (I.ok.bs b o e).1 (I.ok.bs b o e).2 (I.ok.nofr e) (I.ok.noex b o e),I.base.free b o (I.ok.bs b o e).1 (I.ok.bs b o e).2 (I.ok.noex b o e)⟩
theorem Inv.bk (I:Inv X pins σ H s):∀ b o,X.base.get? b=some o->s.heap.get? b=some o:=fun b o e=>(I.bs b o e).1
theorem Inv.mod (I:Inv X pins σ H s):Mod X.K X.mg X.base:=I.ok.mod
theorem Inv.kIn (I:Inv X pins σ H s):X.K.In s.heap:=I.ok.mod.kin.keeps I.bk
theorem Inv.lt (I:Inv X pins σ H s):X.env.locals<s.heap.objs.size:=let ⟨_,hn,_⟩:=I.loc;hn.lt
theorem Inv.sz (I:Inv X pins σ H s):X.s₀.heap.objs.size<=s.heap.objs.size:=XU I.ok.above (JK I.lt)
theorem Inv.nofs (I:Inv X pins σ H s){a:Addr}(h:s.heap.objs.size<=a):a ∉ X.fs:=fun hb=>by
 obtain⟨_,o,ho,_⟩:=I.ok.funs.mem hb
 exact absurd (YW (YJ ho) (XU I.sz h)) (XQ _)
theorem Inv.cne (I:Inv X pins σ H s):∀ x c,X.env.cells.lookup x=some c->c≠X.env.locals:=fun x c e z=>by
 obtain⟨v,o,ho,hd⟩:=I.cell x c e
 obtain⟨m,⟨o',es,ep,ho',hd',_⟩,_⟩:=I.loc
 rw[z,ho'] at ho;cases ho;rw[hd'] at hd;cases hd
theorem Inv.funs (I:Inv X pins σ H s):s.heap.FunFrames X.base X.outer:=by
 have all:∀ (l:List Env),(∀ b∈frs l,b∈X.fs)->X.s₀.heap.FunFrames X.base l->s.heap.FunFrames X.base l:=by
  intro l
  induction l with
  | nil=>intro _ _;trivial
  | cons env r ih =>
   intro hs hl
   obtain⟨hk,⟨L,o,hf,hn,ho,hd⟩,hr⟩:=hl
   have hL:L∈X.fs:=hs L (by unfold frs;rw[Y00,hf];exact XC)
   obtain⟨sl,e⟩:=I.base.slot L o ho (I.ok.frf L hL) hL fun z=>I.ok.exfs L z hL
   exact⟨hk,⟨L,_,hf,hn,e,hd⟩,ih (fun b hb=>hs b (by unfold frs;rw[Y00,hf];exact YV _ hb)) hr⟩
 exact all X.outer (fun _ hb=>hb) I.ok.funs
theorem Inv.stack (I:Inv X pins σ H s):s.heap.FunFrames X.base X.stack:=by
 rcases I.ok.stk with e | ⟨e,hf⟩
 ·rw[e];exact I.funs
 ·rw[e]
  obtain⟨m,hn,_⟩:=I.loc
  refine .cons (by rw[I.ok.kind];decide) hf hn ?_ I.funs
  exact Heap.get?_none_of_le (XU I.ok.bsz I.ok.above)
theorem Inv.stkSub (I:Inv X pins σ H s):∀ b∈frs X.stack,b∈X.env.locals::X.fs:=fun b hb=>by
 rcases I.ok.stk with e | ⟨e,hf⟩
 ·rw[e] at hb;exact YV _ hb
 ·rw[e] at hb
  unfold frs at hb
  rw[Y00,hf] at hb
  exact hb
theorem Inv.stkFree (I:Inv X pins σ H s):∀ b∈frs X.stack,H b=none:=fun b hb=>by
 rcases YS.mp (I.stkSub b hb) with e | hb
 ·rw[e];exact I.free
 ·obtain⟨_,o,ho,_⟩:=I.ok.funs.mem hb
  exact I.base.free b o ho (I.ok.frf b hb) fun z=>I.ok.exfs b z hb
theorem Inv.step {g':Array GenState}{t':Nat}{d':Drawn}{ch:List Addr}(I:Inv X pins σ H s)
  (hch:∀ b∈ch,(b∈X.ex \/ X.s₀.heap.objs.size<=b)/\b≠X.env.locals/\(∀ x c,X.env.cells.lookup x=some c->c≠b)/\∀ p∈X.pn++pins,p.1≠b)
  (keep:∀ b o,b≠X.env.locals->b ∉ X.fs->b ∉ ch->s.heap.get? b=some o->H b=none->h'.get? b=some o)
  (slot:∀ b o,b≠X.env.locals->b∈X.fs->b ∉ ch->s.heap.get? b=some o->H b=none->∃ sl,h'.get? b=some { o with slots:=sl }) (free:∀ b o,b ∉ ch->s.heap.get? b=some o->H b=none->H' b=none)
  (there:∀ b o,b ∉ ch->s.heap.get? b=some o->∃ o',h'.get? b=some o')
  (tups:∀ b xs,H b=some (.tup xs)->H' b=some (.tup xs)) (frzs:∀ b o u,H b=some (.frz o u)->H' b=some (.frz o u)) (tbls:∀ b ps,H b=some (.tbl ps)->∃ more,H' b=some (.tbl (ps++more)))
  (ns:∀ m,s.heap.Ns X.env.locals m->h'.Ns X.env.locals m) (hok:HOk X.prog X.w H' h') (hg:AllBare g') :
  Inv X pins σ H' { s with heap:=h',gens:=g',drawn:=d',toks:=t' }:=by
 have neL:∀ b o,X.s₀.heap.get? b=some o->b≠X.env.locals:=fun b o e=>XA (YW (YJ e) I.ok.above)
 have neC:∀ b o,X.s₀.heap.get? b=some o->b ∉ X.ex->b ∉ ch:=fun b o e hx hb=>by
  rcases (hch b hb).1 with z | z
  ·exact hx z
  ·exact absurd (YW (YJ e) z) (XQ _)
 have cellK:∀ x c,X.env.cells.lookup x=some c->∀ v,s.heap.IsCell c v->h'.IsCell c v:=fun x c e v ⟨o,ho,hd⟩=>by
  have nch:c ∉ ch:=fun z=>(hch c z).2.2.1 x c e rfl
  by_cases hc:c∈X.fs
  ·obtain⟨sl,q⟩:=slot c o (I.cne x c e) hc nch ho (I.freeC x c e)
   exact⟨_,q,hd⟩
  ·exact⟨o,keep c o (I.cne x c e) hc nch ho (I.freeC x c e),hd⟩
 refine⟨I.ok,I.os,hg,⟨fun b o e n hb hx=>?_,fun b o e n hb hx=>?_,fun b o e n hx=>?_,fun b o e hx=>?_,fun b xs e=>tups b xs (I.base.tups b xs e),fun b o xs e=>frzs b o xs (I.base.frzs b o xs e),fun b ps e=>?_⟩,?_,fun x c e=>?_,?_,fun x c e=>?_,fun p hp=>?_,hok,I.len⟩
 ·exact keep b o (neL b o e) hb (neC b o e hx) (I.base.keep b o e n hb hx) (I.base.free b o e n hx)
 ·obtain⟨sl,e1⟩:=I.base.slot b o e n hb hx
  obtain⟨sl',e2⟩:=slot b _ (neL b o e) hb (neC b o e hx) e1 (I.base.free b o e n hx)
  exact⟨sl',e2⟩
 ·obtain⟨o',e1⟩:=I.base.there b o e hx
  exact free b o' (neC b o e hx) e1 (I.base.free b o e n hx)
 ·obtain⟨o',e1⟩:=I.base.there b o e hx
  exact there b o' (neC b o e hx) e1
 ·obtain⟨m1,e1⟩:=I.base.tbls b ps e
  obtain⟨m2,e2⟩:=tbls b _ e1
  exact⟨m1++m2,by rw[e2,Y11]⟩
 ·obtain⟨m,hn,hl⟩:=I.loc
  refine⟨m,ns m hn,fun i x v e1 e2 e3=>?_⟩
  obtain⟨u,r,l⟩:=hl i x v e1 e2 e3
  refine⟨u,r,?_⟩
  rcases l with l | ⟨k,c,e,z⟩
  ·exact .inl l
  ·exact .inr ⟨k,c,e,cellK x c e _ z⟩
 ·obtain⟨v,z⟩:=I.cell x c e
  exact⟨v,cellK x c e v z⟩
 ·obtain⟨m,⟨o,_,_,ho,_⟩,_⟩:=I.loc
  exact free _ o (fun z=>(hch _ z).2.1 rfl) ho I.free
 ·obtain⟨v,o,ho,hd⟩:=I.cell x c e
  exact free c o (fun z=>(hch c z).2.2.1 x c e rfl) ho (I.freeC x c e)
 ·obtain⟨e,n,ne,nf,d⟩:=I.pin p hp
  have nch:p.1 ∉ ch:=fun z=>(hch p.1 z).2.2.2 p hp rfl
  exact⟨keep p.1 p.2 ne nf nch e n,free p.1 p.2 nch e n,ne,nf,d⟩
theorem Inv.un {t':Nat}(I:Inv X pins σ H s)(u:Un X.fs [] H H' s.heap h')(hok:HOk X.prog X.w H' h'):Inv X pins σ H' { s with heap:=h',toks:=t' }:=by
 obtain⟨m,⟨o,es,ep,ho,r⟩,_⟩:=id I.loc
 obtain⟨sl,hL⟩:=u.any ho I.free (by simp)
 exact I.step (g':=s.gens) (d':=s.drawn) (ch:=[]) (fun _ z=>nomatch z) (fun b o _ hb _ e n=>u.keep b o e n hb (by simp)) (fun b o _ hb _ e n=>u.slot b o e n hb (by simp)) (fun b o _ e n=>u.free b o e n (by simp)) (fun b o _ e=>u.there b o e (by simp)) u.tups u.frzs u.tbls (fun m' hm=>by
  obtain⟨o',es',ep',ho',r'⟩:=hm
  rw[ho] at ho';cases ho'
  exact⟨_,es',ep',hL,r'⟩) hok I.bare
theorem Inv.call {g':Array GenState}{t':Nat}{d':Drawn}{ch:List Addr}(I:Inv X pins σ H s)(u:Un (frs X.stack) ch H H' s.heap h')(hok:HOk X.prog X.w H' h')(hg:AllBare g')
  (hch:∀ b∈ch,(b∈X.ex \/ X.s₀.heap.objs.size<=b)/\b≠X.env.locals/\(∀ x c,X.env.cells.lookup x=some c->c≠b)/\∀ p∈X.pn++pins,p.1≠b) :
  Inv X pins σ H' { s with heap:=h',gens:=g',drawn:=d',toks:=t' }:=by
 obtain⟨m,⟨o,es,ep,ho,r⟩,_⟩:=id I.loc
 obtain⟨sl,hL⟩:=u.any ho I.free fun z=>(hch _ z).2.1 rfl
 exact I.step (ch:=ch) hch (fun b o hL hb hc e n=>u.keep b o e n (fun z=>(YS.mp (I.stkSub b z)).elim hL hb) hc) (fun b o _ _ hc e n=>u.any e n hc) (fun b o hc e n=>u.free b o e n hc) (fun b o hc e=>u.there b o e hc) u.tups u.frzs u.tbls (fun m' hm=>by
  obtain⟨o',es',ep',ho',r'⟩:=hm
  rw[ho] at ho';cases ho'
  exact⟨_,es',ep',hL,r'⟩) hok hg
theorem Inv.turned {t':Nat}{it:Addr}(I:Inv X pins σ H s)(k:∀ b o,b≠it->s.heap.get? b=some o->h'.get? b=some o)(hn:H it=none)(hL:it≠X.env.locals)
  (h1:it∈X.ex \/ X.s₀.heap.objs.size<=it) (h2:∀ x c,X.env.cells.lookup x=some c->c≠it) (h3:∀ p∈X.pn++pins,p.1≠it):Inv X pins σ H { s with heap:=h',toks:=t' }:=by
 have nit:∀ b u,H b=some u->b≠it:=fun b u e z=>by rw[z,hn] at e;cases e
 refine I.step (g':=s.gens) (d':=s.drawn) (ch:=[it]) (fun b hb=>?_) (fun b o _ _ hc e _=>k b o (fun z=>hc (by simp[z])) e) (fun b o _ _ hc e _=>⟨o.slots,k b o (fun z=>hc (by simp[z])) e⟩) (fun _ _ _ _ n=>n)
  (fun b o hc e=>⟨o,k b o (fun z=>hc (by simp[z])) e⟩) (fun _ _ e=>e) (fun _ _ _ e=>e) (fun b ps e=>⟨#[],by rw[e];simp⟩) (fun m hm=>?_) (fun b u e=>?_) I.bare
 ·have e:b=it:=by simpa using hb
  subst e
  exact⟨h1,hL,h2,h3⟩
 ·obtain⟨o,es,ep,ho,r⟩:=hm
  exact⟨o,es,ep,k _ o (XO hL) ho,r⟩
 ·refine (I.hok b u e).stay (fun c v hc q=>k c v ?_ q) (fun _ q=>q) fun _ _ q=>q
  rcases hc with z | z
  ·rw[z];exact nit b u e
  ·exact nit c _ z
theorem Inv.tok (I:Inv X pins σ H s)(t:Nat):Inv X pins σ H { s with toks:=t }:=I.un (h':=s.heap) (t':=t) Un.refl I.hok
theorem Inv.kept {t':Nat}(I:Inv X pins σ H s)(k:∀ b u,s.heap.get? b=some u->h'.get? b=some u):Inv X pins σ H { s with heap:=h',toks:=t' }:=I.un (Un.kept k) (I.hok.kept k)
theorem Inv.laid {a:Addr}{o:HO}{t':Nat}(I:Inv X pins σ H s)(k:∀ b u,s.heap.get? b=some u->h'.get? b=some u)(hp:s.heap.objs.size<=a)(new:ObjOk X.prog X.w (upd H a o) h' a o) :
  Inv X pins σ (upd H a o) { s with heap:=h',toks:=t' }:=I.un (Un.laid k hp (I.hok.fresh hp)) (I.hok.laid k hp new)
theorem Inv.write {x e:Addr}{o:HO}{t':Nat}(I:Inv X pins σ H s)(mu:Mut (H x))(he:e=x \/ H e=some (.own x))(k:∀ b u,b≠e->s.heap.get? b=some u->h'.get? b=some u)(heo:∃ u,h'.get? e=some u)
  (new:ObjOk X.prog X.w (upd H x o) h' x o):Inv X pins σ (upd H x o) { s with heap:=h',toks:=t' }:=I.un (Un.write mu he k heo) (I.hok.write mu he k heo new)
theorem Inv.weak {σ':List (Option V)}(I:Inv X pins σ H s)(hl:σ'.length=σ.length)(w:∀ (i:Nat) v,σ'[i]?=some (some v)->σ[i]?=some (some v)):Inv X pins σ' H s :=
 ⟨I.ok,I.os,I.bare,I.base,let ⟨m,hn,hl'⟩:=I.loc;⟨m,hn,fun i x v e1 e2 e3=>hl' i x v e1 (w i v e2) e3⟩,I.cell,I.free,I.freeC,I.pin,I.hok,hl.trans I.len⟩
theorem Inv.pins_of {pins':List (Addr × Obj)}(I:Inv X pins σ H s)(h:∀ p∈pins',s.heap.get? p.1=some p.2/\H p.1=none/\p.1≠X.env.locals/\p.1 ∉ X.fs/\∀ v,p.2.data≠.cell v):Inv X pins' σ H s :=
 ⟨I.ok,I.os,I.bare,I.base,I.loc,I.cell,I.free,I.freeC,fun p hp=>(JV.mp hp).elim (fun z=>I.pin p (YL _ z)) (h p),I.hok,I.len⟩
theorem Le {N:List Str}(hN:N.Nodup){i j:Nat}{x:Str}(a:N[i]?=some x)(b:N[j]?=some x):i=j:=by
 obtain⟨h1,e1⟩:=YH.mp a
 obtain⟨h2,e2⟩:=YH.mp b
 exact (List.getElem_inj hN).mp (e1.trans e2.symm)
theorem Pk {M:Model}{A:Around}{E:Value->Shared->Prop}{i:Nat}{x:Str}{v:V}{u:Value}{Q:Unit->Shared->Prop}(I:Inv X pins σ H s)(hN:X.N.Nodup)(hi:X.N[i]?=some x)(hx:Loc X.env.scope x)(r:RelV v u)
  (h:∀ s',Inv X pins (σ.set i (some v)) H s'->(∃ a,Heap.SameBut a s.heap s'.heap/\(a=X.env.locals \/ X.env.cells.lookup x=some a))->Q () s') (hf:X.fn x=true \/ X.env.scope.names.lookup x=some .local:=by first | exact .inl rfl | exact .inr rfl | assumption):wpAny M A (storeName X.env x u) Q E s:=by
 obtain⟨m,hn,hl⟩:=id I.loc
 have hcls:(X.env.scope.kind == .class || (X.env.scope.kind == .module && X.env.locals != X.env.globals))=false:=by rw[I.ok.kind];rfl
 have hiσ:i<σ.length:=by rw[I.len];exact (YH.mp hi).1
 have cne:=I.cne
 have tracked:∀ {a:Addr} {h':Heap},(∃ o,s.heap.get? a=some o/\H a=none)->Heap.SameBut a s.heap h'->HOk X.prog X.w H h':=fun {a h'} ha hs b ob e=>by
  obtain⟨_,_,hfree⟩:=ha
  refine (I.hok b ob e).stay (fun c w' hc q=>(hs.2 c ?_).trans q) (fun _ q=>q) fun _ _ q=>q
  rintro rfl
  rcases hc with rfl | hc
  ·rw[hfree] at e;cases e
  ·rw[hfree] at hc;cases hc
 rcases hx with hk | hk
 ·refine wpAny_storeName_local hk hn (fun h' hn' hs=>?_) hcls
  obtain⟨oL,_,_,hoL,_⟩:=id hn
  refine h _ ⟨I.ok,I.os,I.bare,⟨fun b o e n hb hx=>?_,fun b o e n hb hx=>?_,I.base.free,fun b o e hx=>?_,I.base.tups,I.base.frzs,I.base.tbls⟩,⟨_,hn',fun j y v' e1 e2 e3=>?_⟩,fun y c e=>?_,I.free,I.freeC,fun p hp=>?_,tracked ⟨oL,hoL,I.free⟩ hs,by simpa using I.len⟩ ⟨_,hs,.inl rfl⟩
  ·exact (hs.2 b (XA (YW (YJ e) I.ok.above))).trans (I.base.keep b o e n hb hx)
  ·obtain⟨sl,e1⟩:=I.base.slot b o e n hb hx
   exact⟨sl,(hs.2 b (XA (YW (YJ e) I.ok.above))).trans e1⟩
  ·obtain⟨o',e1⟩:=I.base.there b o e hx
   exact⟨o',(hs.2 b (XA (YW (YJ e) I.ok.above))).trans e1⟩
  ·by_cases hj:j=i
   ·subst hj
    rw[hi] at e1;cases e1
    rw[JO hiσ] at e2
    cases e2
    exact⟨u,r,.inl ⟨hk,by simp⟩⟩
   ·rw[JU (XO hj)] at e2
    obtain⟨u',r',q⟩:=hl j y v' e1 e2 e3
    refine⟨u',r',?_⟩
    rcases q with ⟨k,e⟩ | ⟨k,c,e,z⟩
    ·refine .inl ⟨k,?_⟩
     have:y≠x:=fun e=>hj (Le hN e1 (e ▸ hi))
     simp[this,e]
    ·exact .inr ⟨k,c,e,z.sameBut hs (cne y c e)⟩
  ·obtain⟨w',z⟩:=I.cell y c e
   exact⟨w',z.sameBut hs (cne y c e)⟩
  ·obtain⟨e,n,ne,nf,d⟩:=I.pin p hp
   exact⟨(hs.2 p.1 ne).trans e,n,ne,nf,d⟩
 ·have hfn:X.fn x=true:=by
   rcases hf with z | z
   ·exact z
   ·rw[z] at hk;cases hk
  obtain⟨c,hc⟩:=I.ok.has x (.inl hk)
  obtain⟨w',z⟩:=I.cell x c hc
  refine wpAny_storeName_cell I.ok.kind hk hc z (fun h' hc' hs=>?_)
  obtain⟨oc,hoc,hocd⟩:=id z
  refine h { s with heap:=h' } ⟨I.ok,I.os,I.bare,⟨fun b o e n hb hx=>?_,fun b o e n hb hx=>?_,I.base.free,fun b o e hx=>?_,I.base.tups,I.base.frzs,I.base.tbls⟩,⟨m,hn.sameBut hs (XO (cne x c hc)),fun j y v' e1 e2 e3=>?_⟩,fun y c' e=>?_,I.free,I.freeC,fun p hp=>?_,tracked ⟨oc,hoc,I.freeC x c hc⟩ hs,by simpa using I.len⟩ ⟨c,hs,.inr hc⟩
  ·exact (hs.2 b (XA (YW (YJ e) (I.ok.cab x c hfn hc)))).trans (I.base.keep b o e n hb hx)
  ·obtain⟨sl,e1⟩:=I.base.slot b o e n hb hx
   exact⟨sl,(hs.2 b (XA (YW (YJ e) (I.ok.cab x c hfn hc)))).trans e1⟩
  ·obtain⟨o',e1⟩:=I.base.there b o e hx
   exact⟨o',(hs.2 b (XA (YW (YJ e) (I.ok.cab x c hfn hc)))).trans e1⟩
  ·by_cases hj:j=i
   ·subst hj
    rw[hi] at e1;cases e1
    rw[JO hiσ] at e2
    cases e2
    exact⟨u,r,.inr ⟨.inl hk,c,hc,hc'⟩⟩
   ·rw[JU (XO hj)] at e2
    obtain⟨u',r',q⟩:=hl j y v' e1 e2 e3
    refine⟨u',r',?_⟩
    rcases q with q | ⟨k,c',e,z'⟩
    ·exact .inl q
    ·refine .inr ⟨k,c',e,z'.sameBut hs ?_⟩
     rintro rfl
     exact hj (Le hN e1 (I.ok.inj _ _ _ e hc ▸ hi))
  ·by_cases hcc:c'=c
   ·subst hcc;exact⟨_,hc'⟩
   ·obtain⟨w2,z2⟩:=I.cell y c' e
    exact⟨w2,z2.sameBut hs hcc⟩
  ·obtain⟨e,n,ne,nf,d⟩:=I.pin p hp
   refine⟨(hs.2 p.1 ?_).trans e,n,ne,nf,d⟩
   intro q
   rw[q,hoc] at e
   have q':oc=p.2:=YK e
   exact d w' (by rw[← q'];exact hocd)
theorem Ml {M:Model}{A:Around}{E:Value->Shared->Prop}{i:Nat}{x:Str}{v:V}{u:Value}{Q:Unit->Shared->Prop}(I:Inv X pins σ H s)(hN:X.N.Nodup)(hi:X.N[i]?=some x)(hx:Loc X.env.scope x)(r:RelV v u)
  (h:∀ s',Inv X pins (σ.set i (some v)) H s'->Q () s') (hf:X.fn x=true \/ X.env.scope.names.lookup x=some .local:=by first | exact .inl rfl | exact .inr rfl | assumption):wpAny M A (storeName X.env x u) Q E s :=
 Pk I hN hi hx r (fun s' I' _=>h s' I') hf
theorem Inv.call' {s':Shared}{ch:List Addr}(I:Inv X pins σ H s)(ho:s'.os=s.os)(u:Un (frs X.stack) ch H H' s.heap s'.heap)(hok:HOk X.prog X.w H' s'.heap)(hg:AllBare s'.gens)
  (hch:∀ b∈ch,(b∈X.ex \/ X.s₀.heap.objs.size<=b)/\b≠X.env.locals/\(∀ x c,X.env.cells.lookup x=some c->c≠b)/\∀ p∈X.pn++pins,p.1≠b):Inv X pins σ H' s':=by
 obtain⟨h',g',d',t',o'⟩:=s'
 have e:o'=s.os:=ho
 subst e
 exact I.call (g':=g') (t':=t') (d':=d') u hok hg hch
end
abbrev XK:=Value->Option Addr->Hp->Prop
abbrev St:=List (Option V)
abbrev VK:=V->Hp->Prop
abbrev TE:=St->Hp->VK->Prop
abbrev TT:=St->Hp->(Bool->Hp->Prop)->Prop
abbrev TA:=St->Hp->(List V->Hp->Prop)->Prop
structure Ends where
 nx:St->Hp->Prop
 rt:VK
 bk:St->Hp->Prop:=fun _ _=>False
 ct:St->Hp->Prop:=fun _ _=>False
abbrev TS:=Ends->St->Hp->Prop
def EP (X:Cx)(pins:List (Addr × Obj))(σ:St)(Q:VK)(u:Value)(s':Shared):Prop:=∃ v H',Inv X pins σ H' s'/\RelV v u/\Q v H'
def TP (X:Cx)(pins:List (Addr × Obj))(σ:St)(Q:Bool->Hp->Prop)(b:Bool)(s':Shared):Prop:=∃ H',Inv X pins σ H' s'/\Q b H'
def AP (X:Cx)(pins:List (Addr × Obj))(σ:St)(Q:List V->Hp->Prop)(us:List Value)(s':Shared):Prop:=∃ vs H',Inv X pins σ H' s'/\Vals vs us/\Q vs H'
def SP (X:Cx)(pins:List (Addr × Obj))(D:Ends)(f:Flow)(s':Shared):Prop :=
 match f with
 | .next=>∃ σ' H',Inv X pins σ' H' s'/\D.nx σ' H'
 | .brk=>∃ σ' H',Inv X pins σ' H' s'/\D.bk σ' H'
 | .cont=>∃ σ' H',Inv X pins σ' H' s'/\D.ct σ' H'
 | .ret u=>∃ v σ' H',Inv X pins σ' H' s'/\RelV v u/\D.rt v H'
def PE (X:Cx)(e:Expr)(t:TE):Prop :=
 ∀ (pins:List (Addr × Obj)) (s:Shared) (σ:St) (H:Hp) (Q:VK),Inv X pins σ H s->t σ H Q->wpAny (model X.prog X.w) X.A (eval e X.env) (EP X pins σ Q) X.xe s
def PT (X:Cx)(e:Expr)(t:TT):Prop :=
 ∀ (pins:List (Addr × Obj)) (s:Shared) (σ:St) (H:Hp) (Q:Bool->Hp->Prop),Inv X pins σ H s->t σ H Q->wpAny (model X.prog X.w) X.A (isTrue e X.env (eval e X.env)) (TP X pins σ Q) X.xe s
def PW (X:Cx)(e:Expr)(t:TT):Prop :=
 ∀ (whole:Sem Value) (pins:List (Addr × Obj)) (s:Shared) (σ:St) (H:Hp) (Q:Bool->Hp->Prop),Inv X pins σ H s->t σ H Q->wpAny (model X.prog X.w) X.A (isTrue e X.env whole) (TP X pins σ Q) X.xe s
theorem PW.pt {X:Cx}{e:Expr}{t:TT}(h:PW X e t):PT X e t:=h _
def PA (X:Cx)(es:List Expr)(t:TA):Prop :=
 ∀ (pos:Pos) (pins:List (Addr × Obj)) (s:Shared) (σ:St) (H:Hp) (Q:List V->Hp->Prop),Inv X pins σ H s->t σ H Q->wpAny (model X.prog X.w) X.A (spliced (backTo pos (starEach es X.env))) (AP X pins σ Q) X.xe s
def PS (X:Cx)(st:Stmt)(t:TS):Prop :=
 ∀ (pins:List (Addr × Obj)) (s:Shared) (σ:St) (H:Hp) (D:Ends),Inv X pins σ H s->t D σ H->wpAny (model X.prog X.w) X.A (exec st X.env) (SP X pins D) X.xe s
def PSs (X:Cx)(st:List Stmt)(t:TS):Prop :=
 ∀ (pins:List (Addr × Obj)) (s:Shared) (σ:St) (H:Hp) (D:Ends),Inv X pins σ H s->t D σ H->wpAny (model X.prog X.w) X.A (execs st X.env) (SP X pins D) X.xe s
theorem thn {α:Type}{t:Sem α}{Q Q':α->Shared->Prop}{M:Model}{A:Around}{E:Value->Shared->Prop}{s:Shared}(h:wpAny M A t Q E s)(hQ:∀ a s,Q a s->Q' a s):wpAny M A t Q' E s:=GO h hQ fun _ _ x=>x
end L2
namespace L2
open PySem PySem.Spec PyProof.Rows
section
variable {X:Cx}
def tVar (i:Nat):TE:=fun σ H Q=>∃ v,σ[i]?=some (some v)/\Q v H
def tC (v:V):TE:=fun _ H Q=>Q v H
theorem Z4v {i:Nat}{x:Str}{pos:Pos}(hN:X.N[i]?=some x)(hv:Vis X.env.scope x)(hd:(x == ("__debug__":Str))=false:=by decide)(hcd:(x == ("__classdict__":Str))=false:=by decide):PE X (.Name x pos) (tVar i):=by
 intro pins s σ H Q I h
 obtain⟨v,e,h⟩:=h
 obtain⟨m,hn,hl⟩:=I.loc
 obtain⟨u,r,l⟩:=hl i x v hN e hv
 have fin:EP X pins σ Q u s:=⟨v,H,I,r,h⟩
 rcases l with ⟨hk,hm⟩ | ⟨hk,c,hc,hcell⟩
 ·exact wpAny_Name (wpAny_loadName_local I.ok.kind hk hn hm fin) hd
 ·rcases hk with hk | hk
  ·exact wpAny_Name (wpAny_loadName_cell I.ok.kind hk hc hcell fin) hd
  ·exact wpAny_Name (wpAny_loadName_free I.ok.kind hk hc hcell fin hcd) hd
theorem Za {i j pos}:PE X (.Constant (.int i) j pos) (tC (.int i)):=fun _ _ _ H _ I h=>wpAny_Constant_int ⟨.int i,H,I.tok _,⟨_,rfl⟩,h⟩
theorem Vs {b j pos}:PE X (.Constant (.bool b) j pos) (tC (.bl b)):=fun _ _ _ H _ I h=>Constant_bool ⟨.bl b,H,I,rfl,h⟩
theorem Yv {j pos}:PE X (.Constant .none j pos) (tC .non):=fun _ _ _ H _ I h=>Constant_none ⟨.non,H,I,rfl,h⟩
theorem Xe {x j pos}:PE X (.Constant (.str x) j pos) (tC (.str x)):=fun _ _ _ H _ I h=>Calls.Constant_str ⟨.str x,H,I.tok _,⟨_,rfl⟩,h⟩
def Gl (X:Cx)(x:Str):Prop:=X.env.kindOf x=some .globalImplicit
theorem Vn {E:Value->Shared->Prop}{pins:List (Addr × Obj)}{s:Shared}{σ:St}{H:Hp}{x:Str}{u:Value}{pos:Pos}{Q:Value->Shared->Prop}(I:Inv X pins σ H s)(hg:Gl X x)(hm:X.mg x=some u)(h:Q u s)
  (hd:(x == ("__debug__":Str))=false:=by decide):wpAny (model X.prog X.w) X.A (eval (.Name x pos) X.env) Q E s :=
 Y09 I.ok.kind hg (Calls.loadGlobal_global (by rw[I.ok.glob];exact I.mod.glob.keeps I.bk) hm h) hd
theorem W5 {E:Value->Shared->Prop}{pins:List (Addr × Obj)}{s:Shared}{σ:St}{H:Hp}{x:Str}{u:Value}{pos:Pos}{Q:Value->Shared->Prop}(I:Inv X pins σ H s)(hg:Gl X x)(hm:X.mg x=none)(hv:bootBuiltins x=some u)(h:Q u s)
  (hn:x≠"__name__":=by decide) (hd:(x == ("__debug__":Str))=false:=by decide):wpAny (model X.prog X.w) X.A (eval (.Name x pos) X.env) Q E s:=by
 obtain⟨mb,h1,h2⟩:=I.mod.blt
 exact Y09 I.ok.kind hg (Calls.loadGlobal_builtin (by rw[I.ok.glob];exact I.mod.glob.keeps I.bk) hm (by rw[I.ok.blt];exact h1.keeps I.bk) ((h2 x hn).trans hv) h) hd
theorem X1 {x:Str}{v:V}{u:Value}{pos:Pos}(hg:Gl X x)(hm:X.mg x=some u)(r:RelV v u)(hd:(x == ("__debug__":Str))=false:=by decide):PE X (.Name x pos) (tC v) :=
 fun _ _ _ H _ I h=>Vn I hg hm ⟨v,H,I,r,h⟩ hd
theorem Z2l {x:Str}{v:V}{u:Value}{pos:Pos}(hg:Gl X x)(hm:X.mg x=none)(hv:bootBuiltins x=some u)(r:RelV v u)(hn:x≠"__name__":=by decide)(hd:(x == ("__debug__":Str))=false:=by decide):PE X (.Name x pos) (tC v) :=
 fun _ _ _ H _ I h=>W5 I hg hm hv ⟨v,H,I,r,h⟩ hn hd
variable {a b:Expr}{ta tb:TE}{pos:Pos}
def tB (t:TE):TT:=fun σ H Q=>t σ H fun x H1=>∃ c,x=.bl c/\Q c H1
theorem Xk {e:Expr}{t:TE}(h:PE X e t)(he:∀ whole,isTrue e X.env whole=(do let v ← whole;standAt e.pos;holding [v] (truthy v)):=by intro _;rfl):PT X e (tB t):=by
 intro pins s σ H Q I hw
 refine isTrue_plain (thn (h pins s σ H _ I hw) fun v s1 ⟨x,H1,I1,r1,q1⟩=>?_) (he _)
 obtain⟨d,rfl,q⟩:=q1
 cases r1
 exact zd ⟨H1,I1,q⟩
variable {tA tB':TT}{rest:List Expr}
def tAnd (t u:TT):TT:=fun σ H Q=>t σ H fun c H1=>if c=true then u σ H1 Q else Q false H1
def tOr (t u:TT):TT:=fun σ H Q=>t σ H fun c H1=>if c=true then Q true H1 else u σ H1 Q
def tNot (t:TT):TT:=fun σ H Q=>t σ H fun c H1=>Q (!c) H1
theorem Re (ha:PT X a tA):PW X (.BoolOp .And [a] pos) tA:=by
 intro wh pins s σ H Q I h
 refine isTrue_and (thn (ha pins s σ H Q I h) fun c s1 e=>?_)
 cases c with
 | true=>exact isTrue_and_nil e
 | false=>exact e
theorem Vx (ha:PT X a tA):PW X (.BoolOp .Or [a] pos) tA:=by
 intro wh pins s σ H Q I h
 refine isTrue_or (thn (ha pins s σ H Q I h) fun c s1 e=>?_)
 cases c with
 | false=>exact isTrue_or_nil e
 | true=>exact e
theorem Nj (ha:PT X a tA)(hb:PW X (.BoolOp .And (b::rest) pos) tB'):PW X (.BoolOp .And (a::b::rest) pos) (tAnd tA tB'):=by
 intro wh pins s σ H Q I h
 refine isTrue_and (thn (ha pins s σ H _ I h) fun c s1 ⟨H1,I1,q1⟩=>?_)
 cases c with
 | true=>exact hb wh pins s1 σ H1 Q I1 q1
 | false=>exact⟨H1,I1,q1⟩
theorem Vy (ha:PT X a tA)(hb:PW X (.BoolOp .Or (b::rest) pos) tB'):PW X (.BoolOp .Or (a::b::rest) pos) (tOr tA tB'):=by
 intro wh pins s σ H Q I h
 refine isTrue_or (thn (ha pins s σ H _ I h) fun c s1 ⟨H1,I1,q1⟩=>?_)
 cases c with
 | true=>exact⟨H1,I1,q1⟩
 | false=>exact hb wh pins s1 σ H1 Q I1 q1
theorem Wk (ha:PT X a tA):PT X (.UnaryOp .Not a pos) (tNot tA):=by
 intro pins s σ H Q I h
 exact isTrue_not (ha pins s σ H (fun c H1=>Q (!c) H1) I h)
def tAndV (ta tb:TE):TE:=fun σ H Q=>ta σ H fun x H1=>∃ c,x=.bl c/\if c=true then tb σ H1 Q else Q (.bl false) H1
def tOrV (ta tb:TE):TE:=fun σ H Q=>ta σ H fun x H1=>∃ c,x=.bl c/\if c=true then Q (.bl true) H1 else tb σ H1 Q
def tNotV (ta:TE):TE:=fun σ H Q=>ta σ H fun x H1=>∃ c,x=.bl c/\Q (.bl (!c)) H1
theorem Tu {op}{t:TE}(h:PE X a t):PE X (.BoolOp op [a] pos) t:=fun pins s σ H Q I hw=>BoolOp_one (h pins s σ H Q I hw)
theorem Qd (ha:PE X a ta)(hb:PE X (.BoolOp .And (b::rest) pos) tb):PE X (.BoolOp .And (a::b::rest) pos) (tAndV ta tb):=by
 intro pins s σ H Q I h
 refine BoolOp_and (thn (ha pins s σ H _ I h) fun v s1 ⟨x,H1,I1,r1,q1⟩=>?_)
 obtain⟨c,rfl,q1⟩:=q1
 cases r1
 refine zd ?_
 cases c with
 | true=>exact hb pins s1 σ H1 Q I1 q1
 | false=>exact⟨.bl false,H1,I1,rfl,q1⟩
theorem Z63 (ha:PE X a ta)(hb:PE X (.BoolOp .Or (b::rest) pos) tb):PE X (.BoolOp .Or (a::b::rest) pos) (tOrV ta tb):=by
 intro pins s σ H Q I h
 refine BoolOp_or (thn (ha pins s σ H _ I h) fun v s1 ⟨x,H1,I1,r1,q1⟩=>?_)
 obtain⟨c,rfl,q1⟩:=q1
 cases r1
 refine zd ?_
 cases c with
 | false=>exact hb pins s1 σ H1 Q I1 q1
 | true=>exact⟨.bl true,H1,I1,rfl,q1⟩
theorem Kt (ha:PE X a ta):PE X (.UnaryOp .Not a pos) (tNotV ta):=by
 intro pins s σ H Q I h
 refine UnaryOp_ (thn (ha pins s σ H _ I h) fun v s1 ⟨x,H1,I1,r1,q1⟩=>?_)
 obtain⟨c,rfl,q1⟩:=q1
 cases r1
 exact not_of (zd ⟨.bl (!c),H1,I1,rfl,q1⟩)
def tIf (t:TT)(ta tb:TE):TE:=fun σ H Q=>t σ H fun c H1=>if c=true then ta σ H1 Q else tb σ H1 Q
theorem V5 {c:Expr}(hc:PT X c tA)(ha:PE X a ta)(hb:PE X b tb):PE X (.IfExp c a b pos) (tIf tA ta tb):=by
 intro pins s σ H Q I h
 refine wpAny_IfExp (thn (hc pins s σ H _ I h) fun d s1 ⟨H1,I1,q1⟩=>?_)
 cases d with
 | true=>exact ha pins s1 σ H1 Q I1 q1
 | false=>exact hb pins s1 σ H1 Q I1 q1
end
end L2
namespace L2
open PySem PySem.Spec PyProof.Rows
def SqL (K:W.Frag)(H:Hp)(a:Addr)(xs:List V):Prop :=
 Rd H a (.lst xs) ∨
  ∃ (o:Obj) (its:Array Value) (n:Nat),K.lookup a=some o/\o.cls=.type "list"/\o.dict=none/\o.data=.seq its n/\its.size<=sizeLine/\Vals xs its.toList
def SqT (K:W.Frag)(H:Hp)(a:Addr)(xs:List V):Prop :=
 Rd H a (.tup xs) ∨
  ∃ (o:Obj) (its:Array Value) (n:Nat),K.lookup a=some o/\o.cls=.type "tuple"/\o.data=.seq its n/\its.size<=sizeLine/\Vals xs its.toList
def absV:Value->Option V
 | .none=>some .non
 | .bool b=>some (.bl b)
 | .int i _=>some (.int i)
 | .str x _=>some (.str x)
 | .bytes b _=>some (.byt b)
 | .float b _=>some (.flt b)
 | .ref a=>some (.ref a)
 | .type n=>some (.ty n)
 | _=>none
theorem RelV.abs {x:V}{u:Value}(r:RelV x u):absV u=some x:=by
 cases x with
 | non=>cases r;rfl
 | bl _=>cases r;rfl
 | int _=>obtain⟨t,rfl⟩:=r;rfl
 | str _=>obtain⟨t,rfl⟩:=r;rfl
 | byt _=>obtain⟨t,rfl⟩:=r;rfl
 | flt _=>obtain⟨t,rfl⟩:=r;rfl
 | ref _=>cases r;rfl
 | ty _=>cases r;rfl
theorem RelV.inj {x y:V}{u:Value}(r:RelV x u)(q:RelV y u):x=y:=YK (r.abs.symm.trans q.abs)
theorem Vals.inj:∀ {xs ys:List V} {us:List Value},Vals xs us->Vals ys us->xs=ys
 | _,_,_,.nil,.nil=>rfl
 | _,_,_,.cons r t,.cons r' t'=>by rw[r.inj r',Vals.inj t t']
section
variable {X:Cx}{pins:List (Addr × Obj)}{σ:St}{H:Hp}{s:Shared}{a:Addr}{xs ys:List V}
theorem SqL.of {K:W.Frag}(h:H a=some (.lst xs)):SqL K H a xs:=.inl (.inl h)
theorem SqT.of {K:W.Frag}(h:H a=some (.tup xs)):SqT K H a xs:=.inl (.inl h)
theorem Inv.list (I:Inv X pins σ H s)(h:SqL X.K H a xs):∃ its:List Value,Vals xs its/\PlainL s.heap a its.toArray/\xs.length<=sizeLine:=by
 rcases h with h | ⟨o,its,n,hk,hc,hd,hs,hz,r⟩
 ·obtain⟨z,its,n,r,e⟩:=h.ok I.hok
  exact⟨its,r,⟨_,n,e,rfl,rfl,rfl⟩,z⟩
 ·refine⟨its.toList,r,⟨o,n,I.kIn a o hk,hc,hd,by simpa using hs⟩,?_⟩
  have e:=r.length
  simp only [qj] at e
  omega
theorem Inv.tuple (I:Inv X pins σ H s)(h:SqT X.K H a xs):∃ its:List Value,Vals xs its/\IsTup s.heap a its.toArray/\xs.length<=sizeLine:=by
 rcases h with h | ⟨o,its,n,hk,hc,hs,hz,r⟩
 ·obtain⟨z,its,r,p⟩:=h.ok I.hok
  exact⟨its,r,p,z⟩
 ·refine⟨its.toList,r,⟨o,I.kIn a o hk,hc,n,by simpa using hs⟩,?_⟩
  have e:=r.length
  simp only [qj] at e
  omega
theorem Inv.list_inj (I:Inv X pins σ H s)(h:SqL X.K H a xs)(h':SqL X.K H a ys):xs=ys:=by
 obtain⟨its,r,⟨o,n,e,_,_,d⟩,_⟩:=I.list h
 obtain⟨its',r',⟨o',n',e',_,_,d'⟩,_⟩:=I.list h'
 rw[e] at e';cases e'
 rw[d] at d'
 injection d' with d1 _
 have:its=its':=by simpa using congrArg Array.toList d1
 subst this
 exact r.inj r'
theorem Inv.tuple_inj (I:Inv X pins σ H s)(h:SqT X.K H a xs)(h':SqT X.K H a ys):xs=ys:=by
 obtain⟨its,r,⟨o,e,_,n,d⟩,_⟩:=I.tuple h
 obtain⟨its',r',⟨o',e',_,n',d'⟩,_⟩:=I.tuple h'
 rw[e] at e';cases e'
 rw[d] at d'
 injection d' with d1 _
 have:its=its':=by simpa using congrArg Array.toList d1
 subst this
 exact r.inj r'
end
abbrev Cx.wish (X:Cx)(E:Value->Shared->Prop):Cx:={ X with xe:=E }
abbrev Cx.nox (X:Cx):Cx:=X.wish fun _ _=>False
theorem Cx.Ok.wish {X:Cx}(ok:X.Ok)(E:Value->Shared->Prop):(X.wish E).Ok :=
 ⟨ok.mod,ok.kind,ok.glob,ok.blt,ok.above,ok.inj,ok.has,ok.cab,ok.hd,ok.frames,ok.stk,ok.exf,ok.bs,ok.bsz,ok.noex,ok.exfs,ok.funs,ok.frf⟩
theorem Cx.Ok.unwish {X:Cx}{E:Value->Shared->Prop}(ok:(X.wish E).Ok):X.Ok :=
 ⟨ok.mod,ok.kind,ok.glob,ok.blt,ok.above,ok.inj,ok.has,ok.cab,ok.hd,ok.frames,ok.stk,ok.exf,ok.bs,ok.bsz,ok.noex,ok.exfs,ok.funs,ok.frf⟩
section
variable {X:Cx}{pins:List (Addr × Obj)}{σ:St}{H:Hp}{s:Shared}{E:Value->Shared->Prop}
theorem Inv.wish (I:Inv X pins σ H s)(E:Value->Shared->Prop):Inv (X.wish E) pins σ H s:=⟨I.ok.wish E,I.os,I.bare,I.base,I.loc,I.cell,I.free,I.freeC,I.pin,I.hok,I.len⟩
theorem Inv.unwish (I:Inv (X.wish E) pins σ H s):Inv X pins σ H s:=⟨I.ok.unwish,I.os,I.bare,I.base,I.loc,I.cell,I.free,I.freeC,I.pin,I.hok,I.len⟩
theorem SP.unwish {D:Ends}{f:Flow}{s':Shared}(h:SP (X.wish E) pins D f s'):SP X pins D f s':=by
 cases f with
 | next=>obtain⟨σ',H',I,q⟩:=h;exact⟨σ',H',I.unwish,q⟩
 | brk=>obtain⟨σ',H',I,q⟩:=h;exact⟨σ',H',I.unwish,q⟩
 | cont=>obtain⟨σ',H',I,q⟩:=h;exact⟨σ',H',I.unwish,q⟩
 | ret u=>obtain⟨v,σ',H',I,r,q⟩:=h;exact⟨v,σ',H',I.unwish,r,q⟩
theorem PSs.nox {st:List Stmt}{t:TS}(h:PSs X.nox st t):PSs X st t:=fun pins s σ H D I hw =>
 GO (h pins s σ H D (I.wish _) hw) (fun _ _ q=>q.unwish) fun _ _ z=>False.elim z
end
section
variable {X:Cx}{st:Stmt}{rest:List Stmt}{t u:TS}{e:Expr}{te:TE}{pos:Pos}
def tNext:TS:=fun D σ H=>D.nx σ H
def tSeq (t u:TS):TS:=fun D σ H=>t { D with nx:=u D } σ H
theorem Zv:PSs X [] tNext:=fun _ _ σ H _ I h=>zL ⟨σ,H,I,h⟩
theorem Zb (h1:PS X st t)(h2:PSs X rest u):PSs X (st::rest) (tSeq t u):=by
 intro pins s σ H D I h
 refine wpAny_execs_cons (thn (h1 pins s σ H { D with nx:=u D } I h) fun f s1 q=>?_)
 cases f with
 | next =>
  obtain⟨σ',H',I',q⟩:=q
  exact h2 pins s1 σ' H' D I' q
 | ret v=>exact q
 | brk=>exact q
 | cont=>exact q
theorem Zd (h1:PS X st t):PSs X [st] t:=by
 intro pins s σ H D I h
 refine wpAny_execs_cons (thn (h1 pins s σ H D I h) fun f s1 q=>?_)
 cases f with
 | next=>exact zL q
 | ret v=>exact q
 | brk=>exact q
 | cont=>exact q
theorem Inv.quiet {pins:List (Addr × Obj)}{σ:St}{H:Hp}{s:Shared}(I:Inv X pins σ H s):interactive X.env=false:=by simp[interactive,I.ok.kind]
def tDrop (te:TE):TS:=fun D σ H=>te σ H fun _ H1=>D.nx σ H1
theorem Xl (he:PE X e te)(hs:swapsWith e none pos.line X.env=pure false:=by rfl):PS X (.Expr e pos) (tDrop te):=by
 intro pins s σ H D I h
 exact wpAny_Expr_any (thn (he pins s σ H _ I h) fun v s1 ⟨x,H1,I1,r1,q1⟩=>⟨σ,H1,I1,q1⟩) I.quiet hs
def tRet (te:TE):TS:=fun D σ H=>te σ H D.rt
theorem Zi (he:PE X e te):PS X (.Return (some e) pos) (tRet te):=by
 intro pins s σ H D I h
 exact wpAny_Return_some (thn (he pins s σ H _ I h) fun v s1 ⟨x,H1,I1,r1,q1⟩=>⟨x,σ,H1,I1,r1,q1⟩)
def tIfS (c:TT)(t u:TS):TS:=fun D σ H=>c σ H fun b H1=>if b=true then t D σ H1 else u D σ H1
theorem Yc {c:Expr}{a b:List Stmt}{tc:TT}(hc:PT X c tc)(ha:PSs X a t)(hb:PSs X b u):PS X (.If c a b pos) (tIfS tc t u):=by
 intro pins s σ H D I h
 refine wpAny_If (thn (hc pins s σ H _ I h) fun d s1 ⟨H1,I1,q1⟩=>?_)
 cases d with
 | true=>exact ha pins s1 σ H1 D I1 q1
 | false=>exact hb pins s1 σ H1 D I1 q1
def tNever:TS:=fun _ _ _=>False
theorem U0:PS X st tNever:=fun _ _ _ _ _ _ h=>h.elim
end
abbrev TG:=V->St->Hp->(St->Hp->Prop)->Prop
abbrev TGs:=List V->St->Hp->(St->Hp->Prop)->Prop
def PG (X:Cx)(target:Expr)(t:TG):Prop :=
 ∀ (pins:List (Addr × Obj)) (s:Shared) (σ:St) (H:Hp) (v:V) (u:Value) (Q:St->Hp->Prop),Inv X pins σ H s->RelV v u->t v σ H Q →
  wpAny (model X.prog X.w) X.A (assign target X.env u) (fun _ s'=>∃ σ' H',Inv X pins σ' H' s'/\Q σ' H') X.xe s
def PGs (X:Cx)(ts:List Expr)(t:TGs):Prop :=
 ∀ (pins:List (Addr × Obj)) (s:Shared) (σ:St) (H:Hp) (vs:List V) (us:List Value) (Q:St->Hp->Prop),Inv X pins σ H s->Vals vs us->t vs σ H Q →
  wpAny (model X.prog X.w) X.A (assignInOrder ((assignEach ts X.env).map (·.2)) us) (fun _ s'=>∃ σ' H',Inv X pins σ' H' s'/\Q σ' H') X.xe s
abbrev TSet:=V->V->V->Hp->(Hp->Prop)->Prop
def PSet (X:Cx)(t:TSet):Prop :=
 ∀ (pins:List (Addr × Obj)) (s:Shared) (σ:St) (H:Hp) (o i v:V) (ov iv u:Value) (Q:Hp->Prop),Inv X pins σ H s->RelV o ov->RelV i iv->RelV v u->t o i v H Q →
  wpAny (model X.prog X.w) X.A (setItem ov iv u) (fun _ s'=>∃ H',Inv X pins σ H' s'/\Q H') X.xe s
section
variable {X:Cx}{pos:Pos}
def gName (i:Nat):TG:=fun v σ H Q=>Q (σ.set i (some v)) H
theorem Zm {i:Nat}{x:Str}(hN:X.N.Nodup)(hi:X.N[i]?=some x)(hx:Loc X.env.scope x)(hf:X.fn x=true \/ X.env.scope.names.lookup x=some .local:=by first | exact .inl rfl | exact .inr rfl | assumption):PG X (.Name x pos) (gName i):=by
 intro pins s σ H v u Q I r h
 exact wpAny_assign_Name (Ml I hN hi hx r (fun s' I'=>⟨_,H,I',h⟩) hf)
def gNil:TGs:=fun vs σ H Q=>vs=[]/\Q σ H
def gCons (t:TG)(u:TGs):TGs:=fun vs σ H Q=>∃ v r,vs=v::r/\t v σ H fun σ' H'=>u r σ' H' Q
theorem Xm:PGs X [] gNil:=by
 intro pins s σ H vs us Q I r h
 obtain⟨e,h⟩:=h
 subst e
 cases r
 exact assignInOrder_nil ⟨σ,H,I,h⟩
theorem Y7 {e:Expr}{es:List Expr}{t:TG}{u:TGs}(h1:PG X e t)(h2:PGs X es u)
  (hs:(assignEach (e::es) X.env).map (·.2)=assign e X.env::(assignEach es X.env).map (·.2):=by rfl):PGs X (e::es) (gCons t u):=by
 intro pins s σ H vs us Q I r h
 obtain⟨v,vr,e1,h⟩:=h
 subst e1
 cases r with
 | cons r rr =>
  rw[hs]
  refine assignInOrder_cons (thn (h1 pins s σ H _ _ _ I r h) fun _ s1 ⟨σ1,H1,I1,q1⟩=>?_)
  exact h2 pins s1 σ1 H1 _ _ Q I1 rr q1
def gTup (K:W.Frag)(n:Nat)(t:TGs):TG:=fun v σ H Q=>∃ a xs,v=.ref a/\SqT K H a xs/\xs.length=n/\t xs σ H Q
theorem Wl {es:List Expr}{k:Nat}{t:TGs}{n:Nat}(hc:X.calm=true)(h:PGs X es t)
  (hn:(assignEach es X.env).length=n:=by rfl) (hst:(assignEach es X.env).findIdx? (·.1)=none:=by rfl):PG X (.Tuple es k pos) (gTup X.K n t):=by
 intro pins s σ H v u Q I r hw
 obtain⟨a,xs,e1,hq,hl,hw⟩:=hw
 subst e1
 cases r
 obtain⟨its,rv,ht,hz⟩:=I.tuple hq
 refine Sb.Pe (I.qt hc) ht (by simp[hn,← hl,rv.length]) hst fun h' hx=>?_
 have I1:Inv X pins σ H { s with heap:=h' }:=I.kept (t':=s.toks) fun b o e=>hx b o (XA (YJ e)) e
 exact h pins _ σ H xs _ Q I1 (by simpa using rv) hw
def gSub (to ti:TE)(t:TSet):TG:=fun v σ H Q=>to σ H fun o H1=>ti σ H1 fun i H2=>t o i v H2 fun H3=>Q σ H3
theorem Tt {o i:Expr}{to ti:TE}{t:TSet}(ho:PE X o to)(hi:PE X i ti)(hs:PSet X t)
  (ha:∀ v,assign (.Subscript o i pos) X.env v=(do
   let ov ← holding [v] (eval o X.env)
   let iv ← holding [v,ov] (eval i X.env)
   standAt pos
   holding [v,ov,iv] (setItem ov iv v)
   release [v,ov,iv] []):=by intro _;rfl):PG X (.Subscript o i pos) (gSub to ti t):=by
 intro pins s σ H v u Q I r h
 rw[ha]
 refine YB (GB (thn (ho pins s σ H _ I h) fun ov s1 ⟨x,H1,I1,r1,q1⟩=>?_))
 refine YB (GB (thn (hi pins s1 σ H1 _ I1 q1) fun iv s2 ⟨y,H2,I2,r2,q2⟩=>?_))
 refine YB (zx (YB (GB (thn (hs pins s2 σ H2 x y v ov iv u _ I2 r1 r2 r q2) fun _ s3 ⟨H3,I3,q3⟩=>?_))))
 exact wpAny_release ⟨σ,H3,I3,q3⟩
def tAsg (te:TE)(g:TG):TS:=fun D σ H=>te σ H fun x H1=>g x σ H1 D.nx
theorem Uo {tg e:Expr}{te:TE}{g:TG}(he:PE X e te)(hg:PG X tg g)(hs:swapsWithSole [tg] e pos.line X.env=pure false:=by rfl)(hw:swappedStores [tg] e X.env=pure none:=by rfl)
  (h1:(assignEach [tg] X.env).map (·.2)=[assign tg X.env]:=by rfl):PS X (.Assign [tg] e pos) (tAsg te g):=by
 intro pins s σ H D I h
 refine wpAny_Assign_stores (thn (he pins s σ H _ I h) fun v s1 ⟨x,H1,I1,r1,q1⟩=>?_) hs hw
 rw[h1]
 exact thn (hg pins s1 σ H1 x v _ I1 r1 q1) fun _ s2 q=>q
theorem Zk {i:Nat}{x:Str}{e:Expr}{te:TE}{pos':Pos}(hN:X.N.Nodup)(hi:X.N[i]?=some x)(hx:Loc X.env.scope x)(he:PE X e te)(hs:swapsWith e (some (.Name x pos')) pos.line X.env=pure false:=by rfl)(hf:X.fn x=true \/ X.env.scope.names.lookup x=some .local:=by first | exact .inl rfl | exact .inr rfl | assumption) :
  PS X (.Assign [.Name x pos'] e pos) (tAsg te (gName i)):=by
 intro pins s σ H D I h
 refine wpAny_Assign_Name (thn (he pins s σ H _ I h) fun v s1 ⟨y,H1,I1,r1,q1⟩=>?_) hs
 exact Ml I1 hN hi hx r1 (fun s2 I2=>⟨_,H1,I2,q1⟩) hf
end
section
variable {X:Cx}{pos:Pos}
def tWhile (c:TT)(tb:TS):TS:=fun D σ H=>∃ W:Nat->St->Hp->Prop,(∃ m,W m σ H)/\∀ m σ H,W m σ H →
 c σ H fun b H1=>if b=true then ∃ N:St->Hp->Prop,(∀ σ' H',N σ' H'->∃ m',m'<m/\W m' σ' H')/\tb { D with nx:=N,ct:=N,bk:=D.nx } σ H1 else D.nx σ H1
theorem Qa {c:Expr}{body:List Stmt}{tc:TT}{tb:TS}(hp:PassesOwn (model X.prog X.w) X.A X.env X.xe)(hc:PT X c tc)(hb:PSs X body tb):PS X (.While c body [] pos) (tWhile tc tb):=by
 intro pins s σ H D I h
 obtain⟨W,⟨m0,w0⟩,turn⟩:=h
 refine wpAny_While (codeAny_whileLoop (fun n s'=>∃ σ' H',Inv X pins σ' H' s'/\W n σ' H') ?_ m0 ⟨σ,H,I,w0⟩)
 rintro n s1 ⟨σ1,H1,I1,w1⟩
 refine z9 hp (thn (hc pins s1 σ1 H1 _ I1 (turn n σ1 H1 w1)) fun b s2 ⟨H2,I2,q2⟩=>?_)
 cases b with
 | true =>
  obtain⟨N,hN,q2⟩:=q2
  rw[YM rfl]
  refine z9 hp (thn (hb pins s2 σ1 H2 _ I2 q2) fun f s3 q3=>?_)
  cases f with
  | next =>
   obtain⟨σ3,H3,I3,n3⟩:=q3
   obtain⟨m',hm,w3⟩:=hN σ3 H3 n3
   exact⟨m',hm,σ3,H3,I3,w3⟩
  | cont =>
   obtain⟨σ3,H3,I3,n3⟩:=q3
   obtain⟨m',hm,w3⟩:=hN σ3 H3 n3
   exact⟨m',hm,σ3,H3,I3,w3⟩
  | brk=>exact q3
  | ret v=>exact q3
 | false =>
  rw[YG YT]
  exact zL ⟨σ1,H2,I2,q2⟩
end
structure It where
 go:Nat->Hp->Prop
 yld:Nat->Hp->V->Hp->Prop
 stop:Nat->Hp->Prop
def FpOk (X:Cx)(pins:List (Addr × Obj))(H:Hp)(b:Addr):Prop :=
 H b=none/\b≠X.env.locals/\b ∉ X.fs/\(b∈X.ex \/ X.s₀.heap.objs.size<=b)/\(∀ x c,X.env.cells.lookup x=some c->c≠b)/\∀ p∈X.pn++pins,p.1≠b
theorem Inv.fpOk {X:Cx}{pins:List (Addr × Obj)}{σ:St}{H H':Hp}{s:Shared}{b:Addr}(I:Inv X pins σ H s)(hb:s.heap.objs.size<=b)(hn:H' b=none):FpOk X pins H' b:=by
 refine⟨hn,qo (YW I.lt hb),I.nofs hb,.inr (XU I.sz hb),fun x c e z=>?_,fun p hp z=>?_⟩
 ·obtain⟨v,q⟩:=I.cell x c e
  exact absurd (YW q.lt (by rw[z];exact hb)) (XQ _)
 ·exact absurd (YW (YJ (I.pin p hp).1) (by rw[z];exact hb)) (XQ _)
structure Turn (P:Program)(w:World)(K:W.Frag)(tg:Expr)(J:It)(fp:List Addr)(it:Addr)(tn:Nat->Heap->Prop):Prop where
 mem:it∈fp
 obj:∀ i h,tn i h->∀ b∈fp,∃ o,h.get? b=some o/\∀ v,o.data≠.cell v
 keep:∀ i h h',tn i h->(∀ b∈fp,∀ o,h.get? b=some o->h'.get? b=some o)->tn i h'
 item:∀ (X:Cx),X.prog=P->X.w=w->X.K=K->X.calm=true->∀ (i:Nat) (pins:List (Addr × Obj)) (s:Shared) (σ:St) (H:Hp) (E:Value->Shared->Prop),Inv X pins σ H s->(∀ b∈fp,FpOk X pins H b)->tn i s.heap->J.go i H →
  wpAny (model P w) X.A (pyNext (.ref it)) (fun r s1=>∃ u,r=some u ∧
   wpAny (model P w) X.A (letOwnedTupleGo tg (.ref it) u) (fun _ s2=>∃ x H',Inv X pins σ H' s2/\RelV x u/\J.yld i H x H'/\tn (i+1) s2.heap/\∀ b∈fp,H' b=none) E s1) E s
 done:∀ (X:Cx),X.prog=P->X.w=w->X.K=K->X.calm=true->∀ (i:Nat) (pins:List (Addr × Obj)) (s:Shared) (σ:St) (H:Hp) (E:Value->Shared->Prop),Inv X pins σ H s->(∀ b∈fp,FpOk X pins H b)->tn i s.heap->J.stop i H →
  wpAny (model P w) X.A (pyNext (.ref it)) (fun r s1=>r=none/\Inv X pins σ H s1) E s
 self:∀ (A:Around) (i:Nat) (s:Shared) (Q:Value->Shared->Prop) (E:Value->Shared->Prop),tn i s.heap->Q (.ref it) s->wpAny (model P w) A (pyIter (.ref it)) Q E s
abbrev TI:=St->Hp->(It->Hp->Prop)->Prop
def PIE (X:Cx)(pins:List (Addr × Obj))(σ:St)(tg:Expr)(R:It->Hp->Prop)(itv:Value)(s2:Shared):Prop :=
 ∃ (it:Addr) (fp:List Addr) (tn:Nat->Heap->Prop) (J:It) (H':Hp),itv=.ref it/\Inv X pins σ H' s2/\Turn X.prog X.w X.K tg J fp it tn/\tn 0 s2.heap/\(∀ b∈fp,FpOk X pins H' b)/\R J H'
def PI (X:Cx)(tg iter:Expr)(wi:TI):Prop :=
 ∀ (pins:List (Addr × Obj)) (s:Shared) (σ:St) (H:Hp) (R:It->Hp->Prop),Inv X pins σ H s->wi σ H R →
  wpAny (model X.prog X.w) X.A (eval iter X.env) (fun v s1=>wpAny (model X.prog X.w) X.A (pyIter v) (PIE X pins σ tg R) X.xe s1) X.xe s
theorem Z1b {M:Model}{A:Around}{E:Value->Shared->Prop}{s:Shared}{tg:Expr}{it:Addr}{u:Value}{o:Obj}{n:String}{vs:Array Value}{Q:Unit->Shared->Prop}(ho:s.heap.get? it=some o)(hc:o.cls=.type n)(hd:o.data=.fields vs)
  (hn:["enumerate","zip","dict_itemiterator","dict_reverseitemiterator","odict_iterator","itertools.zip_longest","itertools.pairwise"].contains n=false) (hQ:Q () s):wpAny M A (letOwnedTupleGo tg (.ref it) u) Q E s:=by
 unfold letOwnedTupleGo
 cases tg <;> first
  | exact YR hQ
  | (cases u <;> first
    | exact YR hQ
    | (refine YB (wpAny_load ho ?_)
       rw[hc,hd]
       show wpAny M A (if (["enumerate","zip","dict_itemiterator","dict_reverseitemiterator","odict_iterator","itertools.zip_longest","itertools.pairwise"].contains n && vs[0]? == some (rawInt _))=true then _ else _) Q E s
       rw[YG (by intro h;rw[hn,Bool.false_and] at h;cases h)]
       exact YR hQ))
def Itl (K:W.Frag)(a:Addr):It :=
 ⟨fun i H=>∃ xs x,SqL K H a xs/\xs[i]?=some x,fun i H x H'=>H'=H/\∀ xs,SqL K H a xs->xs[i]?=some x,fun i H=>∃ xs,SqL K H a xs/\xs.length<=i⟩
def Itt (K:W.Frag)(a:Addr):It :=
 ⟨fun i H=>∃ xs x,SqT K H a xs/\xs[i]?=some x,fun i H x H'=>H'=H/\∀ xs,SqT K H a xs->xs[i]?=some x,fun i H=>∃ xs,SqT K H a xs/\xs.length<=i⟩
def Itr (lo:Int)(n:Nat):It:=⟨fun i _=>i<n,fun i H x H'=>H'=H/\x=.int (lo+i),fun i _=>n<=i⟩
theorem Tp {P:Program}{w:World}{K:W.Frag}{tg:Expr}(a it:Addr):Turn P w K tg (Itl K a) [it] it (fun i h=>h.IsListIter it a i) where
 mem:=by simp
 obj:=fun i h st b hb=>by
  have e:b=it:=by simpa using hb
  subst e
  obtain⟨o,e,c,d⟩:=st
  exact⟨o,e,fun v z=>by rw[d] at z;cases z⟩
 keep:=fun i h h' st k=>st.at fun o e=>k it (by simp) o e
 item:=by
  intro X hP hw hK hc i pins s σ H E I hf st hg
  subst hP hw hK
  obtain⟨xs,x,hq,hx⟩:=hg
  obtain⟨its,rv,p,hz⟩:=I.list hq
  obtain⟨u,hu,ru⟩:=rv.get hx
  obtain⟨f0,f1,f2,f3,f4,f5⟩:=hf it (by simp)
  refine wpAny_pyNext_list_item st p.isList (x:=u) (by simpa using hu) fun h' st' sb=>?_
  have I1:Inv X pins σ H { s with heap:=h' }:=I.turned (t':=s.toks) (fun b o hb e=>(sb.2 b hb).trans e) f0 f1 f3 f4 f5
  obtain⟨o,e,c,d⟩:=id st'
  exact⟨u,rfl,Z1b (s:={ s with heap:=h' }) e c d (by decide) ⟨x,H,I1,ru,⟨rfl,fun ys hy=>by rw[I.list_inj hy hq];exact hx⟩,st',fun b hb=>(hf b hb).1⟩⟩
 done:=by
  intro X hP hw hK hc i pins s σ H E I hf st hg
  subst hP hw hK
  obtain⟨xs,hq,hx⟩:=hg
  obtain⟨its,rv,p,hz⟩:=I.list hq
  obtain⟨f0,f1,f2,f3,f4,f5⟩:=hf it (by simp)
  have hl:=rv.length
  exact Sb.Qo (I.qt hc) st p.isList (by simp;omega) fun h' eb=>⟨rfl,I.turned (t':=s.toks) (fun b o hb e=>eb b o hb e) f0 f1 f3 f4 f5⟩
 self:=fun _ _ _ _ _ st h=>wpAny_pyIter_listiter st h
theorem Um {P:Program}{w:World}{K:W.Frag}{tg:Expr}(a it:Addr):Turn P w K tg (Itt K a) [it] it (fun i h=>h.IsTupleIter it a i) where
 mem:=by simp
 obj:=fun i h st b hb=>by
  have e:b=it:=by simpa using hb
  subst e
  obtain⟨o,e,c,d⟩:=st
  exact⟨o,e,fun v z=>by rw[d] at z;cases z⟩
 keep:=fun i h h' st k=>st.at fun o e=>k it (by simp) o e
 item:=by
  intro X hP hw hK hc i pins s σ H E I hf st hg
  subst hP hw hK
  obtain⟨xs,x,hq,hx⟩:=hg
  obtain⟨its,rv,p,hz⟩:=I.tuple hq
  obtain⟨u,hu,ru⟩:=rv.get hx
  obtain⟨f0,f1,f2,f3,f4,f5⟩:=hf it (by simp)
  refine wpAny_pyNext_tuple_item st (show s.heap.IsTuple a its.toArray from p) (x:=u) (by simpa using hu) fun h' st' sb=>?_
  have I1:Inv X pins σ H { s with heap:=h' }:=I.turned (t':=s.toks) (fun b o hb e=>(sb.2 b hb).trans e) f0 f1 f3 f4 f5
  obtain⟨o,e,c,d⟩:=id st'
  exact⟨u,rfl,Z1b (s:={ s with heap:=h' }) e c d (by decide) ⟨x,H,I1,ru,⟨rfl,fun ys hy=>by rw[I.tuple_inj hy hq];exact hx⟩,st',fun b hb=>(hf b hb).1⟩⟩
 done:=by
  intro X hP hw hK hc i pins s σ H E I hf st hg
  subst hP hw hK
  obtain⟨xs,hq,hx⟩:=hg
  obtain⟨its,rv,p,hz⟩:=I.tuple hq
  obtain⟨f0,f1,f2,f3,f4,f5⟩:=hf it (by simp)
  have hl:=rv.length
  exact Sb.Sj (I.qt hc) st (show s.heap.IsTuple a its.toArray from p) (by simp;omega) fun h' eb=>⟨rfl,I.turned (t':=s.toks) (fun b o hb e=>eb b o hb e) f0 f1 f3 f4 f5⟩
 self:=fun _ _ _ _ _ st h=>wpAny_pyIter_tupleiter st h
theorem Ka {P:Program}{w:World}{K:W.Frag}{tg:Expr}(it:Addr)(lo:Int)(n:Nat):Turn P w K tg (Itr lo n) [it] it (fun i h=>IsRangeIter h it (lo+(i:Nat)*1) ((n:Int) - (i:Nat)) 1) where
 mem:=by simp
 obj:=fun i h st b hb=>by
  have e:b=it:=by simpa using hb
  subst e
  exact⟨_,st,fun v z=>by
   have z':Data.fields _=Data.cell v:=z
   cases z'⟩
 keep:=fun i h h' st k=>k it (by simp) _ st
 item:=by
  intro X hP hw hK hc i pins s σ H E I hf st hg
  subst hP hw hK
  obtain⟨f0,f1,f2,f3,f4,f5⟩:=hf it (by simp)
  refine Sb.Q9 i s _ _ hg st fun v h' tk hv st' kk=>?_
  obtain⟨t,rfl⟩:=hv
  have I1:Inv X pins σ H { s with heap:=h',toks:=tk }:=I.turned (fun b o hb e=>kk b o (by simpa using hb) e) f0 f1 f3 f4 f5
  refine⟨_,rfl,Z1b (s:={ s with heap:=h',toks:=tk }) (n:="range_iterator") st' rfl rfl (by decide) ⟨.int (lo+i),H,I1,⟨t,?_⟩,⟨rfl,rfl⟩,st',fun b hb=>(hf b hb).1⟩⟩
  rw[GL]
 done:=by
  intro X hP hw hK hc i pins s σ H E I hf st hg
  subst hP hw hK
  obtain⟨f0,f1,f2,f3,f4,f5⟩:=hf it (by simp)
  exact Sb.Sm (I.qt hc) st (by have:n<=i:=hg;omega) fun h' eb=>⟨rfl,I.turned (t':=s.toks) (fun b o hb e=>eb b o hb e) f0 f1 f3 f4 f5⟩
 self:=fun _ _ _ _ _ st h=>wpAny_pyIter_rangeiter st h
end L2
namespace L2
open PySem PySem.Spec PyProof.Rows
section
variable {X:Cx}{tg:Expr}
def iList (K:W.Frag)(tl:TE):TI:=fun σ H R=>tl σ H fun x H1=>∃ a,x=.ref a/\(∃ xs,SqL K H1 a xs)/\R (Itl K a) H1
def iTup (K:W.Frag)(tl:TE):TI:=fun σ H R=>tl σ H fun x H1=>∃ a,x=.ref a/\(∃ xs,SqT K H1 a xs)/\R (Itt K a) H1
theorem Xd {l:Expr}{tl:TE}(hl:PE X l tl):PI X tg l (iList X.K tl):=by
 intro pins s σ H R I h
 refine thn (hl pins s σ H _ I h) fun v s1 ⟨x,H1,I1,r1,q1⟩=>?_
 obtain⟨a,e,⟨xs,hq⟩,q⟩:=q1
 subst e
 cases r1
 obtain⟨its,rv,p,hz⟩:=I1.list hq
 refine GF p.isList ?_
 refine⟨s1.heap.objs.size,[s1.heap.objs.size],_,_,H1,rfl,I1.kept (t':=s1.toks) fun b o e=>YA _ e,Tp a _,⟨_,YO _ rfl,rfl,rfl⟩,fun b hb=>?_,q⟩
 have e:b=s1.heap.objs.size:=by simpa using hb
 subst e
 exact I1.fpOk (YE _) (I1.hok.fresh (YE _))
theorem Ww {l:Expr}{tl:TE}(hl:PE X l tl):PI X tg l (iTup X.K tl):=by
 intro pins s σ H R I h
 refine thn (hl pins s σ H _ I h) fun v s1 ⟨x,H1,I1,r1,q1⟩=>?_
 obtain⟨a,e,⟨xs,hq⟩,q⟩:=q1
 subst e
 cases r1
 obtain⟨its,rv,p,hz⟩:=I1.tuple hq
 refine GZ (show s1.heap.IsTuple a its.toArray from p) ?_
 refine⟨s1.heap.objs.size,[s1.heap.objs.size],_,_,H1,rfl,I1.kept (t':=s1.toks) fun b o e=>YA _ e,Um a _,⟨_,YO _ rfl,rfl,rfl⟩,fun b hb=>?_,q⟩
 have e:b=s1.heap.objs.size:=by simpa using hb
 subst e
 exact I1.fpOk (YE _) (I1.hok.fresh (YE _))
theorem Bp {pins:List (Addr × Obj)}{σ:St}{H:Hp}{s:Shared}{R:It->Hp->Prop}{E:Value->Shared->Prop}{lo hi:Int}{t u v:Tok}{tk:Nat}(I:Inv X pins σ H s)(h1:-(2 ^ 62)<=lo)(h2:lo<2 ^ 62)(h3:-(2 ^ 62)<=hi)(h4:hi<2 ^ 62)
  (q:R (Itr lo (hi - lo).toNat) H):wpAny (model X.prog X.w) X.A (pyIter (.ref s.heap.objs.size)) (PIE X pins σ tg R) E { s with heap:=s.heap.push { cls:=.type "range",data:=.fields #[.int lo t,.int hi u,.int 1 v] },toks:=tk }:=by
 refine wpAny_pyIter_range (IsRange.new ..) (small_one h1 h2 h3 h4) ?_
 have I1:Inv X pins σ H { s with heap:=s.heap.push { cls:=.type "range",data:=.fields #[.int lo t,.int hi u,.int 1 v] },toks:=tk }:=I.kept fun b o e=>YA _ e
 refine⟨(s.heap.push { cls:=.type "range",data:=.fields #[.int lo t,.int hi u,.int 1 v] }).objs.size,[(s.heap.push { cls:=.type "range",data:=.fields #[.int lo t,.int hi u,.int 1 v] }).objs.size],_,_,H,rfl,
  I1.kept (t':=tk) fun b o e=>YA _ e,Ka _ lo (hi - lo).toNat,?_,fun b hb=>?_,q⟩
 ·have e1:lo+((0:Nat):Int)*1=lo:=by simp
  have e2:(((hi - lo).toNat:Nat):Int) - ((0:Nat):Int)=Builtin.Range.rangeSize lo hi 1:=by rw[rangeSize_one];split <;> omega
  show IsRangeIter _ _ (lo+((0:Nat):Int)*1) ((((hi - lo).toNat:Nat):Int) - ((0:Nat):Int)) 1
  rw[e1,e2]
  exact YO _ rfl
 ·have e:b=(s.heap.push { cls:=.type "range",data:=.fields #[.int lo t,.int hi u,.int 1 v] }).objs.size:=by simpa using hb
  subst e
  exact I1.fpOk (YE _) (I1.hok.fresh (YE _))
def iRng1 (ta:TA):TI:=fun σ H R=>ta σ H fun vs H1=>∃ j:Int,vs=[.int j]/\-(2 ^ 62)<=j/\j<2 ^ 62/\R (Itr 0 j.toNat) H1
theorem Yx {a:Expr}{ta:TA}{p pos:Pos}(hg:Gl X "range")(hm:X.mg "range"=none)(ha:PA X [a] ta)(hs:starEach [a] X.env=[(false,eval a X.env)]:=by rfl):PI X tg (.Call (.Name "range" p) [a] [] pos) (iRng1 ta):=by
 intro pins s σ H R I h
 refine Call_ (W5 I hg hm boot_range (XS (thn (ha pos pins s σ H _ I h) fun us s1 ⟨vs,H1,I1,r1,q1⟩=>?_) hs rfl))
 obtain⟨j,e,q1,q2,q⟩:=q1
 subst e
 cases r1 with
 | cons r rr =>
  cases rr
  obtain⟨t,rfl⟩:=r
  exact call_range_1 (Bp I1 (by omega) (by omega) q1 q2 (by simpa using q))
def tFor (wi:TI)(g:TG)(tb:TS):TS:=fun D σ H=>wi σ H fun J H1=>∃ W:Nat->Nat->St->Hp->Prop,(∃ m,W 0 m σ H1)/\∀ i m σ H,W i m σ H →
 (J.stop i H/\D.nx σ H) \/ (J.go i H/\∃ N:St->Hp->Prop,(∀ σ' H',N σ' H'->∃ m',m'<m/\W (i+1) m' σ' H')/\∀ x H',J.yld i H x H'->g x σ H' fun σ2 H2=>tb { D with nx:=N,ct:=N,bk:=D.nx } σ2 H2)
def pinsAt (fp:List Addr)(h:Heap):List (Addr × Obj):=fp.filterMap fun b=>(h.get? b).map fun o=>(b,o)
theorem Xt {fp:List Addr}{h:Heap}{b:Addr}{o:Obj}(hb:b∈fp)(e:h.get? b=some o):(b,o)∈pinsAt fp h:=Y0a.mpr ⟨b,hb,by rw[e];rfl⟩
theorem Di {fp:List Addr}{h:Heap}{p:Addr × Obj}(hp:p∈pinsAt fp h):p.1∈fp/\h.get? p.1=some p.2:=by
 obtain⟨b,hb,e⟩:=Y0a.mp hp
 cases q:h.get? b with
 | none=>rw[q] at e;cases e
 | some o =>
  rw[q] at e
  have e':(b,o)=p:=YK e
  subst e'
  exact⟨hb,q⟩
theorem Inv.pinned {pins:List (Addr × Obj)}{σ:St}{H:Hp}{s:Shared}{fp:List Addr}(I:Inv X pins σ H s)(hf:∀ b∈fp,FpOk X pins H b)(ho:∀ b∈fp,∃ o,s.heap.get? b=some o/\∀ v,o.data≠.cell v):Inv X (pins++pinsAt fp s.heap) σ H s :=
 I.pins_of fun p hp=>(JV.mp hp).elim (fun z=>I.pin p (XL _ z)) fun z=>by
  obtain⟨hb,e⟩:=Di z
  obtain⟨f0,f1,f2,_⟩:=hf p.1 hb
  obtain⟨o,e',d⟩:=ho p.1 hb
  rw[e] at e';cases e'
  exact⟨e,f0,f1,f2,d⟩
theorem Inv.unpinned {pins pl:List (Addr × Obj)}{σ:St}{H:Hp}{s:Shared}(I:Inv X (pins++pl) σ H s):Inv X pins σ H s:=I.pins_of fun p hp=>I.pin p (XL _ (YL _ hp))
theorem Xs {iter:Expr}{body:List Stmt}{wi:TI}{g:TG}{tb:TS}{pos:Pos}(hp:PassesOwn (model X.prog X.w) X.A X.env X.xe)(hc:X.calm=true)(hi:PI X tg iter wi)(hg:PG X tg g)(hb:PSs X body tb)
  (hs:∀ x,foldedSetIterable iter X.env x=pure x:=by intro _;rfl):PS X (.For tg iter body [] pos) (tFor wi g tb):=by
 intro pins s σ H D I h
 refine wpAny_For (thn (hi pins s σ H _ I h) fun v s1 h1=>thn h1 fun itv s2 h2=>?_) hs
 obtain⟨it,fp,tn,J,H2,e,I2,T,st2,f2,W,⟨m0,w0⟩,turn⟩:=h2
 subst e
 have stat:∀ {H':Hp},(∀ b∈fp,H' b=none)->∀ b∈fp,FpOk X pins H' b:=fun hn b hb=>⟨hn b hb,(f2 b hb).2⟩
 refine codeAny_forLoop_any (fun n s'=>∃ i σ' H',Inv X pins σ' H' s'/\tn i s'.heap/\(∀ b∈fp,H' b=none)/\W i n σ' H') ?_ m0 ⟨0,σ,H2,I2,st2,fun b hb=>(f2 b hb).1,w0⟩
 rintro n s3 ⟨i,σ3,H3,I3,st3,fr3,w3⟩
 rcases turn i n σ3 H3 w3 with ⟨stop,qn⟩ | ⟨go,N,hN,step⟩
 ·refine z9 hp (thn (T.done X rfl rfl rfl hc i pins s3 σ3 H3 X.xe I3 (stat fr3) st3 stop) fun r s4 ⟨hr,I4⟩=>?_)
  subst hr
  exact zL ⟨σ3,H3,I4,qn⟩
 ·refine z9 hp (thn (T.item X rfl rfl rfl hc i pins s3 σ3 H3 X.xe I3 (stat fr3) st3 go) fun r s4 ⟨u,hr,h4⟩=>?_)
  subst hr
  refine z9 hp (thn h4 fun _ s5 ⟨x,H5,I5,r5,y5,st5,fr5⟩=>?_)
  have I5':=I5.pinned (stat fr5) (T.obj _ _ st5)
  refine z9 hp (thn (hg _ s5 σ3 H5 x u _ I5' r5 (step x H5 y5)) fun _ s6 ⟨σ6,H6,I6,q6⟩=>?_)
  refine z9 hp (thn (hb _ s6 σ6 H6 _ I6 q6) fun f s7 q7=>?_)
  have again:∀ {σ7:St} {H7:Hp},Inv X (pins++pinsAt fp s5.heap) σ7 H7 s7->N σ7 H7->∃ m,m<n/\∃ i σ' H',Inv X pins σ' H' s7/\tn i s7.heap/\(∀ b∈fp,H' b=none)/\W i m σ' H':=fun {σ7 H7} I7 n7=>by
   obtain⟨m',hm,w7⟩:=hN σ7 H7 n7
   refine⟨m',hm,i+1,σ7,H7,I7.unpinned,T.keep _ _ _ st5 fun b hb o e=>(I7.pin (b,o) (XL _ (XL _ (Xt hb e)))).1,fun b hb=>?_,w7⟩
   obtain⟨o,e,d⟩:=T.obj _ _ st5 b hb
   exact (I7.pin (b,o) (XL _ (XL _ (Xt hb e)))).2.1
  cases f with
  | next=>obtain⟨σ7,H7,I7,n7⟩:=q7;exact again I7 n7
  | cont=>obtain⟨σ7,H7,I7,n7⟩:=q7;exact again I7 n7
  | brk=>obtain⟨σ7,H7,I7,q7⟩:=q7;exact⟨σ7,H7,I7.unpinned,q7⟩
  | ret v=>obtain⟨x7,σ7,H7,I7,r7,q7⟩:=q7;exact⟨x7,σ7,H7,I7.unpinned,r7,q7⟩
end
theorem Tj {K:W.Frag}{a:Addr}{xs:List V}{g:TG}{tb:TS}{D:Ends}{σ:St}{H:Hp}(Pv:Nat->St->Hp->Prop)(h0:Pv 0 σ H)(hl:∀ i σ H,i<=xs.length->Pv i σ H->SqL K H a xs)
  (hs:∀ i x σ H,xs[i]?=some x->Pv i σ H->g x σ H fun σ2 H2=>tb { D with nx:=Pv (i+1),ct:=Pv (i+1),bk:=D.nx } σ2 H2) (hd:∀ σ H,Pv xs.length σ H->D.nx σ H) :
  ∃ W:Nat->Nat->St->Hp->Prop,(∃ m,W 0 m σ H)/\∀ i m σ H,W i m σ H →
   ((Itl K a).stop i H/\D.nx σ H) \/ ((Itl K a).go i H/\∃ N:St->Hp->Prop,(∀ σ' H',N σ' H'->∃ m',m'<m/\W (i+1) m' σ' H')/\∀ x H',(Itl K a).yld i H x H'->g x σ H' fun σ2 H2=>tb { D with nx:=N,ct:=N,bk:=D.nx } σ2 H2):=by
 refine⟨fun i m σ H=>m=xs.length - i/\i<=xs.length/\Pv i σ H,⟨xs.length,by simp,JZ _,h0⟩,?_⟩
 rintro i m σ H ⟨rfl,hi,p⟩
 have q:=hl i σ H hi p
 by_cases hlt:i<xs.length
 ·refine .inr ⟨⟨xs,xs[i],q,by simp[hlt]⟩,Pv (i+1),fun σ' H' p'=>⟨xs.length - (i+1),by omega,rfl,hlt,p'⟩,fun x H' y=>?_⟩
  obtain⟨e,y⟩:=y
  subst e
  exact hs i x σ _ (y xs q) p
 ·have e:i=xs.length:=by omega
  subst e
  exact .inl ⟨⟨xs,q,YE _⟩,hd σ H p⟩
theorem M1 {K:W.Frag}{a:Addr}{xs:List V}{g:TG}{tb:TS}{D:Ends}{σ:St}{H:Hp}(Pv:Nat->St->Hp->Prop)(h0:Pv 0 σ H)(hl:∀ i σ H,i<=xs.length->Pv i σ H->SqT K H a xs)
  (hs:∀ i x σ H,xs[i]?=some x->Pv i σ H->g x σ H fun σ2 H2=>tb { D with nx:=Pv (i+1),ct:=Pv (i+1),bk:=D.nx } σ2 H2) (hd:∀ σ H,Pv xs.length σ H->D.nx σ H) :
  ∃ W:Nat->Nat->St->Hp->Prop,(∃ m,W 0 m σ H)/\∀ i m σ H,W i m σ H →
   ((Itt K a).stop i H/\D.nx σ H) \/ ((Itt K a).go i H/\∃ N:St->Hp->Prop,(∀ σ' H',N σ' H'->∃ m',m'<m/\W (i+1) m' σ' H')/\∀ x H',(Itt K a).yld i H x H'->g x σ H' fun σ2 H2=>tb { D with nx:=N,ct:=N,bk:=D.nx } σ2 H2):=by
 refine⟨fun i m σ H=>m=xs.length - i/\i<=xs.length/\Pv i σ H,⟨xs.length,by simp,JZ _,h0⟩,?_⟩
 rintro i m σ H ⟨rfl,hi,p⟩
 have q:=hl i σ H hi p
 by_cases hlt:i<xs.length
 ·refine .inr ⟨⟨xs,xs[i],q,by simp[hlt]⟩,Pv (i+1),fun σ' H' p'=>⟨xs.length - (i+1),by omega,rfl,hlt,p'⟩,fun x H' y=>?_⟩
  obtain⟨e,y⟩:=y
  subst e
  exact hs i x σ _ (y xs q) p
 ·have e:i=xs.length:=by omega
  subst e
  exact .inl ⟨⟨xs,q,YE _⟩,hd σ H p⟩
theorem N0 {lo:Int}{n:Nat}{g:TG}{tb:TS}{D:Ends}{σ:St}{H:Hp}(Pv:Nat->St->Hp->Prop)(h0:Pv 0 σ H)
  (hs:∀ i σ H,i<n->Pv i σ H->g (.int (lo+i)) σ H fun σ2 H2=>tb { D with nx:=Pv (i+1),ct:=Pv (i+1),bk:=D.nx } σ2 H2) (hd:∀ σ H,Pv n σ H->D.nx σ H) :
  ∃ W:Nat->Nat->St->Hp->Prop,(∃ m,W 0 m σ H)/\∀ i m σ H,W i m σ H →
   ((Itr lo n).stop i H/\D.nx σ H) \/ ((Itr lo n).go i H/\∃ N:St->Hp->Prop,(∀ σ' H',N σ' H'->∃ m',m'<m/\W (i+1) m' σ' H')/\∀ x H',(Itr lo n).yld i H x H'->g x σ H' fun σ2 H2=>tb { D with nx:=N,ct:=N,bk:=D.nx } σ2 H2):=by
 refine⟨fun i m σ H=>m=n - i/\i<=n/\Pv i σ H,⟨n,by simp,JZ _,h0⟩,?_⟩
 rintro i m σ H ⟨rfl,hi,p⟩
 by_cases hlt:i<n
 ·refine .inr ⟨hlt,Pv (i+1),fun σ' H' p'=>⟨n - (i+1),by omega,rfl,hlt,p'⟩,fun x H' y=>?_⟩
  obtain⟨e,y⟩:=y
  subst e y
  exact hs i σ _ hlt p
 ·have e:i=n:=by omega
  subst e
  exact .inl ⟨YE _,hd σ H p⟩
theorem Mf {c:TT}{tb:TS}{D:Ends}{σ:St}{H:Hp}(Pv:St->Hp->Prop)(μ:St->Hp->Nat)(h0:Pv σ H)
  (hs:∀ σ H,Pv σ H->c σ H fun b H1=>if b=true then tb { D with nx:=fun σ' H'=>Pv σ' H'/\μ σ' H'<μ σ H,ct:=fun σ' H'=>Pv σ' H'/\μ σ' H'<μ σ H,bk:=D.nx } σ H1 else D.nx σ H1)
  (mono:∀ σ H Q Q',(∀ b H1,Q b H1->Q' b H1)->c σ H Q->c σ H Q'):tWhile c tb D σ H:=by
 refine⟨fun m σ H=>m=μ σ H/\Pv σ H,⟨_,rfl,h0⟩,?_⟩
 rintro m σ H ⟨rfl,p⟩
 refine mono σ H _ _ (fun b H1 q=>?_) (hs σ H p)
 cases b with
 | true=>exact⟨_,fun σ' H' ⟨p',l⟩=>⟨_,l,rfl,p'⟩,q⟩
 | false=>exact q
end L2
namespace L2
open PySem PySem.Spec PyProof.Rows
abbrev R2:=V->V->Hp->VK->Prop
def OpR (X:Cx)(f:Value->Value->Sem Value)(r:R2):Prop :=
 ∀ (pins:List (Addr × Obj)) (s:Shared) (σ:St) (H:Hp) (x y:V) (v u:Value) (Q:VK),Inv X pins σ H s->RelV x v->RelV y u->r x y H Q →
  wpAny (model X.prog X.w) X.A (f v u) (EP X pins σ Q) X.xe s
def UnR (X:Cx)(f:Value->Sem Value)(r:V->Hp->VK->Prop):Prop :=
 ∀ (pins:List (Addr × Obj)) (s:Shared) (σ:St) (H:Hp) (x:V) (v:Value) (Q:VK),Inv X pins σ H s->RelV x v->r x H Q →
  wpAny (model X.prog X.w) X.A (f v) (EP X pins σ Q) X.xe s
def CallR (X:Cx)(f:Value)(r:List V->Hp->VK->Prop):Prop :=
 ∀ (pins:List (Addr × Obj)) (s:Shared) (σ:St) (H:Hp) (xs:List V) (us:List Value) (Q:VK),Inv X pins σ H s->Vals xs us->r xs H Q →
  wpAny (model X.prog X.w) X.A (call f us) (EP X pins σ Q) X.xe s
def TruR (X:Cx)(r:V->Hp->(Bool->Hp->Prop)->Prop):Prop :=
 ∀ (pins:List (Addr × Obj)) (s:Shared) (σ:St) (H:Hp) (x:V) (v:Value) (Q:Bool->Hp->Prop),Inv X pins σ H s->RelV x v->r x H Q →
  wpAny (model X.prog X.w) X.A (truthy v) (TP X pins σ Q) X.xe s
def tOp (r:R2)(ta tb:TE):TE:=fun σ H Q=>ta σ H fun x H1=>tb σ H1 fun y H2=>r x y H2 Q
def tUn (r:V->Hp->VK->Prop)(ta:TE):TE:=fun σ H Q=>ta σ H fun x H1=>r x H1 Q
def rI (C:Int->Int->Prop)(g:Int->Int->V):R2:=fun x y H Q=>∃ i j,x=.int i/\y=.int j/\C i j/\Q (g i j) H
def rI0 (g:Int->Int->V):R2:=fun x y H Q=>∃ i j,x=.int i/\y=.int j/\Q (g i j) H
def rU (g:Int->V):V->Hp->VK->Prop:=fun x H Q=>∃ i,x=.int i/\Q (g i) H
section
variable {X:Cx}{a b c:Expr}{ta tb tc:TE}{pos:Pos}
theorem Z5x (ha:PE X a ta)(hb:PE X b tb){pins:List (Addr × Obj)}{s:Shared}{σ:St}{H:Hp}{R:V->V->Hp->Prop}(I:Inv X pins σ H s)
  (h:ta σ H fun x H1=>tb σ H1 fun y H2=>R x y H2) {Q:Value->Shared->Prop} {f:Value->Value->Sem Value}
  (hf:∀ v u s2 x y H2,Inv X pins σ H2 s2->RelV x v->RelV y u->R x y H2->wpAny (model X.prog X.w) X.A (f v u) Q X.xe s2) :
  wpAny (model X.prog X.w) X.A (eval a X.env) (fun v s₁=>wpAny (model X.prog X.w) X.A (eval b X.env) (fun u s₂=>wpAny (model X.prog X.w) X.A (f v u) Q X.xe s₂) X.xe s₁) X.xe s:=by
 refine thn (ha pins s σ H _ I h) fun v s1 ⟨x,H1,I1,r1,q1⟩=>?_
 refine thn (hb pins s1 σ H1 _ I1 q1) fun u s2 ⟨y,H2,I2,r2,q2⟩=>?_
 exact hf v u s2 x y H2 I2 r1 r2 q2
theorem Zl {op:Operator}{r:R2}(ho:OpR X (binaryOp op) r)(ha:PE X a ta)(hb:PE X b tb):PE X (.BinOp a op b pos) (tOp r ta tb):=by
 intro pins s σ H Q I h
 exact wpAny_BinOp (Z5x ha hb I h fun v u s2 x y H2 I2 rx ry q=>ho pins s2 σ H2 x y v u Q I2 rx ry q)
theorem Vq {op:UnaryOp}{r:V->Hp->VK->Prop}(ho:UnR X (unaryOp op) r)(ha:PE X a ta):PE X (.UnaryOp op a pos) (tUn r ta):=by
 intro pins s σ H Q I h
 exact UnaryOp_ (thn (ha pins s σ H _ I h) fun v s1 ⟨x,H1,I1,r1,q1⟩=>ho pins s1 σ H1 x v Q I1 r1 q1)
theorem opI {f:Value->Value->Sem Value}{C:Int->Int->Prop}{g:Int->Int->Int}
  (rule:∀ (i j:Int) (t u:Tok) (s:Shared) (Q:Value->Shared->Prop) (E:Value->Shared->Prop),C i j->Q (.int (g i j) s.toks) { s with toks:=s.toks+1 }->wpAny (model X.prog X.w) X.A (f (.int i t) (.int j u)) Q E s) :
  OpR X f (rI C fun i j=>.int (g i j)):=by
 intro pins s σ H x y v u Q I rx ry h
 obtain⟨i,j,rfl,rfl,hc,q⟩:=h
 obtain⟨t,rfl⟩:=rx
 obtain⟨t',rfl⟩:=ry
 exact rule i j t t' s _ _ hc ⟨.int (g i j),H,I.tok _,⟨_,rfl⟩,q⟩
theorem Z65 {f:Value->Value->Sem Value}{g:Int->Int->Int}
  (rule:∀ (i j:Int) (t u:Tok) (s:Shared) (Q:Value->Shared->Prop) (E:Value->Shared->Prop),Q (.int (g i j) s.toks) { s with toks:=s.toks+1 }->wpAny (model X.prog X.w) X.A (f (.int i t) (.int j u)) Q E s) :
  OpR X f (rI0 fun i j=>.int (g i j)):=by
 intro pins s σ H x y v u Q I rx ry h
 obtain⟨i,j,rfl,rfl,q⟩:=h
 obtain⟨t,rfl⟩:=rx
 obtain⟨t',rfl⟩:=ry
 exact rule i j t t' s _ _ ⟨.int (g i j),H,I.tok _,⟨_,rfl⟩,q⟩
theorem Z2s {f:Value->Value->Sem Value}{g:Int->Int->Bool}
  (rule:∀ (i j:Int) (t u:Tok) (s:Shared) (Q:Value->Shared->Prop) (E:Value->Shared->Prop),Q (.bool (g i j)) s->wpAny (model X.prog X.w) X.A (f (.int i t) (.int j u)) Q E s) :
  OpR X f (rI0 fun i j=>.bl (g i j)):=by
 intro pins s σ H x y v u Q I rx ry h
 obtain⟨i,j,rfl,rfl,q⟩:=h
 obtain⟨t,rfl⟩:=rx
 obtain⟨t',rfl⟩:=ry
 exact rule i j t t' s _ _ ⟨.bl (g i j),H,I,rfl,q⟩
def CPow (i j:Int):Prop:=0<=j/\j<=1000000/\i.natAbs<2 ^ 64
def CMul (i j:Int):Prop:=(-(2 ^ 64)<i/\i<2 ^ 64) \/ (-(2 ^ 64)<j/\j<2 ^ 64)
theorem Yz:OpR X (binaryOp .Add) (rI0 fun i j=>.int (i+j)):=Z65 fun _ _ _ _ _ _ _ q=>add_int q
theorem U4:OpR X (binaryOp .Sub) (rI0 fun i j=>.int (i - j)):=Z65 fun _ _ _ _ _ _ _ q=>sub_int q
theorem W3:OpR X (binaryOp .Mod) (rI (fun _ j=>0<j) fun i j=>.int (i % j)):=opI fun i j _ _ _ _ _ hc q=>by
 have h1:(0:Int)<j:=hc
 exact mod_int' (by omega) (by rw[Int.fmod_eq_emod_of_nonneg i (by omega)];exact q)
theorem Z2p:OpR X (binaryOp .Mod) (rI (fun _ j=>j≠0) fun i j=>.int (i.fmod j)):=opI fun _ _ _ _ _ _ _ hc q=>mod_int' hc q
theorem No:OpR X (binaryOp .Pow) (rI CPow fun i j=>.int (i ^ j.toNat)):=opI fun _ _ _ _ _ _ _ hc q=>pow_int_small hc.1 hc.2.1 hc.2.2 q
theorem unI {f:Value->Sem Value}{g:Int->Int}
  (rule:∀ (i:Int) (t:Tok) (s:Shared) (Q:Value->Shared->Prop) (E:Value->Shared->Prop),Q (.int (g i) s.toks) { s with toks:=s.toks+1 }->wpAny (model X.prog X.w) X.A (f (.int i t)) Q E s) :
  UnR X f (rU fun i=>.int (g i)):=by
 intro pins s σ H x v Q I rx h
 obtain⟨i,rfl,q⟩:=h
 obtain⟨t,rfl⟩:=rx
 exact rule i t s _ _ ⟨.int (g i),H,I.tok _,⟨_,rfl⟩,q⟩
theorem Xz:UnR X (unaryOp .USub) (rU fun i=>.int (-i)):=unI fun _ _ _ _ _ q=>neg_int q
end
def scal:V->V->Bool
 | .non,.non=>true | .non,.int _=>true | .int _,.non=>true | .non,.bl _=>true | .bl _,.non=>true | .non,.str _=>true | .str _,.non=>true
 | .int _,.int _=>true | .bl _,.bl _=>true | .str _,.str _=>true | .byt _,.byt _=>true
 | .int _,.str _=>true | .str _,.int _=>true | .bl _,.str _=>true | .str _,.bl _=>true
 | _,_=>false
def rEq:R2:=fun x y H Q=>scal x y=true/\Q (.bl (decide (x=y))) H
def rNe:R2:=fun x y H Q=>scal x y=true/\Q (.bl (!decide (x=y))) H
theorem Fe {i j:Int}:decide (V.int i=V.int j)=(i == j):=by
 rw[GI]
 simp
theorem Z1u {i j:Bool}:decide (V.bl i=V.bl j)=(i == j):=by
 rw[GI]
 simp
theorem Fd {i j:Str}:decide (V.str i=V.str j)=(i == j):=by
 rw[GI]
 simp
theorem Ff {i j:Array UInt8}:decide (V.byt i=V.byt j)=(i.toList == j.toList):=by
 rw[GI]
 cases i
 cases j
 simp
section
variable {X:Cx}{a b c:Expr}{ta tb tc:TE}{pos:Pos}
theorem Yd {pins:List (Addr × Obj)}{σ:St}{H:Hp}{s:Shared}{Q:VK}{k k':Bool}(I:Inv X pins σ H s)(q:Q (.bl k) H)(e:k=k'):EP X pins σ Q (.bool k') s:=by
 subst e
 exact⟨.bl k,H,I,rfl,q⟩
theorem Xo:OpR X (compareOp .Eq) rEq:=by
 intro pins s σ H x y v u Q I rx ry h
 obtain⟨hs,q⟩:=h
 cases x with
 | non =>
  cases rx
  cases y with
  | non=>cases ry;exact PySem.EqNone.eq_none_none (Yd I q (by simp))
  | bl j=>cases ry;exact PySem.EqNone.eq_none_bool (Yd I q (by simp))
  | int j=>obtain⟨t',rfl⟩:=ry;exact PySem.EqNone.eq_none_int (Yd I q (by simp))
  | str j=>obtain⟨t',rfl⟩:=ry;exact PySem.EqNone.eq_none_str (Yd I q (by simp))
  | _=>exact absurd (show false=true from hs) YT
 | bl i =>
  cases rx
  cases y with
  | non=>cases ry;exact PySem.EqNone.eq_bool_none (Yd I q (by simp))
  | bl j=>cases ry;exact eq_bool (Yd I q Z1u)
  | str j=>obtain⟨t',rfl⟩:=ry;exact PySem.EqMixed.eq_bool_str (Yd I q (by simp))
  | _=>exact absurd (show false=true from hs) YT
 | int i =>
  obtain⟨t,rfl⟩:=rx
  cases y with
  | non=>cases ry;exact PySem.EqNone.eq_int_none (Yd I q (by simp))
  | int j=>obtain⟨t',rfl⟩:=ry;exact eq_int (Yd I q Fe)
  | str j=>obtain⟨t',rfl⟩:=ry;exact PySem.EqMixed.eq_int_str (Yd I q (by simp))
  | _=>exact absurd (show false=true from hs) YT
 | str i =>
  obtain⟨t,rfl⟩:=rx
  cases y with
  | non=>cases ry;exact PySem.EqNone.eq_str_none (Yd I q (by simp))
  | bl j=>cases ry;exact PySem.EqMixed.eq_str_bool (Yd I q (by simp))
  | int j=>obtain⟨t',rfl⟩:=ry;exact PySem.EqMixed.eq_str_int (Yd I q (by simp))
  | str j=>obtain⟨t',rfl⟩:=ry;exact eq_str (Yd I q Fd)
  | _=>exact absurd (show false=true from hs) YT
 | byt i =>
  obtain⟨t,rfl⟩:=rx
  cases y with
  | byt j=>obtain⟨t',rfl⟩:=ry;exact W.eq_bytes (Yd I q Ff)
  | _=>exact absurd (show false=true from hs) YT
 | _=>cases y <;> exact absurd (show false=true from hs) YT
theorem Pu:OpR X (compareOp .NotEq) rNe:=by
 intro pins s σ H x y v u Q I rx ry h
 obtain⟨hs,q⟩:=h
 cases x with
 | non =>
  cases rx
  cases y with
  | non=>cases ry;exact PySem.EqNone.ne_none_none (Yd I q (by simp))
  | bl j=>cases ry;exact PySem.EqNone.ne_none_bool (Yd I q (by simp))
  | int j=>obtain⟨t',rfl⟩:=ry;exact PySem.EqNone.ne_none_int (Yd I q (by simp))
  | str j=>obtain⟨t',rfl⟩:=ry;exact PySem.EqNone.ne_none_str (Yd I q (by simp))
  | _=>exact absurd (show false=true from hs) YT
 | bl i =>
  cases rx
  cases y with
  | non=>cases ry;exact PySem.EqNone.ne_bool_none (Yd I q (by simp))
  | bl j=>cases ry;exact ne_bool (Yd I q (congrArg not Z1u))
  | str j=>obtain⟨t',rfl⟩:=ry;exact PySem.EqMixed.ne_bool_str (Yd I q (by simp))
  | _=>exact absurd (show false=true from hs) YT
 | int i =>
  obtain⟨t,rfl⟩:=rx
  cases y with
  | non=>cases ry;exact PySem.EqNone.ne_int_none (Yd I q (by simp))
  | int j=>obtain⟨t',rfl⟩:=ry;exact ne_int (Yd I q (congrArg not Fe))
  | str j=>obtain⟨t',rfl⟩:=ry;exact PySem.EqMixed.ne_int_str (Yd I q (by simp))
  | _=>exact absurd (show false=true from hs) YT
 | str i =>
  obtain⟨t,rfl⟩:=rx
  cases y with
  | non=>cases ry;exact PySem.EqNone.ne_str_none (Yd I q (by simp))
  | bl j=>cases ry;exact PySem.EqMixed.ne_str_bool (Yd I q (by simp))
  | int j=>obtain⟨t',rfl⟩:=ry;exact PySem.EqMixed.ne_str_int (Yd I q (by simp))
  | str j=>obtain⟨t',rfl⟩:=ry;exact ne_str (Yd I q (congrArg not Fd))
  | _=>exact absurd (show false=true from hs) YT
 | byt i =>
  obtain⟨t,rfl⟩:=rx
  cases y with
  | byt j=>obtain⟨t',rfl⟩:=ry;exact W.ne_bytes (Yd I q (congrArg not Ff))
  | _=>exact absurd (show false=true from hs) YT
 | _=>cases y <;> exact absurd (show false=true from hs) YT
theorem Qe:OpR X (compareOp .Lt) (rI0 fun i j=>.bl (decide (i<j))):=Z2s fun _ _ _ _ _ _ _ q=>lt_int q
theorem Z07:OpR X (compareOp .LtE) (rI0 fun i j=>.bl (decide (i<=j))):=Z2s fun _ _ _ _ _ _ _ q=>le_int q
theorem Qg:OpR X (compareOp .Gt) (rI0 fun i j=>.bl (decide (j<i))):=Z2s fun _ _ _ _ _ _ _ q=>gt_int q
theorem Z64:OpR X (compareOp .GtE) (rI0 fun i j=>.bl (decide (j<=i))):=Z2s fun _ _ _ _ _ _ _ q=>ge_int q
theorem Qf:OpR X (compareOp .Is) (fun x y H Q=>y=.non/\Q (.bl (decide (x=.non))) H):=by
 intro pins s σ H x y v u Q I rx ry h
 obtain⟨rfl,q⟩:=h
 cases ry
 refine is_none_gen (Yd I q ?_)
 cases x <;> first
  | (cases rx;rfl)
  | (obtain⟨t,rfl⟩:=rx;rfl)
theorem Vk:OpR X (compareOp .IsNot) (fun x y H Q=>y=.non/\Q (.bl (!decide (x=.non))) H):=by
 intro pins s σ H x y v u Q I rx ry h
 obtain⟨rfl,q⟩:=h
 cases ry
 refine isnot_none_gen (Yd I q ?_)
 cases x <;> first
  | (cases rx;rfl)
  | (obtain⟨t,rfl⟩:=rx;rfl)
theorem Zq (b:Expr){op:CmpOp}(h:op≠.In:=by decide)(h2:op≠.NotIn:=by decide):behindInMarks op b=false:=by
 have e1:(op == CmpOp.In)=false:=by cases op <;> first | rfl | exact absurd rfl h
 have e2:(op == CmpOp.NotIn)=false:=by cases op <;> first | rfl | exact absurd rfl h2
 cases b <;> simp[behindInMarks,e1,e2]
theorem Xn {op:CmpOp}{r:R2}(ho:OpR X (compareOp op) r)(ha:PE X a ta)(hb:PE X b tb)(hm:behindInMarks op b=false):PE X (.Compare a [op] [b] pos) (tOp r ta tb):=by
 intro pins s σ H Q I h
 exact wpAny_Compare1 (Z5x ha hb I h fun v u s2 x y H2 I2 rx ry q=>ho pins s2 σ H2 x y v u Q I2 rx ry q) hm
def tTest (t:TE):TT:=fun σ H Q=>t σ H fun x H'=>∃ k,x=.bl k/\Q k H'
theorem Zn {op:CmpOp}{r:R2}(ho:OpR X (compareOp op) r)(ha:PE X a ta)(hb:PE X b tb)(hm:behindInMarks op b=false):PT X (.Compare a [op] [b] pos) (tTest (tOp r ta tb)):=by
 intro pins s σ H Q I h
 refine wpAny_isTrue_Compare1 (thn (ha pins s σ H _ I h) fun v s1 ⟨x,H1,I1,r1,q1⟩=>thn (hb pins s1 σ H1 _ I1 q1) fun u s2 ⟨y,H2,I2,r2,q2⟩ =>
  thn (ho pins s2 σ H2 x y v u _ I2 r1 r2 q2) fun c s3 ⟨z,H3,I3,r3,k,e,q3⟩=>?_) hm
 subst e
 cases r3
 exact zd ⟨H3,I3,q3⟩
def TruV (K:W.Frag)(x:V)(H:Hp)(k:Bool):Prop :=
 match x with
 | .non=>k=false
 | .bl b=>k=b
 | .int i=>k=(i != 0)
 | .str y=>y.length<=sizeLine/\k=((y.length:Int) != 0)
 | .byt y=>y.size<=sizeLine/\k=((y.size:Int) != 0)
 | .ref p=>(∃ xs,SqL K H p xs/\k=!xs.isEmpty) \/ (∃ xs,SqT K H p xs/\k=!xs.isEmpty) \/ ∃ kvs,H p=some (.dK kvs)/\k=!kvs.isEmpty
 | _=>False
theorem Jd {κ:Type}{kvs:List (κ × V)}{vs:List (κ × Value)}(r:KV kvs vs):(!vs.isEmpty)=!kvs.isEmpty:=by
 cases r <;> rfl
theorem Qs {xs:List V}{its:List Value}(r:Vals xs its):(!its.toArray.isEmpty)=!xs.isEmpty:=by
 cases r <;> simp
theorem Qp:(sizeLine:Nat)<2 ^ 63:=by rw[Y0q];decide
theorem Z4h:TruR X (fun x H Q=>∃ k,TruV X.K x H k/\Q k H):=by
 intro pins s σ H x v Q I rx h
 obtain⟨k,e,q⟩:=h
 have hl:=Qp
 have hs:sizeLine=16777216:=Y0q
 cases x with
 | non =>
  cases rx
  have e':k=false:=e
  subst e'
  exact truthy_none ⟨H,I,q⟩
 | bl b =>
  cases rx
  have e':k=b:=e
  subst e'
  exact zd ⟨H,I,q⟩
 | int i =>
  obtain⟨t,rfl⟩:=rx
  have e':k=(i != 0):=e
  subst e'
  exact PySem.P.truthy_int ⟨H,I,q⟩
 | str y =>
  obtain⟨t,rfl⟩:=rx
  obtain⟨hy,e'⟩:y.length<=sizeLine/\k=((y.length:Int) != 0):=e
  subst e'
  exact PySem.P.truthy_str (by omega) ⟨H,I.tok _,q⟩
 | byt y =>
  obtain⟨t,rfl⟩:=rx
  obtain⟨hy,e'⟩:y.size<=sizeLine/\k=((y.size:Int) != 0):=e
  subst e'
  exact W.truthy_bytes (by omega) ⟨H,I.tok _,q⟩
 | ref p =>
  cases rx
  have e':(∃ xs,SqL X.K H p xs/\k=!xs.isEmpty) \/ (∃ xs,SqT X.K H p xs/\k=!xs.isEmpty) \/ ∃ kvs,H p=some (.dK kvs)/\k=!kvs.isEmpty:=e
  rcases e' with ⟨xs,hx,e'⟩ | ⟨xs,hx,e'⟩ | ⟨kvs,hx,e'⟩
  ·subst e'
   obtain⟨its,r,pl,hz⟩:=I.list hx
   have hlen:=r.length
   exact wpAny_truthy_list pl.isList (by simp only [YQ];omega) ⟨H,I.tok _,by rw[Qs r];exact q⟩
  ·subst e'
   obtain⟨its,r,pl,hz⟩:=I.tuple hx
   have hlen:=r.length
   exact truthy_tuple pl (by simp only [YQ];omega) ⟨H,I.tok _,by rw[Qs r];exact q⟩
  ·subst e'
   obtain⟨hz,hS,vs,r,m⟩:kvs.length<=sizeLine/\(p == sysModules)=false/\∃ vs,KV kvs vs/\s.heap.DictOf (mixKind X.prog X.w) p vs:=I.hok p _ hx
   have hlen:kvs.length=vs.length:=XW r
   exact wpAny_truthy_dict hS m (by omega) ⟨H,I.tok _,by rw[Jd r];exact q⟩
 | _=>exact (show False from e).elim
theorem Bv (ha:PE X a ta)(he:∀ whole,isTrue a X.env whole=(do let v ← whole;standAt a.pos;holding [v] (truthy v))) :
  PT X a (fun σ H Q=>ta σ H fun x H'=>∃ k,TruV X.K x H' k/\Q k H'):=by
 intro pins s σ H Q I h
 exact isTrue_plain (thn (ha pins s σ H _ I h) fun v s1 ⟨x,H1,I1,r1,q1⟩=>Z4h pins s1 σ H1 x v Q I1 r1 q1) (he _)
theorem Vt {x:V}{us:List Value}(r:Vals [x] us):∃ u,us=[u]/\RelV x u:=by
 cases r with
 | cons r1 r2=>cases r2;exact⟨_,rfl,r1⟩
theorem Mg {x y:V}{us:List Value}(r:Vals [x,y] us):∃ u w',us=[u,w']/\RelV x u/\RelV y w':=by
 cases r with
 | cons r1 r2 =>
  cases r2 with
  | cons r3 r4=>cases r4;exact⟨_,_,rfl,r1,r3⟩
theorem K8:CallR X (.builtin "abs") (fun xs H Q=>∃ i,xs=[.int i]/\Q (.int (if i<0 then -i else i)) H):=by
 intro pins s σ H xs us Q I r h
 obtain⟨i,rfl,q⟩:=h
 obtain⟨u,rfl,t,rfl⟩:=Vt r
 exact call_abs_int fun u tk=>⟨.int (if i<0 then -i else i),H,I.tok _,⟨_,rfl⟩,q⟩
theorem Ch:CallR X (.type "int") (fun xs H Q=>(∃ i,xs=[.int i]/\Q (.int i) H) \/ ∃ k,xs=[.bl k]/\Q (.int (if k then 1 else 0)) H):=by
 intro pins s σ H xs us Q I r h
 rcases h with ⟨i,rfl,q⟩ | ⟨k,rfl,q⟩
 ·obtain⟨u,rfl,t,rfl⟩:=Vt r
  exact call_int_int ⟨.int i,H,I,⟨_,rfl⟩,q⟩
 ·obtain⟨u,rfl,r1⟩:=Vt r
  cases r1
  exact call_int_bool ⟨.int (if k then 1 else 0),H,I.tok _,⟨_,rfl⟩,q⟩
end
end L2
namespace L2
open PySem PySem.Spec PyProof.Rows
structure ObjM (h:Heap)(x dx C:Addr)(mA:Str->Option Value):Prop where
 obj:h.get? x=some (W.instObj C dx)
 ns:h.Ns1 dx mA
 ne:dx≠x
theorem Du {h:Heap}{dx:Addr}{mA:Str->Option Value}(n:h.Ns1 dx mA):∃ od,h.get? dx=some od/\∀ name,W.lookIn name od=some (mA name):=by
 obtain⟨o,es,ep,ho,hd,hk,_,hm⟩:=n
 refine⟨o,ho,fun name=>?_⟩
 have e:=hm name
 unfold nsFind findBy at e
 rw[← Y12] at e
 unfold W.lookIn
 rw[hd]
 dsimp only
 split
 ·rename_i y q
  rw[q] at e
  exact congrArg some e
 ·rename_i q
  rw[q] at e
  have a:es.toList.any (·.refKey)=false:=by
   rw[List.any_eq_false]
   intro y hy
   obtain⟨z,t,hkey⟩:=hk y (Array.mem_toList_iff.mp hy)
   simp[DictEntry.refKey,hkey]
  have a':¬ es.toList.any (·.refKey)=true:=by rw[a];exact YT
  rw[YG a']
  exact congrArg some e
theorem ObjM.look {h:Heap}{x dx C:Addr}{mA:Str->Option Value}(I:ObjM h x dx C mA):∃ od,W.InstAt h x (W.instObj C dx) C (some od)/\∀ name,W.lookIn name od=some (mA name) :=
 let ⟨od,ho,hl⟩:=Du I.ns
 ⟨od,⟨I.obj,rfl,rfl,ho⟩,hl⟩
section
variable {prog:Program}{w:World}{A:Around}{E:Value->Shared->Prop}{s:Shared}{K:W.Frag}{x dx C f:Addr}{mA:Str->Option Value}{name:Str}{v:Value}
theorem Z3q {expr:Bool}{Q:Value->Shared->Prop}(X:K.In s.heap)(I:ObjM s.heap x dx C mA)(hg:W.plainGet K C name=true)(hh:W.hasDictIn K C=true)
  (ha:W.findIn K (.ref C) name=some none) (hv:mA name=some v) (hv':W.handedIn v=true) (h:Q v { s with toks:=s.toks+1 }) :
  wpAny (model prog w) A (getAttr (.ref x) name expr) Q E s:=by
 obtain⟨od,J,hl⟩:=I.look
 exact W.get_value X J (W.plainGet_of hg).1 (W.findObj_own hh ha rfl (by rw[hl,hv])) hv' h
theorem Z29 {ns:List Str}{Q:Unit->Shared->Prop}(X:K.In s.heap)(I:ObjM s.heap x dx C mA)
  (hs:W.findIn K (.ref C) "__setattr__"=some (some (.builtin "object.__setattr__"))) (hp:W.plainOver K C=true) (ht:W.takerIn K C name=some none) (hh:W.hasDictIn K C=true)
  (hw:PySem.Within mA ns) (hsz:ns.length<=sizeLine)
  (h:∀ h',ObjM h' x dx C (fun y=>if y=name then some v else mA y)->Heap.SameBut dx s.heap h'->Q () { s with heap:=h',toks:=s.toks+2 }) :
  wpAny (model prog w) A (setAttr (.ref x) name v) Q E s:=by
 obtain⟨od,J,hl⟩:=I.look
 refine W.set_plain X J hs (W.osa_open (s:={ s with toks:=s.toks+1 }) (r:=none) X J hp ht fun b=>?_)
 obtain⟨cd,hc,hd'⟩:=W.any_some hh
 have hx:s.heap.get? x=some ⟨.ref C,some dx,.plain,#[]⟩:=I.obj
 refine YB (YR (YB (YB (wpAny_loadPart hx (YB (W.Looks.here (s:={ s with toks:=s.toks+1 }) (W.looks_clsIn X hc) ?_))))))
 rw[hd']
 refine YR (a:=some dx) (YB (YR (YB ?_)))
 refine wpAny_nsSet1 (s:={ s with toks:=s.toks+1 }) I.ns fun h' hn2 hs2=>?_
 obtain⟨oD,esD,epD,hoD,hdD,hcD⟩:=hn2.count (PySem.Within.cons name v hw)
 refine YB (wpAny_lookBehind hoD (by rw[hdD];exact pastItsLine_dict (XU hcD (by rw[XZ];omega))) ?_)
 exact YR (h _ ⟨(hs2.2 _ (XO I.ne)).trans I.obj,hn2,I.ne⟩ hs2)
theorem Z12 {R:Result->Shared->Prop}{vs:List Value}{kw:List (Str × Value)}(X:K.In s.heap)(hm:W.makesIn K C=true)
  (hi:W.findIn K (.ref C) "__init__"=some (some (.ref f))) (hf:W.typeIn K (.ref f)=some (.type "function"))
  (h:codeAny (model prog w) (A.under (.builtin "type.__call__" ⟨.ref C::vs,kw⟩)) (.call (.ref f) ⟨.ref (s.heap.objs.size+1)::vs,kw⟩) (W.InitBack (s.heap.objs.size+1) R)
   { s with heap:=(s.heap.push W.emptyDict).push (W.instObj C s.heap.objs.size) }) :
  codeAny (model prog w) A (.call (.ref C) ⟨vs,kw⟩) R s:=by
 obtain⟨hh,g,d,t,os⟩:=s
 exact W.make_core (W.makes_of X hm) (Y0b X hi) (fun self=>W.bind_fn X self hf) (.inl rfl) h
end
def putF (f:Str)(v:V):List (Str × V)->List (Str × V)
 | []=>[(f,v)]
 | (g,x)::r=>if g=f then (g,v)::r else (g,x)::putF f v r
theorem Y4 (f g:Str)(v:V):∀ fs:List (Str × V),(putF f v fs).lookup g=if g=f then some v else fs.lookup g
 | []=>by
  show List.lookup g [(f,v)]=_
  by_cases h:g=f
  ·have hb:(g == f)=true:=qa.mpr h
   simp only [List.lookup,hb,YM h]
  ·have hb:(g == f)=false:=JF.mpr h
   simp only [List.lookup,hb,YG h]
 | (k,x)::r=>by
  have ih:=Y4 f g v r
  rw[show putF f v ((k,x)::r)=(if k=f then (k,v)::r else (k,x)::putF f v r) from rfl]
  by_cases hk:k=f
  ·rw[YM hk]
   by_cases h:g=k
   ·have hb:(g == k)=true:=qa.mpr h
    simp only [List.lookup,hb,YM (h.trans hk)]
   ·have hb:(g == k)=false:=JF.mpr h
    simp only [List.lookup,hb,YG (fun e:g=f=>h (e.trans hk.symm))]
  ·rw[YG hk]
   by_cases h:g=k
   ·have hb:(g == k)=true:=qa.mpr h
    simp only [List.lookup,hb,YG (fun e:g=f=>hk (h.symm.trans e))]
   ·have hb:(g == k)=false:=JF.mpr h
    simp only [List.lookup,hb]
    exact ih
theorem Sa (f:Str)(v:V):∀ fs:List (Str × V),f∈(putF f v fs).map (·.1)/\∀ g,g∈fs.map (·.1)->g∈(putF f v fs).map (·.1)
 | []=>⟨by simp[putF],fun g h=>by simp at h⟩
 | (k,x)::r=>by
  obtain⟨i1,i2⟩:=Sa f v r
  rw[show putF f v ((k,x)::r)=(if k=f then (k,v)::r else (k,x)::putF f v r) from rfl]
  by_cases hk:k=f
  ·rw[YM hk]
   subst hk
   exact⟨by simp,fun g h=>by simpa using h⟩
  ·rw[YG hk]
   refine⟨?_,fun g h=>?_⟩
   ·rw[Y0w]
    exact YV _ i1
   ·rw[Y0w] at h ⊢
    rcases YS.mp h with e | e
    ·exact YS.mpr (.inl e)
    ·exact YV _ (i2 g e)
theorem Sr (f:Str)(v:V):∀ fs:List (Str × V),(putF f v fs).length<=fs.length+1
 | []=>by simp[putF]
 | (k,x)::r=>by
  have ih:=Sr f v r
  rw[show putF f v ((k,x)::r)=(if k=f then (k,v)::r else (k,x)::putF f v r) from rfl]
  by_cases hk:k=f
  ·rw[YM hk,XZ,XZ];omega
  ·rw[YG hk,XZ,XZ];omega
theorem RelO.some_of {v:V}{o:Option Value}(r:RelO (some v) o):∃ u,o=some u/\RelV v u:=by
 cases o with
 | none=>exact (show False from r).elim
 | some u=>exact⟨u,rfl,r⟩
theorem C4 {v:V}{u:Value}(r:RelV v u):W.handedIn u=true:=by
 cases v with
 | non=>cases (show u=Value.none from r);rfl
 | bl b=>cases (show u=Value.bool b from r);rfl
 | int i=>obtain⟨t,e⟩:=(show ∃ t,u=Value.int i t from r);cases e;rfl
 | str x=>obtain⟨t,e⟩:=(show ∃ t,u=Value.str x t from r);cases e;rfl
 | byt b=>obtain⟨t,e⟩:=(show ∃ t,u=Value.bytes b t from r);cases e;rfl
 | flt b=>obtain⟨t,e⟩:=(show ∃ t,u=Value.float b t from r);cases e;rfl
 | ref a=>cases (show u=Value.ref a from r);rfl
 | ty n=>cases (show u=Value.type n from r);rfl
section
variable {P:Program}{w:World}{H H':Hp}{h h':Heap}{a C dx:Addr}{fs fs':List (Str × V)}
theorem Nx (hok:HOk P w H h)(e:H a=some (.ins C dx fs)):∃ mA,ObjM h a dx C mA/\(∀ f,RelO (fs.lookup f) (mA f))/\PySem.Within mA (fs.map (·.1))/\fs.length<=1000/\H dx=some (.own a):=by
 obtain⟨d,z,ne,ob,mA,n,r,q⟩:=(show ObjOk P w H h a (.ins C dx fs) from hok a _ e)
 exact⟨mA,⟨ob,n,ne⟩,r,q,z,d⟩
end
structure Cls (K:W.Frag)(C:Addr):Prop where
 pg:W.plainGet K C Str.empty=true
 hd:W.hasDictIn K C=true
 po:W.plainOver K C=true
 sa:W.findIn K (.ref C) "__setattr__"=some (some (.builtin "object.__setattr__"))
theorem Cls.get {K:W.Frag}{C:Addr}(c:Cls K C)(f:Str):W.plainGet K C f=true:=c.pg
def NoAttr (K:W.Frag)(C:Addr)(f:Str):Prop:=W.findIn K (.ref C) f=some none
theorem NoAttr.taker {K:W.Frag}{C:Addr}{f:Str}(n:NoAttr K C f):W.takerIn K C f=some none:=by
 unfold W.takerIn
 rw[show W.findIn K (.ref C) f=some none from n]
 rfl
structure Con (K:W.Frag)(C:Addr)(f:Str)(v:V)(u:Value):Prop where
 at_:W.findIn K (.ref C) f=some (some u)
 rel:RelV v u
 get:W.specialIn K u "__get__"=some none
 cp:W.copiedNames.contains f=false
section
variable {X:Cx}{pins:List (Addr × Obj)}{σ:St}{H:Hp}{s:Shared}{a C dx:Addr}{fs:List (Str × V)}{f:Str}{v:V}{A:Around}{E:Value->Shared->Prop}
theorem Je {b:Bool}{Q:Value->Shared->Prop}(I:Inv X pins σ H s)(e:H a=some (.ins C dx fs))(c:Cls X.K C)(n:NoAttr X.K C f)(l:fs.lookup f=some v)
  (h:∀ u s',Inv X pins σ H s'->RelV v u->Q u s'):wpAny (model X.prog X.w) A (getAttr (.ref a) f b) Q E s:=by
 obtain⟨mA,O,r,_,_,_⟩:=Nx I.hok e
 obtain⟨u,hu,ru⟩:=RelO.some_of (v:=v) (o:=mA f) (by rw[← l];exact r f)
 exact Z3q I.kIn O (c.get f) c.hd n hu (C4 ru) (h u _ (I.tok _) ru)
theorem Kl {y:V}{u:Value}{Q:Unit->Shared->Prop}(I:Inv X pins σ H s)(e:H a=some (.ins C dx fs))(c:Cls X.K C)(n:NoAttr X.K C f)(hl:fs.length<1000)(ry:RelV y u)
  (h:∀ s',Inv X pins σ (upd H a (.ins C dx (putF f y fs))) s'->Q () s'):wpAny (model X.prog X.w) A (setAttr (.ref a) f u) Q E s:=by
 obtain⟨mA,O,r,wi,_,ho⟩:=Nx I.hok e
 have hz:(fs.map (·.1)).length<=sizeLine:=by rw[YC,Y0q];omega
 refine Z29 I.kIn O c.sa c.po n.taker c.hd wi hz fun h' O' sb=>h _ ?_
 have hd:∃ o,h'.get? dx=some o:=let ⟨o,_,_,e',_⟩:=O'.ns;⟨o,e'⟩
 refine I.write (x:=a) (e:=dx) (by rw[e];exact True.intro) (.inr ho) (fun b q hb z=>(sb.2 b hb).trans z) hd ?_
 refine⟨by rw[Zf O.ne];exact ho,?_,O.ne,O'.obj,_,O'.ns,fun g=>?_,fun g hg=>?_⟩
 ·have:=Sr f y fs;omega
 ·show RelO ((putF f y fs).lookup g) (if g=f then some u else mA g)
  rw[Y4]
  by_cases q:g=f
  ·rw[YM q,YM q];exact ry
  ·rw[YG q,YG q];exact r g
 ·by_cases q:g=f
  ·rw[q];exact (Sa f y fs).1
  ·refine (Sa f y fs).2 g (wi g fun z=>hg ?_)
   show (if g=f then some u else mA g)=none
   rw[YG q];exact z
theorem Inv.made (I:Inv X pins σ H s):Inv X pins σ (upd (upd H s.heap.objs.size (.own (s.heap.objs.size+1))) (s.heap.objs.size+1) (.ins C s.heap.objs.size []))
  { s with heap:=(s.heap.push W.emptyDict).push (W.instObj C s.heap.objs.size) }:=by
 have e1:(s.heap.push W.emptyDict).get? s.heap.objs.size=some W.emptyDict:=YO s.heap rfl
 have e2:((s.heap.push W.emptyDict).push (W.instObj C s.heap.objs.size)).get? (s.heap.objs.size+1)=some (W.instObj C s.heap.objs.size):=by
  have:=YO (s.heap.push W.emptyDict) (o:=W.instObj C s.heap.objs.size) rfl
  rwa [XM] at this
 have e3:(s.heap.push W.emptyDict).Ns s.heap.objs.size (fun _=>none):=⟨W.emptyDict,#[],_,e1,rfl,(fun e he=>absurd he (by simp)),fun _=>rfl⟩
 have I1:=I.laid (a:=s.heap.objs.size) (o:=.own (s.heap.objs.size+1)) (h':=s.heap.push W.emptyDict) (t':=s.toks) (fun b u q=>YA _ q) (YE _) ⟨_,e1⟩
 refine I1.laid (a:=s.heap.objs.size+1) (o:=.ins C s.heap.objs.size []) (t':=s.toks) (fun b u q=>YA _ q) (Nat.le_of_eq (XM _ _)) ?_
 have ne:s.heap.objs.size≠s.heap.objs.size+1:=XA (Nat.lt_succ_self _)
 refine⟨by rw[Zf ne,Zc],JZ _,ne,e2,fun _=>none,(Heap.Ns1.of_empty e3).at fun o q=>YA _ q,fun _=>True.intro,fun y hy=>absurd rfl hy⟩
theorem Z3y {prog:Program}{w:World}{env:Env}{e:Expr}{f:Str}{pos:Pos}{s:Shared}{Q:Value->Shared->Prop}(hb:attributeBase e f env (eval e env)=eval e env)
  (h:wpAny (model prog w) A (eval e env) (fun o s₁=>wpAny (model prog w) A (getAttr o f true) Q E s₁) E s):wpAny (model prog w) A (eval (.Attribute e f pos) env) Q E s :=
 Attribute_any_ h (by rw[arm_eval_Attribute,hb])
end
def tFld (K:W.Frag)(ta:TE)(f:Str):TE:=fun σ H Q=>ta σ H fun x H1=>∃ a C dx fs v,x=.ref a/\H1 a=some (.ins C dx fs)/\Cls K C/\NoAttr K C f/\fs.lookup f=some v/\Q v H1
def sFld (K:W.Frag)(ta tv:TE)(f:Str):TS:=fun D σ H=>tv σ H fun y H1=>ta σ H1 fun x H2=>∃ a C dx fs,x=.ref a/\H2 a=some (.ins C dx fs)/\Cls K C/\NoAttr K C f/\fs.length<1000 ∧
 D.nx σ (upd H2 a (.ins C dx (putF f y fs)))
section
variable {X:Cx}{o e value:Expr}{f:Str}{pos pos' tpos:Pos}{ta tv:TE}
theorem Yg (he:PE X e ta)(hb:attributeBase e f X.env (eval e X.env)=eval e X.env):PE X (.Attribute e f pos) (tFld X.K ta f):=by
 intro pins s σ H Q I h
 refine Z3y hb (thn (he pins s σ H _ I h) fun u s1 ⟨x,H1,I1,rx,a,C,dx,fs,v,ex,ea,c,n,l,q⟩=>?_)
 subst ex
 obtain rfl:u=Value.ref a:=rx
 exact Je I1 ea c n l fun u' s2 I2 ru=>⟨v,H1,I2,ru,q⟩
theorem Qb (ha:PE X o ta)(hv:PE X value tv)(hs:swapsWith value (some (.Attribute o f pos')) pos.line X.env=pure false):PS X (.Assign [.Attribute o f pos'] value pos) (sFld X.K ta tv f):=by
 intro pins s σ H D I h
 refine jf (thn (hv pins s σ H _ I h) fun u s1 ⟨y,H1,I1,ry,q⟩=>thn (ha pins s1 σ H1 _ I1 q) fun ov s2 ⟨x,H2,I2,rx,a,C,dx,fs,ex,ea,c,n,l,q2⟩=>?_) hs
 subst ex
 obtain rfl:ov=Value.ref a:=rx
 exact Kl I2 ea c n l ry fun s3 I3=>⟨σ,_,I3,q2⟩
end
section
variable {X:Cx}{pins:List (Addr × Obj)}{σ:St}{H:Hp}{s:Shared}{A:Around}{E:Value->Shared->Prop}{Q:Value->Shared->Prop}{c:Value}{b:Bool}
inductive TyOf (K:W.Frag) (H:Hp):V->Value->Prop where
 | non:TyOf K H .non (.type "NoneType")
 | bl (x:Bool):TyOf K H (.bl x) (.type "bool")
 | int (i:Int):TyOf K H (.int i) (.type "int")
 | str (x:Str):TyOf K H (.str x) (.type "str")
 | flt (x:UInt64):TyOf K H (.flt x) (.type "float")
 | lst {a:Addr} {xs:List V} (e:H a=some (.lst xs)):TyOf K H (.ref a) (.type "list")
 | frz {a:Addr} {o:Obj} {xs:List V} (e:H a=some (.frz o (.lst xs))):TyOf K H (.ref a) (.type "list")
 | tup {a:Addr} {xs:List V} (e:H a=some (.tup xs)):TyOf K H (.ref a) (.type "tuple")
 | dK {a:Addr} {kvs:List (Key × V)} (e:H a=some (.dK kvs)):TyOf K H (.ref a) (.type "dict")
 | dT {a:Addr} {kvs:List (List Key × V)} (e:H a=some (.dT kvs)):TyOf K H (.ref a) (.type "dict")
 | ins {a C dx:Addr} {fs:List (Str × V)} (e:H a=some (.ins C dx fs)) (cl:Cls K C) (ha:W.findIn K (.ref C) "__class__"=some (some (.builtin "object.__class__")))
   (hn:W.specialIn K (.builtin "object.__class__") "__get__"=some (some (.builtin "getset_descriptor.__get__"))) (htk:W.takesIn K (.builtin "object.__class__")=some true)
   (hm:W.mroIn K C (.type "object")=some true):TyOf K H (.ref a) (.ref C)
theorem Dy {x:V}{u t:Value}(I:Inv X pins σ H s)(rx:RelV x u)(ty:TyOf X.K H x t)(e:W.kitOne X.K t c=some b)(h:∀ tk,Q (.bool b) { s with toks:=tk }) :
  wpAny (model X.prog X.w) A (call (.builtin "isinstance") [u,c]) Q E s:=by
 cases ty with
 | non=>cases (show u=Value.none from rx);exact zj W.kitx_none I.kIn True.intro e (fun z=>nomatch z) h
 | bl y=>cases (show u=Value.bool y from rx);exact zj W.kitx_bool I.kIn True.intro e (fun z=>nomatch z) h
 | int i=>obtain⟨t,q⟩:=(show ∃ t,u=Value.int i t from rx);cases q;exact zj W.kitx_int I.kIn True.intro e (fun z=>nomatch z) h
 | str y=>obtain⟨t,q⟩:=(show ∃ t,u=Value.str y t from rx);cases q;exact zj W.kitx_str I.kIn True.intro e (fun z=>nomatch z) h
 | flt y=>obtain⟨t,q⟩:=(show ∃ t,u=Value.float y t from rx);cases q;exact zj W.kitx_float I.kIn True.intro e (fun z=>nomatch z) h
 | @lst a xs ea =>
  cases (show u=Value.ref a from rx)
  obtain⟨_,_,n,_,h1⟩:=(show ObjOk X.prog X.w H s.heap a (.lst xs) from I.hok a _ ea)
  exact zj W.kitx_list I.kIn ⟨_,h1,rfl⟩ e (fun z=>nomatch z) h
 | @frz a ob xs ea =>
  cases (show u=Value.ref a from rx)
  obtain⟨_,_,_,n,_,h1⟩:=(show ObjOk X.prog X.w H s.heap a (.frz ob (.lst xs)) from I.hok a _ ea)
  exact zj W.kitx_list I.kIn ⟨_,h1,rfl⟩ e (fun z=>nomatch z) h
 | @tup a xs ea =>
  cases (show u=Value.ref a from rx)
  obtain⟨_,_,_,p⟩:=(show ObjOk X.prog X.w H s.heap a (.tup xs) from I.hok a _ ea)
  obtain⟨o,h1,h2,_⟩:=p
  exact zj W.kitx_tuple I.kIn ⟨o,h1,h2⟩ e (fun z=>nomatch z) h
 | @dK a kvs ea =>
  cases (show u=Value.ref a from rx)
  obtain⟨_,_,vs,_,p⟩:=(show ObjOk X.prog X.w H s.heap a (.dK kvs) from I.hok a _ ea)
  obtain⟨o,es,ep,h1,h2,_⟩:=p
  exact zj W.kitx_dict I.kIn ⟨o,h1,h2.1⟩ e (fun z=>nomatch z) h
 | @dT a kvs ea =>
  cases (show u=Value.ref a from rx)
  obtain⟨_,_,xs,_,o,es,ep,h1,h2,_⟩:=(show ObjOk X.prog X.w H s.heap a (.dT kvs) from I.hok a _ ea)
  exact zj W.kitx_dict I.kIn ⟨o,h1,h2.1⟩ e (fun z=>nomatch z) h
 | @ins a C dx fs ea cl ha hn htk hm =>
  cases (show u=Value.ref a from rx)
  obtain⟨mA,O,_⟩:=Nx I.hok ea
  obtain⟨od,J,_⟩:=O.look
  exact zj (W.kitx_own (cl.get _) cl.hd ha hn htk hm) I.kIn J e (fun z=>nomatch z) h
end
end L2
namespace L2
open PySem PySem.Spec PyProof.Rows
structure Room (k:Nat)(A:Around)(sr:Bool:=false):Prop where
 hd:sr=true->A.handled=none
 dp:A.depth+3*k+5<recursionLimit
 un:A.units+16*k+200<cLine
theorem Room.mono {j k:Nat}{A:Around}{sr:Bool}(r:Room k A sr)(h:j<=k):Room j A sr:=⟨r.hd,by have:=r.dp;omega,by have:=r.un;omega⟩
theorem Room.deeper {k:Nat}{A:Around}{sr:Bool}(r:Room (k+1) A sr)(env:Env):Room k (A.deeper env) sr :=
 ⟨r.hd,by have:=r.dp;show A.depth+1+3*k+5<_;omega,by have:=r.un;show A.units+3+16*k+200<_;omega⟩
theorem J8 {A:Around}{C:Addr}{us:List Value}{kw:List (Str × Value)}:(A.under (.builtin "type.__call__" ⟨.ref C::us,kw⟩)).depth=A.depth+1:=by
 first | rfl | simp[Around.under,Code.weight,Code.isCreation,Code.isGuard,Code.isCaller,Code.frames,Code.isFrame,guardIds]
theorem J7 {A:Around}{C:Addr}{us:List Value}{kw:List (Str × Value)}:(A.under (.builtin "type.__call__" ⟨.ref C::us,kw⟩)).units=A.units+1:=by
 first | rfl | simp[Around.under,Code.cUnits,Code.frames,Code.isFrame]
theorem Room.make {k:Nat}{A:Around}{sr:Bool}(r:Room (k+1) A sr)(C:Addr)(us:List Value)(kw:List (Str × Value)):Room k (A.under (.builtin "type.__call__" ⟨.ref C::us,kw⟩)) sr :=
 ⟨r.hd,by have:=r.dp;rw[J8];omega,by have:=r.un;rw[J7];omega⟩
theorem Room.depth {k:Nat}{A:Around}{sr:Bool}(r:Room k A sr):A.depth<recursionLimit:=by have:=r.dp;omega
theorem Room.units {k:Nat}{A:Around}{sr:Bool}(r:Room k A sr):A.units+64<cLine:=by have:=r.un;omega
theorem Room.loose {k:Nat}{A:Around}{sr:Bool}(r:Room k A sr):Room k A:=⟨(fun z=>nomatch z),r.dp,r.un⟩
def tNil:TA:=fun _ H Q=>Q [] H
def tCons (ta:TE)(tr:TA):TA:=fun σ H Q=>ta σ H fun x H1=>tr σ H1 fun xs H2=>Q (x::xs) H2
section
variable {X:Cx}{e:Expr}{es:List Expr}{te:TE}{t:TA}{pos:Pos}
theorem Z9:PA X [] tNil:=fun _ _ _ _ H Q I h=>Y0r ⟨[],H,I,.nil,h⟩
theorem Z0 (ha:PE X e te)(hr:PA X es t)(hs:starEach (e::es) X.env=(false,eval e X.env)::starEach es X.env:=by rfl):PA X (e::es) (tCons te t):=by
 intro pos pins s σ H Q I h
 rw[hs]
 show wpAny _ _ (spliced ((false,eval e X.env)::backTo pos (starEach es X.env))) _ _ s
 refine Y0c (thn (ha pins s σ H _ I h) fun u s1 ⟨x,H1,I1,r1,q1⟩=>?_)
 exact thn (hr pos pins s1 σ H1 _ I1 q1) fun us s2 ⟨xs,H2,I2,r2,q2⟩=>⟨x::xs,H2,I2,.cons r1 r2,q2⟩
def tTup (t:TA):TE:=fun σ H Q=>t σ H fun xs H1=>xs.length<=sizeLine/\∀ p,H1 p=none->Q (.ref p) (upd H1 p (.tup xs))
def tLst (t:TA):TE:=fun σ H Q=>t σ H fun xs H1=>xs.length<=sizeLine/\∀ p,H1 p=none->Q (.ref p) (upd H1 p (.lst xs))
theorem Yk {x1}(h:PA X es t):PE X (.Tuple es x1 pos) (tTup t):=by
 intro pins s σ H Q I hq
 refine wpAny_Tuple_spliced (thn (h pos pins s σ H _ I hq) fun us s1 ⟨xs,H1,I1,r,z,q⟩=>⟨by rw[← r.length];exact z,?_⟩)
 have hf:H1 s1.heap.objs.size=none:=I1.hok.fresh (YE _)
 refine⟨.ref s1.heap.objs.size,upd H1 s1.heap.objs.size (.tup xs),I1.laid (t':=s1.toks) (fun b u e=>YA _ e) (YE _) ?_,rfl,q _ hf⟩
 exact⟨z,us,r,⟨_,YO _ rfl,rfl,_,rfl⟩⟩
theorem W0 (h:PA X es t):PE X (.List es pos) (tLst t):=by
 intro pins s σ H Q I hq
 refine wpAny_List_spliced (thn (h pos pins s σ H _ I hq) fun us s1 ⟨xs,H1,I1,r,z,q⟩=>⟨by rw[← r.length];exact z,?_⟩)
 have hf:H1 s1.heap.objs.size=none:=I1.hok.fresh (YE _)
 refine⟨.ref s1.heap.objs.size,upd H1 s1.heap.objs.size (.lst xs),I1.laid (t':=s1.toks) (fun b u e=>YA _ e) (YE _) ?_,rfl,q _ hf⟩
 exact⟨z,us,0,r,YO _ rfl⟩
end
abbrev Sp:=List V->Hp->VK->XK->Prop
abbrev CXT:=List Env->Hp->Shared->XK->Value->Shared->Prop
structure Env0 (P:Program)(w:World)(K:W.Frag)(mg:Str->Option Value)(base:Heap)(A:Around)(outer:List Env)(s:Shared)(H:Hp):Prop where
 frames:A.frames=some outer
 mod:Mod K mg base
 bs:∀ b o,base.get? b=some o->s.heap.get? b=some o/\H b=none
 bsz:base.objs.size<=s.heap.objs.size
 funs:s.heap.FunFrames base outer
 frf:∀ b∈frs outer,H b=none
 hok:HOk P w H s.heap
 bare:AllBare s.gens
 qt:Sb.QtE A s.heap H (frs outer)
def CE (outer:List Env)(P:Program)(w:World)(H:Hp)(s:Shared)(Q:VK)(u:Value)(s':Shared):Prop :=
 ∃ v H',s'.os=s.os/\AllBare s'.gens/\Un (frs outer) [] H H' s.heap s'.heap/\HOk P w H' s'.heap/\RelV v u/\Q v H'
def CR (CX:CXT)(outer:List Env)(P:Program)(w:World)(H:Hp)(s:Shared)(Q:VK)(E:XK)(r:Result)(s':Shared):Prop :=
 match r with
 | .ok (.ret u)=>CE outer P w H s Q u s'
 | .ok _=>False
 | .error e=>CX outer H s E e s'
structure FnOk (P:Program)(w:World)(K:W.Frag)(mg:Str->Option Value)(base:Heap)(CX:CXT)(k:Nat)(f:Addr)(fd:FuncData)(ps:List Str)(sp:Sp)(sr:Bool:=false):Prop where
 len:∀ vs H Q E,sp vs H Q E->vs.length=ps.length
 run:∀ (A:Around) (outer:List Env) (s:Shared) (H:Hp) (args:Args) (us:List Value) (vs:List V) (Q:VK) (E:XK),Room k A sr->Env0 P w K mg base A outer s H->BindsTo s fd args (ps.zip us)->Vals vs us->sp vs H Q E →
  codeAny (model P w) A (.call (.ref f) args) (CR CX outer P w H s Q E) s
theorem Env0.make {P:Program}{w:World}{K:W.Frag}{mg:Str->Option Value}{base:Heap}{A:Around}{outer:List Env}{s:Shared}{H:Hp}(e:Env0 P w K mg base A outer s H)(C:Addr)(us:List Value)(kw:List (Str × Value)) :
  Env0 P w K mg base (A.under (.builtin "type.__call__" ⟨.ref C::us,kw⟩)) outer s H:=⟨by first | exact e.frames | (simpa [Around.under,Code.envs,Code.isFrame,pushEnvs] using e.frames),e.mod,e.bs,e.bsz,e.funs,e.frf,e.hok,e.bare,e.qt⟩
section
variable {X:Cx}{pins:List (Addr × Obj)}{σ:St}{H:Hp}{s s':Shared}
theorem Inv.env0 (I:Inv X pins σ H s)(hc:X.calm=true):Env0 X.prog X.w X.K X.mg X.base X.A X.stack s H :=
 ⟨I.ok.frames,I.ok.mod,I.bs,XU I.ok.bsz I.sz,I.stack,I.stkFree,I.hok,I.bare,(I.ok.hd hc).imp id fun ⟨p,hp,e,n⟩=>by
  obtain⟨a1,a2,a3,a4,a5⟩:=I.pin p (YL _ hp)
  exact⟨p.1,p.2,e,a1,n,a2,fun z=>(YS.mp (I.stkSub p.1 z)).elim a3 a4,a5⟩⟩
theorem Inv.after {Q:VK}{u:Value}(I:Inv X pins σ H s)(h:CE X.stack X.prog X.w H s Q u s'):EP X pins σ Q u s':=by
 obtain⟨v,H',os,bare,un,hok,r,q⟩:=h
 obtain⟨hh,g,d,t,os'⟩:=s'
 obtain rfl:os'=s.os:=os
 exact⟨v,H',I.call (h':=hh) (g':=g) (d':=d) (t':=t) (ch:=[]) un hok bare (fun b z=>absurd z (by simp)),r,q⟩
end
def tCall (sp:Sp)(dvs:List V)(E:XK)(t:TA):TE:=fun σ H Q=>t σ H fun vs H1=>sp (vs++dvs) H1 Q E
def tMake (C:Addr)(sp:Sp)(dvs:List V)(E:XK)(t:TA):TE:=fun σ H Q=>t σ H fun vs H1=>∀ x dx,H1 x=none->H1 dx=none->dx≠x →
 sp (.ref x::(vs++dvs)) (upd (upd H1 dx (.own x)) x (.ins C dx [])) (fun v H2=>v=.non/\Q (.ref x) H2) E
def Binds (K:W.Frag)(fd:FuncData)(ps:List Str)(ds:List Value):Prop :=
 ∀ (s:Shared) (us:List Value),K.In s.heap->(us++ds).length=ps.length->BindsTo s fd ⟨us,[]⟩ (ps.zip (us++ds))
theorem Binds.all {K:W.Frag}{fd:FuncData}{ps:List Str}(h:∀ us:List Value,us.length=ps.length->bindArgs fd ⟨us,[]⟩=pure (ps.zip us)):Binds K fd ps []:=fun s us _ hl=>by
 rw[qh] at hl ⊢
 exact .of_eq (h us hl)
def Passes (CX:CXT)(X:Cx)(E:XK):Prop:=∀ (pins:List (Addr × Obj)) (σ:St) (H:Hp) (s:Shared) (e:Value) (s':Shared),Inv X pins σ H s->CX X.stack H s E e s'->X.xe e s'
section
variable {X:Cx}{CX:CXT}{k:Nat}{f C:Addr}{fd:FuncData}{ps:List Str}{sp:Sp}{dvs:List V}{ds:List Value}{E:XK}{x m:Str}{p pos apos:Pos}{e o:Expr}{es:List Expr}{ta:TE}{t:TA}
theorem Z4l {pins:List (Addr × Obj)}{σ:St}{H:Hp}{s:Shared}{Q:VK}{us:List Value}{vs:List V}{sr:Bool}(F:FnOk X.prog X.w X.K X.mg X.base CX k f fd ps sp sr)(hr:Room k X.A sr)(hb:Binds X.K fd ps ds)(hd:Vals dvs ds)(hx:Passes CX X E)(hc:X.calm=true)
  (I:Inv X pins σ H s) (r:Vals vs us) (h:sp (vs++dvs) H Q E):wpAny (model X.prog X.w) X.A (call (.ref f) us) (EP X pins σ Q) X.xe s:=by
 have r2:Vals (vs++dvs) (us++ds):=r.append hd
 have hl:(us++ds).length=ps.length:=by rw[← r2.length];exact F.len _ _ _ _ h
 refine Y0d (zW (F.run X.A X.stack s H ⟨us,[]⟩ (us++ds) (vs++dvs) Q E hr (I.env0 hc) (hb s us I.kIn hl) r2 h) fun r s' hq=>?_)
 cases r with
 | error e=>exact hx pins σ H s e s' I hq
 | ok fl =>
  cases fl with
  | ret u=>exact I.after hq
  | next=>exact False.elim hq
  | brk=>exact False.elim hq
  | cont=>exact False.elim hq
theorem Gn {sr:Bool}(F:FnOk X.prog X.w X.K X.mg X.base CX k f fd ps sp sr)(hr:Room k X.A sr)(hg:Gl X x)(hm:X.mg x=some (.ref f))(hk:W.keepIn X.K (.ref f)=true)(hb:Binds X.K fd ps ds)(hd:Vals dvs ds)(hx:Passes CX X E)
  (ha:PA X (e::es) t) (hdb:(x == ("__debug__":Str))=false:=by decide) (he:starEach (e::es) X.env=(false,eval e X.env)::starEach es X.env:=by rfl) (hpl:(backTo pos (starEach es X.env)).any (·.1)=false:=by rfl) (hc:X.calm=true:=by rfl) :
  PE X (.Call (.Name x p) (e::es) [] pos) (tCall sp dvs E t):=by
 intro pins s σ H Q I h
 refine qb (Vn I hg hm ?_ hdb)
 refine W.callWith_K (h₀:=X.base) I.ok.mod.kin hk (thn (ha pos pins s σ H _ I h) fun us s1 ⟨vs,H1,I1,r,q⟩=>⟨I1.kIn,?_⟩) he hpl
 exact Z4l F hr hb hd hx hc I1 r q
structure Mk (K:W.Frag)(C f:Addr):Prop where
 makes:W.makesIn K C=true
 init:W.findIn K (.ref C) "__init__"=some (some (.ref f))
 fn:W.isFn K (.ref f)=true
 kp:W.keepIn K (.ref C)=true
theorem Bl {pins:List (Addr × Obj)}{σ:St}{H:Hp}{s:Shared}{Q:VK}{us:List Value}{vs:List V}(M:Mk X.K C f){sr:Bool}(F:FnOk X.prog X.w X.K X.mg X.base CX k f fd ps sp sr)(hr:Room (k+1) X.A sr)(hb:Binds X.K fd ps ds)(hd:Vals dvs ds)
  (hx:Passes CX X E) (hc:X.calm=true) (I:Inv X pins σ H s) (r:Vals vs us)
  (h:∀ x dx,H x=none->H dx=none->dx≠x->sp (.ref x::(vs++dvs)) (upd (upd H dx (.own x)) x (.ins C dx [])) (fun v H2=>v=.non/\Q (.ref x) H2) E) :
  wpAny (model X.prog X.w) X.A (call (.ref C) us) (EP X pins σ Q) X.xe s:=by
 have hq:=h (s.heap.objs.size+1) s.heap.objs.size (I.hok.fresh (ze _)) (I.hok.fresh (YE _)) (XA (Nat.lt_succ_self _))
 have I2:=Inv.made (C:=C) I
 have r2:Vals (V.ref (s.heap.objs.size+1)::(vs++dvs)) (Value.ref (s.heap.objs.size+1)::(us++ds)):=.cons rfl (r.append hd)
 have hl:(Value.ref (s.heap.objs.size+1)::us++ds).length=ps.length:=by
  have e:=r2.length
  rw[F.len _ _ _ _ hq] at e
  exact e.symm
 refine Y0d (Z12 (f:=f) I.kIn M.makes M.init (qa.mp M.fn) (zW (F.run _ X.stack _ _ ⟨Value.ref (s.heap.objs.size+1)::us,[]⟩ (Value.ref (s.heap.objs.size+1)::(us++ds)) _ _ E (hr.make C us [])
  ((I2.env0 hc).make C us []) (hb _ (Value.ref (s.heap.objs.size+1)::us) I2.kIn hl) r2 hq) fun r s' hq'=>?_))
 cases r with
 | error e=>exact hx pins σ _ _ e s' I2 hq'
 | ok fl =>
  cases fl with
  | ret u =>
   obtain⟨v,H',I3,rv,ev,q3⟩:=I2.after hq'
   subst ev
   exact⟨rv,⟨V.ref (s.heap.objs.size+1),H',I3,rfl,q3⟩⟩
  | next=>exact False.elim hq'
  | brk=>exact False.elim hq'
  | cont=>exact False.elim hq'
theorem Gm (M:Mk X.K C f){sr:Bool}(F:FnOk X.prog X.w X.K X.mg X.base CX k f fd ps sp sr)(hr:Room (k+1) X.A sr)(hg:Gl X x)(hm:X.mg x=some (.ref C))(hb:Binds X.K fd ps ds)(hd:Vals dvs ds)(hx:Passes CX X E)
  (ha:PA X (e::es) t) (hdb:(x == ("__debug__":Str))=false:=by decide) (he:starEach (e::es) X.env=(false,eval e X.env)::starEach es X.env:=by rfl) (hpl:(backTo pos (starEach es X.env)).any (·.1)=false:=by rfl) (hc:X.calm=true:=by rfl) :
  PE X (.Call (.Name x p) (e::es) [] pos) (tMake C sp dvs E t):=by
 intro pins s σ H Q I h
 refine qb (Vn I hg hm ?_ hdb)
 refine W.callWith_K (h₀:=X.base) I.ok.mod.kin M.kp (thn (ha pos pins s σ H _ I h) fun us s1 ⟨vs,H1,I1,r,q⟩=>⟨I1.kIn,?_⟩) he hpl
 exact Bl M F hr hb hd hx hc I1 r q
end
section
variable {X:Cx}{CX:CXT}{k:Nat}{f C:Addr}{fd:FuncData}{ps ks:List Str}{sp:Sp}{E:XK}{x m:Str}{p pos apos kpos:Pos}{e o:Expr}{es:List Expr}{kws:List Keyword}{te ta:TE}{t tk:TA}{nm:Option Str}
variable {g:List Value->List Value->List Value}{gV:List V->List V->List V}
end
structure FnScope (N P:List Str)(sc:Scope):Prop where
 kind:sc.kind=.function
 co:sc.isCoroutine=false
 gen:sc.isGenerator=false
 nd:N.Nodup
 pre:N.take P.length=P
 par:∀ x∈P,sc.names.lookup x=some .local \/ sc.names.lookup x=some .cell
 nofree:∀ y∈sc.names,y.2≠.free
theorem fsc {N P:List Str}{sc:Scope}(a:sc.kind=.function:=by rfl)(b:sc.isCoroutine=false:=by rfl)(c:sc.isGenerator=false:=by rfl)(d:N.Nodup:=by decide +kernel)(e:N.take P.length=P:=by rfl)(f:∀ x∈P,sc.names.lookup x=some .local ∨ sc.names.lookup x=some .cell:=by decide +kernel)(g:∀ y∈sc.names,y.2≠.free:=by decide +kernel):FnScope N P sc:=⟨a,b,c,d,e,f,g⟩
theorem N6 {kindOf:Str->Option NameKind}{x:Str}:∀ {binds:List (Str × Value)} {m:Str->Option Value},(∀ v,(x,v) ∉ binds)->bindL kindOf binds m x=m x
 | [],_,_=>rfl
 | (n,v)::r,m,h=>by
  unfold bindL
  rw[N6 fun w hw=>h w (YV _ hw)]
  split
  ·have:x≠n:=by rintro rfl;exact h v XC
   simp[this]
  ·rfl
theorem N8 {kindOf:Str->Option NameKind}{x:Str}:∀ {binds:List (Str × Value)} {m:Str->Option Value},(∀ v,(x,v) ∉ binds)->bindC kindOf binds m x=m x
 | [],_,_=>rfl
 | (n,v)::r,m,h=>by
  unfold bindC
  rw[N8 fun w hw=>h w (YV _ hw)]
  split
  ·rfl
  ·have:x≠n:=by rintro rfl;exact h v XC
   simp[this]
theorem N7 {kindOf:Str->Option NameKind}{x:Str}{v:Value}:∀ {P:List Str} {vs:List Value} {i:Nat} {m:Str->Option Value},P.Nodup->P[i]?=some x->vs[i]?=some v->kindOf x=some .local →
  bindL kindOf (P.zip vs) m x=some v
 | [],_,_,_,_,h,_,_=>by simp at h
 | _::_,[],_,_,_,_,h,_=>by simp at h
 | p::P,w::vs,0,m,nd,h1,h2,hk=>by
  simp at h1 h2;subst h1;subst h2
  show bindL kindOf ((p,w)::P.zip vs) m p=_
  unfold bindL
  rw[N6 fun v hv=>(ju.mp nd).1 (Y0N hv).1,YM hk]
  simp
 | p::P,w::vs,i+1,m,nd,h1,h2,hk=>by
  show bindL kindOf ((p,w)::P.zip vs) m x=_
  unfold bindL
  exact N7 (i:=i) (ju.mp nd).2 (by simpa using h1) (by simpa using h2) hk
theorem N9 {kindOf:Str->Option NameKind}{x:Str}{v:Value}:∀ {P:List Str} {vs:List Value} {i:Nat} {m:Str->Option Value},P.Nodup->P[i]?=some x->vs[i]?=some v->kindOf x≠some .local →
  bindC kindOf (P.zip vs) m x=some v
 | [],_,_,_,_,h,_,_=>by simp at h
 | _::_,[],_,_,_,_,h,_=>by simp at h
 | p::P,w::vs,0,m,nd,h1,h2,hk=>by
  simp at h1 h2;subst h1;subst h2
  show bindC kindOf ((p,w)::P.zip vs) m p=_
  unfold bindC
  rw[N8 fun v hv=>(ju.mp nd).1 (Y0N hv).1,YG hk]
  simp
 | p::P,w::vs,i+1,m,nd,h1,h2,hk=>by
  show bindC kindOf ((p,w)::P.zip vs) m x=_
  unfold bindC
  exact N9 (i:=i) (ju.mp nd).2 (by simpa using h1) (by simpa using h2) hk
def start (N:List Str)(vs:List V):St:=vs.map some++List.replicate (N.length - vs.length) none
def cxOf (CX:CXT)(P:Program)(w:World)(K:W.Frag)(mg:Str->Option Value)(base:Heap)(N:List Str)(qual:Str)(scope:Scope)(f:Addr)(cd:Value)(A:Around)(outer:List Env)(s:Shared)(H:Hp)(E:XK):Cx where
 prog:=P
 w:=w
 K:=K
 mg:=mg
 base:=base
 A:=A.deeper (envOfC qual scope s.heap.objs.size f cd)
 N:=N
 s₀:=s
 H₀:=H
 env:=envOfC qual scope s.heap.objs.size f cd
 outer:=outer
 stack:=envOfC qual scope s.heap.objs.size f cd::outer
 ex:=[]
 calm:=true
 fn:=fun _=>true
 pn:=Sb.qpin A s.heap
 xe:=fun e s'=>wpAny (model P w) (A.deeper (envOfC qual scope s.heap.objs.size f cd)) (leaving (envOfC qual scope s.heap.objs.size f cd) e) (fun _ s''=>CX outer H s E e s'') (fun e' s''=>CX outer H s E e' s'') s'
theorem K7 {sc:Scope}{n:Nat}{x:Str}(h:sc.names.lookup x=some .cell):∃ c,(cellsFrom n sc.names []).lookup x=some c:=by
 have q:=W.cellsFrom_some sc.names n [] (.inl h)
 exact zG.mp q
theorem C2 {CX:CXT}{P:Program}{w:World}{K:W.Frag}{mg:Str->Option Value}{base:Heap}{N ps:List Str}{qual:Str}{scope:Scope}{f:Addr}{cd:Value}{A:Around}{outer:List Env}{s s1:Shared}{H:Hp}{E:XK}{us:List Value}{vs:List V}
  (S:FnScope N ps scope) (e0:Env0 P w K mg base A outer s H) (hl:vs.length=ps.length) (r:Vals vs us)
  (x:InCallC s s.heap.objs.size (bindL (envOfC qual scope s.heap.objs.size f cd).kindOf (ps.zip us) fun _=>none) (cellsFrom (s.heap.objs.size+1) scope.names []) (bindC (envOfC qual scope s.heap.objs.size f cd).kindOf (ps.zip us) fun _=>none) s1) :
  Inv (cxOf CX P w K mg base N qual scope f cd A outer s H E) [] (start N vs) H s1:=by
 have hpl:ps.length<=N.length:=by have:=congrArg List.length S.pre;rw[GC] at this;omega
 obtain⟨h1,tk,rfl,hk⟩:=x.done
 have noA:∀ b:Addr,b ∉ (cxOf CX P w K mg base N qual scope f cd A outer s H E).ex:=fun b z=>absurd (show b∈([]:List Addr) from z) (by simp)
 refine⟨⟨e0.mod,S.kind,rfl,rfl,YE _,fun y z c h1 h2=>?_,fun y hy=>?_,fun y c _ h=>?_,fun _=>e0.qt.pin,Around.frames_deeper e0.frames,.inr ⟨rfl,rfl⟩,fun b z=>absurd z (noA b),e0.bs,e0.bsz,fun b _ _=>noA b,fun b z=>absurd z (noA b),e0.funs,e0.frf⟩,
  rfl,e0.bare,Un.kept hk,⟨_,x.toInCall.ns,fun i y v h1 h2 h3=>?_⟩,fun y c h=>⟨_,x.cell y c h⟩,e0.hok.fresh (YE _),fun y c h=>?_,fun p hp=>?_,e0.hok.kept hk,?_⟩
 rotate_right 2
 ·obtain⟨a1,a2,a3,a4⟩:=e0.qt.mem p ((JV.mp hp).elim id fun z=>absurd z (by simp))
  exact⟨hk _ _ a1,a2,XA (YJ a1),a3,a4⟩
 rotate_left 1
 ·exact name_of_addr x.apart (zh h1) (zh h2)
 ·have hy:scope.names.lookup y=some .cell \/ scope.names.lookup y=some .free:=hy
  rcases hy with hy | hy
  ·exact K7 hy
  ·exact absurd rfl (S.nofree _ (zh hy))
 ·exact JK (x.above y c (zh h))
 ·have hi:i<vs.length:=by
   unfold start at h2
   by_cases hi:i<vs.length
   ·exact hi
   ·rw[XY (by simpa using hi)] at h2
    rw[zQ] at h2
    split at h2 <;> cases h2
  have ha:vs[i]?=some v:=by
   unfold start at h2
   rw[JE (by simpa using hi),YD] at h2
   cases e:vs[i]? with
   | none=>rw[e] at h2;cases h2
   | some a=>rw[e] at h2;cases h2;rfl
  obtain⟨u,hu,rv⟩:=r.get ha
  have hp:ps[i]?=some y:=by
   rw[← S.pre,List.getElem?_take_of_lt (by omega)];exact h1
  have ndP:ps.Nodup:=by rw[← S.pre];exact S.nd.sublist (List.take_sublist _ _)
  refine⟨u,rv,?_⟩
  rcases S.par y (YI hp) with k | k
  ·exact .inl ⟨k,N7 ndP hp hu k⟩
  ·obtain⟨c,e⟩:=K7 (n:=s.heap.objs.size+1) k
   refine .inr ⟨.inl k,c,e,?_⟩
   have q:=x.cell y c e
   rw[N9 ndP hp hu (by show scope.names.lookup y≠_;rw[k];decide)] at q
   exact q
 ·exact e0.hok.fresh (JK (x.above y c (zh h)))
 ·unfold start
  show _=N.length
  rw[XD,YC,JS]
  omega
theorem Z4e {CX:CXT}{P:Program}{w:World}{K:W.Frag}{mg:Str->Option Value}{base:Heap}{k:Nat}{f:Addr}{name qual:Str}{params:Arguments}{body:List Stmt}{scope:Scope}{dV kV doc pm cdv ct oc:Value}{an od:Option Addr}
  {osl:Array (Option Value)} {N ps:List Str} {sp:Sp} {sr:Bool} (lk:K.lookup f=some ⟨oc,od,.func (W.fnOf name qual params body scope dV kV doc pm an cdv ct),osl⟩) (hcd:W.codeIn K cdv qual=true) (S:FnScope N ps scope)
  (len:∀ vs H Q E,sp vs H Q E->vs.length=ps.length)
  (hbody:∀ (A:Around) (outer:List Env) (s:Shared) (H:Hp) (vs:List V) (Q:VK) (E:XK),Room k (A.deeper (envOfC qual scope s.heap.objs.size f cdv)) sr->sp vs H Q E →
   ∃ t,PSs (cxOf CX P w K mg base N qual scope f cdv A outer s H E) body t/\t { nx:=fun _ H'=>Q .non H',rt:=Q } (start N vs) H) :
  FnOk P w K mg base CX (k+1) f (W.fnOf name qual params body scope dV kV doc pm an cdv ct) ps sp sr:=by
 refine⟨len,fun A outer s H args us vs Q E hr e0 hb r hsp=>?_⟩
 have hl:=len _ _ _ _ hsp
 have KX:K.In s.heap:=e0.mod.kin.keeps fun b o e=>(e0.bs b o e).1
 have lim:s.heap.NoLimit:=e0.mod.nolimit.keeps fun b o e=>(e0.bs b o e).1
 have hkind:∀ y∈ps.zip us,scope.names.lookup y.1=some .local \/ (scope.names.lookup y.1=some .cell/\((cellsFrom (s.heap.objs.size+1) scope.names []).lookup y.1).isSome=true):=fun ⟨n,v⟩ hy=>by
  rcases S.par n (Y0N hy).1 with q | q
  ·exact .inl q
  ·exact .inr ⟨q,W.cellsFrom_some _ _ _ (.inl q)⟩
 refine codeAny_call_function hr.depth (KX _ _ lk) rfl S.co S.gen rfl (W.codeRec_of KX hcd) (hb _ _ _ _ ?_)
 refine wpAny_newFunctionEnv_cells S.kind hkind fun env he s1 x=>?_
 subst he
 refine⟨lim.keeps x.toInCall.keep,codeAny_func ?_⟩
 obtain⟨t,ht,hq⟩:=hbody A outer s H vs Q E (hr.deeper _) hsp
 have I:Inv (cxOf CX P w K mg base N qual scope f cdv A outer s H E) [] (start N vs) H s1:=C2 S e0 hl r x
 refine GO (ht [] s1 (start N vs) H _ I hq) (fun fl s' hs=>?_) fun e s' hs=>hs
 have fin:∀ {σ':St} {H':Hp} {v:V} {u:Value},Inv (cxOf CX P w K mg base N qual scope f cdv A outer s H E) [] σ' H' s'->RelV v u->Q v H'->CE outer P w H s Q u s' :=
  fun {σ' H' v u} J rv q=>⟨v,H',J.os,J.bare,J.base,J.hok,rv,q⟩
 cases fl with
 | ret u =>
  obtain⟨v,σ',H',J,rv,q⟩:=hs
  exact fin J rv q
 | next =>
  obtain⟨σ',H',J,q⟩:=hs
  exact fin (v:=V.non) (u:=Value.none) J rfl q
 | brk =>
  obtain⟨_,_,_,q⟩:=hs
  exact False.elim q
 | cont =>
  obtain⟨_,_,_,q⟩:=hs
  exact False.elim q
end L2
namespace L2
open PySem PySem.Spec PyProof.Rows
section
variable {X:Cx}{x:Str}{p pos:Pos}{e:Expr}{es:List Expr}{t:TA}{id T:String}{r:List V->Hp->VK->Prop}
def tCB (r:List V->Hp->VK->Prop)(t:TA):TE:=fun σ H Q=>t σ H fun vs H1=>r vs H1 Q
theorem Zx (hc:CallR X (.builtin id) r)(hg:Gl X x)(hm:X.mg x=none)(hv:bootBuiltins x=some (.builtin id))(ha:PA X (e::es) t)(hn:x≠"__name__":=by decide)(hdb:(x == ("__debug__":Str))=false:=by decide)
  (he:starEach (e::es) X.env=(false,eval e X.env)::starEach es X.env:=by rfl) (hpl:(backTo pos (starEach es X.env)).any (·.1)=false:=by rfl):PE X (.Call (.Name x p) (e::es) [] pos) (tCB r t):=by
 intro pins s σ H Q I h
 refine qb (W5 I hg hm hv ?_ hn hdb)
 exact jj (thn (ha pos pins s σ H _ I h) fun us s1 ⟨vs,H1,I1,r1,q1⟩=>hc pins s1 σ H1 vs us Q I1 r1 q1) he hpl
theorem Y8 (hc:CallR X (.type T) r)(hg:Gl X x)(hm:X.mg x=none)(hv:bootBuiltins x=some (.type T))(ha:PA X (e::es) t)(hn:x≠"__name__":=by decide)(hdb:(x == ("__debug__":Str))=false:=by decide)
  (he:starEach (e::es) X.env=(false,eval e X.env)::starEach es X.env:=by rfl) (hpl:(backTo pos (starEach es X.env)).any (·.1)=false:=by rfl):PE X (.Call (.Name x p) (e::es) [] pos) (tCB r t):=by
 intro pins s σ H Q I h
 refine qb (W5 I hg hm hv ?_ hn hdb)
 exact XS (thn (ha pos pins s σ H _ I h) fun us s1 ⟨vs,H1,I1,r1,q1⟩=>hc pins s1 σ H1 vs us Q I1 r1 q1) he hpl
end
end L2
namespace HT
open PySem PyProof.Rows
section
open PySem.SeqAt
open PySem.AutoSeq1 (wpAny_loadPart')
open PySem.MeetsSeq PySem.MeetsSeq2 PySem.MeetsSeq3
end
section
variable {prog:Program}{w:World}{A:Around}{E:Value->Shared->Prop}{s:Shared}
theorem cat_tup {t b:Addr}{vs ws:List Value}{Q:Value->Shared->Prop}(ht:IsTup s.heap t vs.toArray)(hb:IsTup s.heap b ws.toArray)(hv:vs≠[])
  (h1:ws=[]->Q (.ref t) s) (h2:ws≠[]->Q (.ref s.heap.objs.size) { s with heap:=s.heap.push { cls:=.type "tuple",data:=.seq (vs++ws).toArray } })
  (hsz:vs.length+ws.length<=sizeLine):wpAny (model prog w) A (binaryOp .Add (.ref t) (.ref b)) Q E s:=by
 obtain⟨⟨cls,dd,data,sl⟩,ho,hc,n,hd⟩:=id ht
 obtain⟨⟨cls2,dd2,data2,sl2⟩,ho2,hc2,n2,hd2⟩:=id hb
 simp only at hc hd hc2 hd2
 subst hc hd hc2 hd2
 have e:vs.toArray++ws.toArray=(vs++ws).toArray:=by simp
 by_cases hw:ws=[]
 ·exact concat_meets ⟨_,ho,rfl⟩ ⟨_,ho2,rfl⟩ Y0y Y0Y zX zR (zH _ _)
   (tuple_addW1 t b vs.toArray ws.toArray n n2 dd dd2 sl sl2 (by simpa using hv) (by simp[hw])) ⟨ho,ho2,h1 hw⟩
 ·refine concat_meets ⟨_,ho,rfl⟩ ⟨_,ho2,rfl⟩ Y0y Y0Y zX zR (zH _ _)
   (tuple_addW2 t b vs.toArray ws.toArray n n2 dd dd2 sl sl2 (by simpa using hv) (by simpa using hw) (by rw[YQ,YQ];exact hsz)) ⟨ho,ho2,?_⟩
  rw[e]
  exact h2 hw
def sIx (n d:Nat):Option Int->Nat
 | none=>d
 | some v=>if v<0 then (v+(n:Int)).toNat else min v.toNat n
theorem sIx_none (n d:Nat):sIx n d none=d:=rfl
theorem sIx_nat (n d k:Nat):sIx n d (some (k:Int))=min k n:=by
 show (if (k:Int)<0 then ((k:Int)+(n:Int)).toNat else min (k:Int).toNat n)=min k n
 rw[YG (by omega),zc]
theorem Z4k (n d:Nat)(hd:d<=n)(o:Option Int):sIx n d o<=n:=by
 cases o with
 | none=>exact hd
 | some v =>
  show (if v<0 then (v+(n:Int)).toNat else min v.toNat n)<=n
  by_cases hv:v<0
  ·rw[YM hv];omega
  ·rw[YG hv];exact Nat.min_le_right _ _
theorem Fg (v:Int)(n d:Nat):(if v<0 then max (v+(n:Int)) 0 else min v (n:Int))=((sIx n d (some v):Nat):Int):=by
 show (if v<0 then max (v+(n:Int)) 0 else min v (n:Int))=(((if v<0 then (v+(n:Int)).toNat else min v.toNat n):Nat):Int)
 by_cases hv:v<0
 ·simp only [YM hv];omega
 ·simp only [YG hv];omega
theorem Jl (lo hi:Option Int)(n:Nat):Builtin.Slice.sliceAdjust lo hi 1 (n:Int)=(((sIx n 0 lo:Nat):Int),((sIx n n hi:Nat):Int)):=by
 have h1:¬ ((1:Int)<0):=by omega
 unfold Builtin.Slice.sliceAdjust
 simp only [h1,Y08]
 refine Prod.ext ?_ ?_
 ·cases lo with
  | none=>rfl
  | some v=>exact Fg v n 0
 ·cases hi with
  | none=>rfl
  | some v=>exact Fg v n n
theorem Ks (i j:Nat):Builtin.Slice.slicePlaces (i:Int) (j:Int) 1=j - i:=by
 unfold Builtin.Slice.slicePlaces
 have h1:(1:Int) > 0:=by omega
 simp only [h1,jr,Int.ediv_one]
 split <;> omega
theorem Ry {v:Value}{o:Option Int}{Q:Option Int->Shared->Prop}(p:IsPart v o)(h:Q o s):wpAny (model prog w) A (Builtin.Slice.slicePartIndex v) Q E s:=by
 cases p with
 | none=>exact slicePart_none h
 | int i t=>exact slicePart_int h
theorem Tr {sl:Addr}{vl vu:Value}{lo hi:Option Int}{n:Nat}{Q:Int × Int × Nat->Shared->Prop}(hs:s.heap.IsSliceOf sl vl vu .none)(pl:IsPart vl lo)(pu:IsPart vu hi)
  (h:Q (((sIx n 0 lo:Nat):Int),1,sIx n n hi - sIx n 0 lo) s):wpAny (model prog w) A (Builtin.Slice.sliceApplied (.ref sl) (pure (n:Int))) Q E s:=by
 obtain⟨os,hos,hcs,hds⟩:=id hs
 unfold Builtin.Slice.sliceApplied Builtin.Slice.sliceFields
 refine YB (YB (XJ hos hds (x:=vl) rfl (YB (XJ hos hds (x:=vu) rfl (YB (XJ hos hds (x:=.none) rfl (YR ?_)))))))
 refine YB (slicePart_none ?_)
 show wpAny _ _ (if ((1:Int) == 0)=true then _ else _) _ _ s
 rw[YG (by decide)]
 refine YB (Ry pl (YB (Ry pu (YB (YR ?_)))))
 show wpAny _ _ (match Builtin.Slice.sliceAdjust lo hi 1 (n:Int) with | (lo,hi)=>pure (lo,(1:Int),Builtin.Slice.slicePlaces lo hi 1)) _ _ s
 rw[Jl lo hi n]
 show wpAny _ _ (pure (((sIx n 0 lo:Nat):Int),(1:Int),Builtin.Slice.slicePlaces ((sIx n 0 lo:Nat):Int) ((sIx n n hi:Nat):Int) 1)) _ _ s
 rw[Ks]
 exact YR h
theorem By (xs:Array Value)(i k:Nat):((List.range k).filterMap fun (m:Nat)=>xs[((i:Int)+(m:Int)*1).toNat]?).toArray=((xs.toList.drop i).take k).toArray:=by
 have e:(fun (m:Nat)=>xs[((i:Int)+(m:Int)*1).toNat]?)=fun m=>xs[i+m]?:=by
  funext m
  have:((i:Int)+(m:Int)*1).toNat=i+m:=by omega
  rw[this]
 rw[e]
 have:=pick_run xs i k
 rw[List.filterMap_map] at this
 have e2:((fun x=>xs[x]?) ∘ fun x=>i+x)=fun m=>xs[i+m]?:=rfl
 rw[e2] at this
 rw[this]
theorem getItem_tuple_cut {t sl:Addr}{items:Array Value}{vl vu:Value}{lo hi:Option Int}{Q:Value->Shared->Prop}(ht:IsTup s.heap t items)(hs:s.heap.IsSliceOf sl vl vu .none)(pl:IsPart vl lo)(pu:IsPart vu hi)
  (hw:¬ (sIx items.size 0 lo=0/\sIx items.size items.size hi=items.size))
  (h:Q (.ref s.heap.objs.size) { s with heap:=s.heap.push { cls:=.type "tuple",data:=.seq ((items.toList.drop (sIx items.size 0 lo)).take (sIx items.size items.size hi - sIx items.size 0 lo)).toArray } })
  (hsz:items.size<=sizeLine):wpAny (model prog w) A (getItem (.ref t) (.ref sl)) Q E s:=by
 have htake:sizeOk (.seq ((items.toList.drop (sIx items.size 0 lo)).take (sIx items.size items.size hi - sIx items.size 0 lo)).toArray):=by
  show ((items.toList.drop (sIx items.size 0 lo)).take (sIx items.size items.size hi - sIx items.size 0 lo)).toArray.size<=sizeLine
  rw[YQ,GC,List.length_drop,qj]
  omega
 have hj:sIx items.size items.size hi<=items.size:=Z4k _ _ (YE _) hi
 obtain⟨os,hos,hcs,hds⟩:=id hs
 have hTs:s.TypeIs (.ref sl) "slice":=⟨os,hos,hcs⟩
 unfold getItem
 try with_reducible refine GB ?_
 first | refine YB (YR ?_) | skip
 refine YB (wpAny_sequenceKey ht.typeIs (by decide) ?_)
 refine YB (JL (name:=Str.ofString "__getitem__") ht.typeIs zg
  (GK zg ht.typeIs entry_tuple_getitem ?_ (args_tuple_getitem _ _)))
 show wpAny _ _ (Builtin.Tuple.tupleItemsOf (.ref t) >>= _) _ _ s
 refine YB (tupleItemsOf_ ht ?_)
 refine YB (wpAny_typeOf hTs ?_)
 rw[YM (by decide)]
 refine YB (Tr hs pl pu ?_)
 have hno:¬ ((((sIx items.size 0 lo:Nat):Int) == 0 && (1:Int) == 1 && (sIx items.size items.size hi - sIx items.size 0 lo) == items.size)=true):=by
  intro q
  rw[JH,JH] at q
  have q1:((sIx items.size 0 lo:Nat):Int)=0:=eq_of_beq q.1.1
  have q2:sIx items.size items.size hi - sIx items.size 0 lo=items.size:=eq_of_beq q.2
  exact hw ⟨by omega,by omega⟩
 show wpAny _ _ (if (((sIx items.size 0 lo:Nat):Int) == 0 && (1:Int) == 1 && (sIx items.size items.size hi - sIx items.size 0 lo) == items.size)=true then _ else _) _ _ s
 rw[YG hno,By]
 first
  | exact YB (m:=Builtin.Tuple.tupleExact _) (JX (YR ⟨_,rfl,YR h⟩) htake)
  | exact YB (m:=Builtin.Tuple.tupleExact _) (JX (YB (YR (YR ⟨_,rfl,YR h⟩))) htake)
  | exact YB (YB (m:=Builtin.Tuple.tupleExact _) (JX (YR (YR ⟨_,rfl,YR h⟩)) htake))
  | exact YB (YB (m:=Builtin.Tuple.tupleExact _) (JX (YR ⟨_,rfl,YR h⟩) htake))
end
end HT
namespace L2
open PySem PySem.Spec PyProof.Rows
abbrev TO:=St->Hp->(Option Int->Hp->Prop)->Prop
def PO (X:Cx)(e:Option Expr)(t:TO):Prop :=
 ∀ (pins:List (Addr × Obj)) (s:Shared) (σ:St) (H:Hp) (Q:Option Int->Hp->Prop),Inv X pins σ H s->t σ H Q →
  wpAny (model X.prog X.w) X.A (evalPart e X.env) (fun u s'=>∃ o H',Inv X pins σ H' s'/\IsPart u o/\Q o H') X.xe s
def tNoPart:TO:=fun _ H Q=>Q none H
def tPart (t:TE):TO:=fun σ H Q=>t σ H fun x H1=>∃ i,x=.int i/\Q (some i) H1
theorem Qu {ns:List Int}:∀ {us:List Value},Vals (ns.map V.int) us->IntsAre us ns:=by
 induction ns with
 | nil=>intro us r;rw[List.map_nil] at r;cases r;exact .nil
 | cons n ns ih =>
  intro us r
  rw[Y0w] at r
  cases r with
  | cons r1 r2 =>
   obtain⟨t,e⟩:=r1
   subst e
   exact .cons n t (ih r2)
section
variable {X:Cx}{e:Expr}{te:TE}{lo hi:Option Expr}{tl th:TO}{pos p2:Pos}
theorem Z2i:PO X none tNoPart:=by
 intro pins s σ H Q I h
 rw[evalPart_none]
 exact YR ⟨none,H,I,.none,h⟩
theorem Z2h (h:PE X e te):PO X (some e) (tPart te):=by
 intro pins s σ H Q I hw
 rw[evalPart_some]
 refine thn (h pins s σ H _ I hw) fun u s1 ⟨x,H1,I1,r1,q1⟩=>?_
 obtain⟨i,rfl,q⟩:=q1
 obtain⟨t,rfl⟩:=r1
 exact⟨some i,H1,I1,.int i t,q⟩
def SlR (X:Cx)(r:V->Option Int->Option Int->Hp->VK->Prop):Prop :=
 ∀ (pins:List (Addr × Obj)) (s:Shared) (σ:St) (H:Hp) (x:V) (v vl vu:Value) (lo hi:Option Int) (sl:Addr) (Q:VK),Inv X pins σ H s->RelV x v->s.heap.IsSliceOf sl vl vu .none->IsPart vl lo->IsPart vu hi->r x lo hi H Q →
  ∃ T id,typeLookup (.type T) "__getitem__"=pure (some (.builtin id))/\s.TypeIs v T/\wpAny (model X.prog X.w) X.A (getItem v (.ref sl)) (EP X pins σ Q) X.xe s
def tSl (r:V->Option Int->Option Int->Hp->VK->Prop)(te:TE)(tl th:TO):TE:=fun σ H Q=>te σ H fun x H1=>tl σ H1 fun l H2=>th σ H2 fun u H3=>r x l u H3 Q
theorem Z02 {r:V->Option Int->Option Int->Hp->VK->Prop}(hr:SlR X r)(he:PE X e te)(hl:PO X lo tl)(hu:PO X hi th):PE X (.Subscript e (.Slice lo hi none p2) pos) (tSl r te tl th):=by
 intro pins s σ H Q I h
 refine Subscript_ (thn (he pins s σ H _ I h) fun v s1 ⟨x,H1,I1,r1,q1⟩=>?_)
 refine wpAny_Slice (thn (hl pins s1 σ H1 _ I1 q1) fun vl s2 ⟨l,H2,I2,pl,q2⟩=>thn (hu pins s2 σ H2 _ I2 q2) fun vu s3 ⟨u,H3,I3,pu,q3⟩=>?_)
 rw[evalPart_none]
 refine YR ?_
 have I4:Inv X pins σ H3 { s3 with heap:=s3.heap.push { cls:=.type "slice",data:=.fields #[vl,vu,.none] } }:=I3.kept (t':=s3.toks) fun b ob q=>YA _ q
 obtain⟨T,id,hT,ht,hg⟩:=hr pins { s3 with heap:=s3.heap.push { cls:=.type "slice",data:=.fields #[vl,vu,.none] } } σ H3 x v vl vu l u s3.heap.objs.size Q I4 r1 (Heap.IsSliceOf.new ..) pl pu q3
 show wpAny (model X.prog X.w) X.A (subscriptTail e (.Slice lo hi none p2) v (.ref s3.heap.objs.size)) (EP X pins σ Q) X.xe { s3 with heap:=s3.heap.push { cls:=.type "slice",data:=.fields #[vl,vu,.none] } }
 exact tail_any (ops:=[.ref s3.heap.objs.size,v]) ht hT hg (by with_unfolding_all rfl)
def cutV (xs:List V)(lo hi:Option Int):List V:=(xs.drop (HT.sIx xs.length 0 lo)).take (HT.sIx xs.length xs.length hi - HT.sIx xs.length 0 lo)
theorem K3 (xs:List V)(lo hi:Option Int):(cutV xs lo hi).length<=xs.length:=by
 unfold cutV
 rw[GC,List.length_drop]
 omega
def rSlT (K:W.Frag):V->Option Int->Option Int->Hp->VK->Prop:=fun x lo hi H Q=>∃ a xs,x=.ref a/\SqT K H a xs ∧
 ¬ (HT.sIx xs.length 0 lo=0/\HT.sIx xs.length xs.length hi=xs.length)/\∀ p,H p=none->Q (.ref p) (upd H p (.tup (cutV xs lo hi)))
theorem Z4j:SlR X (rSlT X.K):=by
 intro pins s σ H x v vl vu lo hi sl Q I rx hs pl pu h
 obtain⟨a,xs,rfl,hx,hw,q⟩:=h
 cases rx
 obtain⟨its,r,ht,hz⟩:=I.tuple hx
 have hlen:its.toArray.size=xs.length:=by rw[YQ];exact r.length.symm
 refine⟨"tuple",_,zg.lookup,ht.typeIs,?_⟩
 refine HT.getItem_tuple_cut ht hs pl pu (by rw[hlen];exact hw) ?_ (by rw[hlen];exact hz)
 rw[hlen]
 refine⟨.ref s.heap.objs.size,_,I.laid (t':=s.toks) (o:=.tup (cutV xs lo hi)) (fun b ob q=>YA _ q) (YE _) ?_,rfl,q _ (I.hok.fresh (YE _))⟩
 exact⟨XU (K3 xs lo hi) hz,_,(r.drop (HT.sIx xs.length 0 lo)).take (HT.sIx xs.length xs.length hi - HT.sIx xs.length 0 lo),IsTup.new _ _⟩
def rCatT (K:W.Frag):R2:=fun x y H Q=>∃ a b xs ys,x=.ref a/\y=.ref b/\SqT K H a xs/\SqT K H b ys/\xs≠[]/\xs.length+ys.length<=sizeLine ∧
 (ys=[]->Q (.ref a) H)/\(ys≠[]->∀ p,H p=none->Q (.ref p) (upd H p (.tup (xs++ys))))
theorem Vals.nil_iff {xs:List V}{us:List Value}(r:Vals xs us):us=[] ↔ xs=[]:=by
 cases r with
 | nil=>simp
 | cons _ _=>simp
theorem Z2q:OpR X (binaryOp .Add) (rCatT X.K):=by
 intro pins s σ H x y v u Q I rx ry h
 obtain⟨a,b,xs,ys,rfl,rfl,ha,hb,hx,hz,q1,q2⟩:=h
 cases rx
 cases ry
 obtain⟨its,r1,p1,_⟩:=I.tuple ha
 obtain⟨its2,r2,p2,_⟩:=I.tuple hb
 refine HT.cat_tup p1 p2 (fun z=>hx (r1.nil_iff.mp z)) (fun z=>⟨.ref a,H,I,rfl,q1 (r2.nil_iff.mp z)⟩) (fun z=>?_) (by rw[← r1.length,← r2.length];exact hz)
 refine⟨.ref s.heap.objs.size,_,I.laid (t':=s.toks) (o:=.tup (xs++ys)) (fun b ob q=>YA _ q) (YE _) ?_,rfl,q2 (fun w=>z (r2.nil_iff.mpr w)) _ (I.hok.fresh (YE _))⟩
 exact⟨by rw[XD];exact hz,_,r1.append r2,IsTup.new _ _⟩
end
end L2
namespace L2
open PySem PySem.Spec PyProof.Rows
def ixN (n:Nat)(i:Int):Option Nat:=if 0<=i then (if i<n then some i.toNat else none) else if -(n:Int)<=i then some (i+n).toNat else none
def atI {α:Type}(xs:List α)(i:Int):Option α:=(ixN xs.length i).bind fun j=>xs[j]?
theorem Gz {n:Nat}{i:Int}{j:Nat}(h:ixN n i=some j):seqIndex? i n=some j/\j<n/\-(n:Int)<=i/\i<n:=by
 unfold ixN at h
 by_cases h0:0<=i
 ·rw[YM h0] at h
  by_cases h1:i<n
  ·rw[YM h1] at h
   have e:i.toNat=j:=YK h
   exact⟨by rw[seqIndex_of h0 h1,e],by omega,by omega,h1⟩
  ·rw[YG h1] at h;cases h
 ·rw[YG h0] at h
  by_cases h1:-(n:Int)<=i
  ·rw[YM h1] at h
   have e:(i+n).toNat=j:=YK h
   exact⟨by rw[seqIndex_neg (by omega) h1,e],by omega,h1,by omega⟩
  ·rw[YG h1] at h;cases h
theorem Fj {α:Type}{xs:List α}{i:Int}{v:α}(h:atI xs i=some v):∃ j,seqIndex? i xs.length=some j/\xs[j]?=some v/\j<xs.length/\-(xs.length:Int)<=i/\i<xs.length:=by
 unfold atI at h
 cases e:ixN xs.length i with
 | none=>rw[e] at h;cases h
 | some j =>
  rw[e] at h
  obtain⟨h1,h2,h3,h4⟩:=Gz e
  exact⟨j,h1,h,h2,h3,h4⟩
theorem Zh {α:Type}{xs:List α}{j:Nat}{v:α}(h:xs[j]?=some v):atI xs (j:Int)=some v:=by
 have hj:j<xs.length:=(YH.mp h).1
 have e:ixN xs.length (j:Int)=some j:=by
  unfold ixN
  rw[YM (by omega),YM (by omega)];simp
 unfold atI;rw[e];exact h
def PlainIx (b:Expr):Prop:=∀ o i,subscripted b false o i=operate [o,i] (getItem o i)
def IxR (X:Cx)(r:R2):Prop :=
 ∀ (value slice:Expr) (pins:List (Addr × Obj)) (s:Shared) (σ:St) (H:Hp) (x y:V) (v u:Value) (Q:VK),Inv X pins σ H s->RelV x v->RelV y u->r x y H Q →
  subscripted slice false v u=operate [v,u] (getItem v u)->wpAny (model X.prog X.w) X.A (subscriptTail value slice v u) (EP X pins σ Q) X.xe s
def MtR (X:Cx)(id:String)(r:V->List V->Hp->VK->Prop):Prop :=
 ∀ (pins:List (Addr × Obj)) (s:Shared) (σ:St) (H:Hp) (x:V) (xs:List V) (v:Value) (us:List Value) (Q:VK),Inv X pins σ H s->RelV x v->Vals xs us->r x xs H Q →
  wpAny (model X.prog X.w) X.A (call (.builtin id) (v::us)) (EP X pins σ Q) X.xe s
section
variable {X:Cx}{a b:Expr}{ta tb:TE}{pos:Pos}
theorem Zj {r:R2}(hr:IxR X r)(ha:PE X a ta)(hb:PE X b tb)(hs:PlainIx b):PE X (.Subscript a b pos) (tOp r ta tb):=by
 intro pins s σ H Q I h
 exact Subscript_ (Z5x ha hb I h fun v u s2 x y H2 I2 rx ry q=>hr a b pins s2 σ H2 x y v u Q I2 rx ry q (hs _ _))
def rIxL (K:W.Frag):R2:=fun x y H Q=>∃ p xs i v,x=.ref p/\y=.int i/\SqL K H p xs/\atI xs i=some v/\Q v H
def rIxT (K:W.Frag):R2:=fun x y H Q=>∃ p xs i v,x=.ref p/\y=.int i/\SqT K H p xs/\atI xs i=some v/\Q v H
theorem Y2:IxR X (rIxL X.K):=by
 intro value slice pins s σ H x y v u Q I rx ry h hs
 obtain⟨p,xs,i,z,rfl,rfl,hq,he,q⟩:=h
 cases rx
 obtain⟨t,rfl⟩:=ry
 obtain⟨its,r,pl,hz⟩:=I.list hq
 obtain⟨j,h1,h2,h3,h4,h5⟩:=Fj he
 obtain⟨w,ew,rw'⟩:=r.get h2
 have hl:=r.length
 have hn:=Qp
 have fin:EP X pins σ Q w s:=⟨z,H,I,rw',q⟩
 by_cases h0:0<=i
 ·have hj:i.toNat=j:=by
   rw[seqIndex_of h0 h5] at h1
   exact YK h1
  exact item_listR pl.isList h0 (by omega) (by rw[hj];simpa using ew) fin hs
 ·have hj:(i+(its.toArray.size:Int)).toNat=j:=by
   rw[seqIndex_neg (by omega) h4] at h1
   rw[YQ,← hl]
   exact YK h1
  exact subscriptTail_builtinR (x:=w) pl.isList.typeIs slot_list_getitem.lookup
   (wpAny_getItem_list_neg (Q:=fun r s'=>r=w/\EP X pins σ Q r s') pl.isList (by omega) (by rw[YQ] <;> omega) (by omega) (by rw[hj];simpa using ew) ⟨rfl,fin⟩) hs
theorem Yj:IxR X (rIxT X.K):=by
 intro value slice pins s σ H x y v u Q I rx ry h hs
 obtain⟨p,xs,i,z,rfl,rfl,hq,he,q⟩:=h
 cases rx
 obtain⟨t,rfl⟩:=ry
 obtain⟨its,r,pl,hz⟩:=I.tuple hq
 obtain⟨j,h1,h2,h3,h4,h5⟩:=Fj he
 obtain⟨w,ew,rw'⟩:=r.get h2
 have hl:=r.length
 have hn:=Qp
 have fin:EP X pins σ Q w s:=⟨z,H,I,rw',q⟩
 exact subscriptTail_builtinR (x:=w) pl.typeIs slot_tuple_getitem.lookup
  (getItem_tuple (j:=j) (Q:=fun r s'=>r=w/\EP X pins σ Q r s') pl (by omega) (by omega) (by rw[YQ,← hl];exact h1) (by simpa using ew) ⟨rfl,fin⟩) hs
theorem J6 (its:List Value)(n j:Nat)(u:Value):Obj.mapSeq (·.setIfInBounds j u) { cls:=.type "list",data:=.seq its.toArray n }={ cls:=.type "list",data:=.seq (its.set j u).toArray n }:=by
 simp[Obj.mapSeq]
theorem Inv.lst {pins:List (Addr × Obj)}{σ:St}{H:Hp}{s:Shared}{p:Addr}{xs:List V}(I:Inv X pins σ H s)(h:H p=some (.lst xs)) :
  ∃ (its:List Value) (n:Nat),Vals xs its/\s.heap.get? p=some { cls:=.type "list",data:=.seq its.toArray n }/\xs.length<=sizeLine:=by
 obtain⟨z,its,n,r,e⟩:=I.hok p _ h
 exact⟨its,n,r,e,z⟩
theorem Inv.lstUpd {pins:List (Addr × Obj)}{σ:St}{H:Hp}{s:Shared}{p:Addr}{xs ys:List V}{its its':List Value}{n n':Nat}{f:Obj->Obj}(I:Inv X pins σ H s)(h:H p=some (.lst xs))
  (ho:s.heap.get? p=some { cls:=.type "list",data:=.seq its.toArray n }) (hf:f { cls:=.type "list",data:=.seq its.toArray n }={ cls:=.type "list",data:=.seq its'.toArray n' }) (r:Vals ys its') (hz:ys.length<=sizeLine) (t:Nat) :
  Inv X pins σ (upd H p (.lst ys)) { s with heap:=s.heap.update p f,toks:=t }:=by
 have e:(s.heap.update p f).get? p=some { cls:=.type "list",data:=.seq its'.toArray n' }:=by
  rw[JJ f ho (by rw[hf] <;> rfl),hf]
 refine I.write (x:=p) (e:=p) (by rw[h];trivial) (.inl rfl) (fun b u hb q=>(XT _ _ (XO hb)).trans q) ⟨_,e⟩ ?_
 exact⟨hz,its',n',r,e⟩
def rSetL:V->V->V->Hp->(Hp->Prop)->Prop:=fun o i v H Q=>∃ p xs k j,o=.ref p/\i=.int k/\H p=some (.lst xs)/\ixN xs.length k=some j/\Q (upd H p (.lst (xs.set j v)))
theorem V1:PSet X rSetL:=by
 intro pins s σ H o i v ov iv u Q I ro ri rv h
 obtain⟨p,xs,k,j,rfl,rfl,hp,hj,q⟩:=h
 cases ro
 obtain⟨t,rfl⟩:=ri
 obtain⟨its,n,r,ho,hz⟩:=I.lst hp
 obtain⟨h1,h2,h3,h4⟩:=Gz hj
 have hl:=r.length
 have hn:=Qp
 have I':Inv X pins σ (upd H p (.lst (xs.set j v))) { s with heap:=s.heap.update p (Obj.mapSeq (·.setIfInBounds j u)) } :=
  I.lstUpd hp ho (J6 its n j u) (r.set rv j) (by rw[qi];exact hz) s.toks
 by_cases h0:0<=k
 ·have hk:k.toNat=j:=by
   rw[seqIndex_of h0 h4] at h1
   exact YK h1
  exact W.ki_setAt ho h0 (by omega) (by rw[YQ,← hl];exact h4) (by rw[hk];exact⟨_,I',q⟩)
 ·have hk:(k+(its.toArray.size:Int)).toNat=j:=by
   rw[seqIndex_neg (by omega) h3] at h1
   rw[YQ,← hl]
   exact YK h1
  exact W.ki_setBack ho (by omega) (by rw[YQ,← hl];exact h3) (by omega) (by rw[hk];exact⟨_,I',q⟩)
def flatV:V->Bool
 | .non=>true
 | .bl _=>true
 | .int _=>true
 | .str _=>true
 | _=>false
def eqV:V->V->Bool
 | .non,.non=>true
 | .bl a,.bl b=>a == b
 | .bl a,.int b=>(if a then 1 else 0) == b
 | .int a,.bl b=>a == (if b then 1 else 0)
 | .int a,.int b=>a == b
 | .str a,.str b=>a == b
 | _,_=>false
theorem Z5v {A:Around}{s:Shared}{y x:V}{u v:Value}(ry:RelV y u)(rx:RelV x v)(fy:flatV y=true)(fx:flatV x=true):SeqAt.EqAt A s u v (eqV y x):=by
 cases y with
 | non =>
  cases ry
  cases x with
  | non=>cases rx;exact zu _
  | bl b=>cases rx;exact SeqAt.EqAt.none_bool b
  | int b=>obtain⟨t,rfl⟩:=rx;exact SeqAt.EqAt.none_int b t
  | str b=>obtain⟨t,rfl⟩:=rx;exact SeqAt.EqAt.none_str b t
  | _=>exact absurd (show false=true from fx) YT
 | bl a =>
  cases ry
  cases x with
  | non=>cases rx;exact SeqAt.EqAt.bool_none a
  | bl b=>cases rx;exact SeqAt.EqAt.bool_bool a b
  | int b=>obtain⟨t,rfl⟩:=rx;exact SeqAt.EqAt.bool_int a b t
  | str b=>obtain⟨t,rfl⟩:=rx;exact SeqAt.EqAt.bool_str a b t
  | _=>exact absurd (show false=true from fx) YT
 | int a =>
  obtain⟨t',rfl⟩:=ry
  cases x with
  | non=>cases rx;exact SeqAt.EqAt.int_none a t'
  | bl b=>cases rx;exact SeqAt.EqAt.int_bool a t' b
  | int b=>obtain⟨t,rfl⟩:=rx;exact zk a t' b t
  | str b=>obtain⟨t,rfl⟩:=rx;exact SeqAt.EqAt.int_str a t' b t
  | _=>exact absurd (show false=true from fx) YT
 | str a =>
  obtain⟨t',rfl⟩:=ry
  cases x with
  | non=>cases rx;exact SeqAt.EqAt.str_none a t'
  | bl b=>cases rx;exact SeqAt.EqAt.str_bool a t' b
  | int b=>obtain⟨t,rfl⟩:=rx;exact SeqAt.EqAt.str_int a t' b t
  | str b=>obtain⟨t,rfl⟩:=rx;exact SeqAt.EqAt.str_str a t' b t
  | _=>exact absurd (show false=true from fx) YT
 | _=>exact absurd (show false=true from fy) YT
def eqU (x:V)(u:Value):Bool:=match u with
 | .none=>eqV .non x
 | .bool b=>eqV (.bl b) x
 | .int i _=>eqV (.int i) x
 | .str z _=>eqV (.str z) x
 | _=>false
theorem Z1n {x y:V}{u:Value}(r:RelV y u)(f:flatV y=true):eqU x u=eqV y x:=by
 cases y with
 | non=>cases r;rfl
 | bl b=>cases r;rfl
 | int i=>obtain⟨t,rfl⟩:=r;rfl
 | str z=>obtain⟨t,rfl⟩:=r;rfl
 | _=>exact absurd (show false=true from f) YT
theorem Me {x:V}:∀ {xs:List V} {us:List Value},Vals xs us->xs.all flatV=true->us.any (eqU x)=xs.any fun y=>eqV y x
 | _,_,.nil,_=>rfl
 | y::xs,u::us,.cons r t,f=>by
  rw[List.all_cons,JH] at f
  rw[List.any_cons,List.any_cons,Z1n r f.1,Me t f.2]
theorem Qm {A:Around}{s:Shared}{x:V}{v:Value}(rx:RelV x v)(fx:flatV x=true):∀ {xs:List V} {us:List Value},Vals xs us->xs.all flatV=true->∀ u∈us,SeqAt.EqAt A s u v (eqU x u)
 | _,_,.nil,_=>fun u hu=>by cases hu
 | y::xs,u::us,.cons r t,f=>fun u' hu=>by
  rw[List.all_cons,JH] at f
  rcases YS.mp hu with rfl | hu
  ·rw[Z1n r f.1];exact Z5v r rx f.1 fx
  ·exact Qm rx fx t f.2 u' hu
def inV (x:V)(xs:List V):Bool:=xs.any fun y=>eqV y x
def rIn (K:W.Frag)(neg:Bool):R2:=fun x y H Q=>∃ p xs,y=.ref p/\(SqL K H p xs \/ SqT K H p xs)/\flatV x=true/\xs.all flatV=true/\Q (.bl (if neg then !inV x xs else inV x xs)) H
theorem Wf:OpR X (compareOp .In) (rIn X.K false):=by
 intro pins s σ H x y v u Q I rx ry h
 obtain⟨p,xs,rfl,hq,fx,fs,q⟩:=h
 cases ry
 rcases hq with hq | hq
 ·obtain⟨its,r,pl,hz⟩:=I.list hq
  refine SeqAt.in_listAt (eqU x) pl.isList (fun w hw=>Qm rx fx r fs w (by simpa using hw)) ⟨.bl _,H,I,rfl,?_⟩
  rw[show its.toArray.any (eqU x)=its.any (eqU x) by simp,Me r fs]
  exact q
 ·obtain⟨its,r,pl,hz⟩:=I.tuple hq
  refine SeqAt.in_tupleAt (eqU x) pl (fun w hw=>Qm rx fx r fs w (by simpa using hw)) ⟨.bl _,H,I,rfl,?_⟩
  rw[show its.toArray.any (eqU x)=its.any (eqU x) by simp,Me r fs]
  exact q
theorem Y6:CallR X (.builtin "len") (fun xs H Q=>∃ p ys,xs=[.ref p]/\(SqL X.K H p ys \/ SqT X.K H p ys)/\Q (.int ys.length) H):=by
 intro pins s σ H xs us Q I r h
 obtain⟨p,ys,rfl,hq,q⟩:=h
 obtain⟨u,rfl,rx⟩:=Vt r
 cases rx
 have hn:=Qp
 rcases hq with hq | hq
 ·obtain⟨its,r',pl,hz⟩:=I.list hq
  have hlen:=r'.length
  exact Calls.call_len_list pl.isList (by simp only [YQ] <;> omega) ⟨.int ys.length,H,I.tok _,⟨s.toks+1,by rw[YQ,hlen]⟩,q⟩
 ·obtain⟨its,r',pl,hz⟩:=I.tuple hq
  have hlen:=r'.length
  exact len_tuple pl (by simp only [YQ] <;> omega) ⟨.int ys.length,H,I.tok _,⟨s.toks+1,by rw[YQ,hlen]⟩,q⟩
theorem Xp:CallR X (.type "list") (fun xs H Q=>∃ p ys,xs=[.ref p]/\(SqL X.K H p ys \/ SqT X.K H p ys)/\∀ l,H l=none->Q (.ref l) (upd H l (.lst ys))):=by
 intro pins s σ H xs us Q I r h
 obtain⟨p,ys,rfl,hq,q⟩:=h
 obtain⟨u,rfl,rx⟩:=Vt r
 cases rx
 have fin:∀ (its:List Value),Vals ys its->ys.length<=sizeLine->∀ (h':Heap) (c':Nat),(∀ b o',s.heap.get? b=some o'->h'.get? b=some o') →
   h'.get? s.heap.objs.size=some { cls:=.type "list",dict:=none,data:=.seq its.toArray c',slots:=#[] }->EP X pins σ Q (.ref s.heap.objs.size) { s with heap:=h' }:=fun its r' hz h' c' kp e =>
  ⟨.ref s.heap.objs.size,_,I.laid (t':=s.toks) kp (YE _) (show ObjOk X.prog X.w _ h' _ (.lst ys) from ⟨hz,its,c',r',e⟩),rfl,q _ (I.hok.fresh (YE _))⟩
 rcases hq with hq | hq
 ·obtain⟨its,r',pl,hz⟩:=I.list hq
  have hlen:=r'.length
  obtain⟨o,ho,hc,n,hd⟩:=pl.isList
  exact call_list_seq p (.inl rfl) ho hc hd (fun h' c' kp e=>fin its r' hz h' c' kp e) (by simp only [YQ] <;> omega)
 ·obtain⟨its,r',pl,hz⟩:=I.tuple hq
  have hlen:=r'.length
  obtain⟨o,ho,hc,n,hd⟩:=pl
  exact call_list_seq p (.inr rfl) ho hc hd (fun h' c' kp e=>fin its r' hz h' c' kp e) (by simp only [YQ] <;> omega)
theorem Y3:CallR X (.type "tuple") (fun xs H Q=>∃ p ys,xs=[.ref p]/\((SqL X.K H p ys/\∀ l,H l=none->Q (.ref l) (upd H l (.tup ys))) \/ (SqT X.K H p ys/\Q (.ref p) H))):=by
 intro pins s σ H xs us Q I r h
 obtain⟨p,ys,rfl,h⟩:=h
 obtain⟨u,rfl,rx⟩:=Vt r
 cases rx
 rcases h with ⟨hq,q⟩ | ⟨hq,q⟩
 ·obtain⟨its,r',pl,hz⟩:=I.list hq
  have hlen:=r'.length
  refine call_tuple_list pl.isList (fun h' kp=>?_) (by simp only [YQ] <;> omega)
  have I1:Inv X pins σ H { s with heap:=h' }:=I.kept (t':=s.toks) kp
  have I2:Inv X pins σ (upd H h'.objs.size (.tup ys)) { s with heap:=h'.push { cls:=.type "tuple",data:=.seq its.toArray } } :=
   I1.laid (t':=s.toks) (fun b o e=>YA _ e) (YE _) (show ObjOk X.prog X.w _ _ _ (.tup ys) from ⟨hz,its,r',IsTup.new _ _⟩)
  exact⟨.ref h'.objs.size,_,I2,rfl,q _ (I1.hok.fresh (YE _))⟩
 ·obtain⟨its,r',pl,hz⟩:=I.tuple hq
  exact call_tuple_same pl ⟨.ref p,H,I,rfl,q⟩
def tyV (K:W.Frag)(T:String)(x:V)(H:Hp):Prop:=match x with
 | .str _=>T="str"
 | .int _=>T="int"
 | .ref p=>(T="list"/\∃ xs,SqL K H p xs) \/ (T="tuple"/\∃ o,K.lookup p=some o/\o.cls=.type "tuple"/\o.dict=none) ∨
   (T="dict"/\((∃ kvs,H p=some (.dK kvs)) \/ ∃ kvs,H p=some (.dT kvs))) \/ (T="set"/\∃ S n,H p=some (.set S n))
 | _=>False
theorem Z4g {pins:List (Addr × Obj)}{σ:St}{H:Hp}{s:Shared}{T:String}{x:V}{v:Value}(I:Inv X pins σ H s)(r:RelV x v)(ty:tyV X.K T x H) :
  s.TypeIs v T/\∀ a,v=.ref a->∃ ob,s.heap.get? a=some ob/\ob.dict=none:=by
 cases x with
 | str z =>
  obtain⟨t,rfl⟩:=r
  cases (show T="str" from ty)
  exact⟨typeIs_str s z t,fun _ e=>nomatch e⟩
 | int i =>
  obtain⟨t,rfl⟩:=r
  cases (show T="int" from ty)
  exact⟨Y0H s i t,fun _ e=>nomatch e⟩
 | ref p =>
  cases r
  rcases ty with ⟨rfl,xs,hq⟩ | ⟨rfl,o,hk,hc,hd⟩ | ⟨rfl,hk⟩ | ⟨rfl,S,n,hk⟩
  ·obtain⟨its,_,pl,_⟩:=I.list hq
   refine⟨pl.isList.typeIs,fun a e=>?_⟩
   cases e
   obtain⟨o,n,e,c,hd,_⟩:=pl
   exact⟨o,e,hd⟩
  ·refine⟨⟨o,I.kIn p o hk,hc⟩,fun a e=>?_⟩
   cases e
   exact⟨o,I.kIn _ o hk,hd⟩
  ·have z:∃ o,s.heap.get? p=some o/\o.ExactDict:=by
    rcases hk with ⟨kvs,hk⟩ | ⟨kvs,hk⟩
    ·obtain⟨_,_,_,_,o,_,_,e,ex,_⟩:=I.hok p _ hk
     exact⟨o,e,ex⟩
    ·obtain⟨_,_,_,_,o,_,_,e,ex,_⟩:=I.hok p _ hk
     exact⟨o,e,ex⟩
   obtain⟨o,e,ex⟩:=z
   refine⟨⟨o,e,ex.1⟩,fun a e2=>?_⟩
   cases e2
   exact⟨o,e,ex.2.1⟩
  ·obtain⟨o,_,_,_,e,ex,_⟩:=I.hok p _ hk
   refine⟨⟨o,e,ex.1⟩,fun a e2=>?_⟩
   cases e2
   exact⟨o,e,ex.2.1⟩
 | _=>exact False.elim ty
def tBM (K:W.Frag)(T:String)(r:V->List V->Hp->VK->Prop)(to:TE)(t:TA):TE:=fun σ H Q=>to σ H fun x H1=>tyV K T x H1/\t σ H1 fun xs H2=>r x xs H2 Q
variable {o e:Expr}{es:List Expr}{to:TE}{t:TA}{name:Str}{apos cpos:Pos}{T id:String}{r:V->List V->Hp->VK->Prop}
theorem Vr (pa:PlainAttrs T)(slot:Slot T name id)(hty:typeOf (.builtin id)=pure (.type "method_descriptor"))(hm:MtR X id r)(ho:PE X o to)(ha:PA X (e::es) t)
  (hbase:attributeBase o name X.env (eval o X.env)=eval o X.env:=by rfl)
  (hfew:((backTo cpos (starEach (e::es) X.env)).all (fun x=>!x.1) && (backToKw cpos (keywordEach [] X.env)).all (fun x=>x.1.isSome)
   && decide ((e::es).length+([]:List Keyword).length+(if ([]:List Keyword).isEmpty then 0 else 1)<30))=true:=by rfl)
  (hline:(apos.endLine == cpos.line)=true:=by rfl) (hs:starEach (e::es) X.env=(false,eval e X.env)::starEach es X.env:=by rfl) (hplain:(backTo cpos (starEach es X.env)).any (·.1)=false:=by rfl) :
  PE X (.Call (.Attribute o name apos) (e::es) [] cpos) (tBM X.K T r to t):=by
 intro pins s σ H Q I h
 refine wpAny_Call_method_late hbase hfew hline rfl (thn (ho pins s σ H _ I h) fun v s1 ⟨x,H1,I1,r1,ty,q1⟩=>?_)
 obtain⟨h1,h2⟩:=Z4g I1 r1 ty
 refine⟨T,id,pa,slot,hty,h1,h2,?_⟩
 have hA:=ha cpos pins s1 σ H1 _ I1 q1
 rw[hs] at hA ⊢
 refine Calls.callWith_builtin (by show (false || (backTo cpos (starEach es X.env)).any (·.1))=false;rw[hplain] <;> rfl) (Calls.evalArgs_plain ?_)
 exact thn hA fun us s2 ⟨vs,H2,I2,r2,q2⟩=>hm pins s2 σ H2 x vs v us Q I2 r1 r2 q2
end
end L2
namespace L2
open PySem PySem.Spec PyProof.Rows
def MtM (X:Cx)(id:String)(r:V->List V->Hp->VK->Prop):Prop :=
 ∀ (pins:List (Addr × Obj)) (s:Shared) (σ:St) (H:Hp) (x:V) (xs:List V) (v:Value) (us:List Value) (Q:VK),Inv X pins σ H s->RelV x v->Vals xs us->r x xs H Q →
  wpAny (model X.prog X.w) X.A (call (.builtin id) (v::us)) (EP X pins σ Q) X.xe s
theorem Vals.one:∀ {x:V} {us:List Value},Vals [x] us->∃ u,us=[u]/\RelV x u
 | _,_,.cons r .nil=>⟨_,rfl,r⟩
theorem Vals.rep {xs:List V}{us:List Value}(h:Vals xs us):∀ k:Nat,Vals (List.replicate k xs).flatten (List.replicate k us).flatten
 | 0=>.nil
 | k+1=>by
  rw[qk,qk,zY,zY]
  exact Vals.append h (Vals.rep h k)
theorem N1 (its:List Value):∀ (k:Nat) (acc:List Value),
  List.foldl (fun x1 x2=>x1++x2) acc.toArray (List.replicate k its.toArray)=(acc++(List.replicate k its).flatten).toArray
 | 0,acc=>by simp
 | k+1,acc=>by
  have e:acc.toArray++its.toArray=(acc++its).toArray:=by simp
  have e2:(acc++its)++(List.replicate k its).flatten=acc++(List.replicate (k+1) its).flatten:=by
   rw[qk,zY,List.append_assoc]
  rw[← e2,← N1 its k (acc++its),← e,qk,List.foldl_cons]
section
variable {X:Cx}{pins:List (Addr × Obj)}{σ:St}{H:Hp}{s:Shared}{l b:Addr}{xs ys zs:List V}
theorem Inv.lset {its its':List Value}{n:Nat}{f:Array Value->Array Value}{t':Nat}(I:Inv X pins σ H s)(hH:H l=some (.lst xs))
  (e:s.heap.get? l=some { cls:=.type "list",data:=.seq its.toArray n }) (hf:f its.toArray=its'.toArray) (hv:Vals ys its') (hz:ys.length<=sizeLine) :
  Inv X pins σ (upd H l (.lst ys)) { s with heap:=s.heap.update l (Obj.mapSeq f),toks:=t' }:=by
 have q:=PySem.IsL.update e f
 rw[hf] at q
 refine I.write (x:=l) (e:=l) (by rw[hH];exact trivial) (.inl rfl) (fun b' u hb hu=>(XT s.heap (Obj.mapSeq f) (XO hb)).trans hu) ⟨_,q⟩ ?_
 exact⟨hz,its',_,hv,q⟩
theorem Inv.lnew {its:List Value}{t':Nat}(I:Inv X pins σ H s)(hv:Vals ys its)(hz:ys.length<=sizeLine) :
  Inv X pins σ (upd H s.heap.objs.size (.lst ys)) { s with heap:=s.heap.push { cls:=.type "list",data:=.seq its.toArray },toks:=t' } :=
 I.laid (fun _ _ q=>YA _ q) (YE _) ⟨hz,its,0,hv,YO _ rfl⟩
theorem Inv.fresh (I:Inv X pins σ H s):H s.heap.objs.size=none:=I.hok.fresh (YE _)
theorem Inv.lstM (I:Inv X pins σ H s)(hH:H l=some (.lst xs)):xs.length<=sizeLine/\∃ (its:List Value) (n:Nat),Vals xs its/\xs.length=its.length/\s.heap.get? l=some { cls:=.type "list",data:=.seq its.toArray n }:=by
 obtain⟨z,its,n,r,e⟩:=I.hok l _ hH
 exact⟨z,its,n,r,r.length,e⟩
theorem Z0s {n:Nat}(h:n<=sizeLine):Builtin.List.listTooLong n=false:=by
 unfold Builtin.List.listTooLong
 exact JI (by omega)
end
section
variable {X:Cx}
def rAppend:V->List V->Hp->VK->Prop:=fun x vs H Q=>∃ l xs y,x=.ref l/\vs=[y]/\H l=some (.lst xs)/\xs.length<sizeLine/\Q .non (upd H l (.lst (xs++[y])))
theorem Yy:MtM X "list.append" rAppend:=by
 intro pins s σ H x vs v us Q I rx rv h
 obtain⟨l,xs,y,rfl,rfl,hH,hz,q⟩:=h
 cases rx
 obtain⟨u,rfl,ru⟩:=rv.one
 obtain⟨z,its,n,r,hl,e⟩:=I.lstM hH
 refine jk F.slot_list_append ⟨_,e,rfl⟩ F.entry_list_append (F.args_list_append_2 _ _) (PySem.list_append l its.toArray n u (by rw[YQ];omega)) ⟨e,?_⟩
 refine⟨.non,_,I.lset (its':=its++[u]) hH e (by simp) (r.append (.cons ru .nil)) ?_,rfl,q⟩
 rw[XD,List.length_singleton]
 omega
def rExtend:V->List V->Hp->VK->Prop:=fun x vs H Q=>∃ l b xs zs,x=.ref l/\vs=[.ref b]/\H l=some (.lst xs)/\H b=some (.lst zs)/\xs.length+zs.length<=sizeLine/\Q .non (upd H l (.lst (xs++zs)))
theorem Dp:MtM X "list.extend" rExtend:=by
 intro pins s σ H x vs v us Q I rx rv h
 obtain⟨l,b,xs,zs,rfl,rfl,hH,hB,hz,q⟩:=h
 cases rx
 obtain⟨u,rfl,ru⟩:=rv.one
 cases ru
 obtain⟨z,its,n,r,hl,e⟩:=I.lstM hH
 obtain⟨z2,its2,n2,r2,hl2,e2⟩:=I.lstM hB
 have hsz:its.toArray.size+its2.toArray.size<=sizeLine:=by rw[YQ,YQ];omega
 have hlong:¬ (!its.toArray.isEmpty && Builtin.List.listTooLong (its.toArray.size+its2.toArray.size))=true:=by
  rw[Z0s hsz,Bool.and_false]
  exact YT
 refine jk F.slot_list_extend ⟨_,e,rfl⟩ F.entry_list_extend (F.args_list_extend_2 _ _)
  (AutoSeq1.list_extend_list_list_0 l its.toArray n b its2.toArray n2 hlong (by rw[YQ];omega) (by omega)) ⟨e,e2,?_⟩
 refine⟨.non,_,I.lset (its':=its++its2) hH e (by simp) (r.append r2) ?_,rfl,q⟩
 rw[XD]
 omega
def rCat:R2:=fun x y H Q=>∃ l b xs zs,x=.ref l/\y=.ref b/\H l=some (.lst xs)/\H b=some (.lst zs)/\xs.length+zs.length<=sizeLine/\∀ p,H p=none->Q (.ref p) (upd H p (.lst (xs++zs)))
theorem Z50:OpR X (binaryOp .Add) rCat:=by
 intro pins s σ H x y v u Q I rx ry h
 obtain⟨l,b,xs,zs,rfl,rfl,hH,hB,hz,q⟩:=h
 cases rx
 cases ry
 obtain⟨z,its,n,r,hl,e⟩:=I.lstM hH
 obtain⟨z2,its2,n2,r2,hl2,e2⟩:=I.lstM hB
 refine PySem.P.add_list e e2 ?_ (by rw[YQ,YQ];omega)
 have ea:its.toArray++its2.toArray=(its++its2).toArray:=by simp
 rw[ea]
 exact⟨.ref _,_,I.lnew (t':=s.toks) (r.append r2) (by rw[XD];omega),rfl,q _ I.fresh⟩
theorem Z3m {α:Type}(xs:List α)(k:Nat):(List.replicate k xs).flatten.length=k*xs.length:=by
 induction k with
 | zero=>simp
 | succ k ih=>rw[qk,zY,XD,ih,Y0I,zZ]
end
section
variable {prog:Program}{w:World}{A:Around}{E:Value->Shared->Prop}{s:Shared}
end
section
variable {X:Cx}
end
end L2
namespace Att
open PySem PySem.W PySem.Calls PyProof.Rows
theorem Sz {P:Params}{h:Heap}:∀ (ns:List Int) (vs:List Value),WellAll P h vs (ns.map WData.int)->IntsAre vs ns:=by
 intro ns
 induction ns with
 | nil =>
  intro vs w
  rw[List.map_nil] at w
  cases w
  exact .nil
 | cons n ns ih =>
  intro vs w
  rw[Y0w] at w
  cases w with
  | cons a b =>
   cases a
   exact .cons _ _ (ih _ b)
theorem Fw {l:OpenLaw}{n:Nat}(hn:l.most=some n){P:Params}{h:Heap}{args:List WData}{vals:List Value}
  (hpre:l.row.toRowW.claim.pre args=true) (hwl:WellAll P h vals args) :
  ∃ a vs ns,vals=[Value.ref a]/\args=[WData.list (ns.map WData.int)]/\h.get? a=some { cls:=.type "list",data:=.seq vs.toArray }/\IntsAre vs ns/\ns.length<=n:=by
 have hsh:WShape.hasAll [] args [.list .int]=true:=(pre_splitW hpre).1
 have hc:l.pre.holds [] { args:=args }=true:=(pre_splitW hpre).2
 obtain⟨d,r,rfl,h1,h2⟩:=hasAllW_cons hsh
 obtain rfl:=hasAllW_nil h2
 obtain⟨xs,rfl,h3⟩:=hasW_list h1
 obtain⟨ns,rfl⟩:=items_int h3
 have hlen:ns.length<=n:=by
  unfold OpenLaw.pre at hc
  have h4:(WTm.not (.lt (.lit (.int (n:Int))) (.len (.arg 0)))).holds [] { args:=[.list (ns.map .int)] }=true:=by
   have h4:=(holds_andW hc).1
   rw[hn] at h4
   exact h4
  have h5:=condW_of h4 (w_not (w_lt w_lit (w_len_list (w_arg rfl))))
  rw[YC] at h5
  refine Y0z fun q=>?_
  have q':(n:Int)<((ns.length:Nat):Int):=by omega
  first
   | (rw[XF q'] at h5;exact absurd h5 (by decide))
   | (simp at h5;omega)
 cases hwl with
 | cons w1 w2 =>
  cases w2
  cases w1 with
  | list ho hall=>exact⟨_,_,ns,rfl,rfl,ho,Sz ns _ hall,hlen⟩
theorem D3 (l:OpenLaw)(args:List WData):l.row.toRowW.claim.post args (.bool true) args=true :=
 postW_of (r:=l.row.toRowW) (X:=(true == true))
  (show WShape.has [] (.bool true) .bool=true by first | rfl | decide | simp[WShape.has,WShape.arms,WShape.armsAll])
  (show (WTm.eq .res (.lit (.bool true))).value [] { args:=args,res:=some (.bool true),after:=args }=some (.bool (true == true)) from w_eq_bool (w_res rfl) w_lit) rfl
theorem attach_call {l:OpenLaw}{n:Nat}{q:Program}{loose:List Str}{XP:(Str->Option Value)->Heap->Prop}{YP:World->Heap->Prop}{d:DefRec}
  (hn:l.most=some n) (hdf:d.params.defaults=[])
  (call:∀ (w:World) (s₀ s₁:Shared) (mg mb:Str->Option Value) (fa:Addr) (o:Obj) (pm cd doc:Value) (a:Addr) (vs:List Value) (ns:List Int),
   Ground q loose [] XP w s₀ mg mb s₁.heap->YP w s₁.heap →
   s₁.heap.get? fa=some o->o.data=.func (docDef d.name d.params d.body d.scope pm cd doc)->s₁.heap.CodeRec cd d.name->mg d.name=some (.ref fa) →
   s₁.heap.get? a=some { cls:=.type "list",data:=.seq vs.toArray }->IntsAre vs ns->ns.length<=n->s₁.gens=#[] →
   codeAny (model l.prog w) callerA (.call (.ref fa) ⟨[.ref a],[]⟩) (fun r s'=>r=.ok (.ret (.bool true))/\OldK s₁.heap s'.heap/\s'.os=s₁.os/\AllBare s'.gens) s₁) :
  WalkO q loose XP YP l.row.toRowW d [] (fun f vs=>PySem.call f vs):=by
 intro w s₀ s₁ mg mb G Y fa o pm cd doc dV kV ho hd hcd hD hmg hg args vals as hpre hlay hrd hwl hlo
 obtain rfl:dV=.none:=Dflts.none hD hdf
 obtain rfl:kV=.none:=Dflts.noKw hD
 obtain⟨a,vs,ns,rfl,rfl,hobj,hints,hlen⟩:=Fw hn hpre hwl
 refine enter_call (zW (call w s₀ s₁ mg mb fa o pm cd doc a vs ns G Y ho (fd_plain hd) hcd hmg hobj hints hlen hg) fun r s' hq=>?_)
 obtain⟨rfl,h2,h3,h4⟩:=hq
 exact⟨.inl ⟨.bool true,.bool true,[],rfl,fun _=>rfl,.bool true,D3 l _,fun _=>⟨List.Pairwise.nil,fun _ hm=>(nomatch hm)⟩⟩,h2,h3,h4⟩
section
variable {prog:Program}{w:World}{A:Around}{E:Value->Shared->Prop}{s:Shared}{K:Frag}
def ledger (h:Heap)(L d:Addr):List (Addr × Obj):=(List.range h.objs.size).filterMap fun a=>if a=L \/ a=d then none else (h.get? a).map fun o=>(a,o)
end
end Att
namespace L2
open PySem PySem.Spec PyProof.Rows
theorem Pj:∀ {vs:List Value} {ns:List Int},IntsAre vs ns->Vals (ns.map V.int) vs
 | _,_,.nil=>.nil
 | _,_,.cons n t h=>.cons ⟨t,rfl⟩ (Pj h)
def Only (H:Hp):Prop:=∀ b,H b=none \/ ∃ o xs,H b=some (.frz o (.lst xs))
theorem Z16 {P:Program}{w:World}{K:W.Frag}{mg mb:Str->Option Value}{CX:CXT}{k:Nat}{fa a:Addr}{fd:FuncData}{x:Str}{sp:Sp}{s₁:Shared}{vs:List Value}{ns:List Int}
  (KX:K.In s₁.heap) (hns:s₁.heap.Ns mainGlobals mg) (hb:s₁.heap.Ns builtinsNs mb) (hbb:∀ x:Str,x≠"__name__"->mb x=bootBuiltins x) (hlim:s₁.heap.NoLimit) (hg:s₁.gens=#[])
  (ha:s₁.heap.get? a=some { cls:=.type "list",data:=.seq vs.toArray }) (hi:IntsAre vs ns) (hl:ns.length<=sizeLine) {sr:Bool} (hr:Room k callerA sr)
  (F:∀ base:Heap,K.In base->base.Ns mainGlobals mg->FnOk P w K mg base CX k fa fd [x] sp sr) (hbind:∀ (s:Shared) (u:Value),BindsTo s fd ⟨[u],[]⟩ [(x,u)])
  (hsp:∀ H:Hp,Only H->SqL K H a (ns.map V.int)->sp [.ref a] H (fun v _=>v=.bl true) fun _ _ _=>False)
  (hCX:∀ H e s',CX [] H s₁ (fun _ _ _=>False) e s'->False) :
  codeAny (model P w) callerA (.call (.ref fa) ⟨[.ref a],[]⟩) (fun r s'=>r=.ok (.ret (.bool true))/\OldK s₁.heap s'.heap/\s'.os=s₁.os/\AllBare s'.gens) s₁:=by
 have rv:=Pj hi
 have lenV:=hi.length
 have core:∀ H:Hp,Only H->SqL K H a (ns.map V.int)->HOk P w H s₁.heap->(∀ b,H b≠none->b=a)->(H a≠none->K.lookup a=none) →
   codeAny (model P w) callerA (.call (.ref fa) ⟨[.ref a],[]⟩) (fun r s'=>r=.ok (.ret (.bool true))/\OldK s₁.heap s'.heap/\s'.os=s₁.os/\AllBare s'.gens) s₁:=by
  intro H hO hS hok hA hK
  have base_of:∀ {b:Addr} {o:Obj},s₁.heap.get? b=some o->H b=none->(hidT s₁.heap H).get? b=some o:=fun e n=>Z1a e n
  have noA:∀ {b:Addr} {o:Obj} {es:Array DictEntry} {ep:Nat},s₁.heap.get? b=some o->o.data=.dict es ep->H b=none:=fun {b o es ep} e d=>by
   cases q:H b with
   | none=>rfl
   | some u =>
    have e':b=a:=hA b (by rw[q];simp)
    subst e'
    rw[ha] at e;cases e
    have d':Data.seq vs.toArray _=Data.dict es ep:=d
    cases d'
  have nsK:∀ {b:Addr} {m:Str->Option Value},s₁.heap.Ns b m->(hidT s₁.heap H).Ns b m:=fun {b m} ⟨o,es,ep,e,d,r⟩=>⟨o,es,ep,base_of e (noA e d),d,r⟩
  have hKb:K.In (hidT s₁.heap H):=fun b o e=>base_of (KX b o e) (by
   cases q:H b with
   | none=>rfl
   | some u =>
    have e':b=a:=hA b (by rw[q];simp)
    subst e'
    rw[hK (by rw[q];simp)] at e;cases e)
  have hM:Mod K mg (hidT s₁.heap H):=⟨hKb,nsK hns,⟨mb,nsK hb,hbb⟩,let ⟨mc,h1,h2⟩:=hlim;⟨mc,nsK h1,h2⟩⟩
  have e0:Env0 P w K mg (hidT s₁.heap H) callerA [] s₁ H:=⟨rfl,hM,fun b o e=>Z3f e,Nat.le_of_eq (C3 _ _),trivial,fun b hb=>absurd (show b∈([]:List Addr) from hb) (by simp),hok,.of_eq hg,.inl rfl⟩
  refine zW ((F _ hKb (nsK hns)).run callerA [] s₁ H ⟨[.ref a],[]⟩ [.ref a] [.ref a] _ _ hr e0 (hbind s₁ (.ref a)) (.cons rfl .nil) (hsp H hO hS)) fun r s' h=>?_
  cases r with
  | error e=>exact (hCX H e s' h).elim
  | ok fl =>
   cases fl with
   | next=>exact False.elim h
   | brk=>exact False.elim h
   | cont=>exact False.elim h
   | ret u =>
    obtain⟨v,H',os,bare,un,hok',r',q⟩:=h
    have q':v=.bl true:=q
    subst q'
    obtain rfl:u=Value.bool true:=r'
    refine⟨rfl,OldK.of_keep fun b o e=>?_,os,bare⟩
    cases q:H b with
    | none=>exact un.keep b o e q (by intro z;exact absurd (show b∈([]:List Addr) from z) (by simp)) (by simp)
    | some u =>
     rcases hO b with z | ⟨ob,xs,z⟩
     ·rw[q] at z;cases z
     ·have z2:=un.frzs b ob _ z
      obtain⟨e1,_⟩:=hok b _ z
      obtain⟨e2,_⟩:=hok' b _ z2
      rw[e] at e1;cases e1
      exact e2
 cases hk:K.lookup a with
 | some o =>
  have e:=KX a o hk
  rw[ha] at e
  cases e
  refine core (fun _=>none) (fun _=>.inl rfl) (.inr ⟨_,vs.toArray,_,hk,rfl,rfl,rfl,by rw[YQ,lenV];exact hl,by simpa using rv⟩) (fun b u z=>by have z':(none:Option HO)=some u:=z;cases z') (fun b z=>absurd rfl z) fun z=>absurd rfl z
 | none =>
  refine core (fun b=>if b=a then some (.frz { cls:=.type "list",data:=.seq vs.toArray } (.lst (ns.map V.int))) else none) (fun b=>?_) (.inl (.inr ⟨{ cls:=.type "list",data:=.seq vs.toArray },YM rfl⟩)) (fun b u z=>?_) (fun b z=>?_) fun _=>hk
  ·by_cases hb:b=a
   ·exact .inr ⟨_,_,YM hb⟩
   ·exact .inl (YG hb)
  ·by_cases hb:b=a
   ·have z':=(YM hb).symm.trans z
    cases z'
    subst hb
    exact⟨ha,by rw[YC];exact hl,vs,_,rv,ha⟩
   ·have z':=(YG hb).symm.trans z
    cases z'
  ·by_cases hb:b=a
   ·exact hb
   ·exact absurd (YG hb) z
end L2
namespace L2
open PySem PySem.Spec PyProof.Rows
abbrev KOf {K:W.Frag}{h:Heap}(_:K.In h):W.Frag:=K
theorem Z21 {l:W.OpenLaw}{n k:Nat}{q:Program}{loose:List Str}{XP:(Str->Option Value)->Heap->Prop}{YP:World->Heap->Prop}{d:DefRec}{K:Params->W.Frag}{CX:World->CXT}{sp:World->Sp}{x:Str}
  (hn:l.most=some n) (hn2:n<=sizeLine) (hdf:d.params.defaults=[]) {sr:Bool} (hr:Room k callerA sr)
  (hY:∀ (w:World) (h:Heap),YP w h->(K w.params).In h)
  (F:∀ (w:World) (mg:Str->Option Value) (fa:Addr) (h:Heap),(K w.params).In h->h.Ns mainGlobals mg->mg d.name=some (.ref fa) →
   ∃ fd:FuncData,(∀ (s:Shared) (u:Value),BindsTo s fd ⟨[u],[]⟩ [(x,u)]) ∧
    ∀ base:Heap,(K w.params).In base->base.Ns mainGlobals mg->FnOk l.prog w (K w.params) mg base (CX w) k fa fd [x] (sp w) sr)
  (hsp:∀ (w:World) (H:Hp) (a:Addr) (ns:List Int),ns.length<=n->Only H->SqL (K w.params) H a (ns.map V.int)->sp w [.ref a] H (fun v _=>v=.bl true) fun _ _ _=>False)
  (hCX:∀ (w:World) (H:Hp) (s:Shared) (e:Value) (s':Shared),CX w [] H s (fun _ _ _=>False) e s'->False) :
  W.WalkO q loose XP YP l.row.toRowW d [] (fun f vs=>PySem.call f vs):=by
 refine Att.attach_call hn hdf fun w s₀ s₁ mg mb fa o pm cd doc a vs ns G Y ho hd hcd hmg hobj hints hlen hg=>?_
 have KX:=hY w _ Y
 obtain⟨fd,hb,hF⟩:=F w mg fa _ KX G.T.g hmg
 exact Z16 KX G.T.g G.T.b G.T.builtins G.T.nolimit hg hobj hints (XU hlen hn2) hr hF hb (fun H hO hS=>hsp w H a ns hlen hO hS) fun H e s'=>hCX w H s₁ e s'
theorem Cl {l:W.OpenLaw}{n k:Nat}{q:Program}{loose:List Str}{XP:(Str->Option Value)->Heap->Prop}{YP:World->Heap->Prop}{d:DefRec}{K:Params->W.Frag}{CX:CXT}{sp:W.Frag->Sp}{x:Str}
  (hn:l.most=some n) (hn2:n<=sizeLine) (hdf:d.params.defaults=[]) {sr:Bool} (hr:Room k callerA sr)
  (hY:∀ (w:World) (h:Heap),YP w h->(K w.params).In h)
  (F:∀ (w:World) (mg:Str->Option Value) (fa:Addr) (h:Heap),(K w.params).In h->h.Ns mainGlobals mg->mg d.name=some (.ref fa) →
   ∃ fd:FuncData,(∀ (s:Shared) (u:Value),BindsTo s fd ⟨[u],[]⟩ [(x,u)]) ∧
    ∀ base:Heap,(K w.params).In base->base.Ns mainGlobals mg->FnOk l.prog w (K w.params) mg base CX k fa fd [x] (sp (K w.params)) sr)
  (hsp:∀ (K:W.Frag) (H:Hp) (a:Addr) (ns:List Int),ns.length<=n->Only H->SqL K H a (ns.map V.int)->sp K [.ref a] H (fun v _=>v=.bl true) fun _ _ _=>False)
  (hCX:∀ (H:Hp) (s:Shared) (e:Value) (s':Shared),CX [] H s (fun _ _ _=>False) e s'->False) :
  W.WalkO q loose XP YP l.row.toRowW d [] (fun f vs=>PySem.call f vs) :=
 Z21 (K:=K) (CX:=fun _=>CX) (sp:=fun w=>sp (K w.params)) hn hn2 hdf hr hY F (fun w H a ns h1 h2 h3=>hsp (K w.params) H a ns h1 h2 h3) fun _ H s e s'=>hCX H s e s'
end L2
namespace L2
open PySem PySem.Spec PyProof.Rows
def inClass (s:Stmt)(j:Nat):Stmt:=match s with
 | .ClassDef _ _ _ body _ _ _ _ _ _ _=>body.getD j (.Pass ⟨0,0,0,0⟩)
 | _=>.Pass ⟨0,0,0,0⟩
def defArgs (s:Stmt):Arguments:=match s with
 | .FunctionDef _ a _ _ _ _ _ _ _ _=>a
 | _=>{ posonlyargs:=[],args:=[],vararg:=none,kwonlyargs:=[],kw_defaults:=[],kwarg:=none,defaults:=[] }
def defBody (s:Stmt):List Stmt:=match s with
 | .FunctionDef _ _ b _ _ _ _ _ _ _=>b
 | _=>[]
def defScope (s:Stmt):Scope:=match s with
 | .FunctionDef _ _ _ _ _ _ sc _ _ _=>sc
 | _=>{ kind:=.function,names:=[],isGenerator:=false,isCoroutine:=false }
abbrev CX0:CXT:=fun _ _ _ _ _ _=>False
abbrev E0:XK:=fun _ _ _=>False
theorem Go {X:Cx}:Passes CX0 X E0:=fun _ _ _ _ _ _ _ h=>h.elim
structure Fun (K:W.Frag)(x qual:Str)(st:Stmt)(f:Addr)(fd:FuncData):Prop where
 ex:∃ (oc:Value) (od:Option Addr) (kV doc pm:Value) (an:Option Addr) (cdv ct:Value) (osl:Array (Option Value)),
  fd=W.fnOf x qual (defArgs st) (defBody st) (defScope st) .none kV doc pm an cdv ct/\K.lookup f=some ⟨oc,od,.func fd,osl⟩/\W.codeIn K cdv qual=true
 kp:W.keepIn K (.ref f)=true
section
variable {P:Program}{w:World}{K:W.Frag}{mg:Str->Option Value}{base:Heap}
theorem Fun.ok {x qual:Str}{st:Stmt}{f:Addr}{fd:FuncData}{N ps:List Str}{k:Nat}{sp:Sp}{sr:Bool}(F:Fun K x qual st f fd)(S:FnScope N ps (defScope st))(len:∀ vs H Q E,sp vs H Q E->vs.length=ps.length)
  (hbody:∀ (cdv:Value) (A:Around) (outer:List Env) (s:Shared) (H:Hp) (vs:List V) (Q:VK) (E:XK),Room k (A.deeper (envOfC qual (defScope st) s.heap.objs.size f cdv)) sr->sp vs H Q E →
   ∃ t,PSs (cxOf CX0 P w K mg base N qual (defScope st) f cdv A outer s H E).nox (defBody st) t/\t { nx:=fun _ H'=>Q .non H',rt:=Q } (start N vs) H):FnOk P w K mg base CX0 (k+1) f fd ps sp sr:=by
 obtain⟨oc,od,kV,doc,pm,an,cdv,ct,osl,rfl,lk,hcd⟩:=F.ex
 refine Z4e lk hcd S len fun A outer s H vs Q E hr hsp=>?_
 obtain⟨t,h,q⟩:=hbody cdv A outer s H vs Q E hr hsp
 exact⟨t,h.nox,q⟩
theorem Fun.binds {x qual:Str}{st:Stmt}{f:Addr}{fd:FuncData}{ps:List Str}(F:Fun K x qual st f fd)
  (h:∀ (kV doc pm:Value) (an:Option Addr) (cdv ct:Value) (us:List Value),us.length=ps.length->bindArgs (W.fnOf x qual (defArgs st) (defBody st) (defScope st) .none kV doc pm an cdv ct) ⟨us,[]⟩=pure (ps.zip us)):Binds K fd ps []:=by
 obtain⟨oc,od,kV,doc,pm,an,cdv,ct,osl,rfl,lk,hcd⟩:=F.ex
 exact .all (h kV doc pm an cdv ct)
theorem Sd {x qual:Str}{st:Stmt}{f:Addr}{oc:Value}{od an:Option Addr}{osl:Array (Option Value)}{kV doc pm cdv ct:Value}(l:K.lookup f=some ⟨oc,od,.func (W.fnOf x qual (defArgs st) (defBody st) (defScope st) .none kV doc pm an cdv ct),osl⟩)
  (c:W.codeIn K cdv qual=true) (k:W.keepIn K (.ref f)=true):Fun K x qual st f (W.fnOf x qual (defArgs st) (defBody st) (defScope st) .none kV doc pm an cdv ct):=⟨⟨oc,od,kV,doc,pm,an,cdv,ct,osl,rfl,l,c⟩,k⟩
end
theorem Z19 {A:Around}{k:Nat}{sr:Bool}(hr:Room k A sr):A.units+1<cLine:=GA (Nat.add_le_add_left (by decide:1<=64) _) hr.units
theorem Ub {n:Nat}(h:n<=1000):n<sizeLine:=GA h (by decide)
section
variable {X:Cx}
theorem pv (i:Nat){x:Str}{pos:Pos}(hN:X.N[i]?=some x:=by rfl)(hv:Vis X.env.scope x:=by first | exact Or.inl rfl | exact Or.inr (Or.inl rfl) | exact Or.inr (Or.inr rfl))(hd:(x == ("__debug__":Str))=false:=by decide)
  (hcd:(x == ("__classdict__":Str))=false:=by decide):PE X (.Name x pos) (tVar i):=Z4v hN hv hd hcd
end
theorem Yw {A B:Prop}(h:B):if false=true then A else B:=by
 rw[YG YT]
 exact h
theorem Uq {A B:Prop}(h:A):if true=true then A else B:=by
 rw[YM rfl]
 exact h
theorem Xa {c A B:Prop}[Decidable c](h1:c->A)(h2:¬ c->B):if c then A else B:=by
 by_cases h:c
 ·rw[YM h]
  exact h1 h
 ·rw[YG h]
  exact h2 h
theorem Ln {c A B:Prop}[Decidable c](hc:c)(h:B):if (!decide c)=true then A else B:=by
 rw[XF hc]
 exact Yw h
def Same (H H':Hp):Prop:=∀ b o,H b=some o->H' b=some o
theorem Same.refl (H:Hp):Same H H:=fun _ _ h=>h
theorem Same.trans {H H1 H2:Hp}(a:Same H H1)(b:Same H1 H2):Same H H2:=fun c o h=>b c o (a c o h)
end L2
namespace Sb
def Bd (n:Nat)(x:Int):Prop:=x.natAbs<2 ^ n
theorem Bd.mono {m n:Nat}{x:Int}(h:Bd m x)(k:m<=n):Bd n x:=YW h (qf (by decide) k)
theorem Bd.mul {m n:Nat}{x y:Int}(h:Bd m x)(k:Bd n y):Bd (m+n) (x*y):=by
 unfold Bd at *
 rw[qg,Y0Q]
 exact Nat.mul_lt_mul'' h k
theorem Bd.add {n:Nat}{x y:Int}(h:Bd n x)(k:Bd n y):Bd (n+1) (x+y):=by
 unfold Bd at *
 rw[Y19]
 omega
theorem Bd.sub {n:Nat}{x y:Int}(h:Bd n x)(k:Bd n y):Bd (n+1) (x - y):=by
 unfold Bd at *
 rw[Y19]
 omega
theorem Bd.neg {n:Nat}{x:Int}(h:Bd n x):Bd n (-x):=by
 unfold Bd at *
 omega
theorem Bd.of_le {n:Nat}{x y:Int}(h:x.natAbs<=y.natAbs)(k:Bd n y):Bd n x:=GA h k
theorem Bd.of_le' {n:Nat}{x y:Int}(k:Bd n y)(h:x.natAbs<=y.natAbs):Bd n x:=GA h k
theorem Bd.log {n:Nat}{x:Int}(h:Bd n x)(k:n<9000):x.natAbs.log2<9000:=by
 rcases Y0e x.natAbs with h0 | hp
 ·rw[h0];decide
 ·have:=(Y0R (qo hp)).mpr h
  omega
def gI (p q:Int):Int:=(Int.gcd p q:Int)
def sg (p q:Int):Int:=if q<0 then -(gI p q) else gI p q
def nT (p q:Int):Int:=p.fdiv (sg p q)
def nB (p q:Int):Int:=q.fdiv (sg p q)
theorem Jh {p q:Int}(h:q≠0):0<gI p q:=by
 have:=Int.gcd_pos_of_ne_zero_right p h
 unfold gI;omega
theorem Pl {p q:Int}(h:q≠0):sg p q≠0:=by
 have:=Jh (p:=p) h
 unfold sg;split <;> omega
theorem Kj (p q:Int):sg p q ∣ p:=by
 unfold sg gI;split
 ·exact Int.neg_dvd.mpr (Y0A ..)
 ·exact Y0A ..
theorem Kk (p q:Int):sg p q ∣ q:=by
 unfold sg gI;split
 ·exact Int.neg_dvd.mpr (ja ..)
 ·exact ja ..
theorem Uw {a b:Int}(h:b ∣ a):a.fdiv b*b=a:=by
 rw[Int.fdiv_eq_ediv_of_dvd h]
 exact Int.ediv_mul_cancel h
theorem J3 (p q:Int):nT p q*sg p q=p:=Uw (Kj p q)
theorem Tw (p q:Int):nB p q*sg p q=q:=Uw (Kk p q)
theorem Nt {p q:Int}(h:q≠0):0<nB p q:=by
 have e:=Tw p q
 have g:=Jh (p:=p) h
 by_cases hq:q<0
 ·have s:sg p q=-(gI p q):=by unfold sg;rw[YM hq]
  rw[s] at e
  rcases Int.lt_trichotomy 0 (nB p q) with k | k | k
  ·exact k
  ·rw[← k] at e;simp at e;omega
  ·have:=Int.mul_pos_of_neg_of_neg k (show -(gI p q)<0 by omega);omega
 ·have s:sg p q=gI p q:=by unfold sg;rw[YG hq]
  rw[s] at e
  rcases Int.lt_trichotomy 0 (nB p q) with k | k | k
  ·exact k
  ·rw[← k] at e;simp at e;omega
  ·have:=Int.mul_neg_of_neg_of_pos k g;omega
theorem X2 (p q:Int):nT p q*q=p*nB p q:=by
 have h1:=J3 p q
 have h2:=Tw p q
 calc nT p q*q=nT p q*(nB p q*sg p q):=by rw[h2]
  _=(nT p q*sg p q)*nB p q:=by rw[XH (nB p q),JM]
  _=p*nB p q:=by rw[h1]
theorem Z0x {p q:Int}(h:q≠0):Int.gcd (nT p q) (nB p q)=1:=by
 have g:=Jh (p:=p) h
 have e1:=J3 p q
 have e2:=Tw p q
 have e:Int.gcd p q=Int.gcd (nT p q) (nB p q)*(sg p q).natAbs:=by
  have z:=Int.gcd_mul_right (nT p q) (sg p q) (nB p q)
  rw[e1,e2] at z
  exact z
 have s:(sg p q).natAbs=Int.gcd p q:=by
  unfold sg gI;split <;> simp
 rw[s] at e
 have gp:0<Int.gcd p q:=by unfold gI at g;omega
 have e':1*Int.gcd p q=Int.gcd (nT p q) (nB p q)*Int.gcd p q:=by omega
 exact (Y0f gp e').symm
theorem Cv {p q:Int}(h:q≠0):1<=(sg p q).natAbs:=by
 have:=Pl (p:=p) h
 omega
theorem Ty {a b c:Int}(h:a*b=c)(hb:1<=b.natAbs):a.natAbs<=c.natAbs:=by
 rw[← h,qg]
 exact zS _ hb
theorem Z6d {p q:Int}(h:q≠0):(nT p q).natAbs<=p.natAbs:=Ty (J3 p q) (Cv h)
theorem Z6e {p q:Int}(h:q≠0):(nB p q).natAbs<=q.natAbs:=Ty (Tw p q) (Cv h)
theorem Z61 {p q:Int}(h:q≠0):(sg p q).natAbs<=q.natAbs:=by
 have e:=Tw p q
 rw[XH] at e
 have:=Nt (p:=p) h
 exact Ty e (by omega)
theorem gcd_step {a b:Int}:Int.gcd b (a % b)=Int.gcd a b:=by
 rw[zl b,Int.emod_def]
 rw[Y0j]
theorem C5 (a b:Int):Int.gcd b (a.fmod b)=Int.gcd a b:=by
 rw[zl b,Int.fmod_def]
 rw[Y0j]
theorem Z1k (a:Int){b:Int}(h:b≠0):(a.fmod b).natAbs<b.natAbs:=by
 rcases Int.lt_or_gt_of_ne h with k | k
 ·have h0:=Int.neg_fmod_neg a b
  have h1:=Y0J (-a) (show 0 < -b by omega)
  have h2:=Y13 (-a) (show 0 < -b by omega)
  omega
 ·have h1:=Y0J a k
  have h2:=Y13 a k
  omega
theorem Z5q (a b:Int)(ha:0<=a)(h:b=0):a=(Int.gcd a b:Int):=by
 subst h
 simp
 omega
end Sb
namespace Sb
open PySem PySem.Spec PyProof.Rows L2
theorem Bd.bits {n:Nat}{x:Int}(h:Bd n x):Builtin.Int.intBits x<=n:=by
 unfold Builtin.Int.intBits
 split
 ·exact JZ _
 ·rename_i h0
  have hn:x.natAbs≠0:=by
   intro z
   have:x=0:=by omega
   exact h0 (by simp[this])
  have:=(Y0R hn).mpr h
  omega
theorem Bd.mulOk {m n:Nat}{x y:Int}(h:Bd m x)(k:Bd n y)(hm:m<=1048576)(hn:n<=1048576):IntMulOk x y :=
 IntMulOk.of_bits (XU h.bits (XU hm (by decide))) (XU k.bits (XU hn (by decide)))
theorem Do {x y:Int}(h1:-(2 ^ 64)<x)(h2:x<2 ^ 64):IntMulOk x y:=IntMulOk.of_left (intBits_le_64 h1 h2)
theorem Dn {x y:Int}(h1:-(2 ^ 64)<y)(h2:y<2 ^ 64):IntMulOk x y:=IntMulOk.of_right (intBits_le_64 h1 h2)
section
variable {X:Cx}
theorem Zw:OpR X (binaryOp .Mult) (rI IntMulOk fun i j=>.int (i*j)):=opI fun _ _ _ _ _ _ _ hc q=>mul_int q hc
def DivOk (_ j:Int):Prop:=j≠0/\j.natAbs.log2<9000
theorem W9:OpR X (binaryOp .FloorDiv) (rI DivOk fun i j=>.int (i.fdiv j)):=opI fun _ _ _ _ _ _ _ hc q=>floordiv_int hc.1 q (.inl (PyProof.noPylong_of_log2 hc.2))
def rP0 (K:W.Frag):R2:=fun x y H Q=>∃ p u v,x=.ref p/\y=.int 0/\SqT K H p [u,v]/\Q u H
def rP1 (K:W.Frag):R2:=fun x y H Q=>∃ p u v,x=.ref p/\y=.int 1/\SqT K H p [u,v]/\Q v H
def rL0 (K:W.Frag):R2:=fun x y H Q=>∃ p u v,x=.ref p/\y=.int 0/\SqL K H p [u,v]/\Q u H
def rL1 (K:W.Frag):R2:=fun x y H Q=>∃ p u v,x=.ref p/\y=.int 1/\SqL K H p [u,v]/\Q v H
theorem at0 {α:Type}(x:α)(xs:List α):atI (x::xs) 0=some x:=Zh (j:=0) rfl
theorem at1 {α:Type}(x y:α)(xs:List α):atI (x::y::xs) 1=some y:=Zh (j:=1) rfl
theorem Yu:IxR X (rP0 X.K):=fun vl sl pins s σ H x y v u Q I rx ry ⟨p,a,b,e1,e2,h,q⟩ hs=>Yj vl sl pins s σ H x y v u Q I rx ry ⟨p,_,_,_,e1,e2,h,at0 _ _,q⟩ hs
theorem Yn:IxR X (rP1 X.K):=fun vl sl pins s σ H x y v u Q I rx ry ⟨p,a,b,e1,e2,h,q⟩ hs=>Yj vl sl pins s σ H x y v u Q I rx ry ⟨p,_,_,_,e1,e2,h,at1 _ _ _,q⟩ hs
theorem Gy:IxR X (rL0 X.K):=fun vl sl pins s σ H x y v u Q I rx ry ⟨p,a,b,e1,e2,h,q⟩ hs=>Y2 vl sl pins s σ H x y v u Q I rx ry ⟨p,_,_,_,e1,e2,h,at0 _ _,q⟩ hs
theorem Gx:IxR X (rL1 X.K):=fun vl sl pins s σ H x y v u Q I rx ry ⟨p,a,b,e1,e2,h,q⟩ hs=>Y2 vl sl pins s σ H x y v u Q I rx ry ⟨p,_,_,_,e1,e2,h,at1 _ _ _,q⟩ hs
theorem T7 {x:Str}{T:String}{pos:Pos}(hm:X.mg x=none)(hv:bootBuiltins x=some (.type T))(hg:Gl X x:=by rfl)(hn:x≠"__name__":=by decide)(hd:(x == ("__debug__":Str))=false:=by decide):PE X (.Name x pos) (tC (.ty T)) :=
 Z2l hg hm hv rfl hn hd
theorem Wu:CallR X (.builtin "isinstance") (fun xs H Q=>∃ x T t b,xs=[x,.ty T]/\TyOf X.K H x t/\W.kitOne X.K t (.type T)=some b/\Q (.bl b) H):=by
 intro pins s σ H xs us Q I r h
 obtain⟨x,T,t,b,rfl,ty,k,q⟩:=h
 obtain⟨u,w',rfl,rx,ry⟩:=Mg r
 cases (show w'=Value.type T from ry)
 exact Dy I rx ty k fun tk=>⟨.bl b,H,I.tok tk,rfl,q⟩
theorem Xq:CallR X (.builtin "isinstance") (fun xs H Q=>∃ a ys T b,xs=[.ref a,.ty T]/\SqT X.K H a ys/\W.kitOne X.K (.type "tuple") (.type T)=some b/\Q (.bl b) H):=by
 intro pins s σ H xs us Q I r h
 obtain⟨a,ys,T,b,rfl,hs,k,q⟩:=h
 obtain⟨u,w',rfl,rx,ry⟩:=Mg r
 cases (show w'=Value.type T from ry)
 cases (show u=Value.ref a from rx)
 obtain⟨its,_,tup,_⟩:=I.tuple hs
 obtain⟨o,h1,h2,_⟩:=tup
 exact zj W.kitx_tuple I.kIn ⟨o,h1,h2⟩ k (fun z=>nomatch z) fun tk=>⟨.bl b,H,I.tok tk,rfl,q⟩
end
theorem V7 {K:W.Frag}{T:String}:W.kitOne K (.type T) (.type T)=some true:=by
 unfold W.kitOne
 rw[YM (by simp)]
theorem Ti {K:W.Frag}:W.kitOne K (.type "int") (.type "bool")=some false:=by
 show (if (Value.type "int" == Value.type "bool")=true then some true else (if W.kitMeta "bool"=true then (fastBuiltinMro "int").map (·.contains (Value.type "bool")) else none))=some false
 decide +kernel
def Has (P:Program)(w:World)(K:W.Frag)(mg:Str->Option Value)(base:Heap)(k:Nat)(x:Str)(ps:List Str)(sp:Sp)(sr:Bool:=false):Prop :=
 ∃ (f:Addr) (fd:FuncData),FnOk P w K mg base CX0 k f fd ps sp sr/\mg x=some (.ref f)/\W.keepIn K (.ref f)=true/\Binds K fd ps []
def Def (K:W.Frag)(mg:Str->Option Value)(x:Str)(st:Stmt)(ps:List Str):Prop :=
 ∃ (f:Addr) (fd:FuncData),Fun K x x st f fd/\mg x=some (.ref f)/\Binds K fd ps []
theorem Def.has {P:Program}{w:World}{K:W.Frag}{mg:Str->Option Value}{base:Heap}{k:Nat}{x:Str}{st:Stmt}{ps:List Str}{sp:Sp}{sr:Bool}(D:Def K mg x st ps)
  (h:∀ (f:Addr) (fd:FuncData),Fun K x x st f fd->FnOk P w K mg base CX0 k f fd ps sp sr):Has P w K mg base k x ps sp sr:=by
 obtain⟨f,fd,F,hm,b⟩:=D
 exact⟨f,fd,h f fd F,hm,F.kp,b⟩
section
variable {X:Cx}{k:Nat}{x:Str}{ps:List Str}{sp:Sp}{e:Expr}{es:List Expr}{t:TA}{p pos:Pos}
theorem Z01 {sr:Bool}(h:Has X.prog X.w X.K X.mg X.base k x ps sp)(hr:Room k X.A sr)(hg:Gl X x)(ha:PA X (e::es) t)(hdb:(x == ("__debug__":Str))=false:=by decide)
  (he:starEach (e::es) X.env=(false,eval e X.env)::starEach es X.env:=by rfl) (hpl:(backTo pos (starEach es X.env)).any (·.1)=false:=by rfl) (hc:X.calm=true:=by rfl):PE X (.Call (.Name x p) (e::es) [] pos) (tCall sp [] E0 t):=by
 obtain⟨f,fd,F,hm,hk,hb⟩:=h
 exact Gn F hr.loose hg hm hk hb .nil Go ha hdb he hpl hc
theorem Gk (h:Has X.prog X.w X.K X.mg X.base k x ps sp true)(hr:Room k X.A true)(hg:Gl X x)(ha:PA X (e::es) t)(hdb:(x == ("__debug__":Str))=false:=by decide)
  (he:starEach (e::es) X.env=(false,eval e X.env)::starEach es X.env:=by rfl) (hpl:(backTo pos (starEach es X.env)).any (·.1)=false:=by rfl) (hc:X.calm=true:=by rfl):PE X (.Call (.Name x p) (e::es) [] pos) (tCall sp [] E0 t):=by
 obtain⟨f,fd,F,hm,hk,hb⟩:=h
 exact Gn F hr hg hm hk hb .nil Go ha hdb he hpl hc
theorem Zg {j:Nat}{sr:Bool}(h:Has X.prog X.w X.K X.mg X.base k x ps sp)(hr:Room j X.A sr)(ha:PA X (e::es) t)(hg:Gl X x:=by rfl)(hj:k<=j:=by decide)(hdb:(x == ("__debug__":Str))=false:=by decide)
  (he:starEach (e::es) X.env=(false,eval e X.env)::starEach es X.env:=by rfl) (hpl:(backTo pos (starEach es X.env)).any (·.1)=false:=by rfl) (hc:X.calm=true:=by rfl):PE X (.Call (.Name x p) (e::es) [] pos) (tCall sp [] E0 t):=Z01 h (hr.mono hj) hg ha hdb he hpl hc
end
section
variable {X:Cx}{st:Stmt}{t:TS}{e:Expr}{te:TE}{tt:TT}
def tJ (t:TS):TS:=fun D σ H=>∃ J:L2.St->Hp->Prop,t { D with nx:=J } σ H/\∀ σ' H',J σ' H'->D.nx σ' H'
theorem Xc (h:PS X st t):PS X st (tJ t):=by
 intro pins s σ H D I ⟨J,a,b⟩
 refine thn (h pins s σ H _ I a) fun f s' q=>?_
 cases f with
 | next=>obtain⟨σ',H',I',q⟩:=q;exact⟨σ',H',I',b _ _ q⟩
 | brk=>exact q
 | cont=>exact q
 | ret v=>exact q
end
def SameX (a:Addr)(H H':Hp):Prop:=∀ b o,H b=some o->b≠a->H' b=some o
theorem SameX.refl (a:Addr)(H:Hp):SameX a H H:=fun _ _ h _=>h
theorem SameX.trans {a:Addr}{H H1 H2:Hp}(x:SameX a H H1)(y:SameX a H1 H2):SameX a H H2:=fun b o h n=>y b o (x b o h n) n
theorem SameX.of {a:Addr}{H H':Hp}(x:Same H H'):SameX a H H':=fun b o h _=>x b o h
theorem SameX.upd (a:Addr)(H:Hp)(o:HO):SameX a H (upd H a o):=fun b u h n=>by rw[Zf n];exact h
theorem Same.new {H:Hp}{a:Addr}{o:HO}(h:H a=none):Same H (upd H a o):=fun b u e=>by rw[Zf (Ze e h)];exact e
theorem Zt {K:W.Frag}{H H':Hp}{a:Addr}{xs:List V}(e:Same H H')(h:SqT K H a xs):SqT K H' a xs:=by
 rcases h with (h | ⟨o,h⟩) | h
 ·exact .inl (.inl (e _ _ h))
 ·exact .inl (.inr ⟨o,e _ _ h⟩)
 ·exact .inr h
def BagAt (H:Hp)(a:Addr)(n:Nat):Prop:=∃ x y:Int,H a=some (.lst [.int x,.int y])/\0<=y/\y<=n
theorem BagAt.mono {H:Hp}{a:Addr}{m n:Nat}(h:BagAt H a m)(k:m<=n):BagAt H a n:=by
 obtain⟨x,y,e,h1,h2⟩:=h
 exact⟨x,y,e,h1,by omega⟩
theorem BagAt.same {H H':Hp}{a:Addr}{n:Nat}(h:BagAt H a n)(x:Same H H'):BagAt H' a n:=by
 obtain⟨p,q,e,r⟩:=h
 exact⟨p,q,x _ _ e,r⟩
theorem BagAt.upd {H:Hp}{a l:Addr}{o:HO}{n:Nat}(h:BagAt H a n)(k:a≠l):BagAt (L2.upd H l o) a n:=by
 obtain⟨p,q,e,r⟩:=h
 exact⟨p,q,by rw[Zf k];exact e,r⟩
theorem BagAt.lst {H:Hp}{a:Addr}{n:Nat}(h:BagAt H a n):∃ ys,H a=some (.lst ys):=by
 obtain⟨x,y,e,_⟩:=h
 exact⟨_,e⟩
theorem Zo {K:W.Frag}{h:Heap}{mg:Str->Option Value}{x:Str}{st:Stmt}{ps:List Str}{f:Addr}{oc:Value}{od an:Option Addr}{sl:Array (Option Value)}{kV dc pm cd ct:Value}(X:K.In h)(G:h.Ns mainGlobals mg)
  (a:W.nsIn K mainGlobals x=some (some (.ref f))) (l:K.lookup f=some ⟨oc,od,.func (W.fnOf x x (defArgs st) (defBody st) (defScope st) .none kV dc pm an cd ct),sl⟩) (c:W.codeIn K cd x=true) (k:W.keepIn K (.ref f)=true)
  (b:∀ (kV doc pm:Value) (an:Option Addr) (cdv ct:Value) (us:List Value),us.length=ps.length->bindArgs (W.fnOf x x (defArgs st) (defBody st) (defScope st) .none kV doc pm an cdv ct) ⟨us,[]⟩=pure (ps.zip us)):Def K mg x st ps :=
 ⟨f,_,Sd l c k,Y0s X G a,(Sd l c k).binds b⟩
theorem Z5i {P:Program}{w:World}{K:W.Frag}{h:Heap}{mg:Str->Option Value}{x:Str}{st:Stmt}{fa f:Addr}{oc:Value}{od an:Option Addr}{sl:Array (Option Value)}{kV dc pm cd ct:Value}{n:Nat}{sp:Sp}{sr:Bool}(X:K.In h)(G:h.Ns mainGlobals mg)(hfa:mg "law"=some (.ref fa))
  (a:W.nsIn K mainGlobals "law"=some (some (.ref f))) (l:K.lookup f=some ⟨oc,od,.func (W.fnOf "law" "law" (defArgs st) (defBody st) (defScope st) .none kV dc pm an cd ct),sl⟩) (c:W.codeIn K cd "law"=true) (k:W.keepIn K (.ref f)=true)
  (b:∀ (s:Shared) (v:Value),BindsTo s (W.fnOf "law" "law" (defArgs st) (defBody st) (defScope st) .none kV dc pm an cd ct) ⟨[v],[]⟩ [(x,v)])
  (ok:∀ (fd:FuncData) (base:Heap),Fun K "law" "law" st fa fd->FnOk P w K mg base CX0 n fa fd [x] sp sr) :
  ∃ fd:FuncData,(∀ (s:Shared) (v:Value),BindsTo s fd ⟨[v],[]⟩ [(x,v)])/\∀ base:Heap,K.In base->base.Ns mainGlobals mg->FnOk P w K mg base CX0 n fa fd [x] sp sr:=by
 have e:=hfa.symm.trans (Y0s X G a)
 cases e
 exact⟨_,b,fun base _ _=>ok _ base (Sd l c k)⟩
theorem Ux (env:Env):∀ (ns:List (Str × NameKind)) (cs:List (Str × Addr)),(∀ y∈ns,y.2=.free->∃ c,env.cells.lookup y.1=some c)->(∀ y c,cs.lookup y=some c->env.cells.lookup y=some c) →
  ∃ cl,(forIn ns cs (fun (x:Str × NameKind) (r:List (Str × Addr))=>(if (x.2 == .free)=true then do let a ← cellOf env x.1;pure (ForInStep.yield ((x.1,a)::r)) else pure (ForInStep.yield r):Sem (ForInStep (List (Str × Addr))))))=pure cl ∧
   (∀ y c,cl.lookup y=some c->env.cells.lookup y=some c)/\(∀ y c,cs.lookup y=some c->∃ c',cl.lookup y=some c')/\∀ y∈ns,y.2=.free->∃ c,cl.lookup y.1=some c
 | [],cs,_,hs=>⟨cs,by simp,hs,fun y c e=>⟨c,e⟩,fun y hy=>nomatch hy⟩
 | (n,k)::r,cs,hf,hs=>by
  have hr:∀ y∈r,y.2=.free->∃ c,env.cells.lookup y.1=some c:=fun y hy=>hf y (YV _ hy)
  by_cases hk:k=.free
  ·subst hk
   obtain⟨c,hc⟩:=hf (n,.free) XC rfl
   have hc':env.cells.lookup n=some c:=hc
   have hs':∀ y d,((n,c)::cs).lookup y=some d->env.cells.lookup y=some d:=fun y d e=>by
    by_cases hy:y=n
    ·subst hy
     simp only [JA,qc] at e
     cases e
     exact hc'
    ·have hb:(y == n)=false:=JF.mpr hy
     simp only [JA,hb] at e
     exact hs y d e
   obtain⟨cl,h1,h2,h3,h4⟩:=Ux env r ((n,c)::cs) hr hs'
   have up:∃ c',cl.lookup n=some c':=h3 n c (by simp[JA])
   refine⟨cl,?_,h2,fun y d e=>?_,fun y hy hyf=>?_⟩
   ·have e:cellOf env n=pure c:=by unfold cellOf;rw[hc']
    simp only [zM,qc,jr,e]
    exact h1
   ·by_cases hy:y=n
    ·subst hy;exact up
    ·have hb:(y == n)=false:=JF.mpr hy
     exact h3 y d (by simp only [JA,hb];exact e)
   ·rcases YS.mp hy with z | z
    ·subst z;exact up
    ·exact h4 y z hyf
  ·obtain⟨cl,h1,h2,h3,h4⟩:=Ux env r cs hr hs
   refine⟨cl,?_,h2,h3,fun y hy hyf=>?_⟩
   ·have hb:(k == NameKind.free)=false:=JF.mpr hk
    simp only [zM,hb,GY,Y08]
    exact h1
   ·rcases YS.mp hy with z | z
    ·subst z;exact absurd hyf hk
    ·exact h4 y z hyf
theorem Wy {env:Env}{scope:Scope}(hf:∀ y∈scope.names,y.2=.free->∃ c,env.cells.lookup y.1=some c) :
  ∃ cl,closureFor scope env=pure cl/\(∀ y c,cl.lookup y=some c->env.cells.lookup y=some c)/\∀ y∈scope.names,y.2=.free->∃ c,cl.lookup y.1=some c:=by
 obtain⟨cl,h1,h2,_,h4⟩:=Ux env scope.names [] hf (fun y c e=>by simp at e)
 refine⟨cl,?_,h2,h4⟩
 have e:closureFor scope env=((forIn scope.names ([]:List (Str × Addr)) (fun (x:Str × NameKind) (r:List (Str × Addr))=>(if (x.2 == .free)=true then do let a ← cellOf env x.1;pure (ForInStep.yield ((x.1,a)::r)) else pure (ForInStep.yield r):Sem (ForInStep (List (Str × Addr)))))) >>= fun r=>pure r):=by
  unfold closureFor
  congr 1
 rw[e,h1]
 rfl
theorem Ql {l:List (Str × NameKind)}{x:Str}{q:NameKind}(h:l.lookup x=some q):(x,q)∈l:=by
 obtain⟨a,b,e,_⟩:=List.lookup_eq_some_iff.mp h
 rw[e]
 simp
theorem Vg {env:Env}(hf:env.scope.kind=.function):∀ {names:List (Str × NameKind)} {x:Str},names.lookup x=some .free->env.kindOf x=some .cell →
  (names.map fun (n,k)=>if (k == .free && env.scope.kind == .function && env.kindOf n == some .cell) then (n,NameKind.cell) else (n,k)).lookup x=some .cell
 | [],_,h,_=>by simp at h
 | (n,k)::r,x,h,hx=>by
  by_cases e:x=n
  ·subst e
   simp only [JA,qc] at h
   cases h
   simp[JA,hf,hx]
  ·have hb:(x == n)=false:=JF.mpr e
   simp only [JA,hb] at h
   have ih:=Vg hf h hx
   show List.lookup x ((if (k == .free && env.scope.kind == .function && env.kindOf n == some .cell)=true then (n,NameKind.cell) else (n,k))::_)=_
   by_cases c:(k == .free && env.scope.kind == .function && env.kindOf n == some .cell)=true
   ·rw[YM c];simp only [JA,hb];exact ih
   ·rw[YG c];simp only [JA,hb];exact ih
theorem Xi {env:Env}:∀ {names:List (Str × NameKind)} {x:Str} {q:NameKind},(q=.cell \/ q=.free) →
  (names.map fun (n,k)=>if (k == .free && env.scope.kind == .function && env.kindOf n == some .cell) then (n,NameKind.cell) else (n,k)).lookup x=some q →
  ∃ y∈names,y.1=x/\(y.2=.free \/ y.2=.cell)
 | [],_,_,_,h=>by simp at h
 | (n,k)::r,x,q,hq,h=>by
  by_cases e:x=n
  ·subst e
   refine⟨(x,k),XC,rfl,?_⟩
   replace h:List.lookup x ((if (k == .free && env.scope.kind == .function && env.kindOf x == some .cell)=true then (x,NameKind.cell) else (x,k))::_)=some q:=h
   by_cases c:(k == .free && env.scope.kind == .function && env.kindOf x == some .cell)=true
   ·have:k=.free:=by
     rw[JH,JH] at c
     exact qa.mp c.1.1
    exact .inl this
   ·rw[YG c] at h
    simp only [JA,qc] at h
    cases h
    rcases hq with z | z
    ·exact .inr z
    ·exact .inl z
  ·have hb:(x == n)=false:=JF.mpr e
   replace h:List.lookup x ((if (k == .free && env.scope.kind == .function && env.kindOf n == some .cell)=true then (n,NameKind.cell) else (n,k))::_)=some q:=h
   have h':(r.map fun (n,k)=>if (k == .free && env.scope.kind == .function && env.kindOf n == some .cell) then (n,NameKind.cell) else (n,k)).lookup x=some q:=by
    by_cases c:(k == .free && env.scope.kind == .function && env.kindOf n == some .cell)=true
    ·rw[YM c] at h;simp only [JA,hb] at h;exact h
    ·rw[YG c] at h;simp only [JA,hb] at h;exact h
   obtain⟨y,hy,z⟩:=Xi hq h'
   exact⟨y,YV _ hy,z⟩
section
variable {prog:Program}{w:World}{A:Around}{R:Result->Shared->Prop}{s:Shared}
abbrev noX:Value->Shared->Prop:=fun _ _=>False
theorem N5 {elt tg iter:Expr}{ifs:List Expr}{scope:Scope}{pos:Pos}{it acc:Value}{env:Env}(J:Nat->Shared->Prop)
  (turn:∀ n s,J n s->wpAny (model prog w) A (pyNext it) (fun r s1=>match r with
   | none=>R (.ok .next) s1
   | some v=>wpAny (model prog w) A (letOwnedTupleGo tg it v) (fun _ s2=>wpAny (model prog w) A (assign tg env v) (fun _ s3 =>
     wpAny (model prog w) A (forIn ifs true fun c r=>if r=true then do let ok ← isTrue c env (eval c env);pure (ForInStep.yield ok) else pure (ForInStep.yield r)) (fun ok s4 =>
      if ok=true then wpAny (model prog w) A (eval elt env) (fun x s5=>wpAny (model prog w) A (call (.builtin "list.append") [acc,x]) (fun _ s6=>∃ m,m<n/\J m s6) noX s5) noX s4
      else ∃ m,m<n/\J m s4) noX s3) noX s2) noX s1) noX s)
  (n:Nat) (h:J n s):codeAny (model prog w) A (.compLoop (.ListComp elt [⟨tg,iter,ifs,0⟩] scope pos) 0 it acc env) R s:=by
 have no:∀ {Z:Value->Shared->Prop} (a:Value) (b:Shared),noX a b->Z a b:=fun _ _ f=>f.elim
 refine codeAny_loop rfl J (fun n s hJ=>?_) n h
 show wpAny _ A ((compTurn (.ListComp elt [⟨tg,iter,ifs,0⟩] scope pos) 0 it acc env).onRaise (fun x=>do noteFrame x env;theTreesLotGoes x)) _ _ s
 refine wpAny_noted ?_
 rw[compTurn_list]
 refine YB (zx (YB (GO (turn n s hJ) (fun r s1 h1=>?_) no)))
 cases r with
 | none=>exact YR h1
 | some v =>
  refine YB (GO h1 (fun _ s2 h2=>YB (GO h2 (fun _ s3 h3=>YB (GO h3 (fun ok s4 h4=>?_) no)) no)) no)
  cases ok with
  | false=>exact YR ⟨rfl,h4⟩
  | true=>exact YB (YB (GO h4 (fun x s5 h5=>YB (GO h5 (fun _ s6 h6=>YR (YR ⟨rfl,h6⟩)) no)) no))
end
def compCx (X:Cx)(N:List Str)(scope:Scope)(cl:List (Str × Addr))(C:Addr)(fp:List Addr)(s:Shared)(H:Hp):Cx where
 prog:=X.prog
 w:=X.w
 K:=X.K
 mg:=X.mg
 base:=X.base
 A:=X.A
 N:=N
 s₀:=s
 H₀:=H
 env:=compEnvC scope cl C X.env
 outer:=X.stack
 stack:=X.stack
 ex:=fp
 fn:=fun _=>false
 calm:=true
 pn:=X.pn
 xe:=noX
def comp0 (k:Nat)(fv:List Nat)(σ:L2.St):L2.St:=List.replicate k none++fv.map fun j=>σ.getD j none
def PTs (X:Cx)(ifs:List Expr)(t:TT):Prop :=
 ∀ (pins:List (Addr × Obj)) (s:Shared) (σ:L2.St) (H:Hp) (Q:Bool->Hp->Prop),Inv X pins σ H s->t σ H Q →
  wpAny (model X.prog X.w) X.A (forIn ifs true fun c r=>if r=true then do let ok ← isTrue c X.env (eval c X.env);pure (ForInStep.yield ok) else pure (ForInStep.yield r)) (TP X pins σ Q) X.xe s
def tYes:TT:=fun _ H Q=>Q true H
theorem Yb {X:Cx}:PTs X [] tYes:=fun _ _ _ H _ I h=>wpAny_tests_nil ⟨H,I,h⟩
theorem Nk {X:Cx}{c:Expr}{t:TT}(h:PT X c t):PTs X [c] t:=fun pins s σ H Q I q=>wpAny_tests_one (h pins s σ H Q I q)
def Weaker (σ4 σ0:L2.St):Prop:=σ0.length=σ4.length/\∀ (i:Nat) (v:V),σ0[i]?=some (some v)->σ4[i]?=some (some v)
def tComp (wi:TI)(g:TG)(tt:TT)(te:TE)(k:Nat)(fv:List Nat):TE:=fun σ H Q=>wi σ H fun J H1=>∀ d,H1 d=none->∃ (n:Nat) (W:Nat->List V->Hp->Prop),n<=sizeLine/\W 0 [] (upd H1 d (.lst [])) ∧
 (∀ i ys H2,i<n->W i ys H2->H2 d=some (.lst ys)->J.go i H2/\∀ x H3,J.yld i H2 x H3->g x (comp0 k fv σ) H3 fun σ4 H4=>tt σ4 H4 fun b H5 =>
  if b=true then te σ4 H5 fun y H6=>H6 d=some (.lst ys)/\W (i+1) (ys++[y]) (upd H6 d (.lst (ys++[y]))) else H5 d=some (.lst ys)/\W (i+1) ys H5) ∧
 (∀ ys H2,W n ys H2->H2 d=some (.lst ys)->J.stop n H2/\Q (.ref d) H2)
theorem F6 {P:Program}{w:World}{H:Hp}{h h':Heap}{C:Addr}(x:HOk P w H h)(hn:H C=none)(k:∀ b,b≠C->h'.get? b=h.get? b):HOk P w H h':=fun a o e =>
 (x a o e).stay (fun b u hb q=>by
  rw[k b]
  ·exact q
  ·rintro rfl
   rcases hb with rfl | hb
   ·rw[hn] at e;cases e
   ·rw[hn] at hb;cases hb) (fun _ q=>q) fun _ _ q=>q
theorem Co {fs ex:List Addr}{H H':Hp}{h h1 h2:Heap}{C:Addr}(u:Un fs ex H H' h h1)(hC:h.get? C=none)(k:∀ b,b≠C->h2.get? b=h1.get? b):Un fs ex H H' h h2:=by
 have ne:∀ b o,h.get? b=some o->b≠C:=fun b o e z=>by rw[z,hC] at e;cases e
 exact⟨fun b o e n hf hx=>by rw[k b (ne b o e)];exact u.keep b o e n hf hx,fun b o e n hf hx=>by rw[k b (ne b o e)];exact u.slot b o e n hf hx,u.free,fun b o e hx=>by rw[k b (ne b o e)];exact u.there b o e hx,u.tups,u.frzs,u.tbls⟩
section
variable {X:Cx}{pins:List (Addr × Obj)}{σ:L2.St}{H:Hp}{s:Shared}{N:List Str}{scope:Scope}{cl:List (Str × Addr)}{fp:List Addr}{k:Nat}{fv:List Nat}
theorem Z3w (I:Inv X pins σ H s)(hc:X.calm=true)(hf:∀ b∈fp,FpOk X pins H b)(hl:∀ b∈fp,b<s.heap.objs.size)(hkind:scope.kind=.function)(hcell:∀ y∈scope.names,y.2≠.cell)
  (h1:∀ y c,cl.lookup y=some c->X.env.cells.lookup y=some c) (h2:∀ y∈scope.names,y.2=.free->∃ c,cl.lookup y.1=some c):(compCx X N scope cl s.heap.objs.size fp s H).Ok where
 mod:=I.ok.mod
 kind:=hkind
 glob:=I.ok.glob
 blt:=I.ok.blt
 above:=YE _
 inj:=fun x y c a b=>I.ok.inj x y c (h1 x c a) (h1 y c b)
 has:=fun x hx=>by
  have:∃ y∈scope.names,y.1=x/\(y.2=.free \/ y.2=.cell):=by
   rcases hx with z | z
   ·exact Xi (.inl rfl) z
   ·exact Xi (.inr rfl) z
  obtain⟨y,hy,e,z⟩:=this
  rcases z with z | z
  ·obtain⟨c,hcl⟩:=h2 y hy z
   exact⟨c,by rw[← e];exact hcl⟩
  ·exact absurd z (hcell y hy)
 cab:=fun x c z=>by cases z
 hd:=fun _=>I.ok.hd hc
 frames:=I.ok.frames
 stk:=.inl rfl
 exf:=fun b hb=>⟨XA (hl b hb),fun x c e=>(hf b hb).2.2.2.2.1 x c (h1 x c e)⟩
 bs:=I.bs
 bsz:=XU I.ok.bsz I.sz
 noex:=fun b o e hb=>by
  rcases (hf b hb).2.2.2.1 with z | z
  ·exact I.ok.noex b o e z
  ·exact absurd (YW (YJ (I.ok.bs b o e).1) z) (XQ _)
 exfs:=fun b hb z=>(YS.mp (I.stkSub b z)).elim (fun e=>(hf b hb).2.1 e) fun e=>(hf b hb).2.2.1 e
 funs:=I.stack
 frf:=I.stkFree
theorem Z1x (I:Inv X pins σ H s)(hc:X.calm=true)(hf:∀ b∈fp,FpOk X pins H b)(hl:∀ b∈fp,b<s.heap.objs.size)(hkind:scope.kind=.function)(hcell:∀ y∈scope.names,y.2≠.cell)
  (h1:∀ y c,cl.lookup y=some c->X.env.cells.lookup y=some c) (h2:∀ y∈scope.names,y.2=.free->∃ c,cl.lookup y.1=some c)
  (hN:N.length=k+fv.length) (hfv:fv.map (fun j=>X.N[j]?)=(N.drop k).map some) (hk:(N.drop k).map X.env.kindOf=(N.drop k).map fun _=>some .cell) (hfl:∀ y∈N.drop k,scope.names.lookup y=some .free)
  {h':Heap} {tk:Nat} (hn:h'.Ns s.heap.objs.size fun _=>none) (hb:∀ b o,s.heap.get? b=some o->h'.get? b=some o) :
  Inv (compCx X N scope cl s.heap.objs.size fp s H) [] (comp0 k fv σ) H { s with heap:=h',toks:=tk } where
 ok:=Z3w I hc hf hl hkind hcell h1 h2
 os:=rfl
 bare:=I.bare
 base:=Un.kept hb
 loc:=⟨_,hn,fun i x v e1 e2 e3=>by
  have hik:k<=i:=by
   apply Y0z
   intro z
   have:(comp0 k fv σ)[i]?=some none:=by
    unfold comp0
    rw[JE (by simpa using z)]
    simp[z]
   rw[this] at e2
   cases e2
  obtain⟨j,rfl⟩:∃ j,i=k+j:=⟨i - k,by omega⟩
  have e2':(fv.map fun j=>σ.getD j none)[j]?=some (some v):=by
   have:(comp0 k fv σ)[k+j]?=(fv.map fun j=>σ.getD j none)[j]?:=by
    unfold comp0
    rw[XY (by simp)]
    simp
   rw[← this]
   exact e2
  rw[YD] at e2'
  cases hj:fv[j]? with
  | none=>rw[hj] at e2';cases e2'
  | some m =>
   rw[hj] at e2'
   have e4:σ.getD m none=some v:=YK e2'
   have e5:(N.drop k)[j]?=some x:=by rw[Y0g];exact e1
   have e6:X.N[m]?=some x:=by
    have a:=congrArg (fun l=>l[j]?) hfv
    simp only [YD,hj,e5,GV] at a
    exact YK a
   have e7:X.env.kindOf x=some .cell:=by
    have a:=congrArg (fun l=>l[j]?) hk
    simp only [YD,e5,GV] at a
    exact YK a
   have e8:σ[m]?=some (some v):=by
    cases q:σ[m]? with
    | none=>rw[List.getD,q] at e4;cases e4
    | some o=>rw[List.getD,q] at e4;rw[show o=some v from e4]
   obtain⟨m0,hm0,hl0⟩:=I.loc
   obtain⟨u,ru,lk⟩:=hl0 m x v e6 e8 (.inr (.inl e7))
   refine⟨u,ru,?_⟩
   rcases lk with ⟨z,_⟩ | ⟨_,c,hcc,ic⟩
   ·rw[e7] at z;cases z
   ·have mem:x∈N.drop k:=YI e5
    have fr:=hfl x mem
    obtain⟨c',hc'⟩:=h2 (x,.free) (Ql fr) rfl
    have ec:=h1 x c' hc'
    rw[hcc] at ec
    cases ec
    refine .inr ⟨.inl (Vg I.ok.kind fr e7),c,hc',?_⟩
    obtain⟨o,ho,hd⟩:=ic
    exact⟨o,hb _ _ ho,hd⟩⟩
 cell:=fun x c e=>by
  obtain⟨v,o,ho,hd⟩:=I.cell x c (h1 x c e)
  exact⟨v,o,hb _ _ ho,hd⟩
 free:=I.hok.fresh (YE _)
 freeC:=fun x c e=>I.freeC x c (h1 x c e)
 pin:=fun p hp=>by
  obtain⟨a1,a2,a3,a4,a5⟩:=I.pin p (YL _ ((JV.mp hp).elim id fun z=>nomatch z))
  exact⟨hb _ _ a1,a2,XA (YJ a1),fun z=>(YS.mp (I.stkSub p.1 z)).elim a3 a4,a5⟩
 hok:=I.hok.kept hb
 len:=by
  show (comp0 k fv σ).length=N.length
  unfold comp0
  simp[hN]
end
section
variable {X:Cx}
set_option maxHeartbeats 1000000 in
theorem Pb {elt iter tg:Expr}{ifs:List Expr}{scope:Scope}{pos:Pos}{g:TG}{tt:TT}{te:TE}{N:List Str}{k:Nat}{fv:List Nat}{cl:List (Str × Addr)}
  {pins:List (Addr × Obj)} {σ:L2.St} {H:Hp} {s:Shared} {it:Addr} {fp:List Addr} {tn:Nat->Heap->Prop} {J:It} {Q:VK} {RR:Value->Addr->Result->Shared->Prop} {E:Value->Shared->Prop}
  (hc:X.calm=true) (hg:∀ cl C fp s H,PG (compCx X N scope cl C fp s H) tg g) (ht:∀ cl C fp s H,PTs (compCx X N scope cl C fp s H) ifs tt) (he:∀ cl C fp s H,PE (compCx X N scope cl C fp s H) elt te)
  (hw:∀ r x H Q,g x (List.replicate k none++r) H Q->g x (List.replicate k none++r) H fun σ4 H4=>Q σ4 H4/\Weaker σ4 (List.replicate k none++r))
  (hN:N.length=k+fv.length) (hfv:fv.map (fun j=>X.N[j]?)=(N.drop k).map some) (hk:(N.drop k).map X.env.kindOf=(N.drop k).map fun _=>some .cell) (hfl:∀ y∈N.drop k,scope.names.lookup y=some .free)
  (hcell:∀ y∈scope.names,y.2≠.cell) (hkind:scope.kind=.function) (h1:∀ y c,cl.lookup y=some c->X.env.cells.lookup y=some c) (h2:∀ y∈scope.names,y.2=.free->∃ c,cl.lookup y.1=some c)
  (I:Inv X pins σ H s) (T:Turn X.prog X.w X.K tg J fp it tn) (st:tn 0 s.heap) (f:∀ b∈fp,FpOk X pins H b)
  (body:∀ d,H d=none->∃ (n:Nat) (W:Nat->List V->Hp->Prop),n<=sizeLine/\W 0 [] (upd H d (.lst [])) ∧
   (∀ i ys H2,i<n->W i ys H2->H2 d=some (.lst ys)->J.go i H2/\∀ x H3,J.yld i H2 x H3->g x (comp0 k fv σ) H3 fun σ4 H4=>tt σ4 H4 fun b H5 =>
    if b=true then te σ4 H5 fun y H6=>H6 d=some (.lst ys)/\W (i+1) (ys++[y]) (upd H6 d (.lst (ys++[y]))) else H5 d=some (.lst ys)/\W (i+1) ys H5) ∧
   (∀ ys H2,W n ys H2->H2 d=some (.lst ys)->J.stop n H2/\Q (.ref d) H2))
  (hR:∀ (D C:Addr) (H':Hp) (s':Shared),(∃ m,s'.heap.Ns C m)->FpOk X pins H' C->Q (.ref D) H'->(∀ h',Heap.SameBut C s'.heap h'->Inv X pins σ H' { s' with heap:=h' })->RR (.ref D) C (.ok .next) s') :
  wpAny (model X.prog X.w) X.A (newList []) (fun acc s3=>wpAny (model X.prog X.w) X.A (newFunctionEnv scope X.env.globals cl [] X.env.qual none .none (some X.env)) (fun cenv s4 =>
   codeAny (model X.prog X.w) X.A (.compStart (.ListComp elt [⟨tg,iter,ifs,0⟩] scope pos) 0 (.ref it) acc { cenv with scope:=relabel scope X.env }) (RR acc cenv.locals) s4) E s3) E s:=by
 refine JX ?_
 have I3:=I.lnew (its:=[]) (ys:=[]) (t':=s.toks) .nil (JZ _)
 have fresh:=I.fresh
 generalize hD:s.heap.objs.size=D at I3 fresh ⊢
 have f3:∀ b∈fp,FpOk X pins (upd H D (.lst [])) b:=fun b hb=>by
  refine⟨?_,(f b hb).2⟩
  have hne:b≠D:=by
   obtain⟨o,e,_⟩:=T.obj 0 _ st b hb
   rw[← hD]
   exact XA (YJ e)
  rw[Zf hne]
  exact (f b hb).1
 have up3:∀ b o,s.heap.get? b=some o->(s.heap.push { cls:=.type "list",data:=.seq ([]:List Value).toArray }).get? b=some o:=fun b o e=>YA _ e
 have st3:tn 0 (s.heap.push { cls:=.type "list",data:=.seq ([]:List Value).toArray }):=T.keep 0 _ _ st fun b _ o e=>up3 b o e
 have hl3:∀ b∈fp,b<(s.heap.push { cls:=.type "list",data:=.seq ([]:List Value).toArray }).objs.size:=fun b hb=>by
  obtain⟨o,e,_⟩:=T.obj 0 _ st3 b hb
  exact YJ e
 obtain⟨n,W,hn,w0,step,fin⟩:=body D fresh
 generalize hS3:({ s with heap:=s.heap.push { cls:=.type "list",data:=.seq ([]:List Value).toArray },toks:=s.toks }:Shared)=s3 at I3
 have eS3:s3.heap=s.heap.push { cls:=.type "list",data:=.seq ([]:List Value).toArray }:=by rw[← hS3]
 rw[← eS3] at st3 hl3
 refine wpAny_newFunctionEnv hcell (fun y hy=>nomatch hy) (fun h4 hns hsb=>?_) hkind
 have old:∀ b o,s3.heap.get? b=some o->h4.get? b=some o:=fun b o e=>(hsb.2 b (XA (YJ e))).trans (YA _ e)
 have I4:=Z1x (N:=N) (tk:=s3.toks+([]:List (Str × Value)).length) I3 hc f3 hl3 hkind hcell h1 h2 hN hfv hk hfl (h':=h4) hns old
 have st4:tn 0 h4:=T.keep 0 _ _ st3 fun b _ o e=>old b o e
 have hCn:s3.heap.get? s3.heap.objs.size=none:=by
  cases e:s3.heap.get? s3.heap.objs.size with
  | none=>rfl
  | some o=>exact absurd (YJ e) (XQ _)
 generalize hC:s3.heap.objs.size=C at I4 hCn ⊢
 have stat:∀ {H':Hp} {ps:List (Addr × Obj)},(∀ b∈fp,H' b=none)->(∀ p∈ps,p.1 ∉ fp)->∀ b∈fp,FpOk (compCx X N scope cl C fp s3 (upd H D (.lst []))) ps H' b:=fun {H' ps} hn hp b hb =>
  ⟨hn b hb,by rw[← hC];exact XA (hl3 b hb),fun z=>(YS.mp (I3.stkSub b z)).elim (fun e=>(f3 b hb).2.1 e) fun e=>(f3 b hb).2.2.1 e,.inl hb,fun x c e=>(f3 b hb).2.2.2.2.1 x c (h1 x c e),fun p q z=>(JV.mp q).elim (fun q=>(f3 b hb).2.2.2.2.2 p (YL _ q) z) fun q=>hp p q (by rw[z];exact hb)⟩
 have loop:∀ s4:Shared,s4={ s3 with heap:=h4,toks:=s3.toks+([]:List (Str × Value)).length } →
   codeAny (model X.prog X.w) X.A (.compLoop (.ListComp elt [⟨tg,iter,ifs,0⟩] scope pos) 0 (.ref it) (.ref D) (compEnvC scope cl C X.env)) (RR (.ref D) C) s4:=by
  rintro s4 rfl
  refine N5 (fun m s'=>∃ i ys H',Inv (compCx X N scope cl C fp s3 (upd H D (.lst []))) [] (comp0 k fv σ) H' s'/\tn i s'.heap/\(∀ b∈fp,H' b=none)/\i<=n/\m=n+1 - i/\ys.length<=i/\H' D=some (.lst ys)/\W i ys H') ?_ (n+1)
   ⟨0,[],_,I4,st4,fun b hb=>(f3 b hb).1,JZ _,rfl,YE _,Zc,w0⟩
  rintro m s5 ⟨i,ys,H5,I5,st5,fr5,hi,rfl,hys,hD5,w5⟩
  by_cases hlt:i<n
  ·obtain⟨go,stp⟩:=step i ys H5 hlt w5 hD5
   refine thn (T.item (compCx X N scope cl C fp s3 (upd H D (.lst []))) rfl rfl rfl rfl i [] s5 _ H5 noX I5 (stat fr5 (by simp)) st5 go) fun r s6 ⟨u,er,h6⟩=>?_
   subst er
   refine thn h6 fun _ s7 ⟨x,H7,I7,r7,y7,st7,fr7⟩=>?_
   have I7':=I7.pinned (stat fr7 (by simp)) (T.obj _ _ st7)
   refine thn (hg cl C fp s3 _ _ s7 _ H7 x u _ I7' r7 (hw _ x H7 _ (stp x H7 y7))) fun _ s8 ⟨σ8,H8,I8,q8,wk⟩=>?_
   refine thn (ht cl C fp s3 _ _ s8 σ8 H8 _ I8 q8) fun ok s9 ⟨H9,I9,q9⟩=>?_
   have back:∀ {σ':L2.St} {H':Hp} {s':Shared},Inv (compCx X N scope cl C fp s3 (upd H D (.lst []))) ([]++pinsAt fp s7.heap) σ' H' s'->Weaker σ' (comp0 k fv σ) →
     Inv (compCx X N scope cl C fp s3 (upd H D (.lst []))) [] (comp0 k fv σ) H' s'/\tn (i+1) s'.heap/\∀ b∈fp,H' b=none:=fun {σ' H' s'} I' wk'=>by
    refine⟨I'.unpinned.weak wk'.1 wk'.2,T.keep _ _ _ st7 fun b hb o e=>(I'.pin (b,o) (XL _ (XL _ (Xt hb e)))).1,fun b hb=>?_⟩
    obtain⟨o,e,_⟩:=T.obj _ _ st7 b hb
    exact (I'.pin (b,o) (XL _ (XL _ (Xt hb e)))).2.1
   cases ok with
   | false =>
    rw[YG YT] at q9 ⊢
    obtain⟨hD9,w9⟩:=q9
    obtain⟨a1,a2,a3⟩:=back I9 wk
    exact⟨n+1 - (i+1),by omega,i+1,ys,H9,a1,a2,a3,hlt,rfl,Nat.le_succ_of_le hys,hD9,w9⟩
   | true =>
    rw[YM rfl] at q9 ⊢
    refine thn (he cl C fp s3 _ _ s9 σ8 H9 _ I9 q9) fun y s10 ⟨yv,H10,I10,r10,hD10,w10⟩=>?_
    refine thn (Yy _ s10 σ8 H10 (.ref D) [yv] (.ref D) [y] (fun _ H'=>H'=upd H10 D (.lst (ys++[yv]))) I10 rfl (.cons r10 .nil) ⟨D,ys,yv,rfl,rfl,hD10,GA hys (YW hlt hn),rfl⟩) fun _ s11 ⟨_,H11,I11,_,e11⟩=>?_
    subst e11
    obtain⟨a1,a2,a3⟩:=back I11 wk
    exact⟨n+1 - (i+1),by omega,i+1,ys++[yv],_,a1,a2,a3,hlt,rfl,by rw[XD];show ys.length+1<=i+1;omega,Zc,w10⟩
  ·obtain rfl:i=n:=Nat.le_antisymm hi (jm.mp hlt)
   obtain⟨stop,q⟩:=fin ys H5 w5 hD5
   refine thn (T.done (compCx X N scope cl C fp s3 (upd H D (.lst []))) rfl rfl rfl rfl i [] s5 _ H5 noX I5 (stat fr5 (by simp)) st5 stop) fun r s6 ⟨er,I6⟩=>?_
   subst er
   refine hR D C H5 s6 ?_ (I3.fpOk (by rw[hC];exact YE _) I6.free) q fun h' hs'=>?_
   ·obtain⟨m,hm,_⟩:=I6.loc
    exact⟨m,hm⟩
   ·have hs2:∀ b,b≠C->h'.get? b=s6.heap.get? b:=fun b hb=>hs'.2 b hb
    refine I3.call' (s':={ s6 with heap:=h' }) (ch:=fp) ?_ (Co I6.base hCn hs2) (F6 I6.hok I6.free hs2) I6.bare fun b hb=>?_
    ·exact I6.os
    ·exact⟨(f3 b hb).2.2.2.1,(f3 b hb).2.1,(f3 b hb).2.2.2.2.1,(f3 b hb).2.2.2.2.2⟩
 exact codeAny_compStart_list (loop _ rfl) (T.self _ 0 _ _ _ st4 (loop _ rfl))
theorem Yl {elt iter tg:Expr}{ifs:List Expr}{scope:Scope}{pos:Pos}{wi:TI}{g:TG}{tt:TT}{te:TE}{N:List Str}{k:Nat}{fv:List Nat}
  (hc:X.calm=true) (hi:PI X tg iter wi) (hg:∀ cl C fp s H,PG (compCx X N scope cl C fp s H) tg g) (ht:∀ cl C fp s H,PTs (compCx X N scope cl C fp s H) ifs tt) (he:∀ cl C fp s H,PE (compCx X N scope cl C fp s H) elt te)
  (hw:∀ r x H Q,g x (List.replicate k none++r) H Q->g x (List.replicate k none++r) H fun σ4 H4=>Q σ4 H4/\Weaker σ4 (List.replicate k none++r))
  (hN:N.length=k+fv.length:=by rfl) (hfv:fv.map (fun j=>X.N[j]?)=(N.drop k).map some:=by rfl) (hk:(N.drop k).map X.env.kindOf=(N.drop k).map (fun _=>some .cell):=by rfl)
  (hfl:∀ y∈N.drop k,scope.names.lookup y=some .free:=by decide +kernel) (hfr:∀ y∈scope.names,y.2=.free->y.1∈N.drop k:=by decide +kernel)
  (hcell:∀ y∈scope.names,y.2≠.cell:=by decide +kernel) (hkind:scope.kind=.function:=by rfl) (hnames:∀ y∈scope.names,y.2=.local->scope.names.lookup y.1=some .local:=by decide +kernel)
  (hs:∀ x,foldedSetIterable iter X.env x=pure x:=by intro _;rfl):PE X (.ListComp elt [⟨tg,iter,ifs,0⟩] scope pos) (tComp wi g tt te k fv):=by
 intro pins s σ H Q I h
 have kc:∀ y∈N.drop k,X.env.kindOf y=some .cell:=fun y hy=>by
  obtain⟨j,hj⟩:=XB hy
  have a:=congrArg (fun l=>l[j]?) hk
  simp only [YD,hj,GV] at a
  exact YK a
 obtain⟨cl,hclos,h1,h2⟩:=Wy (env:=X.env) (scope:=scope) fun y hy hf=>I.ok.has y.1 (.inl (kc y.1 (hfr y hy hf)))
 rw[eval_ListComp]
 refine zI (use:=none) rfl hs hclos hkind hnames (thn (hi pins s σ H _ I h) fun xv s1 h1'=>thn h1' fun itv s2 h2'=>?_)
 obtain⟨it,fp,tn,J,H2,e,I2,T,st2,f2,body⟩:=h2'
 subst e
 exact Pb (RR:=fun acc C=>compPost (model X.prog X.w) X.A X.xe none (EP X pins σ Q) acc C) hc hg ht he hw hN hfv hk hfl hcell hkind h1 h2 I2 T st2 f2 body fun D C H' s' ⟨m,hm⟩ _ q iv=>⟨m,hm,fun h' hs'=>⟨.ref D,H',iv h' hs',rfl,q⟩⟩
theorem Zy:∀ (r:L2.St) (x:V) (H:Hp) (Q:L2.St->Hp->Prop),gName 0 x (List.replicate 1 none++r) H Q->gName 0 x (List.replicate 1 none++r) H fun σ4 H4=>Q σ4 H4/\Weaker σ4 (List.replicate 1 none++r):=fun r x H Q h =>
 ⟨h,by simp,fun i v e=>by
  cases i with
  | zero=>cases e
  | succ j=>exact e⟩
theorem Wz {K:W.Frag}:∀ (r:L2.St) (x:V) (H:Hp) (Q:L2.St->Hp->Prop),gTup K 2 (gCons (gName 0) (gCons (gName 1) gNil)) x (List.replicate 2 none++r) H Q →
  gTup K 2 (gCons (gName 0) (gCons (gName 1) gNil)) x (List.replicate 2 none++r) H fun σ4 H4=>Q σ4 H4/\Weaker σ4 (List.replicate 2 none++r):=by
 rintro r x H Q ⟨a,xs,e1,hq,hl,v,t,e2,v',t',e3,e4,q⟩
 refine⟨a,xs,e1,hq,hl,v,t,e2,v',t',e3,e4,q,by simp,fun i z e=>?_⟩
 cases i with
 | zero=>cases e
 | succ j =>
  cases j with
  | zero=>cases e
  | succ j=>exact e
end
theorem Yh {x:V}{σ:L2.St}{H:Hp}{A B:L2.St->Hp->Prop}(h:A (σ.set 0 (some x)) H):gName 0 x σ H fun σ4 H4=>tYes σ4 H4 fun b H5=>if b=true then A σ4 H5 else B σ4 H5:=by
 show if true=true then A (σ.set 0 (some x)) H else B (σ.set 0 (some x)) H
 exact Uq h
theorem Z6m (l b:Addr)(xs ys:Array Value)(n m:Nat)(d1 d2:Option Addr)(s1 s2:Array (Option Value))(he:xs.isEmpty=true):Meets (Builtin.«tuple.__add__» ⟨[.ref l,.ref b],[]⟩) (fun _ R s =>
  s.heap.get? l=some { cls:=.type "tuple",dict:=d1,data:=.seq xs n,slots:=s1 }/\s.heap.get? b=some { cls:=.type "tuple",dict:=d2,data:=.seq ys m,slots:=s2 }/\R (.ok (.ret (.ref b))) s) :=
 .of_wp fun prog w A R s h=>by
  obtain⟨hp,g,d,tk,os⟩:=s
  obtain⟨hl,hb,h⟩:=h
  have f1:=Y0B
  have f2:=zJ
  wp_walk using JB hl,JB hb
  exact⟨_,rfl,h⟩
theorem Cd {prog:Program}{w:World}{A:Around}{E:Value->Shared->Prop}{s:Shared}{t b:Addr}{ws:List Value}{Q:Value->Shared->Prop}(ht:IsTup s.heap t ([]:List Value).toArray)(hb:IsTup s.heap b ws.toArray)(h:Q (.ref b) s) :
  wpAny (model prog w) A (binaryOp .Add (.ref t) (.ref b)) Q E s:=by
 obtain⟨⟨cls,dd,data,sl⟩,ho,hc,n,hd⟩:=id ht
 obtain⟨⟨cls2,dd2,data2,sl2⟩,ho2,hc2,n2,hd2⟩:=id hb
 simp only at hc hd hc2 hd2
 subst hc hd hc2 hd2
 exact concat_meets ⟨_,ho,rfl⟩ ⟨_,ho2,rfl⟩ Y0y Y0Y zX zR (zH _ _) (Z6m t b _ ws.toArray n n2 dd dd2 sl sl2 rfl) ⟨ho,ho2,h⟩
section
variable {X:Cx}
def rCatA (K:W.Frag):R2:=fun x y H Q=>∃ a b xs ys,x=.ref a/\y=.ref b/\SqT K H a xs/\SqT K H b ys/\xs.length+ys.length<=sizeLine/\∀ p H',Same H H'->SqT K H' p (xs++ys)->Q (.ref p) H'
theorem Z2r:OpR X (binaryOp .Add) (rCatA X.K):=by
 intro pins s σ H x y v u Q I rx ry h
 obtain⟨a,b,xs,ys,rfl,rfl,ha,hb,hz,q⟩:=h
 by_cases hx:xs=[]
 ·subst hx
  cases rx
  cases ry
  obtain⟨its,r1,p1,_⟩:=I.tuple ha
  obtain⟨its2,r2,p2,_⟩:=I.tuple hb
  cases r1
  exact Cd p1 p2 ⟨.ref b,H,I,rfl,q b H (Same.refl H) hb⟩
 ·refine Z2q pins s σ H _ _ v u Q I rx ry ⟨a,b,xs,ys,rfl,rfl,ha,hb,hx,hz,fun e=>?_,fun _ p hp=>?_⟩
  ·subst e
   exact q a H (Same.refl H) (by rw[qh];exact ha)
  ·exact q p _ (Same.new hp) (SqT.of Zc)
def rIxA (K:W.Frag):R2:=fun x y H Q=>∃ p xs i v,x=.ref p/\y=.int i/\(SqL K H p xs \/ SqT K H p xs)/\atI xs i=some v/\Q v H
theorem Ja:IxR X (rIxA X.K):=fun vl sl pins s σ H x y v u Q I rx ry ⟨p,xs,i,z,e1,e2,h,ea,q⟩ hs=>by
 rcases h with h | h
 ·exact Y2 vl sl pins s σ H x y v u Q I rx ry ⟨p,xs,i,z,e1,e2,h,ea,q⟩ hs
 ·exact Yj vl sl pins s σ H x y v u Q I rx ry ⟨p,xs,i,z,e1,e2,h,ea,q⟩ hs
end
section
variable {X:Cx}{K:W.Frag}
theorem Gw (h:X.K=K:=by rfl):IxR X (rIxT K):=h ▸ Yj
theorem Z6g (h:X.K=K:=by rfl):IxR X (rIxL K):=h ▸ Y2
theorem Z6h (h:X.K=K:=by rfl):IxR X (rIxA K):=h ▸ Ja
theorem Z5o (h:X.K=K:=by rfl):IxR X (rP0 K):=h ▸ Yu
theorem Z5n (h:X.K=K:=by rfl):IxR X (rP1 K):=h ▸ Yn
end
theorem Lf {x:V}{σ:L2.St}{H:Hp}{A B:L2.St->Hp->Prop}{t:TT}(h:t (σ.set 0 (some x)) H fun b H5=>if b=true then A (σ.set 0 (some x)) H5 else B (σ.set 0 (some x)) H5) :
  gName 0 x σ H fun σ4 H4=>t σ4 H4 fun b H5=>if b=true then A σ4 H5 else B σ4 H5:=h
theorem Rf {K:W.Frag}{p:Addr}{u v:V}{σ:L2.St}{H:Hp}{A B:L2.St->Hp->Prop}(hp:SqT K H p [u,v])(h:A ((σ.set 0 (some u)).set 1 (some v)) H) :
  gTup K 2 (gCons (gName 0) (gCons (gName 1) gNil)) (.ref p) σ H fun σ4 H4=>tYes σ4 H4 fun b H5=>if b=true then A σ4 H5 else B σ4 H5:=by
 refine⟨p,[u,v],rfl,hp,rfl,u,[v],rfl,v,[],rfl,rfl,?_⟩
 show if true=true then A ((σ.set 0 (some u)).set 1 (some v)) H else B ((σ.set 0 (some u)).set 1 (some v)) H
 exact Uq h
section
variable {X:Cx}
end
end Sb
namespace Sb
open PySem PySem.Builtin.SmallTypes
section
variable {prog:Program}{w:World}{A:Around}{E:Value->Shared->Prop}{s:Shared}
theorem Z0u {it t:Addr}{j:Nat}{ys:Array Value}{y:Value}{Q:Value->Shared->Prop}(ti:s.heap.IsTupleIter it t j)(tt:s.heap.IsTuple t ys)(ey:ys[j]?=some y)
  (hQ:∀ h',h'.IsTupleIter it t (j+1)->Heap.SameBut it s.heap h'->Q y { s with heap:=h' }):wpAny (model prog w) A (nextOf (.ref it)) Q E s:=by
 obtain⟨oi,ei,ci,di⟩:=id ti
 obtain⟨ot,et,_,nt,dt⟩:=tt
 unfold nextOf
 refine YB (JL (name:=Str.ofString "__next__") ti.typeIs JY (GK JY ti.typeIs zC ?_ (zt _)))
 show wpAny _ _ (field (.ref it) 0 >>= _) _ _ _
 refine YB (XJ ei di (x:=.ref t) rfl ?_)
 show wpAny _ _ (if (Value.ref t == Value.none)=true then _ else _) _ _ _
 rw[YG (show ¬ ((Value.ref t == Value.none)=true) from fun q=>YT q)]
 show wpAny _ _ (field (.ref it) 1 >>= _) _ _ _
 refine YB (XJ ei di (x:=.int j 0) rfl ?_)
 show wpAny _ _ (seqItems? (.ref t) >>= _) _ _ _
 refine YB (GH et dt ?_)
 simp only [zc,ey]
 refine YB (qe ei di (by simp) (YR ⟨y,rfl,YR (hQ _ ?_ (GT ..))⟩))
 refine⟨_,JJ _ ei (zz (qp di _)),(Y0p ..).trans ci,?_⟩
 rw[qp di]
 simp[rawInt]
theorem Nr {it t:Addr}{j:Nat}{ys:Array Value}{Q:Value->Shared->Prop}(hq:Qt A s.heap)(ti:s.heap.IsTupleIter it t j)(tt:s.heap.IsTuple t ys)(ey:ys[j]?=none)
  (hE:∀ h' e,Heap.ExtBut it s.heap h'->(∃ o,h'.get? e=some o/\o.cls=.type "StopIteration")->E (.ref e) { s with heap:=h' }):wpAny (model prog w) A (nextOf (.ref it)) Q E s:=by
 obtain⟨oi,ei,ci,di⟩:=id ti
 obtain⟨ot,et,_,nt,dt⟩:=tt
 unfold nextOf
 refine YB (JL (name:=Str.ofString "__next__") ti.typeIs JY (GK JY ti.typeIs zC ?_ (zt _)))
 show wpAny _ _ (field (.ref it) 0 >>= _) _ _ _
 refine YB (XJ ei di (x:=.ref t) rfl ?_)
 show wpAny _ _ (if (Value.ref t == Value.none)=true then _ else _) _ _ _
 rw[YG (show ¬ ((Value.ref t == Value.none)=true) from fun q=>YT q)]
 show wpAny _ _ (field (.ref it) 1 >>= _) _ _ _
 refine YB (XJ ei di (x:=.int j 0) rfl ?_)
 show wpAny _ _ (seqItems? (.ref t) >>= _) _ _ _
 refine YB (GH et dt ?_)
 simp only [zc,ey]
 refine YB (zO (YB (qe ei di (by simp) ?_)))
 refine Rx (hq:=(hq.but ei fun n=>?_)) fun h' e k he=>hE _ _ (fun b o hb e=>k b o ((GT ..).extBut b o hb e)) he
 obtain⟨vs,e1,e2⟩:=n
 rw[di] at e1
 cases e1
 simp at e2
theorem Ug {qs:List (Addr × Obj)}(hq:QtP A qs)(it t:Addr)(ne:t≠it)(hqs:∀ p∈qs,p.1≠it)(ys:Array Value) :
  Draws prog w A it (it::t::qs.map Prod.fst) ys.size (fun i x=>ys[i]?=some x) (fun i h=>h.IsTupleIter it t i/\h.IsTuple t ys/\∀ p∈qs,h.get? p.1=some p.2) where
 live:=fun i h st=>by
  obtain⟨⟨o,e,_⟩,_⟩:=st
  exact⟨o,e⟩
 frame:=fun i h h' st k=>by
  obtain⟨⟨o,e,r⟩,⟨o',e',r'⟩,st⟩:=st
  exact⟨⟨o,k it (by simp) o e,r⟩,⟨o',k t (by simp) o' e',r'⟩,fun p hp=>k p.1 (by simp;exact .inr (.inr ⟨p.2,hp⟩)) p.2 (st p hp)⟩
 item:=fun i s Q E lt st hQ=>Z0u st.1 st.2.1 (Y0k lt) fun h' a b=>hQ _ h' s.toks (Y0k lt) ⟨a,st.2.1.extBut b.extBut ne,fun p hp=>b.extBut p.1 p.2 (hqs p hp) (st.2.2 p hp)⟩ b
 done:=fun s Q E st hE=>Nr (hq.at st.2.2) st.1 st.2.1 (Array.getElem?_eq_none (YE _)) hE
end
structure Off (z TI TO i1 i2:Addr)(f1 f2:List Addr):Prop where
 a1:TI≠z
 a2:TO≠z
 a3:i1≠z
 a4:i2≠z
 a5:TI≠TO
 a6:TI≠i1
 a7:TI≠i2
 a8:TO≠i1
 a9:TO≠i2
 b1:i1≠i2
 z1:z ∉ f1
 o1:TO ∉ f1
 n1:i2 ∉ f1
 z2:z ∉ f2
 o2:TO ∉ f2
 n2:i1 ∉ f2
section
variable {prog:Program}{w:World}{A:Around}{E:Value->Shared->Prop}{s:Shared}{z TI TO i1 i2:Addr}{f1 f2:List Addr}{n1 n2:Nat}{P1 P2:Nat->Value->Prop}{S1 S2:Nat->Heap->Prop}
set_option maxHeartbeats 1000000 in
theorem Fn {k:Nat}{a b:Value}{Q:Value->Shared->Prop}(D:Off z TI TO i1 i2 f1 f2)(D1:Draws prog w A i1 f1 n1 P1 S1)(D2:Draws prog w A i2 f2 n2 P2 S2)
  (hz:IsZip s.heap z TI TO .none) (hTI:IsPair s.heap TI (.ref i1) (.ref i2)) (hTO:IsPair s.heap TO a b) (c1:S1 k s.heap) (c2:S2 k s.heap) (l1:k<n1) (l2:k<n2)
  (hQ:∀ x y h' tk,P1 k x->P2 k y->IsZip h' z TI TO (rawInt s.heap.objs.size)->IsPair h' TO x y->S1 (k+1) h'->S2 (k+1) h'->IsPair h' s.heap.objs.size x y->h'.objs.size=s.heap.objs.size+1 →
   (∀ c o,c≠z->c≠TO->c≠i1->c≠i2->s.heap.get? c=some o->h'.get? c=some o)->Q (.ref s.heap.objs.size) { s with heap:=h',toks:=tk }) :
  wpAny (model prog w) A (Builtin.«zip.__next__» ⟨[.ref z],[]⟩) (fun fin s'=>∃ v,fin=.done (.ret v)/\Q v s') E s:=by
 show wpAny _ _ (field (.ref z) 2 >>= _) _ _ _
 refine YB (XJ hz rfl (x:=.bool false) rfl ?_)
 show wpAny _ _ (field (.ref z) 3 >>= _) _ _ _
 refine YB (XJ hz rfl (x:=.ref TI) rfl ?_)
 refine YB (GH hTI rfl ?_)
 show wpAny _ _ (ownedTupleIsFree (.ref z) >>= _) _ _ _
 refine YB ?_
 unfold ownedTupleIsFree
 refine YB (XJ hz rfl (x:=.none) rfl (YR ?_))
 simp only [jr]
 refine YB (zO ?_)
 refine YB (XJ hz rfl (x:=.ref TO) rfl ?_)
 refine YB (zm hz (by simp) fun g1 z1 s1=>?_)
 replace z1:IsZip g1 z TI TO .ellipsis:=z1
 refine YB ?_
 simp only [List.zipIdx_cons,List.zipIdx_nil,zM,Y0h]
 refine YB (YB (Y0Z ?_))
 show wpAny _ _ (nextOf (.ref i1) >>= _) _ _ _
 have c11:S1 k g1:=D1.frame _ _ _ c1 fun b hb o e=>s1.extBut b o (fun q=>D.z1 (q ▸ hb)) e
 refine YB (D1.item k _ _ _ l1 c11 fun x g2 tk2 p1 c12 s2=>YR ?_)
 replace s2:Heap.SameBut i1 g1 g2:=s2
 have t2:IsPair g2 TO a b:=s2.extBut _ _ D.a8 (s1.extBut _ _ D.a2 hTO)
 refine YB (GH t2 rfl ?_)
 refine YB (wpAny_updateSeq_pair t2 fun g3 t3 s3=>?_)
 replace t3:IsPair g3 TO x b:=t3
 replace s3:Heap.SameBut TO g2 g3:=s3
 refine YB (Y0P (YR ?_))
 refine YB (YB (Y0Z ?_))
 show wpAny _ _ (nextOf (.ref i2) >>= _) _ _ _
 have c23:S2 k g3:=D2.frame _ _ _ c2 fun b hb o e=>s3.extBut b o (fun q=>D.o2 (q ▸ hb)) (s2.extBut b o (fun q=>D.n2 (q ▸ hb)) (s1.extBut b o (fun q=>D.z2 (q ▸ hb)) e))
 have c13:S1 (k+1) g3:=D1.frame _ _ _ c12 fun b hb o e=>s3.extBut b o (fun q=>D.o1 (q ▸ hb)) e
 refine YB (D2.item k _ _ _ l2 c23 fun y g4 tk4 p2 c24 s4=>YR ?_)
 replace s4:Heap.SameBut i2 g3 g4:=s4
 have t4:IsPair g4 TO x b:=s4.extBut _ _ D.a9 t3
 refine YB (GH t4 rfl ?_)
 refine YB (wpAny_updateSeq_pair t4 fun g5 t5 s5=>?_)
 replace t5:IsPair g5 TO x y:=t5
 replace s5:Heap.SameBut TO g4 g5:=s5
 refine YB (Y0P (YR (YR ?_)))
 refine YB (GH t5 rfl ?_)
 refine YB (wpAny_newTuple ?_)
 have sz:g5.objs.size=s.heap.objs.size:=by rw[s5.1,s4.1,s3.1,s2.1,s1.1]
 have z5:IsZip g5 z TI TO .ellipsis:=s5.extBut _ _ D.a2.symm (s4.extBut _ _ D.a4.symm (s3.extBut _ _ D.a2.symm (s2.extBut _ _ D.a3.symm z1)))
 have k5:∀ c o,c≠z->c≠TO->c≠i1->c≠i2->s.heap.get? c=some o->g5.get? c=some o:=fun c o q1 q2 q3 q4 e =>
  s5.extBut _ _ q2 (s4.extBut _ _ q4 (s3.extBut _ _ q2 (s2.extBut _ _ q3 (s1.extBut _ _ q1 e))))
 have c15:S1 (k+1) g5:=D1.frame _ _ _ c13 fun b hb o e=>s5.extBut b o (fun q=>D.o1 (q ▸ hb)) (s4.extBut b o (fun q=>D.n1 (q ▸ hb)) e)
 have c25:S2 (k+1) g5:=D2.frame _ _ _ c24 fun b hb o e=>s5.extBut b o (fun q=>D.o2 (q ▸ hb)) e
 have zlt:z<g5.objs.size:=YJ z5
 show wpAny _ _ (ownedTupleHandOut (.ref z) (.ref g5.objs.size) >>= _) _ _ _
 refine YB ?_
 unfold ownedTupleHandOut
 have z6:IsZip (g5.push { cls:=.type "tuple",data:=.seq #[x,y] }) z TI TO .ellipsis:=YA _ z5
 refine YB (zm z6 (by simp) fun g7 z7 s7=>?_)
 replace z7:IsZip g7 z TI TO (rawInt g5.objs.size):=z7
 refine zm z7 (by simp) fun g8 z8 s8=>?_
 replace z8:IsZip g8 z TI TO (rawInt g5.objs.size):=z8
 have up:∀ c o,c≠z->g5.get? c=some o->g8.get? c=some o:=fun c o q e=>s8.extBut _ _ q (s7.extBut _ _ q (YA _ e))
 have t8:IsPair g8 g5.objs.size x y:=s8.extBut _ _ (qo zlt) (s7.extBut _ _ (qo zlt) (YO _ rfl))
 have sz8:g8.objs.size=g5.objs.size+1:=by rw[s8.1,s7.1,XM]
 rw[sz] at z8 t8 sz8
 refine YR ⟨_,rfl,?_⟩
 show Q (.ref g5.objs.size) _
 rw[sz]
 exact hQ x y g8 tk4 p1 p2 z8 (up _ _ D.a2 t5) (D1.frame _ _ _ c15 fun b hb o e=>up b o (fun q=>D.z1 (q ▸ hb)) e) (D2.frame _ _ _ c25 fun b hb o e=>up b o (fun q=>D.z2 (q ▸ hb)) e) t8 sz8
  fun c o q1 q2 q3 q4 e=>up c o q1 (k5 c o q1 q2 q3 q4 e)
theorem Fm {k:Nat}{a b:Value}{Q:Fin->Shared->Prop}(D:Off z TI TO i1 i2 f1 f2)(D1:Draws prog w A i1 f1 n1 P1 S1)(hz:IsZip s.heap z TI TO .none)(hTI:IsPair s.heap TI (.ref i1) (.ref i2))(c1:S1 n1 s.heap)
  (hE:∀ h' e,(∀ c o,c≠z->c≠i1->s.heap.get? c=some o->h'.get? c=some o)->(∃ o,h'.get? e=some o/\o.cls=.type "StopIteration")->E (.ref e) { s with heap:=h' }) :
  wpAny (model prog w) A (Builtin.«zip.__next__» ⟨[.ref z],[]⟩) Q E s:=by
 show wpAny _ _ (field (.ref z) 2 >>= _) _ _ _
 refine YB (XJ hz rfl (x:=.bool false) rfl ?_)
 show wpAny _ _ (field (.ref z) 3 >>= _) _ _ _
 refine YB (XJ hz rfl (x:=.ref TI) rfl ?_)
 refine YB (GH hTI rfl ?_)
 show wpAny _ _ (ownedTupleIsFree (.ref z) >>= _) _ _ _
 refine YB ?_
 unfold ownedTupleIsFree
 refine YB (XJ hz rfl (x:=.none) rfl (YR ?_))
 simp only [jr]
 refine YB (zO ?_)
 refine YB (XJ hz rfl (x:=.ref TO) rfl ?_)
 refine YB (zm hz (by simp) fun g1 z1 s1=>?_)
 replace z1:IsZip g1 z TI TO .ellipsis:=z1
 refine YB ?_
 simp only [List.zipIdx_cons,List.zipIdx_nil,zM,Y0h]
 refine YB (YB (Y0Z ?_))
 show wpAny _ _ (nextOf (.ref i1) >>= _) _ _ _
 have c11:S1 n1 g1:=D1.frame _ _ _ c1 fun b hb o e=>s1.extBut b o (fun q=>D.z1 (q ▸ hb)) e
 refine YB (D1.done _ _ _ c11 fun g2 e s2 he=>?_)
 obtain⟨oe,eo,ce⟩:=he
 replace s2:Heap.ExtBut i1 g1 g2:=s2
 have z2:IsZip g2 z TI TO .ellipsis:=s2 _ _ D.a3.symm z1
 have ez:e≠z:=fun q=>by
  subst q
  rw[z2] at eo
  cases eo
  simp at ce
 exact zm z2 (by simp) fun g3 _ s3=>hE g3 e (fun c o q1 q3 h=>s3.extBut _ _ q1 (s2 _ _ q3 (s1.extBut _ _ q1 h))) ⟨oe,s3.extBut _ _ ez eo,ce⟩
theorem So {k:Nat}{a b:Value}{Q:Option Value->Shared->Prop}(D:Off z TI TO i1 i2 f1 f2)(D1:Draws prog w A.in1 i1 f1 n1 P1 S1)(D2:Draws prog w A.in1 i2 f2 n2 P2 S2)
  (hz:IsZip s.heap z TI TO .none) (hTI:IsPair s.heap TI (.ref i1) (.ref i2)) (hTO:IsPair s.heap TO a b) (c1:S1 k s.heap) (c2:S2 k s.heap) (l1:k<n1) (l2:k<n2)
  (hQ:∀ x y h' tk,P1 k x->P2 k y->IsZip h' z TI TO (rawInt s.heap.objs.size)->IsPair h' TO x y->S1 (k+1) h'->S2 (k+1) h'->IsPair h' s.heap.objs.size x y->h'.objs.size=s.heap.objs.size+1 →
   (∀ c o,c≠z->c≠TO->c≠i1->c≠i2->s.heap.get? c=some o->h'.get? c=some o)->Q (some (.ref s.heap.objs.size)) { s with heap:=h',toks:=tk }):wpAny (model prog w) A (pyNext (.ref z)) Q E s:=by
 have hT:s.TypeIs (.ref z) "zip":=⟨_,hz,rfl⟩
 unfold pyNext
 exact YB (jq (JL (name:=Str.ofString "__next__") hT jv (GK jv hT F.entry_zip_next
   (Fn D D1 D2 hz hTI hTO c1 c2 l1 l2 fun x y h' tk p1 p2 q1 q2 q3 q4 q5 q6 q7=>YR (hQ x y h' tk p1 p2 q1 q2 q3 q4 q5 q6 q7)) (F.args_zip_next_1 _))))
theorem Vp {Q:Option Value->Shared->Prop}(D:Off z TI TO i1 i2 f1 f2)(D1:Draws prog w A.in1 i1 f1 n1 P1 S1)(hz:IsZip s.heap z TI TO .none)(hTI:IsPair s.heap TI (.ref i1) (.ref i2))(c1:S1 n1 s.heap)
  (hQ:∀ h',(∀ c o,c≠z->c≠i1->s.heap.get? c=some o->h'.get? c=some o)->Q none { s with heap:=h' }):wpAny (model prog w) A (pyNext (.ref z)) Q E s:=by
 have hT:s.TypeIs (.ref z) "zip":=⟨_,hz,rfl⟩
 unfold pyNext
 refine YB (jq (JL (name:=Str.ofString "__next__") hT jv (GK jv hT F.entry_zip_next
  (Fm (k:=0) (a:=.none) (b:=.none) D D1 hz hTI c1 fun h' e hk he=>?_) (F.args_zip_next_1 _))))
 obtain⟨o,ho,hc⟩:=he
 exact YB (ji (T:="StopIteration") (b:=true) ⟨o,ho,hc⟩ Y06 (YR (hQ _ hk)))
end
abbrev zH1 (h:Heap)(t:Addr):Heap:=h.push { cls:=.type "tuple_iterator",data:=.fields #[.ref t,.int 0 0] }
theorem Lh (t:Addr)(ys:Array Value)(n:Nat)(dd:Option Addr)(sl:Array (Option Value)):Meets (Builtin.«enumerate.__new__» ⟨[.type "enumerate",.ref t],[]⟩) (fun _ R s=>s.heap.get? t=some { cls:=.type "tuple",dict:=dd,data:=.seq ys n,slots:=sl } ∧
  R (.ok (.ret (.ref (zH1 s.heap t).objs.size))) { s with heap:=(zH1 s.heap t).push { cls:=.type "enumerate",data:=.fields #[.none,.bool false,.ref s.heap.objs.size,rawInt 0,.none,.none] } }) :=
 .of_wp fun prog w A R s h=>by
  obtain⟨hp,g,d,tk,os⟩:=s
  obtain⟨hl,h⟩:=h
  have hsub:=sub_enumerate
  have hL:Heap.IsTuple (Shared.heap ⟨hp,g,d,tk,os⟩) t ys:=⟨_,hl,rfl,n,rfl⟩
  wp_walk using JB hl
  refine wpAny_stack_any fun st=>YR ?_
  split
  ·rename_i c _ _ _ _ _
   cases (c == Value.type "enumerate")
   ·wp_walk using JB hl,GZ hL
    exact⟨_,rfl,h⟩
   ·wp_walk using JB hl,GZ hL
    exact⟨_,rfl,h⟩
  ·wp_walk using JB hl,GZ hL
   exact⟨_,rfl,h⟩
theorem Jj {prog:Program}{w:World}{A:Around}{E:Value->Shared->Prop}{s:Shared}{t:Addr}{ys:Array Value}{Q:Value->Shared->Prop}(ht:s.heap.IsTuple t ys)
  (h:∀ h',IsEnum h' (s.heap.objs.size+1) s.heap.objs.size 0 .none->h'.IsTupleIter s.heap.objs.size t 0->h'.objs.size=s.heap.objs.size+2->(∀ b o,s.heap.get? b=some o->h'.get? b=some o)->Q (.ref (s.heap.objs.size+1)) { s with heap:=h' }) :
  wpAny (model prog w) A (call (.type "enumerate") [.ref t]) Q E s:=by
 obtain⟨⟨c,dd,dt,sl⟩,e,c1,n,d1⟩:=ht
 cases c1
 cases d1
 refine Y0K F.called_enumerate (by decide) (F.typeCall_enumerate_1 _) (F.newCall_enumerate_1 _) (fun obj=>F.args_object_init_2 obj _) F.entry_enumerate_new (Lh t ys n dd sl) ⟨e,?_⟩
 have hz:(zH1 s.heap t).objs.size=s.heap.objs.size+1:=XM ..
 show _/\_
 rw[hz]
 have he:IsEnum ((zH1 s.heap t).push { cls:=.type "enumerate",data:=.fields #[.none,.bool false,.ref s.heap.objs.size,rawInt 0,.none,.none] }) (s.heap.objs.size+1) s.heap.objs.size 0 .none:=by
  have q:=YO (zH1 s.heap t) (o:={ cls:=.type "enumerate",data:=.fields #[.none,.bool false,.ref s.heap.objs.size,rawInt 0,.none,.none] }) rfl
  rw[hz] at q
  exact q
 exact⟨⟨_,he,rfl⟩,h _ he ⟨_,YA _ (YO _ rfl),rfl,rfl⟩ (by rw[XM,hz]) fun b o x=>YA _ (YA _ x)⟩
end Sb
namespace Sb
open PySem PySem.Spec PyProof.Rows L2
section
variable {X:Cx}{pins:List (Addr × Obj)}{σ:L2.St}{H:Hp}{s:Shared}{h':Heap}{t':Nat}{ch:List Addr}
theorem Lp (I:Inv X pins σ H s)(hn:∀ b∈ch,H b=none)(k:∀ b o,b ∉ ch->s.heap.get? b=some o->h'.get? b=some o):HOk X.prog X.w H h':=fun a o e =>
 (I.hok a o e).stay (fun b u hb q=>k b u (fun z=>by
  have n:=hn b z
  rcases hb with rfl | hb
  ·rw[n] at e;cases e
  ·rw[n] at hb;cases hb) q) (fun _ q=>q) fun _ _ q=>q
theorem U7 (I:Inv X pins σ H s)(hf:∀ b∈ch,FpOk X pins H b)(k:∀ b o,b ∉ ch->s.heap.get? b=some o->h'.get? b=some o):Inv X pins σ H { s with heap:=h',toks:=t' }:=by
 refine I.step (g':=s.gens) (d':=s.drawn) (ch:=ch) (fun b hb=>?_) (fun b o _ _ hc e _=>k b o hc e) (fun b o _ _ hc e _=>⟨o.slots,k b o hc e⟩) (fun _ _ _ _ n=>n) (fun b o hc e=>⟨o,k b o hc e⟩) (fun _ _ e=>e) (fun _ _ _ e=>e)
  (fun b ps e=>⟨#[],by rw[e];simp⟩) (fun m hm=>?_) (Lp I (fun b hb=>(hf b hb).1) k) I.bare
 ·exact⟨(hf b hb).2.2.2.1,(hf b hb).2.1,(hf b hb).2.2.2.2.1,(hf b hb).2.2.2.2.2⟩
 ·obtain⟨o,es,ep,ho,r⟩:=hm
  exact⟨o,es,ep,k _ o (fun z=>(hf _ z).2.1 rfl) ho,r⟩
theorem Wb {p:Addr}{u:HO}(I:Inv X pins σ H s)(hf:∀ b∈ch,FpOk X pins H b)(k:∀ b o,b ∉ ch->s.heap.get? b=some o->h'.get? b=some o)(hp:s.heap.objs.size<=p)(new:ObjOk X.prog X.w (upd H p u) h' p u) :
  Inv X pins σ (upd H p u) { s with heap:=h',toks:=t' }:=by
 have lt:∀ b o,s.heap.get? b=some o->b≠p:=fun b o e z=>absurd (YW (YJ e) hp) (by rw[z];exact XQ _)
 have ltH:∀ b o,H b=some o->b≠p:=fun b o e z=>absurd (YW (I.hok.lt e) hp) (by rw[z];exact XQ _)
 have hk:=Lp I (fun b hb=>(hf b hb).1) k
 refine I.step (g':=s.gens) (d':=s.drawn) (ch:=ch) (fun b hb=>?_) (fun b o _ _ hc e _=>k b o hc e) (fun b o _ _ hc e _=>⟨o.slots,k b o hc e⟩) (fun b o _ e n=>by rw[Zf (lt b o e)];exact n) (fun b o hc e=>⟨o,k b o hc e⟩)
  (fun b _ e=>by rw[Zf (ltH b _ e)];exact e) (fun b _ _ e=>by rw[Zf (ltH b _ e)];exact e) (fun b ps e=>⟨#[],by rw[Zf (ltH b _ e),e];simp⟩) (fun m hm=>?_) (fun b o e=>?_) I.bare
 ·exact⟨(hf b hb).2.2.2.1,(hf b hb).2.1,(hf b hb).2.2.2.2.1,(hf b hb).2.2.2.2.2⟩
 ·obtain⟨o,es,ep,ho,r⟩:=hm
  exact⟨o,es,ep,k _ o (fun z=>(hf _ z).2.1 rfl) ho,r⟩
 ·by_cases hb:b=p
  ·subst hb
   rw[Zc] at e
   cases e
   exact new
  ·rw[Zf hb] at e
   exact (hk b o e).stay (fun _ _ _ q=>q) (fun c q=>by rw[Zf (ltH c _ q)];exact q) fun c xs q=>by rw[Zf (ltH c _ q)];exact q
theorem Nb {b t:Addr}{xs:List V}(I:Inv X pins σ H s)(hf:FpOk X pins H b)(h:SqT X.K H t xs):t≠b:=by
 rintro rfl
 rcases h with (h | ⟨o,h⟩) | ⟨o,its,n,h,_⟩
 ·rw[hf.1] at h;cases h
 ·rw[hf.1] at h;cases h
 ·have e:=I.ok.mod.kin _ _ h
  rcases hf.2.2.2.1 with z | z
  ·exact I.ok.noex _ _ e z
  ·exact absurd (YW (YJ (I.ok.bs _ _ e).1) z) (XQ _)
end
structure ZOff (z TI TO i1 i2:Addr):Prop where
 a1:TI≠z
 a2:TO≠z
 a3:i1≠z
 a4:i2≠z
 a5:TI≠TO
 a6:TI≠i1
 a7:TI≠i2
 a8:TO≠i1
 a9:TO≠i2
 b1:i1≠i2
section
variable {X:Cx}
end
def Ite (K:W.Frag)(t:Addr):It :=
 ⟨fun i H=>∃ xs,SqT K H t xs/\i<xs.length,
   fun i H v H'=>∃ p x,v=.ref p/\H p=none/\H'=upd H p (.tup [.int (i:Int),x])/\∀ xs,SqT K H t xs->xs[i]?=some x,
   fun i H=>∃ xs,SqT K H t xs/\i=xs.length⟩
theorem Fq {P:Program}{w:World}{K:W.Frag}{es:List Expr}{kk:Nat}{tp:Pos}{e it:Addr}(O:e≠it)(t:Addr) :
  Turn P w K (.Tuple es kk tp) (Ite K t) [e,it] e (fun i h=>(∃ old,IsEnum h e it (i:Int) old)/\h.IsTupleIter it t i) where
 mem:=by simp
 obj:=fun i h ⟨⟨old,he⟩,⟨o1,e1,_,d1⟩⟩ b hb=>by
  simp only [YS,XI,GP] at hb
  rcases hb with rfl | rfl
  ·exact⟨_,he,fun v q=>by have q':Data.fields _=Data.cell v:=q;cases q'⟩
  ·exact⟨_,e1,fun v q=>by rw[d1] at q;cases q⟩
 keep:=fun i h h' ⟨⟨old,he⟩,⟨o1,e1,r1⟩⟩ k=>⟨⟨old,k e (by simp) _ he⟩,⟨o1,k it (by simp) _ e1,r1⟩⟩
 item:=by
  intro X hP hw hK hc i pins s σ H E I hf st hg
  subst hP hw hK
  obtain⟨xs,hx,lx⟩:=hg
  obtain⟨⟨old,he⟩,c1⟩:=st
  obtain⟨u1,v1,p1,_⟩:=I.tuple hx
  have n1:=v1.length
  have ne:∀ b∈[e,it],t≠b:=fun b hb=>Nb I (hf b hb) hx
  have off:∀ b∈[e,it],∀ x,(b,x) ∉ X.pn:=fun b hb x m=>(hf b hb).2.2.2.2.2 _ (YL _ m) rfl
  have qI:∀ p∈X.pn,s.heap.get? p.1=some p.2:=fun p hp=>(I.pin p (YL _ hp)).1
  have qO:∀ b∈[e,it],∀ p∈X.pn,p.1≠b:=fun b hb p hp=>(hf b hb).2.2.2.2.2 p (YL _ hp)
  have D1:=Ug (prog:=X.prog) (w:=X.w) (A:=X.A.in1) (I.ok.hd hc) it t (ne it (by simp)) (qO it (by simp)) u1.toArray
  refine wpAny_pyNext_enum_itemD D1 he ⟨c1,p1,qI⟩ (by simp;omega) O (by simp[O,(ne e (by simp)).symm,off e (by simp)]) fun x g tk px out s1 pr sz kp=>?_
  refine⟨_,rfl,Y0i out fun g2 z2 sb=>?_⟩
  obtain⟨x0,ex⟩:∃ x0,xs[i]?=some x0:=⟨xs[i],by simp[lx]⟩
  obtain⟨x1,ex1,rx⟩:=v1.get ex
  have qx:x1=x:=by
   have:u1.toArray[i]?=some x:=px
   rw[GW,ex1] at this
   exact YK this
  subst qx
  have elt:e<s.heap.objs.size:=YJ he
  have pe:s.heap.objs.size≠e:=qo elt
  have sb2:∀ b,b≠e->g2.get? b=g.get? b:=fun b hb=>sb.2 b hb
  have keep:∀ b o,b ∉ [e,it]->s.heap.get? b=some o->g2.get? b=some o:=fun b o hb q=>by
   simp only [YS,XI,GP,Y14] at hb
   rw[sb2 b hb.1]
   exact kp b o hb.1 hb.2 q
  have new:ObjOk X.prog X.w (upd H s.heap.objs.size (.tup [.int (i:Int),x0])) g2 s.heap.objs.size (.tup [.int (i:Int),x0]) :=
   ⟨by show 2<=sizeLine;decide,[.int (i:Int) tk,x1],.cons ⟨tk,rfl⟩ (.cons rx .nil),⟨_,by rw[sb2 _ pe];exact pr,rfl,0,rfl⟩⟩
  have I2:=Wb (t':=tk+1) I hf keep (YE _) new
  have nn:∀ b∈[e,it],upd H s.heap.objs.size (.tup [.int (i:Int),x0]) b=none:=fun b hb=>by
   have:b≠s.heap.objs.size:=by
    have ob:∃ o,s.heap.get? b=some o:=by
     simp only [YS,XI,GP] at hb
     obtain⟨o1,e1,_⟩:=c1
     rcases hb with rfl | rfl
     ·exact⟨_,he⟩
     ·exact⟨_,e1⟩
    obtain⟨o,q⟩:=ob
    exact XA (YJ q)
   rw[Zf this]
   exact (hf b hb).1
  refine⟨.ref s.heap.objs.size,_,I2,rfl,⟨_,x0,rfl,I.fresh,rfl,fun xs' h1=>by rw[I.tuple_inj h1 hx];exact ex⟩,⟨⟨x1,?_⟩,?_⟩,nn⟩
  ·exact z2
  ·exact s1.1.extBut sb.extBut O.symm
 done:=by
  intro X hP hw hK hc i pins s σ H E I hf st hg
  subst hP hw hK
  obtain⟨xs,hx,rfl⟩:=hg
  obtain⟨⟨old,he⟩,c1⟩:=st
  obtain⟨u1,v1,p1,_⟩:=I.tuple hx
  have n1:=v1.length
  have ne:∀ b∈[e,it],t≠b:=fun b hb=>Nb I (hf b hb) hx
  have off:∀ b∈[e,it],∀ x,(b,x) ∉ X.pn:=fun b hb x m=>(hf b hb).2.2.2.2.2 _ (YL _ m) rfl
  have qI:∀ p∈X.pn,s.heap.get? p.1=some p.2:=fun p hp=>(I.pin p (YL _ hp)).1
  have qO:∀ b∈[e,it],∀ p∈X.pn,p.1≠b:=fun b hb p hp=>(hf b hb).2.2.2.2.2 p (YL _ hp)
  have D1:=Ug (prog:=X.prog) (w:=X.w) (A:=X.A.in1) (I.ok.hd hc) it t (ne it (by simp)) (qO it (by simp)) u1.toArray
  have c1':s.heap.IsTupleIter it t u1.toArray.size:=by
   rw[YQ,← n1]
   exact c1
  refine wpAny_pyNext_enum_endD D1 he ⟨c1',p1,qI⟩ fun g kp=>⟨rfl,?_⟩
  exact U7 (t':=s.toks) I hf fun b o hb q=>by
   simp only [YS,XI,GP,Y14] at hb
   exact kp b o hb.2 q
 self:=fun _ _ _ _ _ st h=>by
  obtain⟨⟨old,he⟩,_⟩:=st
  exact jb he h
section
variable {X:Cx}
def iEnum (K:W.Frag)(ta:TA):TI:=fun σ H R=>ta σ H fun vs H1=>∃ t,vs=[.ref t]/\(∃ xs,SqT K H1 t xs)/\R (Ite K t) H1
theorem Z2k {a:Expr}{ta:TA}{p pos:Pos}{es:List Expr}{kk:Nat}{tp:Pos}(hg:Gl X "enumerate")(hm:X.mg "enumerate"=none)(ha:PA X [a] ta)(hs:starEach [a] X.env=[(false,eval a X.env)]:=by rfl) :
  PI X (.Tuple es kk tp) (.Call (.Name "enumerate" p) [a] [] pos) (iEnum X.K ta):=by
 intro pins s σ H R I h
 refine Call_ (W5 I hg hm boot_enumerate (XS (thn (ha pos pins s σ H _ I h) fun us s1 ⟨vs,H1,I1,r1,q1⟩=>?_) hs rfl))
 obtain⟨t,e,⟨xs,hx⟩,q⟩:=q1
 subst e
 obtain⟨t0,e0,rt⟩:=Vt r1
 cases (show t0=Value.ref t from rt)
 subst e0
 obtain⟨u1,v1,p1,_⟩:=I1.tuple hx
 refine Jj (ys:=u1.toArray) p1 fun g z0 i1 sz kp=>?_
 refine jb z0 ?_
 have I2:Inv X pins σ H1 { s1 with heap:=g }:=I1.kept (t':=s1.toks) kp
 refine⟨s1.heap.objs.size+1,[s1.heap.objs.size+1,s1.heap.objs.size],_,Ite X.K t,H1,rfl,I2,Fq (O:=?_) t,⟨⟨_,z0⟩,i1⟩,fun b hb=>?_,q⟩
 ·show @Ne Nat _ _
  omega
 ·have hb':s1.heap.objs.size<=b:=by
   simp only [YS,XI,GP] at hb
   rcases hb with rfl | rfl
   ·exact GD _ _
   ·exact YE _
  exact I1.fpOk hb' (I1.hok.fresh hb')
end
end Sb
namespace Sb
open PySem L2
structure Ext (H H':Hp):Prop where
 tup:∀ b xs,H b=some (.tup xs)->H' b=some (.tup xs)
 frz:∀ b o u,H b=some (.frz o u)->H' b=some (.frz o u)
theorem Ext.trans {H H1 H2:Hp}(a:Ext H H1)(b:Ext H1 H2):Ext H H2:=⟨fun c xs h=>b.tup c xs (a.tup c xs h),fun c o u h=>b.frz c o u (a.frz c o u h)⟩
theorem Ext.same {H H':Hp}(x:Same H H'):Ext H H':=⟨fun b _ h=>x b _ h,fun b _ _ h=>x b _ h⟩
theorem Ext.x {a:Addr}{H H':Hp}{ys:List V}(x:SameX a H H')(ha:H a=some (.lst ys)):Ext H H' :=
 ⟨fun b _ h=>x b _ h (Z4c h ha (by intro z;cases z)),fun b _ _ h=>x b _ h (Z4c h ha (by intro z;cases z))⟩
theorem Ext.bag {a:Addr}{n:Nat}{H H':Hp}(x:SameX a H H')(ha:BagAt H a n):Ext H H':=by
 obtain⟨ys,e⟩:=ha.lst
 exact Ext.x x e
theorem Ext.upd {l:Addr}{H:Hp}{ys:List V}{o:HO}(hl:H l=some (.lst ys)):Ext H (L2.upd H l o):=Ext.x (SameX.upd l H o) hl
theorem Ext.new {l:Addr}{H:Hp}{o:HO}(hl:H l=none):Ext H (L2.upd H l o):=Ext.same (Same.new hl)
theorem Ext.sq {K:W.Frag}{H H':Hp}{a:Addr}{xs:List V}(e:Ext H H')(h:SqT K H a xs):SqT K H' a xs:=by
 rcases h with (h | ⟨o,h⟩) | h
 ·exact .inl (.inl (e.tup _ _ h))
 ·exact .inl (.inr ⟨o,e.frz _ _ _ h⟩)
 ·exact .inr h
abbrev Rat:=Int × Int
def IsR (K:W.Frag)(H:Hp)(r:Rat)(v:V):Prop:=∃ b,v=.ref b/\SqT K H b [.int r.1,.int r.2]
theorem IsR.ext {K:W.Frag}{H H':Hp}{r:Rat}{v:V}(h:IsR K H r v)(e:Ext H H'):IsR K H' r v:=by
 obtain⟨b,q,h⟩:=h
 exact⟨b,q,e.sq h⟩
def Rs (K:W.Frag)(H:Hp)(rs:List Rat)(xs:List V):Prop:=Paired (IsR K H) rs xs
theorem Rs.ext {K:W.Frag}{H H':Hp}{rs:List Rat}{xs:List V}(h:Rs K H rs xs)(e:Ext H H'):Rs K H' rs xs:=Paired.mapP h fun _ _ q=>q.ext e
theorem Rs.snoc {K:W.Frag}{H:Hp}{rs:List Rat}{xs:List V}{r:Rat}{v:V}(h:Rs K H rs xs)(q:IsR K H r v):Rs K H (rs++[r]) (xs++[v]):=zT h q
theorem Rs.len {K:W.Frag}{H:Hp}{rs:List Rat}{xs:List V}(h:Rs K H rs xs):rs.length=xs.length:=XW h
theorem Rs.at {K:W.Frag}{H:Hp}:∀ {rs:List Rat} {xs:List V} {i:Nat} {r:Rat},Rs K H rs xs->rs[i]?=some r->∃ v,xs[i]?=some v/\IsR K H r v
 | _,_,_,_,.nil,e=>by simp at e
 | _,_,0,_,.cons q _,e=>by
  simp at e
  subst e
  exact⟨_,rfl,q⟩
 | _,_,i+1,r,.cons _ t,e=>by
  obtain⟨v,h1,h2⟩:=Rs.at (i:=i) (r:=r) t (by simpa using e)
  exact⟨v,by simpa using h1,h2⟩
theorem Rs.back {K:W.Frag}{H:Hp}{rs:List Rat}{xs:List V}{i:Nat}{v:V}(h:Rs K H rs xs)(e:xs[i]?=some v):∃ r,rs[i]?=some r/\IsR K H r v:=by
 have hi:i<xs.length:=(YH.mp e).1
 have hr:i<rs.length:=by rw[h.len];exact hi
 obtain⟨w,h1,h2⟩:=h.at (i:=i) (r:=rs[i]) (by simp[hr])
 rw[e] at h1
 cases h1
 exact⟨_,by simp[hr],h2⟩
def RowAt (K:W.Frag)(H:Hp)(a:Addr)(rs:List Rat):Prop:=∃ xs,SqT K H a xs/\Rs K H rs xs
theorem RowAt.ext {K:W.Frag}{H H':Hp}{a:Addr}{rs:List Rat}(h:RowAt K H a rs)(e:Ext H H'):RowAt K H' a rs:=by
 obtain⟨xs,h1,h2⟩:=h
 exact⟨xs,e.sq h1,h2.ext e⟩
structure Good (n:Nat)(r:Rat):Prop where
 b1:Bd n r.1
 b2:Bd n r.2
 pos:0<r.2
 cop:Int.gcd r.1 r.2=1
theorem Good.mono {m n:Nat}{r:Rat}(h:Good m r)(k:m<=n):Good n r:=⟨h.b1.mono k,h.b2.mono k,h.pos,h.cop⟩
def nrm (p q:Int):Rat:=(nT p q,nB p q)
theorem Ta {n:Nat}{p q:Int}(hp:Bd n p)(hq:Bd n q)(h:q≠0):Good n (nrm p q):=⟨hp.of_le' (Z6d h),hq.of_le' (Z6e h),Nt h,Z0x h⟩
def addR (r s:Rat):Rat:=nrm (r.1*s.2+s.1*r.2) (r.2*s.2)
def subR (r s:Rat):Rat:=nrm (r.1*s.2 - s.1*r.2) (r.2*s.2)
def mulR' (r s:Rat):Rat:=nrm (r.1*s.1) (r.2*s.2)
theorem W4 {a b:Int}(ha:0<a)(hb:0<b):a*b≠0:=by
 have:=YZ ha hb
 omega
theorem Ck {m n:Nat}{r s:Rat}(hr:Good m r)(hs:Good n s):Good (m+n+1) (addR r s):=by
 refine Ta ?_ ((hr.b2.mul hs.b2).mono (by omega)) (W4 hr.pos hs.pos)
 have a:=hr.b1.mul hs.b2
 have b:=hs.b1.mul hr.b2
 rw[zZ n m] at b
 exact a.add b
end Sb
namespace Sb
open PySem PySem.Spec PyProof.Rows L2
set_option maxRecDepth 100000
theorem V6:fillsNumberSlot (.type "tuple") "mul"=pure false :=
 PySem.fillsNumberSlot_seq (id:="tuple.__mul__") (r:=some (.builtin "tuple.__rmul__")) jn.lookup (by decide +kernel) F.slot_tuple_rmul.lookup (by decide +kernel)
theorem T4:seqRepeat? (.type "tuple")=pure (some (.builtin "tuple.__mul__")):=by
 unfold seqRepeat?
 rw[PySem.seqSlot_of (T:="tuple") (name:="__mul__") (id:="tuple.__mul__") jn.lookup (by decide +kernel),PySem.seqSlot_of (T:="tuple") (name:="__rmul__") (id:="tuple.__rmul__") F.slot_tuple_rmul.lookup (by decide +kernel)]
 rfl
theorem Uh (a:Int)(t:Tok)(l:Addr)(items:Array Value)(n:Nat)(dd:Option Addr)(sl:Array (Option Value)) :
  Meets (Builtin.«int.__rmul__» ⟨[.int a t,.ref l],[]⟩) (fun _ R s=>s.heap.get? l=some { cls:=.type "tuple",dict:=dd,data:=.seq items n,slots:=sl }/\R (.ok (.ret Value.notImplemented)) s) :=
 .of_wp fun prog w A R s h=>by obtain⟨hp,g,d,tk,os⟩:=s;obtain⟨hl,h⟩:=h;wp_walk;exact⟨_,rfl,h⟩
theorem Fr (l:Addr)(items:Array Value)(n:Nat)(dd:Option Addr)(sl:Array (Option Value))(x:Int)(u:Tok)(h1:2<=x)(h2:items.isEmpty=false)(h3:items.size*x.toNat<=1000) :
  Meets (Builtin.«tuple.__mul__» ⟨[.ref l,.int x u],[]⟩) (fun _ R s=>s.heap.get? l=some { cls:=.type "tuple",dict:=dd,data:=.seq items n,slots:=sl } ∧
   R (.ok (.ret (Value.ref s.heap.objs.size))) { s with heap:=s.heap.push { cls:=Value.type "tuple",data:=Data.seq (List.foldl (·++·) #[] (List.replicate x.toNat items)) } }) :=
 .of_wp fun prog w A R s h=>by
  obtain⟨hp,g,d,tk,os⟩:=s;obtain⟨hl,h⟩:=h
  have f1:=Y0B
  have f2:=zJ
  have b1:(items.size:Int)*x<=1000:=by
   have e:x=(x.toNat:Int):=by omega
   rw[e,← Int.natCast_mul]
   omega
  have b2:0<items.size:=by
   cases items with
   | mk l=>cases l with
    | nil=>simp at h2
    | cons a r=>simp
  have b3:x<=1000:=by
   have:(1:Int)*x<=(items.size:Int)*x:=JT (by omega) (by omega)
   omega
  have c0:¬ (decide (x < -2 ^ 63) || decide (x ≥ 2 ^ 63))=true:=by simp;omega
  have c1:¬ (items.isEmpty || x == 1)=true:=by rw[h2];simp;omega
  have c2:¬ (decide (x<=0) || items.isEmpty)=true:=by rw[h2];simp;omega
  have c3:¬ ((items.size:Int)*x > (2 ^ 63 - 1) / 8):=by
   have:(1000:Int)<=(2 ^ 63 - 1) / 8:=by decide
   omega
  have c4:¬ Builtin.Tuple.tupleTooMany ((items.size:Int)*x)=true:=by
   unfold Builtin.Tuple.tupleTooMany
   have:((items.size:Int)*x).toNat<=1000:=by omega
   have:(1000:Nat)<=sizeLine:=by decide
   simp
   omega
  have c5:(List.foldl (fun x1 x2=>x1++x2) #[] (List.replicate x.toNat items)).size<=sizeLine:=by
   rw[AutoSeq1.size_joined]
   have:(1000:Nat)<=sizeLine:=by decide
   have e:x.toNat*items.size=items.size*x.toNat:=Y04 ..
   simp
   omega
  wp_walk using JB hl
  refine jw (JI c0) ?_
  wp_walk using JB hl
  refine jw (JI c1) ?_
  wp_walk using JB hl
  refine jw (JI c2) ?_
  wp_walk using JB hl
  refine jw (JI c3) ?_
  wp_walk using JB hl
  exact⟨_,rfl,h⟩
section
variable {X:Cx}{K:W.Frag}
def rRepT (K:W.Frag):R2:=fun x y H Q=>∃ a k xs,x=.ref a/\y=.int k/\SqT K H a xs/\2<=k/\xs≠[]/\xs.length*k.toNat<=1000/\∀ p,H p=none->Q (.ref p) (upd H p (.tup (List.replicate k.toNat xs).flatten))
theorem Gq:OpR X (binaryOp .Mult) (rRepT X.K):=by
 intro pins s σ H x y v u Q I rx ry h
 obtain⟨l,k,xs,rfl,rfl,hq,h1,h2,h3,q⟩:=h
 cases rx
 obtain⟨t,rfl⟩:=ry
 obtain⟨its,r,pl,hz⟩:=I.tuple hq
 obtain⟨⟨cls,dd,data,sl⟩,ho,hc,n,hd⟩:=id pl
 simp only at hc hd
 subst hc hd
 have hl:=r.length
 have he:its.toArray.isEmpty=false:=by
  cases its with
  | nil=>cases r;exact absurd rfl h2
  | cons a b=>rfl
 have hnew:List.foldl (fun x1 x2=>x1++x2) #[] (List.replicate k.toNat its.toArray)=(List.replicate k.toNat its).flatten.toArray:=by
  have:=N1 its k.toNat []
  rw[List.nil_append] at this
  exact this
 refine Y0l (T:="tuple") (U:="int") (by decide) ⟨_,ho,rfl⟩ (fun s'=>Y0H s' k t) V6 F.fills_int_mul jx T4 F.slot_int_index.lookup
  (jk jx (Y0H s k t) F.entry_int_rmul (F.args_int_rmul_2 _ _) (Uh k t l its.toArray n dd sl)
   ⟨ho,rfl,⟨_,ho,rfl⟩,jk jn ⟨_,ho,rfl⟩ F.entry_tuple_mul (F.args_tuple_mul_2 _ _) (Fr l its.toArray n dd sl k t h1 he (by rw[YQ,← hl];exact h3)) ⟨ho,?_⟩⟩)
 rw[hnew]
 refine⟨.ref s.heap.objs.size,_,I.laid (t':=s.toks) (o:=.tup (List.replicate k.toNat xs).flatten) (fun b ob q=>YA _ q) (YE _) ?_,rfl,q _ (I.hok.fresh (YE _))⟩
 exact⟨by rw[Z3m,Y04];exact XU h3 (by decide),_,r.rep k.toNat,IsTup.new _ _⟩
def rEqI (K:W.Frag):R2:=fun x y H Q=>∃ (a b:Addr) (ns ms:List Int),x=.ref a/\y=.ref b/\SqT K H a (ns.map V.int)/\SqT K H b (ms.map V.int)/\Q (.bl (decide (ns=ms))) H
theorem Z20 (ns ms:List Int):((List.range (min ns.length ms.length)).all (fun j=>ns.getD j 0 == ms.getD j 0) && ns.length == ms.length)=decide (ns=ms):=by
 rw[GI]
 simp only [JH,Y0C,GN,qa,zD]
 constructor
 ·rintro ⟨h,hl⟩
  refine jo hl fun i h1 h2=>?_
  have:=h i (by omega)
  simpa [List.getD,h1,h2] using this
 ·rintro rfl
  exact⟨fun _ _=>rfl,rfl⟩
theorem Rh {ns:List Int}{us:List Value}(r:Vals (ns.map V.int) us){j:Nat}(h:j<us.length):∃ t,us[j]=Value.int (ns.getD j 0) t:=by
 have hl:=r.length
 rw[YC] at hl
 have hj:j<ns.length:=by omega
 obtain⟨u,e,q⟩:=r.get (i:=j) (show (ns.map V.int)[j]?=some (V.int ns[j]) by simp[hj])
 obtain⟨t,rfl⟩:=q
 have e2:us[j]?=some us[j]:=by simp[h]
 rw[e2] at e
 refine⟨t,?_⟩
 rw[YK e]
 simp[List.getD,hj]
theorem Ku (hu:X.A.units<cLine)(hK:X.K=K:=by rfl):OpR X (compareOp .Eq) (rEqI K):=by
 subst hK
 intro pins s σ H x y v u Q I rx ry h
 obtain⟨a,b,ns,ms,rfl,rfl,ha,hb,q⟩:=h
 cases rx
 cases ry
 obtain⟨its,r1,p1,_⟩:=I.tuple ha
 obtain⟨its2,r2,p2,_⟩:=I.tuple hb
 have l1:=r1.length
 have l2:=r2.length
 rw[YC] at l1 l2
 refine SeqAt.eq_tupleAt (e:=fun j=>ns.getD j 0 == ms.getD j 0) p1 p2 hu (fun j h1 h2=>?_) ?_
 ·obtain⟨t,e1⟩:=Rh r1 (j:=j) (by simpa using h1)
  obtain⟨t',e2⟩:=Rh r2 (j:=j) (by simpa using h2)
  have e1':its.toArray[j]=Value.int (ns.getD j 0) t:=by simpa using e1
  have e2':its2.toArray[j]=Value.int (ms.getD j 0) t':=by simpa using e2
  rw[e1',e2']
  exact zk _ _ _ _
 ·rw[YQ,YQ,← l1,← l2,Z20]
  exact⟨.bl _,H,I,rfl,q⟩
theorem Z4y (h:X.K=K:=by rfl):OpR X (compareOp .In) (rIn K false):=h ▸ Wf
end
theorem Qv (i:Int)(ns:List Int):inV (.int i) (ns.map V.int)=decide (i∈ns):=by
 unfold inV
 rw[List.any_map,GI]
 simp only [List.any_eq_true,zD,Function.comp]
 constructor
 ·rintro ⟨x,hx,e⟩
  have:x=i:=by simpa [eqV] using e
  exact this ▸ hx
 ·intro h
  exact⟨i,h,by simp[eqV]⟩
theorem Sf (ns:List Int):(ns.map V.int).all flatV=true:=by
 rw[List.all_map,Y0C]
 intro x _
 rfl
end Sb
namespace Sb
open PySem L2
def Con (K:W.Frag)(mg:Str->Option Value)(x:Str)(r:Rat):Prop:=∃ a:Addr,mg x=some (.ref a)/\∀ H,SqT K H a [.int r.1,.int r.2]
theorem Z1v {K:W.Frag}{h:Heap}{mg:Str->Option Value}{x:Str}{a:Addr}{i j:Int}{t1 t2:Tok}{n:Nat}{dd:Option Addr}{sl:Array (Option Value)}(X:K.In h)(G:h.Ns mainGlobals mg)
  (e:W.nsIn K mainGlobals x=some (some (.ref a))) (l:K.lookup a=some ⟨.type "tuple",dd,.seq #[.int i t1,.int j t2] n,sl⟩):Con K mg x (i,j) :=
 ⟨a,Y0s X G e,fun H=>.inr ⟨_,_,_,l,rfl,rfl,sz2,.cons ⟨_,rfl⟩ (.cons ⟨_,rfl⟩ .nil)⟩⟩
def evI (c:Nat)(p:Nat->Bool):List Int:=((List.range c).filter p).map fun (w:Nat)=>(w:Int)
def EvAt (K:W.Frag)(H:Hp)(c:Nat)(o:Option (Nat->Bool))(v:V):Prop:=match o with
 | none=>v=.non
 | some p=>∃ a,v=.ref a/\SqT K H a ((evI c p).map V.int)
theorem EvAt.ext {K:W.Frag}{H H':Hp}{c:Nat}{o:Option (Nat->Bool)}{v:V}(h:EvAt K H c o v)(e:Ext H H'):EvAt K H' c o v:=by
 cases o with
 | none=>exact h
 | some p=>obtain⟨a,q,h⟩:=h;exact⟨a,q,e.sq h⟩
theorem EvAt.same {K:W.Frag}{H H':Hp}{c:Nat}{o:Option (Nat->Bool)}{v:V}(h:EvAt K H c o v)(e:Same H H'):EvAt K H' c o v:=h.ext (Ext.same e)
def inE (o:Option (Nat->Bool))(i:Nat):Bool:=match o with
 | none=>true
 | some p=>p i
theorem mem_evI {c:Nat}{p:Nat->Bool}{i:Nat}:((i:Int)∈evI c p) ↔ i<c/\p i=true:=by
 unfold evI
 simp only [XG,zK,GN]
 constructor
 ·rintro ⟨j,h,e⟩
  have:j=i:=by omega
  exact this ▸ h
 ·intro h
  exact⟨i,h,rfl⟩
theorem P6 (c:Nat)(p:Nat->Bool):evI (c+1) p=evI c p++if p c then [(c:Int)] else []:=by
 unfold evI
 rw[zv,zP,XX]
 congr 1
 cases h:p c <;> simp[h]
theorem N3 {c:Nat}{p q:Nat->Bool}(h:∀ i,i<c->p i=q i):evI c p=evI c q:=by
 unfold evI
 congr 1
 apply List.filter_congr
 intro x hx
 exact h x (GN.mp hx)
theorem Lo {c A B:Prop}[Decidable c](hc:c)(h:A):if decide c=true then A else B:=by rw[XF hc];exact Uq h
theorem Qr {c A B:Prop}[Decidable c](hc:¬ c)(h:B):if decide c=true then A else B:=by rw[JI hc];exact Yw h
theorem Z3o {b:Bool}{A B:Prop}(h1:b=true->A)(h0:b=false->B):if b=true then A else B:=by
 cases b with
 | true=>exact Uq (h1 rfl)
 | false=>exact Yw (h0 rfl)
theorem Y5 {α:Type}{l:List α}{i:Nat}{x:α}(h:l[i]?=some x):l.take (i+1)=l.take i++[x]:=by rw[List.take_add_one,h];rfl
def cutR (o:Option (Nat->Bool))(rs:List Rat):List Rat:=rs.mapIdx fun i r=>if inE o i then r else (0,1)
theorem Wd {o:Option (Nat->Bool)}{rs:List Rat}{i:Nat}{r:Rat}(h:rs[i]?=some r):(cutR o rs)[i]?=some (if inE o i then r else (0,1)):=by
 unfold cutR
 rw[js,h]
 rfl
theorem Ye (o:Option (Nat->Bool))(rs:List Rat):(cutR o rs).length=rs.length:=by unfold cutR;simp
theorem g01 (n:Nat)(h:1<=n):Good n (0,1):=by
 have:2 ^ 1<=2 ^ n:=qf (by decide) h
 exact⟨by show (0:Int).natAbs<_;simp;omega,by show (1:Int).natAbs<_;simp;omega,by decide,by decide⟩
def mapR {α:Type}(op:Rat->α)(rs:List Rat)(i:Nat):List α:=(rs.take i).map op
theorem Dq {α:Type}(op:Rat->α){rs:List Rat}{i:Nat}{r:Rat}(hr:rs[i]?=some r):mapR op rs (i+1)=mapR op rs i++[op r]:=by
 unfold mapR
 rw[List.take_add_one,hr,XX]
 rfl
theorem Z11 {α:Type}(op:Rat->α){rs:List Rat}{n:Nat}(hr:rs.length=n):mapR op rs n=rs.map op:=by
 unfold mapR
 rw[YN (by omega)]
def ltR (r s:Rat):Bool:=decide (r.1*s.2<s.1*r.2)
theorem Z5w {xs:List V}{i:Nat}(h:i<=xs.length):cutV xs (some (i:Int)) none=xs.drop i:=by
 unfold cutV
 rw[HT.sIx_none,HT.sIx_nat,Nat.min_eq_left h,YN (by simp)]
end Sb
namespace Sb
open PySem PySem.Spec PyProof.Rows L2
section
variable {X:Cx}{tg:Expr}{K:W.Frag}
def iSeq (K:W.Frag)(tl:TE):TI:=fun σ H R=>tl σ H fun x H1=>∃ a,x=.ref a/\(((∃ xs,SqL K H1 a xs)/\R (Itl K a) H1) \/ ((∃ xs,SqT K H1 a xs)/\R (Itt K a) H1))
theorem Bz {l:Expr}{tl:TE}(hl:PE X l tl):PI X tg l (iSeq X.K tl):=by
 intro pins s σ H R I h
 refine thn (hl pins s σ H _ I h) fun v s1 ⟨x,H1,I1,r1,q1⟩=>?_
 obtain⟨a,e,⟨⟨xs,hq⟩,q⟩ | ⟨⟨xs,hq⟩,q⟩⟩:=q1
 ·subst e
  cases r1
  obtain⟨its,rv,p,hz⟩:=I1.list hq
  refine GF p.isList ?_
  refine⟨s1.heap.objs.size,[s1.heap.objs.size],_,_,H1,rfl,I1.kept (t':=s1.toks) fun b o e=>YA _ e,Tp a _,⟨_,YO _ rfl,rfl,rfl⟩,fun b hb=>?_,q⟩
  have e:b=s1.heap.objs.size:=by simpa using hb
  subst e
  exact I1.fpOk (YE _) (I1.hok.fresh (YE _))
 ·subst e
  cases r1
  obtain⟨its,rv,p,hz⟩:=I1.tuple hq
  refine GZ (show s1.heap.IsTuple a its.toArray from p) ?_
  refine⟨s1.heap.objs.size,[s1.heap.objs.size],_,_,H1,rfl,I1.kept (t':=s1.toks) fun b o e=>YA _ e,Um a _,⟨_,YO _ rfl,rfl,rfl⟩,fun b hb=>?_,q⟩
  have e:b=s1.heap.objs.size:=by simpa using hb
  subst e
  exact I1.fpOk (YE _) (I1.hok.fresh (YE _))
theorem F9 {a:Addr}{xs:List V}{g:TG}{tb:TS}{D:Ends}{σ:L2.St}{H:Hp}(Pv:Nat->L2.St->Hp->Prop)(hx:SqL K H a xs \/ SqT K H a xs)(h0:Pv 0 σ H)(hS:∀ i σ H',i<=xs.length->Pv i σ H'->Same H H')
  (hs:∀ i x σ H,xs[i]?=some x->Pv i σ H->g x σ H fun σ2 H2=>tb { D with nx:=Pv (i+1),ct:=Pv (i+1),bk:=D.nx } σ2 H2) (hd:∀ σ H,Pv xs.length σ H->D.nx σ H) :
  ∃ b,V.ref a=.ref b/\(((∃ xs,SqL K H b xs)/\∃ W:Nat->Nat->L2.St->Hp->Prop,(∃ m,W 0 m σ H)/\∀ i m σ H,W i m σ H →
   ((Itl K b).stop i H/\D.nx σ H) \/ ((Itl K b).go i H/\∃ N:L2.St->Hp->Prop,(∀ σ' H',N σ' H'->∃ m',m'<m/\W (i+1) m' σ' H')/\∀ x H',(Itl K b).yld i H x H'->g x σ H' fun σ2 H2=>tb { D with nx:=N,ct:=N,bk:=D.nx } σ2 H2)) ∨
   ((∃ xs,SqT K H b xs)/\∃ W:Nat->Nat->L2.St->Hp->Prop,(∃ m,W 0 m σ H)/\∀ i m σ H,W i m σ H →
   ((Itt K b).stop i H/\D.nx σ H) \/ ((Itt K b).go i H/\∃ N:L2.St->Hp->Prop,(∀ σ' H',N σ' H'->∃ m',m'<m/\W (i+1) m' σ' H')/\∀ x H',(Itt K b).yld i H x H'->g x σ H' fun σ2 H2=>tb { D with nx:=N,ct:=N,bk:=D.nx } σ2 H2))):=by
 refine⟨a,rfl,?_⟩
 rcases hx with hx | hx
 ·exact .inl ⟨⟨_,hx⟩,Tj (K:=K) (a:=a) (xs:=xs) Pv h0 (fun i σ H' hi p=>by
   rcases hx with (z | ⟨o,z⟩) | z
   ·exact .inl (.inl (hS i σ H' hi p _ _ z))
   ·exact .inl (.inr ⟨o,hS i σ H' hi p _ _ z⟩)
   ·exact .inr z) hs hd⟩
 ·exact .inr ⟨⟨_,hx⟩,M1 (K:=K) (a:=a) (xs:=xs) Pv h0 (fun i σ H' hi p=>Zt (hS i σ H' hi p) hx) hs hd⟩
theorem Sh (hc:X.calm=true)(hK:X.K=K:=by rfl):CallR X (.builtin "sum") (fun xs H Q=>∃ (p:Addr) (ns:List Int),xs=[.ref p]/\SqL K H p (ns.map V.int)/\Q (.int ns.sum) H):=by
 subst hK
 intro pins s σ H xs us Q I r h
 obtain⟨p,ns,rfl,hs,q⟩:=h
 obtain⟨u,e0,rx⟩:=Vt r
 cases (show u=Value.ref p from rx)
 subst e0
 obtain⟨its,rv,pl,hz⟩:=I.list hs
 have hi:IntsAre its ns:=Qu rv
 obtain⟨ys,ey⟩:=hi.allInts.items
 have en:(numsOf its.toArray.toList)=ns:=hi.numsOf
 have lp:s.heap.IsList p (intItems ys):=by rw[← ey];exact pl.isList
 rw[ey,nums_intItems] at en
 refine Z60 (I.ok.hd hc) (fun p hp=>(I.pin p (YL _ hp)).1) lp fun h' tk t' hk=>⟨.int ns.sum,H,I.kept (t':=tk) hk,⟨t',?_⟩,q⟩
 rw[preSum_eq,YN (by simp),en]
end
end Sb
namespace Sb
open PySem L2
theorem V2 {K:W.Frag}{H H':Hp}{a:Addr}{xs:List V}(e:Same H H')(h:SqL K H a xs):SqL K H' a xs:=by
 rcases h with (h | ⟨o,h⟩) | h
 ·exact .inl (.inl (e _ _ h))
 ·exact .inl (.inr ⟨o,e _ _ h⟩)
 ·exact .inr h
end Sb
namespace Sb
open PySem PySem.Spec PyProof.Rows L2
abbrev bmV:List Value:=[.type "ValueError",.type "Exception",.type "BaseException",.type "object"]
theorem K9 {P:Program}{w:World}{fs:List Addr}{H H':Hp}{h0 h1 h2 B:Heap}(u:Un fs [] H H' h0 h1)(hB:∀ b o,h0.get? b=some o->b ∉ fs->(∃ o',B.get? b=some o')/\(H b=none->B.get? b=some o))(st:B.StaysIn h2)(up:h1.UpToSlots h2)
  (nf:∀ b∈fs,∃ o,h1.get? b=some o/\∀ vs,o.data≠.fields vs):Un fs [] H H' h0 h2 where
 keep:=fun b o e n hf _=>st b o ((hB b o e hf).2 n)
 slot:=fun b o e n hf hx=>by
  obtain⟨sl,e1⟩:=u.slot b o e n hf hx
  obtain⟨o1,e2,d⟩:=nf b hf
  rw[e1] at e2
  cases e2
  obtain⟨sl2,e3⟩:=up b _ e1 d
  exact⟨sl2,e3⟩
 free:=u.free
 there:=fun b o e hx=>by
  by_cases hf:b∈fs
  ·obtain⟨o1,e2,d⟩:=nf b hf
   obtain⟨sl,e3⟩:=up b _ e2 d
   exact⟨_,e3⟩
  ·obtain⟨o',e'⟩:=(hB b o e hf).1
   exact⟨o',st b o' e'⟩
 tups:=u.tups
 frzs:=u.frzs
 tbls:=u.tbls
section
variable {P:Program}{w:World}{K:W.Frag}{mg:Str->Option Value}{base:Heap}{N:List Str}{qual:Str}{scope:Scope}{f:Addr}{cd:Value}{A:Around}{outer:List Env}{s:Shared}{H:Hp}{E:XK}
end
structure CatchBy (K:W.Frag)(C D:Addr):Prop where
 nt:W.instIn K (.ref D) (.type "tuple")=some false
 be:W.subIn K (.ref D) (.type "BaseException")=some true
 it:W.kitOne K (.type "int") (.ref D)=some false
 sub:W.subIn K (.ref C) (.ref D)=some true
theorem CatchBy.cls {K:W.Frag}{C D:Addr}(c:CatchBy K C D):W.kitCls K (.type "int") (.ref D)=some false:=by
 have e:=c.it
 unfold W.kitOne at e
 rw[YG (by intro z;cases (qa.mp z))] at e
 exact e
theorem Lx {K:W.Frag}{M:Model}{A:Around}{E:Value->Shared->Prop}{C D e:Addr}{oe:Obj}{h:Heap}{g:Array GenState}{d:Drawn}{tk:Nat}{os:OsState}{Q:Bool->Shared->Prop}(X:K.In h)(c:CatchBy K C D)
  (he:h.get? e=some oe) (hc:oe.cls=.ref C) (q:Q true ⟨h,g,d,tk,os⟩):wpAny M A (excMatches (.ref e) (.ref D)) Q E ⟨h,g,d,tk,os⟩:=by
 obtain⟨_,l2,_⟩:=W.kit_cls (M:=M) X c.cls
 have l3:=W.looks_subIn (M:=M) X c.sub
 have l1:=W.looks_instIn (M:=M) X c.nt
 have l4:=W.looks_subIn (M:=M) X c.be
 unfold excMatches
 refine YB (l1.at ?_)
 simp only [GY,Y08]
 refine YB (YR ?_)
 simp only [zM,Y0h]
 unfold isExcClass
 refine YB (YB (YB (YB (l2.at ?_))))
 simp only [jr]
 refine l4.at ?_
 simp only [Bool.not_true,GY,Y08]
 refine YR ?_
 refine YR ?_
 refine YB ?_
 refine W.Looks.at (r:=Value.ref C) ?_ ?_
 ·exact hc ▸ (W.Looks.ld he).andThen .now
 ·refine YB (YB (YB (l3.at ?_)))
  simp only [jr]
  repeat (first | exact q | refine YR ?_ | refine YB ?_)
section
variable {X:Cx}{k:Nat}{x:Str}{ps:List Str}{sp:Sp}{e:Expr}{es:List Expr}{t:TA}{p pos:Pos}{EX:L2.St->XK}
def tUseX (sp:Sp)(EX:L2.St->XK)(t:TA):TE:=fun σ H Q=>t σ H fun vs H1=>sp vs H1 Q (EX σ)
end
abbrev tryCx (X:Cx)(pn:List (Addr × Obj))(E:Value->Shared->Prop):Cx:={ X with pn:=pn,xe:=E }
abbrev sutCx (X:Cx)(a:Addr)(pn:List (Addr × Obj))(E:Value->Shared->Prop):Cx:={ X with A:=X.A.mark (some (.ref a)),calm:=false,pn:=pn,xe:=E }
section
variable {X:Cx}{pins pins' pn:List (Addr × Obj)}{σ:L2.St}{H:Hp}{s:Shared}{E:Value->Shared->Prop}{a:Addr}
theorem Z51 (ok:X.Ok)(hp:∀ p∈X.pn,p∈pn):(tryCx X pn E).Ok:=⟨ok.mod,ok.kind,ok.glob,ok.blt,ok.above,ok.inj,ok.has,ok.cab,(fun hc=>(ok.hd hc).sub hp),ok.frames,ok.stk,ok.exf,ok.bs,ok.bsz,ok.noex,ok.exfs,ok.funs,ok.frf⟩
theorem Z52 (ok:X.Ok):(sutCx X a pn E).Ok:=⟨ok.mod,ok.kind,ok.glob,ok.blt,ok.above,ok.inj,ok.has,ok.cab,(fun z=>nomatch z),ok.frames,ok.stk,ok.exf,ok.bs,ok.bsz,ok.noex,ok.exfs,ok.funs,ok.frf⟩
theorem Z3p (I:Inv X pins σ H s):Inv (tryCx X (X.pn++pins) E) [] σ H s :=
 ⟨Z51 I.ok (fun p hp=>YL _ hp),I.os,I.bare,I.base,I.loc,I.cell,I.free,I.freeC,fun p hp=>I.pin p (by simpa using hp),I.hok,I.len⟩
theorem V8 (ok:X.Ok)(I:Inv (tryCx X (X.pn++pins) E) pins' σ H s):Inv X pins σ H s :=
 ⟨ok,I.os,I.bare,I.base,I.loc,I.cell,I.free,I.freeC,fun p hp=>I.pin p (YL _ hp),I.hok,I.len⟩
theorem F4 (I:Inv X pins σ H s):Inv (sutCx X a (X.pn++pins) E) [] σ H s :=
 ⟨Z52 I.ok,I.os,I.bare,I.base,I.loc,I.cell,I.free,I.freeC,fun p hp=>I.pin p (by simpa using hp),I.hok,I.len⟩
theorem Uf (ok:X.Ok)(I:Inv (sutCx X a (X.pn++pins) E) pins' σ H s):Inv X pins σ H s :=
 ⟨ok,I.os,I.bare,I.base,I.loc,I.cell,I.free,I.freeC,fun p hp=>I.pin p (YL _ hp),I.hok,I.len⟩
theorem Cs {D:Ends}{f:Flow}{s':Shared}(ok:X.Ok)(h:SP (tryCx X (X.pn++pins) E) pins' D f s'):SP X pins D f s':=by
 cases f with
 | next=>obtain⟨σ',H',I,q⟩:=h;exact⟨σ',H',V8 ok I,q⟩
 | brk=>obtain⟨σ',H',I,q⟩:=h;exact⟨σ',H',V8 ok I,q⟩
 | cont=>obtain⟨σ',H',I,q⟩:=h;exact⟨σ',H',V8 ok I,q⟩
 | ret u=>obtain⟨v,σ',H',I,r,q⟩:=h;exact⟨v,σ',H',V8 ok I,r,q⟩
theorem Ct {D:Ends}{f:Flow}{s':Shared}(ok:X.Ok)(h:SP (sutCx X a (X.pn++pins) E) pins' D f s'):SP X pins D f s':=by
 cases f with
 | next=>obtain⟨σ',H',I,q⟩:=h;exact⟨σ',H',Uf ok I,q⟩
 | brk=>obtain⟨σ',H',I,q⟩:=h;exact⟨σ',H',Uf ok I,q⟩
 | cont=>obtain⟨σ',H',I,q⟩:=h;exact⟨σ',H',Uf ok I,q⟩
 | ret u=>obtain⟨v,σ',H',I,r,q⟩:=h;exact⟨v,σ',H',Uf ok I,r,q⟩
end
section
variable {X:Cx}{x:Str}{C D:Addr}{body:List Stmt}{b₀:Stmt}{suite:List Stmt}{np hp pos:Pos}{tb:(L2.St->XK)->TS}{ts:TS}
end
open PySem.W (Looks findIn specialIn takesIn mroIn clsIn InstAt findObj KitX)
structure ExcRead (K:W.Frag)(C:Addr):Prop where
 ga:findIn K (.ref C) "__getattribute__"=some (some (.builtin "BaseException.__getattribute__"))
 gh:findIn K (.ref C) "__getattr__"=some none
 cl:findIn K (.ref C) "__class__"=some (some (.builtin "object.__class__"))
 gt:specialIn K (.builtin "object.__class__") "__get__"=some (some (.builtin "getset_descriptor.__get__"))
 tk:takesIn K (.builtin "object.__class__")=some true
 mo:mroIn K C (.type "object")=some true
 be:W.subIn K (.ref C) (.type "BaseException")=some true
def ExAt (h:Heap)(x C:Addr):Prop:=∃ ox,h.get? x=some ox/\ox.cls=.ref C
section
variable {K:W.Frag}{C x:Addr}{prog:Program}{w:World}{A:Around}{E:Value->Shared->Prop}{h:Heap}{g:Array GenState}{d:Drawn}{t:Nat}{os:OsState}
end
section
variable {X:Cx}{K:W.Frag}
end
end Sb
namespace Sb
open PySem PySem.Spec PyProof.Rows L2
section
variable {X:Cx}{pins:List (Addr × Obj)}{σ:L2.St}{H:Hp}{s:Shared}
theorem C0 {a:Addr}{o:HO}(I:Inv X pins σ H s)(hn:H a=none)(ok:ObjOk X.prog X.w (upd H a o) s.heap a o)(h0:∀ ob,X.s₀.heap.get? a=some ob->False)(hl:a≠X.env.locals)(hc:∀ x c,X.env.cells.lookup x=some c->c≠a)(hp:∀ p∈X.pn++pins,p.1≠a):Inv X pins σ (upd H a o) s where
 ok:=I.ok
 os:=I.os
 bare:=I.bare
 base:=by
  have u:=I.base
  exact⟨u.keep,u.slot,fun b ob e n hx=>by rw[Zf (show b≠a from fun z=>h0 ob (by rw[← z];exact e))];exact u.free b ob e n hx,u.there,fun b xs e=>by
   have:=u.tups b xs e
   rw[Zf (fun z=>by rw[z,hn] at this;cases this)];exact this,fun b ob v e=>by
   have:=u.frzs b ob v e
   rw[Zf (fun z=>by rw[z,hn] at this;cases this)];exact this,fun b ps e=>by
   obtain⟨m,this⟩:=u.tbls b ps e
   exact⟨m,by rw[Zf (fun z=>by rw[z,hn] at this;cases this)];exact this⟩⟩
 loc:=I.loc
 cell:=I.cell
 free:=by rw[Zf hl.symm];exact I.free
 freeC:=fun x c e=>by rw[Zf (hc x c e)];exact I.freeC x c e
 pin:=fun p q=>by
  obtain⟨h1,h2,h3⟩:=I.pin p q
  exact⟨h1,by rw[Zf (hp p q)];exact h2,h3⟩
 hok:=fun b ob e=>by
  by_cases z:b=a
  ·subst z
   rw[Zc] at e
   cases e
   exact ok
  ·rw[Zf z] at e
   exact (I.hok b ob e).stay (fun c u _ q=>q) (fun c q=>by rw[Zf (fun z=>by rw[z,hn] at q;cases q)];exact q) fun c xs q=>by rw[Zf (fun z=>by rw[z,hn] at q;cases q)];exact q
 len:=I.len
end
section
variable {X:Cx}{x n:Str}{i:Nat}{C D:Addr}{body:List Stmt}{b₀:Stmt}{suite:List Stmt}{np hp pos:Pos}{tb:(L2.St->XK)->TS}{ts:TS}
end
def flatE:V->Bool
 | .non | .bl _ | .int _ | .str _ | .ref _=>true
 | _=>false
def EqU (K:W.Frag)(H:Hp):Nat->V->V->Prop
 | 0,x,y=>x=y/\flatE x=true
 | n+1,x,y=>(x=y/\flatE x=true) \/ ∃ (a b:Addr) (xs ys:List V),x=.ref a/\y=.ref b/\((SqL K H a xs/\SqL K H b ys) \/ (SqT K H a xs/\SqT K H b ys))/\Paired (EqU K H n) xs ys
theorem Paired.getB {α β:Type}{R:α->β->Prop}:∀ {xs:List α} {ys:List β} {i:Nat} {x:α} {y:β},Paired R xs ys->xs[i]?=some x->ys[i]?=some y->R x y
 | _,_,_,_,_,.nil,e,_=>by simp at e
 | _,_,0,_,_,.cons q _,e,e'=>by
  simp at e e'
  subst e e'
  exact q
 | _,_,i+1,x,y,.cons _ t,e,e'=>Paired.getB (i:=i) t (by simpa using e) (by simpa using e')
section
variable {X:Cx}{pins:List (Addr × Obj)}{σ:L2.St}{H:Hp}{s:Shared}{K:W.Frag}
theorem N4 {A:Around}{x:V}{u v:Value}(h:flatE x=true)(ru:RelV x u)(rv:RelV x v):SeqAt.EqAt A s u v true:=by
 cases x with
 | non=>cases ru;cases rv;exact zu _
 | bl b=>cases ru;cases rv;exact zu _
 | int i =>
  obtain⟨t,rfl⟩:=ru
  obtain⟨t',rfl⟩:=rv
  have:=zk (A:=A) (s:=s) i t i t'
  rwa [qc] at this
 | str z =>
  obtain⟨t,rfl⟩:=ru
  obtain⟨t',rfl⟩:=rv
  have:=SeqAt.EqAt.str_str (A:=A) (s:=s) z t z t'
  rwa [qc] at this
 | ref a=>cases ru;cases rv;exact zu _
 | byt b=>cases h
 | flt b=>cases h
 | ty b=>cases h
theorem Tn (n:Nat):(List.range n).all (fun _=>true)=true:=by simp
theorem Ji (I:Inv X pins σ H s):∀ (n:Nat) (A:Around) (x y:V) (u v:Value),A.units+n<cLine->EqU X.K H n x y->RelV x u->RelV y v->SeqAt.EqAt A s u v true
 | 0,A,x,y,u,v,_,⟨e,h⟩,ru,rv=>by
  subst e
  exact N4 h ru rv
 | n+1,A,x,y,u,v,hu,h,ru,rv=>by
  rcases h with ⟨e,h⟩ | ⟨a,b,xs,ys,rfl,rfl,h,p⟩
  ·subst e
   exact N4 h ru rv
  ·cases ru
   cases rv
   by_cases hab:a=b
   ·subst hab
    exact zu _
   ·refine SeqAt.EqAt.of_refs hab ?_
    have lp:=XW p
    rcases h with ⟨h1,h2⟩ | ⟨h1,h2⟩
    ·obtain⟨i1,r1,p1,_⟩:=I.list h1
     obtain⟨i2,r2,p2,_⟩:=I.list h2
     have l1:=r1.length
     have l2:=r2.length
     have:=SeqAt.RcAt.lists (A:=A) (e:=fun _=>true) p1.isList p2.isList (by simp;omega) (by omega) fun j h1 h2=>by
      have h1':j<i1.length:=by simpa using h1
      have h2':j<i2.length:=by simpa using h2
      obtain⟨w1,e1,q1⟩:=r1.get (i:=j) (x:=xs[j]'(by omega)) (by simp)
      obtain⟨w2,e2,q2⟩:=r2.get (i:=j) (x:=ys[j]'(by omega)) (by simp)
      have g1:i1.toArray[j]=w1:=by
       have:i1[j]?=some i1[j]:=by simp[h1']
       rw[this] at e1
       simpa using YK e1
      have g2:i2.toArray[j]=w2:=by
       have:i2[j]?=some i2[j]:=by simp[h2']
       rw[this] at e2
       simpa using YK e2
      rw[g1,g2]
      exact Ji I n A.in1 _ _ _ _ (by show A.units+1+n<cLine;omega) (Paired.getB p (i:=j) (by simp) (by simp)) q1 q2
     rwa [Tn] at this
    ·obtain⟨i1,r1,p1,_⟩:=I.tuple h1
     obtain⟨i2,r2,p2,_⟩:=I.tuple h2
     have l1:=r1.length
     have l2:=r2.length
     have:=Y0t (A:=A) (e:=fun _=>true) p1 p2 (by omega) fun j h1 h2=>by
      have h1':j<i1.length:=by simpa using h1
      have h2':j<i2.length:=by simpa using h2
      obtain⟨w1,e1,q1⟩:=r1.get (i:=j) (x:=xs[j]'(by omega)) (by simp)
      obtain⟨w2,e2,q2⟩:=r2.get (i:=j) (x:=ys[j]'(by omega)) (by simp)
      have g1:i1.toArray[j]=w1:=by
       have:i1[j]?=some i1[j]:=by simp[h1']
       rw[this] at e1
       simpa using YK e1
      have g2:i2.toArray[j]=w2:=by
       have:i2[j]?=some i2[j]:=by simp[h2']
       rw[this] at e2
       simpa using YK e2
      rw[g1,g2]
      exact Ji I n A.in1 _ _ _ _ (by show A.units+1+n<cLine;omega) (Paired.getB p (i:=j) (by simp) (by simp)) q1 q2
     rw[Tn] at this
     have e:(i1.toArray.size == i2.toArray.size)=true:=by simp;omega
     rw[e] at this
     exact this
def rAlike (K:W.Frag)(ans:Bool):R2:=fun x y H Q=>∃ (n:Nat) (a b:Addr) (xs ys:List V),x=.ref a/\y=.ref b/\n<=60/\((SqL K H a xs/\SqL K H b ys) \/ (SqT K H a xs/\SqT K H b ys))/\Paired (EqU K H n) xs ys/\Q (.bl ans) H
theorem Sy (I:Inv X pins σ H s){n:Nat}{A:Around}{xs ys:List V}{i1 i2:List Value}(hu:A.units+n<cLine)(p:Paired (EqU X.K H n) xs ys)(r1:Vals xs i1)(r2:Vals ys i2)(j:Nat)(h1:j<i1.toArray.size)(h2:j<i2.toArray.size):SeqAt.EqAt A s i1.toArray[j] i2.toArray[j] true:=by
 have l1:=r1.length
 have l2:=r2.length
 have h1':j<i1.length:=by simpa using h1
 have h2':j<i2.length:=by simpa using h2
 obtain⟨w1,e1,q1⟩:=r1.get (i:=j) (x:=xs[j]'(by omega)) (by simp)
 obtain⟨w2,e2,q2⟩:=r2.get (i:=j) (x:=ys[j]'(by omega)) (by simp)
 have g1:i1.toArray[j]=w1:=by
  have:i1[j]?=some i1[j]:=by simp[h1']
  rw[this] at e1
  simpa using YK e1
 have g2:i2.toArray[j]=w2:=by
  have:i2[j]?=some i2[j]:=by simp[h2']
  rw[this] at e2
  simpa using YK e2
 rw[g1,g2]
 exact Ji I n A _ _ _ _ hu (Paired.getB p (i:=j) (by simp) (by simp)) q1 q2
theorem Z4x (hu:X.A.units+64<cLine)(hK:X.K=K:=by rfl):OpR X (compareOp .NotEq) (rAlike K false):=by
 subst hK
 intro pins s σ H x y v u Q I rx ry h
 obtain⟨n,a,b,xs,ys,rfl,rfl,hn,h,p,q⟩:=h
 cases rx
 cases ry
 have lp:=XW p
 rcases h with ⟨h1,h2⟩ | ⟨h1,h2⟩
 ·obtain⟨i1,r1,p1,_⟩:=I.list h1
  obtain⟨i2,r2,p2,_⟩:=I.list h2
  have l1:=r1.length
  have l2:=r2.length
  refine SeqAt.RcNeAt.lists (A:=X.A) (e:=fun _=>true) p1.isList p2.isList (by simp;omega) (by omega) (fun j h1 h2=>Sy I (by show X.A.units+1+n<cLine;omega) p r1 r2 j h1 h2) _ _ _ _ ?_
  rw[Tn]
  exact⟨.bl false,H,I,rfl,q⟩
 ·obtain⟨i1,r1,p1,_⟩:=I.tuple h1
  obtain⟨i2,r2,p2,_⟩:=I.tuple h2
  have l1:=r1.length
  have l2:=r2.length
  refine SeqAt.RcNeAt.tuples (A:=X.A) (e:=fun _=>true) p1 p2 (by omega) (fun j h1 h2=>Sy I (by show X.A.units+1+n<cLine;omega) p r1 r2 j h1 h2) _ _ _ _ ?_
  have e:(i1.toArray.size == i2.toArray.size)=true:=by simp;omega
  rw[Tn,e]
  exact⟨.bl false,H,I,rfl,q⟩
def rIndex (K:W.Frag):V->List V->Hp->VK->Prop:=fun x vs H Q=>∃ (l:Addr) (ns:List Int) (i:Int) (j:Nat),x=.ref l/\vs=[.int i]/\SqL K H l (ns.map V.int)/\ns[j]?=some i/\(∀ m,m<j->ns[m]?≠some i)/\ns.length<=1000/\Q (.int j) H
def eInt (i:Int):Value->Bool
 | .int a _=>a == i
 | _=>false
theorem Qk (hK:X.K=K:=by rfl):MtM X "list.index" (rIndex K):=by
 subst hK
 intro pins s σ H x vs v us Q I rx rv h
 obtain⟨l,ns,i,j,rfl,rfl,hq,hj,hno,hl,q⟩:=h
 cases rx
 obtain⟨u,rfl,ru⟩:=rv.one
 obtain⟨t,rfl⟩:=ru
 obtain⟨its,r,pl,hz⟩:=I.list hq
 obtain⟨⟨cls,dd,data,sl⟩,ho,hc,n,hd⟩:=pl.isList
 simp only at hc hd
 subst hc hd
 have lr:=r.length
 rw[YC] at lr
 have at_:∀ (m:Nat) (hm:m<its.toArray.size),∃ t',its.toArray[m]=Value.int (ns[m]'(by simp at hm;omega)) t':=fun m hm=>by
  have hm':m<its.length:=by simpa using hm
  obtain⟨w,e,q⟩:=r.get (i:=m) (x:=V.int (ns[m]'(by omega))) (by simp)
  obtain⟨t',rfl⟩:=q
  refine⟨t',?_⟩
  have:its[m]?=some its[m]:=by simp[hm']
  rw[this] at e
  simpa using YK e
 have hjn:j<ns.length:=(YH.mp hj).1
 have hjs:j<its.toArray.size:=by simp;omega
 refine jk F.slot_list_index ⟨_,ho,rfl⟩ F.entry_list_index (F.args_list_index_2 _ _) (SeqAt.list_indexAt l its.toArray n dd sl (.int i t) (eInt i) j hjs (by omega) ?_ ?_) ⟨ho,fun y hy=>?_,?_⟩
 ·obtain⟨t',e⟩:=at_ j hjs
  rw[e]
  have:ns[j]=i:=by
   have:=(YH.mp hj).2
   exact this
  show (ns[j] == i)=true
  rw[this]
  exact qc i
 ·intro m hm hmj
  obtain⟨t',e⟩:=at_ m hm
  rw[e]
  have hm':m<ns.length:=by simp at hm;omega
  show (ns[m] == i)=false
  apply beq_false_of_ne
  intro z
  exact hno m hmj (by rw[← z];simp[hm'])
 ·obtain⟨m,hm,e⟩:=Array.mem_iff_getElem.mp hy
  obtain⟨t',e'⟩:=at_ m hm
  rw[← e,e']
  exact zk _ _ _ _
 ·exact⟨.int j,H,I.tok _,⟨_,rfl⟩,q⟩
theorem Cg (hc:X.calm=true)(hK:X.K=K:=by rfl):CallR X (.builtin "min") (fun xs H Q=>∃ (p:Addr) (ns:List Int),xs=[.ref p]/\SqL K H p (ns.map V.int)/\ns≠[]/\∀ M,M∈ns->(∀ a∈ns,M<=a)->Q (.int M) H):=by
 subst hK
 intro pins s σ H xs us Q I r h
 obtain⟨p,ns,rfl,hs,hne,q⟩:=h
 obtain⟨u,e0,rx⟩:=Vt r
 cases (show u=Value.ref p from rx)
 subst e0
 obtain⟨its,rv,pl,hz⟩:=I.list hs
 have hi:IntsAre its ns:=Qu rv
 obtain⟨ys,ey⟩:=hi.allInts.items
 have hns:ns=ys.toList.map (·.1):=by
  rw[← hi.numsOf,← nums_intItems,← ey]
 have hsz:0<ys.size:=by
  have h3:0<ns.length:=List.length_pos_iff.mpr hne
  rw[hns,YC,qj] at h3
  exact h3
 have lp:s.heap.IsList p (intItems ys):=by rw[← ey];exact pl.isList
 refine Z6f (I.ok.hd hc) (fun p hp=>(I.pin p (YL _ hp)).1) lp hsz fun v h' tk hv hk=>?_
 obtain⟨t,rfl⟩:=intItems_at hv
 obtain⟨h1,h2⟩:=argBest_lt (numAt ys) (ys.size - 1)
 refine⟨.int _,H,I.kept (t':=tk) hk,⟨t,rfl⟩,q _ ?_ fun a ha=>?_⟩
 ·rw[hns,numAt_eq]
  exact getD_mem (by rw[YC,qj];omega)
 ·rw[hns] at ha
  obtain⟨j,hj,rfl⟩:=mem_getD ha
  rw[YC,qj] at hj
  rw[← numAt_eq]
  exact h2 j (by omega)
end
end Sb
namespace Sb
open PySem PySem.Builtin.SmallTypes
abbrev yH1 (h:Heap)(t:Addr):Heap:=h.push { cls:=.type "list_iterator",data:=.fields #[.ref t,.int 0 0] }
abbrev yH2 (h:Heap)(t u:Addr):Heap:=(yH1 h t).push { cls:=.type "list_iterator",data:=.fields #[.ref u,.int 0 0] }
abbrev yH3 (h:Heap)(t u:Addr):Heap:=(yH2 h t u).push { cls:=.type "tuple",data:=.seq #[.ref h.objs.size,.ref (yH1 h t).objs.size] }
abbrev yH4 (h:Heap)(t u:Addr):Heap:=(yH3 h t u).push { cls:=.type "tuple",data:=.seq #[.none,.none] }
abbrev yH5 (h:Heap)(t u:Addr):Heap:=(yH4 h t u).push { cls:=.type "zip",data:=.fields #[.none,.bool false,.bool false,.ref (yH2 h t u).objs.size,.ref (yH3 h t u).objs.size] }
theorem J5 (t u:Addr)(xs ys:Array Value):Meets (Builtin.«zip.__new__» ⟨[.type "zip",.ref t,.ref u],[]⟩) (fun _ R s=>s.heap.IsList t xs/\s.heap.IsList u ys ∧
  R (.ok (.ret (.ref (yH4 s.heap t u).objs.size))) { s with heap:=yH5 s.heap t u }) :=
 .of_wp fun prog w A R s h=>by
  obtain⟨hp,g,d,tk,os⟩:=s
  obtain⟨h1,h2,h⟩:=h
  have hsub:=sub_zip
  have T1:Heap.IsList (Shared.heap ⟨hp,g,d,tk,os⟩) t xs:=h1
  have T2:Heap.IsList (Shared.heap ⟨hp.push { cls:=.type "list_iterator",data:=.fields #[.ref t,.int 0 0] },g,d,tk,os⟩) u ys:=Heap.IsList.push h2 _
  wp_walk using GF T1,GF T2
  exact⟨_,rfl,h⟩
theorem Cf {prog:Program}{w:World}{A:Around}{E:Value->Shared->Prop}{s:Shared}{t u:Addr}{xs ys:Array Value}{Q:Value->Shared->Prop}(h1:s.heap.IsList t xs)(h2:s.heap.IsList u ys)
  (h:∀ h',IsZip h' (s.heap.objs.size+4) (s.heap.objs.size+2) (s.heap.objs.size+3) .none->IsPair h' (s.heap.objs.size+2) (.ref s.heap.objs.size) (.ref (s.heap.objs.size+1))->IsPair h' (s.heap.objs.size+3) .none .none →
   h'.IsListIter s.heap.objs.size t 0->h'.IsListIter (s.heap.objs.size+1) u 0->h'.objs.size=s.heap.objs.size+5->(∀ c o,s.heap.get? c=some o->h'.get? c=some o)->Q (.ref (s.heap.objs.size+4)) { s with heap:=h' }) :
  wpAny (model prog w) A (call (.type "zip") [.ref t,.ref u]) Q E s:=by
 refine Y0K F.called_zip (by decide) (F.typeCall_zip_2 _ _) (F.newCall_zip_2 _ _) (fun obj=>F.args_object_init_3 obj _ _) F.entry_zip_new (J5 t u xs ys) ⟨h1,h2,?_⟩
 have e1:(yH1 s.heap t).objs.size=s.heap.objs.size+1:=XM ..
 have e2:(yH2 s.heap t u).objs.size=s.heap.objs.size+2:=by rw[XM,e1]
 have e3:(yH3 s.heap t u).objs.size=s.heap.objs.size+3:=by rw[XM,e2]
 have e4:(yH4 s.heap t u).objs.size=s.heap.objs.size+4:=by rw[XM,e3]
 have e5:(yH5 s.heap t u).objs.size=s.heap.objs.size+5:=by rw[XM,e4]
 have p5:(yH5 s.heap t u).get? (yH4 s.heap t u).objs.size=some _:=YO _ rfl
 have p4:(yH5 s.heap t u).get? (yH3 s.heap t u).objs.size=some _:=YA _ (YO _ rfl)
 have p3:(yH5 s.heap t u).get? (yH2 s.heap t u).objs.size=some _:=YA _ (YA _ (YO _ rfl))
 have p2:(yH5 s.heap t u).get? (yH1 s.heap t).objs.size=some _:=YA _ (YA _ (YA _ (YO _ rfl)))
 have p1:(yH5 s.heap t u).get? s.heap.objs.size=some _:=YA _ (YA _ (YA _ (YA _ (YO _ rfl))))
 show _/\_
 rw[e2,e3,e4] at p5
 rw[e1,e2] at p3
 rw[e3] at p4
 rw[e1] at p2
 rw[e4]
 refine⟨⟨_,p5,rfl⟩,h _ p5 p3 p4 ⟨_,p1,rfl,rfl⟩ ⟨_,p2,rfl,rfl⟩ e5 fun c o x=>?_⟩
 exact YA _ (YA _ (YA _ (YA _ (YA _ x))))
theorem Li (t:Addr)(ys:Array Value)(n:Nat)(dd:Option Addr)(sl:Array (Option Value)):Meets (Builtin.«enumerate.__new__» ⟨[.type "enumerate",.ref t],[]⟩) (fun _ R s=>s.heap.get? t=some { cls:=.type "list",dict:=dd,data:=.seq ys n,slots:=sl } ∧
  R (.ok (.ret (.ref (yH1 s.heap t).objs.size))) { s with heap:=(yH1 s.heap t).push { cls:=.type "enumerate",data:=.fields #[.none,.bool false,.ref s.heap.objs.size,rawInt 0,.none,.none] } }) :=
 .of_wp fun prog w A R s h=>by
  obtain⟨hp,g,d,tk,os⟩:=s
  obtain⟨hl,h⟩:=h
  have hsub:=sub_enumerate
  have hL:Heap.IsList (Shared.heap ⟨hp,g,d,tk,os⟩) t ys:=⟨_,hl,rfl,n,rfl⟩
  wp_walk using JB hl
  refine wpAny_stack_any fun st=>YR ?_
  split
  ·rename_i c _ _ _ _ _
   cases (c == Value.type "enumerate")
   ·wp_walk using JB hl,GF hL
    exact⟨_,rfl,h⟩
   ·wp_walk using JB hl,GF hL
    exact⟨_,rfl,h⟩
  ·wp_walk using JB hl,GF hL
   exact⟨_,rfl,h⟩
theorem Jk {prog:Program}{w:World}{A:Around}{E:Value->Shared->Prop}{s:Shared}{t:Addr}{ys:Array Value}{Q:Value->Shared->Prop}(ht:s.heap.IsList t ys)
  (h:∀ h',IsEnum h' (s.heap.objs.size+1) s.heap.objs.size 0 .none->h'.IsListIter s.heap.objs.size t 0->h'.objs.size=s.heap.objs.size+2->(∀ b o,s.heap.get? b=some o->h'.get? b=some o)->Q (.ref (s.heap.objs.size+1)) { s with heap:=h' }) :
  wpAny (model prog w) A (call (.type "enumerate") [.ref t]) Q E s:=by
 obtain⟨⟨c,dd,dt,sl⟩,e,c1,n,d1⟩:=ht
 cases c1
 cases d1
 refine Y0K F.called_enumerate (by decide) (F.typeCall_enumerate_1 _) (F.newCall_enumerate_1 _) (fun obj=>F.args_object_init_2 obj _) F.entry_enumerate_new (Li t ys n dd sl) ⟨e,?_⟩
 have hz:(yH1 s.heap t).objs.size=s.heap.objs.size+1:=XM ..
 show _/\_
 rw[hz]
 have he:IsEnum ((yH1 s.heap t).push { cls:=.type "enumerate",data:=.fields #[.none,.bool false,.ref s.heap.objs.size,rawInt 0,.none,.none] }) (s.heap.objs.size+1) s.heap.objs.size 0 .none:=by
  have q:=YO (yH1 s.heap t) (o:={ cls:=.type "enumerate",data:=.fields #[.none,.bool false,.ref s.heap.objs.size,rawInt 0,.none,.none] }) rfl
  rw[hz] at q
  exact q
 exact⟨⟨_,he,rfl⟩,h _ he ⟨_,YA _ (YO _ rfl),rfl,rfl⟩ (by rw[XM,hz]) fun b o x=>YA _ (YA _ x)⟩
end Sb
namespace Sb
open PySem PySem.Spec PyProof.Rows L2
section
variable {X:Cx}{pins:List (Addr × Obj)}{σ:L2.St}{H:Hp}{s:Shared}
theorem U5 {b t:Addr}{xs:List V}(I:Inv X pins σ H s)(hf:FpOk X pins H b)(h:SqL X.K H t xs):t≠b:=by
 rintro rfl
 rcases h with (h | ⟨o,h⟩) | ⟨o,its,n,h,_⟩
 ·rw[hf.1] at h;cases h
 ·rw[hf.1] at h;cases h
 ·have e:=I.ok.mod.kin _ _ h
  rcases hf.2.2.2.1 with z | z
  ·exact I.ok.noex _ _ e z
  ·exact absurd (YW (YJ (I.ok.bs _ _ e).1) z) (XQ _)
end
def ItzL (K:W.Frag)(t u:Addr):It :=
 ⟨fun i H=>∃ xs ys,SqL K H t xs/\SqL K H u ys/\i<xs.length/\i<ys.length,
   fun i H v H'=>∃ p x y,v=.ref p/\H p=none/\H'=upd H p (.tup [x,y])/\(∀ xs,SqL K H t xs->xs[i]?=some x)/\∀ ys,SqL K H u ys->ys[i]?=some y,
   fun i H=>∃ xs ys,SqL K H t xs/\SqL K H u ys/\i=xs.length⟩
theorem Fp {P:Program}{w:World}{K:W.Frag}{es:List Expr}{kk:Nat}{tp:Pos}{z TI TO i1 i2:Addr}(O:ZOff z TI TO i1 i2)(t u:Addr) :
  Turn P w K (.Tuple es kk tp) (ItzL K t u) [z,TI,TO,i1,i2] z (fun i h=>IsZip h z TI TO .none/\IsPair h TI (.ref i1) (.ref i2)/\(∃ a b,IsPair h TO a b)/\h.IsListIter i1 t i/\h.IsListIter i2 u i) where
 mem:=by simp
 obj:=fun i h ⟨hz,hTI,⟨a,b,hTO⟩,⟨o1,e1,_,d1⟩,⟨o2,e2,_,d2⟩⟩ b hb=>by
  simp only [YS,XI,GP] at hb
  rcases hb with rfl | rfl | rfl | rfl | rfl
  ·exact⟨_,hz,fun v q=>by have q':Data.fields _=Data.cell v:=q;cases q'⟩
  ·exact⟨_,hTI,fun v q=>by have q':Data.seq _ _=Data.cell v:=q;cases q'⟩
  ·exact⟨_,hTO,fun v q=>by have q':Data.seq _ _=Data.cell v:=q;cases q'⟩
  ·exact⟨_,e1,fun v q=>by rw[d1] at q;cases q⟩
  ·exact⟨_,e2,fun v q=>by rw[d2] at q;cases q⟩
 keep:=fun i h h' ⟨hz,hTI,⟨a,b,hTO⟩,⟨o1,e1,r1⟩,⟨o2,e2,r2⟩⟩ k=>⟨k z (by simp) _ hz,k TI (by simp) _ hTI,⟨a,b,k TO (by simp) _ hTO⟩,⟨o1,k i1 (by simp) _ e1,r1⟩,⟨o2,k i2 (by simp) _ e2,r2⟩⟩
 item:=by
  intro X hP hw hK hc i pins s σ H E I hf st hg
  subst hP hw hK
  obtain⟨xs,ys,hx,hy,lx,ly⟩:=hg
  obtain⟨hz,hTI,⟨a,b,hTO⟩,c1,c2⟩:=st
  obtain⟨u1,v1,p1',_⟩:=I.list hx
  have p1:=p1'.isList
  obtain⟨u2,v2,p2',_⟩:=I.list hy
  have p2:=p2'.isList
  have n1:=v1.length
  have n2:=v2.length
  have ne:∀ b∈[z,TI,TO,i1,i2],t≠b/\u≠b:=fun b hb=>⟨U5 I (hf b hb) hx,U5 I (hf b hb) hy⟩
  have off:∀ b∈[z,TI,TO,i1,i2],∀ x,(b,x) ∉ X.pn:=fun b hb x m=>(hf b hb).2.2.2.2.2 _ (YL _ m) rfl
  have qI:∀ p∈X.pn,s.heap.get? p.1=some p.2:=fun p hp=>(I.pin p (YL _ hp)).1
  have qO:∀ b∈[z,TI,TO,i1,i2],∀ p∈X.pn,p.1≠b:=fun b hb p hp=>(hf b hb).2.2.2.2.2 p (YL _ hp)
  have D:Off z TI TO i1 i2 (i1::t::X.pn.map Prod.fst) (i2::u::X.pn.map Prod.fst):=⟨O.a1,O.a2,O.a3,O.a4,O.a5,O.a6,O.a7,O.a8,O.a9,O.b1,
   by simp[O.a3.symm,(ne z (by simp)).1.symm,off z (by simp)],by simp[O.a8,(ne TO (by simp)).1.symm,off TO (by simp)],by simp[O.b1.symm,(ne i2 (by simp)).1.symm,off i2 (by simp)],
   by simp[O.a4.symm,(ne z (by simp)).2.symm,off z (by simp)],by simp[O.a9,(ne TO (by simp)).2.symm,off TO (by simp)],by simp[O.b1,(ne i1 (by simp)).2.symm,off i1 (by simp)]⟩
  have D1:=Sb.Draws.listQ (prog:=X.prog) (w:=X.w) (A:=X.A.in1) (I.ok.hd hc) i1 t (ne i1 (by simp)).1 (qO i1 (by simp)) u1.toArray
  have D2:=Sb.Draws.listQ (prog:=X.prog) (w:=X.w) (A:=X.A.in1) (I.ok.hd hc) i2 u (ne i2 (by simp)).2 (qO i2 (by simp)) u2.toArray
  refine So D D1 D2 hz hTI hTO ⟨c1,p1,qI⟩ ⟨c2,p2,qI⟩ (by simp;omega) (by simp;omega) fun x y g tk px py z' to' s1 s2 pr sz kp=>?_
  refine⟨_,rfl,Y0m z' fun g2 z2 sb=>?_⟩
  obtain⟨x0,ex⟩:∃ x0,xs[i]?=some x0:=⟨xs[i],by simp[lx]⟩
  obtain⟨y0,ey⟩:∃ y0,ys[i]?=some y0:=⟨ys[i],by simp[ly]⟩
  obtain⟨x1,ex1,rx⟩:=v1.get ex
  obtain⟨y1,ey1,ry⟩:=v2.get ey
  have qx:x1=x:=by
   have:u1.toArray[i]?=some x:=px
   rw[GW,ex1] at this
   exact YK this
  have qy:y1=y:=by
   have:u2.toArray[i]?=some y:=py
   rw[GW,ey1] at this
   exact YK this
  subst qx qy
  have zlt:z<s.heap.objs.size:=YJ hz
  have pz:s.heap.objs.size≠z:=qo zlt
  have sb2:∀ b,b≠z->g2.get? b=g.get? b:=fun b hb=>sb.2 b hb
  have keep:∀ b o,b ∉ [z,TI,TO,i1,i2]->s.heap.get? b=some o->g2.get? b=some o:=fun b o hb e=>by
   simp only [YS,XI,GP,Y14] at hb
   rw[sb2 b hb.1]
   exact kp b o hb.1 hb.2.2.1 hb.2.2.2.1 hb.2.2.2.2 e
  have new:ObjOk X.prog X.w (upd H s.heap.objs.size (.tup [x0,y0])) g2 s.heap.objs.size (.tup [x0,y0]) :=
   ⟨by show 2<=sizeLine;decide,[x1,y1],.cons rx (.cons ry .nil),⟨_,by rw[sb2 _ pz];exact pr,rfl,0,rfl⟩⟩
  have I2:=Wb (t':=tk) I hf keep (YE _) new
  have nn:∀ b∈[z,TI,TO,i1,i2],upd H s.heap.objs.size (.tup [x0,y0]) b=none:=fun b hb=>by
   have:b≠s.heap.objs.size:=by
    have ob:∃ o,s.heap.get? b=some o:=by
     simp only [YS,XI,GP] at hb
     obtain⟨o1,e1,_⟩:=c1
     obtain⟨o2,e2,_⟩:=c2
     rcases hb with rfl | rfl | rfl | rfl | rfl
     ·exact⟨_,hz⟩
     ·exact⟨_,hTI⟩
     ·exact⟨_,hTO⟩
     ·exact⟨_,e1⟩
     ·exact⟨_,e2⟩
    obtain⟨o,e⟩:=ob
    exact XA (YJ e)
   rw[Zf this]
   exact (hf b hb).1
  refine⟨.ref s.heap.objs.size,_,I2,rfl,⟨_,x0,y0,rfl,I.fresh,rfl,fun xs' h1=>by rw[I.list_inj h1 hx];exact ex,fun ys' h2=>by rw[I.list_inj h2 hy];exact ey⟩,⟨z2,?_,⟨x1,y1,?_⟩,?_,?_⟩,nn⟩
  ·exact (sb2 TI O.a1).trans (kp _ _ O.a1 O.a5 O.a6 O.a7 hTI)
  ·exact (sb2 TO O.a2).trans to'
  ·exact s1.1.extBut sb.extBut O.a3
  ·exact s2.1.extBut sb.extBut O.a4
 done:=by
  intro X hP hw hK hc i pins s σ H E I hf st hg
  subst hP hw hK
  obtain⟨xs,ys,hx,hy,rfl⟩:=hg
  obtain⟨hz,hTI,⟨a,b,hTO⟩,c1,c2⟩:=st
  obtain⟨u1,v1,p1',_⟩:=I.list hx
  have p1:=p1'.isList
  have n1:=v1.length
  have ne:∀ b∈[z,TI,TO,i1,i2],t≠b/\u≠b:=fun b hb=>⟨U5 I (hf b hb) hx,U5 I (hf b hb) hy⟩
  have off:∀ b∈[z,TI,TO,i1,i2],∀ x,(b,x) ∉ X.pn:=fun b hb x m=>(hf b hb).2.2.2.2.2 _ (YL _ m) rfl
  have qI:∀ p∈X.pn,s.heap.get? p.1=some p.2:=fun p hp=>(I.pin p (YL _ hp)).1
  have qO:∀ b∈[z,TI,TO,i1,i2],∀ p∈X.pn,p.1≠b:=fun b hb p hp=>(hf b hb).2.2.2.2.2 p (YL _ hp)
  have D:Off z TI TO i1 i2 (i1::t::X.pn.map Prod.fst) (i2::u::X.pn.map Prod.fst):=⟨O.a1,O.a2,O.a3,O.a4,O.a5,O.a6,O.a7,O.a8,O.a9,O.b1,
   by simp[O.a3.symm,(ne z (by simp)).1.symm,off z (by simp)],by simp[O.a8,(ne TO (by simp)).1.symm,off TO (by simp)],by simp[O.b1.symm,(ne i2 (by simp)).1.symm,off i2 (by simp)],
   by simp[O.a4.symm,(ne z (by simp)).2.symm,off z (by simp)],by simp[O.a9,(ne TO (by simp)).2.symm,off TO (by simp)],by simp[O.b1,(ne i1 (by simp)).2.symm,off i1 (by simp)]⟩
  have D1:=Sb.Draws.listQ (prog:=X.prog) (w:=X.w) (A:=X.A.in1) (I.ok.hd hc) i1 t (ne i1 (by simp)).1 (qO i1 (by simp)) u1.toArray
  have c1':s.heap.IsListIter i1 t u1.toArray.size:=by
   rw[YQ,← n1]
   exact c1
  refine Vp D D1 hz hTI ⟨c1',p1,qI⟩ fun g kp=>⟨rfl,?_⟩
  exact U7 (t':=s.toks) I hf fun b o hb e=>by
   simp only [YS,XI,GP,Y14] at hb
   exact kp b o hb.1 hb.2.2.2.1 e
 self:=fun _ _ _ _ _ st h=>jp st.1 h
section
variable {X:Cx}
def iZipL (K:W.Frag)(ta:TA):TI:=fun σ H R=>ta σ H fun vs H1=>∃ t u,vs=[.ref t,.ref u]/\(∃ xs,SqL K H1 t xs)/\(∃ ys,SqL K H1 u ys)/\R (ItzL K t u) H1
theorem Nl {a b:Expr}{ta:TA}{p pos:Pos}{es:List Expr}{kk:Nat}{tp:Pos}(hg:Gl X "zip")(hm:X.mg "zip"=none)(ha:PA X [a,b] ta)(hs:starEach [a,b] X.env=[(false,eval a X.env),(false,eval b X.env)]:=by rfl)
  (hs2:starEach [b] X.env=[(false,eval b X.env)]:=by rfl):PI X (.Tuple es kk tp) (.Call (.Name "zip" p) [a,b] [] pos) (iZipL X.K ta):=by
 intro pins s σ H R I h
 refine Call_ (W5 I hg hm boot_zip (XS (thn (ha pos pins s σ H _ I h) fun us s1 ⟨vs,H1,I1,r1,q1⟩=>?_) (by rw[hs,hs2]) (by rw[hs2];rfl)))
 obtain⟨t,u,e,⟨xs,hx⟩,⟨ys,hy⟩,q⟩:=q1
 subst e
 obtain⟨t0,u0,e0,rt,ru⟩:=Mg r1
 cases (show t0=Value.ref t from rt)
 cases (show u0=Value.ref u from ru)
 subst e0
 obtain⟨u1,v1,p1',_⟩:=I1.list hx
 have p1:=p1'.isList
 obtain⟨u2,v2,p2',_⟩:=I1.list hy
 have p2:=p2'.isList
 refine Cf (xs:=u1.toArray) (ys:=u2.toArray) p1 p2 fun g z0 ti to i1 i2 sz kp=>?_
 refine jp z0 ?_
 have I2:Inv X pins σ H1 { s1 with heap:=g }:=I1.kept (t':=s1.toks) kp
 refine⟨s1.heap.objs.size+4,[s1.heap.objs.size+4,s1.heap.objs.size+2,s1.heap.objs.size+3,s1.heap.objs.size,s1.heap.objs.size+1],_,ItzL X.K t u,H1,rfl,I2,Fp (O:=?_) t u,⟨z0,ti,⟨_,_,to⟩,i1,i2⟩,fun b hb=>?_,q⟩
 ·refine⟨?_,?_,?_,?_,?_,?_,?_,?_,?_,?_⟩ <;> (show @Ne Nat _ _;omega)
 ·have hb':s1.heap.objs.size<=b:=by
   simp only [YS,XI,GP] at hb
   rcases hb with rfl | rfl | rfl | rfl | rfl
   ·exact GD _ _
   ·exact GD _ _
   ·exact GD _ _
   ·exact YE _
   ·exact GD _ _
  exact I1.fpOk hb' (I1.hok.fresh hb')
end
def IteL (K:W.Frag)(t:Addr):It :=
 ⟨fun i H=>∃ xs,SqL K H t xs/\i<xs.length,
   fun i H v H'=>∃ p x,v=.ref p/\H p=none/\H'=upd H p (.tup [.int (i:Int),x])/\∀ xs,SqL K H t xs->xs[i]?=some x,
   fun i H=>∃ xs,SqL K H t xs/\i=xs.length⟩
theorem Kb {P:Program}{w:World}{K:W.Frag}{es:List Expr}{kk:Nat}{tp:Pos}{e it:Addr}(O:e≠it)(t:Addr) :
  Turn P w K (.Tuple es kk tp) (IteL K t) [e,it] e (fun i h=>(∃ old,IsEnum h e it (i:Int) old)/\h.IsListIter it t i) where
 mem:=by simp
 obj:=fun i h ⟨⟨old,he⟩,⟨o1,e1,_,d1⟩⟩ b hb=>by
  simp only [YS,XI,GP] at hb
  rcases hb with rfl | rfl
  ·exact⟨_,he,fun v q=>by have q':Data.fields _=Data.cell v:=q;cases q'⟩
  ·exact⟨_,e1,fun v q=>by rw[d1] at q;cases q⟩
 keep:=fun i h h' ⟨⟨old,he⟩,⟨o1,e1,r1⟩⟩ k=>⟨⟨old,k e (by simp) _ he⟩,⟨o1,k it (by simp) _ e1,r1⟩⟩
 item:=by
  intro X hP hw hK hc i pins s σ H E I hf st hg
  subst hP hw hK
  obtain⟨xs,hx,lx⟩:=hg
  obtain⟨⟨old,he⟩,c1⟩:=st
  obtain⟨u1,v1,p1',_⟩:=I.list hx
  have p1:=p1'.isList
  have n1:=v1.length
  have ne:∀ b∈[e,it],t≠b:=fun b hb=>U5 I (hf b hb) hx
  have off:∀ b∈[e,it],∀ x,(b,x) ∉ X.pn:=fun b hb x m=>(hf b hb).2.2.2.2.2 _ (YL _ m) rfl
  have qI:∀ p∈X.pn,s.heap.get? p.1=some p.2:=fun p hp=>(I.pin p (YL _ hp)).1
  have qO:∀ b∈[e,it],∀ p∈X.pn,p.1≠b:=fun b hb p hp=>(hf b hb).2.2.2.2.2 p (YL _ hp)
  have D1:=Sb.Draws.listQ (prog:=X.prog) (w:=X.w) (A:=X.A.in1) (I.ok.hd hc) it t (ne it (by simp)) (qO it (by simp)) u1.toArray
  refine wpAny_pyNext_enum_itemD D1 he ⟨c1,p1,qI⟩ (by simp;omega) O (by simp[O,(ne e (by simp)).symm,off e (by simp)]) fun x g tk px out s1 pr sz kp=>?_
  refine⟨_,rfl,Y0i out fun g2 z2 sb=>?_⟩
  obtain⟨x0,ex⟩:∃ x0,xs[i]?=some x0:=⟨xs[i],by simp[lx]⟩
  obtain⟨x1,ex1,rx⟩:=v1.get ex
  have qx:x1=x:=by
   have:u1.toArray[i]?=some x:=px
   rw[GW,ex1] at this
   exact YK this
  subst qx
  have elt:e<s.heap.objs.size:=YJ he
  have pe:s.heap.objs.size≠e:=qo elt
  have sb2:∀ b,b≠e->g2.get? b=g.get? b:=fun b hb=>sb.2 b hb
  have keep:∀ b o,b ∉ [e,it]->s.heap.get? b=some o->g2.get? b=some o:=fun b o hb q=>by
   simp only [YS,XI,GP,Y14] at hb
   rw[sb2 b hb.1]
   exact kp b o hb.1 hb.2 q
  have new:ObjOk X.prog X.w (upd H s.heap.objs.size (.tup [.int (i:Int),x0])) g2 s.heap.objs.size (.tup [.int (i:Int),x0]) :=
   ⟨by show 2<=sizeLine;decide,[.int (i:Int) tk,x1],.cons ⟨tk,rfl⟩ (.cons rx .nil),⟨_,by rw[sb2 _ pe];exact pr,rfl,0,rfl⟩⟩
  have I2:=Wb (t':=tk+1) I hf keep (YE _) new
  have nn:∀ b∈[e,it],upd H s.heap.objs.size (.tup [.int (i:Int),x0]) b=none:=fun b hb=>by
   have:b≠s.heap.objs.size:=by
    have ob:∃ o,s.heap.get? b=some o:=by
     simp only [YS,XI,GP] at hb
     obtain⟨o1,e1,_⟩:=c1
     rcases hb with rfl | rfl
     ·exact⟨_,he⟩
     ·exact⟨_,e1⟩
    obtain⟨o,q⟩:=ob
    exact XA (YJ q)
   rw[Zf this]
   exact (hf b hb).1
  refine⟨.ref s.heap.objs.size,_,I2,rfl,⟨_,x0,rfl,I.fresh,rfl,fun xs' h1=>by rw[I.list_inj h1 hx];exact ex⟩,⟨⟨x1,?_⟩,?_⟩,nn⟩
  ·exact z2
  ·exact s1.1.extBut sb.extBut O.symm
 done:=by
  intro X hP hw hK hc i pins s σ H E I hf st hg
  subst hP hw hK
  obtain⟨xs,hx,rfl⟩:=hg
  obtain⟨⟨old,he⟩,c1⟩:=st
  obtain⟨u1,v1,p1',_⟩:=I.list hx
  have p1:=p1'.isList
  have n1:=v1.length
  have ne:∀ b∈[e,it],t≠b:=fun b hb=>U5 I (hf b hb) hx
  have off:∀ b∈[e,it],∀ x,(b,x) ∉ X.pn:=fun b hb x m=>(hf b hb).2.2.2.2.2 _ (YL _ m) rfl
  have qI:∀ p∈X.pn,s.heap.get? p.1=some p.2:=fun p hp=>(I.pin p (YL _ hp)).1
  have qO:∀ b∈[e,it],∀ p∈X.pn,p.1≠b:=fun b hb p hp=>(hf b hb).2.2.2.2.2 p (YL _ hp)
  have D1:=Sb.Draws.listQ (prog:=X.prog) (w:=X.w) (A:=X.A.in1) (I.ok.hd hc) it t (ne it (by simp)) (qO it (by simp)) u1.toArray
  have c1':s.heap.IsListIter it t u1.toArray.size:=by
   rw[YQ,← n1]
   exact c1
  refine wpAny_pyNext_enum_endD D1 he ⟨c1',p1,qI⟩ fun g kp=>⟨rfl,?_⟩
  exact U7 (t':=s.toks) I hf fun b o hb q=>by
   simp only [YS,XI,GP,Y14] at hb
   exact kp b o hb.2 q
 self:=fun _ _ _ _ _ st h=>by
  obtain⟨⟨old,he⟩,_⟩:=st
  exact jb he h
section
variable {X:Cx}
def iEnumL (K:W.Frag)(ta:TA):TI:=fun σ H R=>ta σ H fun vs H1=>∃ t,vs=[.ref t]/\(∃ xs,SqL K H1 t xs)/\R (IteL K t) H1
theorem Qc {a:Expr}{ta:TA}{p pos:Pos}{es:List Expr}{kk:Nat}{tp:Pos}(hg:Gl X "enumerate")(hm:X.mg "enumerate"=none)(ha:PA X [a] ta)(hs:starEach [a] X.env=[(false,eval a X.env)]:=by rfl) :
  PI X (.Tuple es kk tp) (.Call (.Name "enumerate" p) [a] [] pos) (iEnumL X.K ta):=by
 intro pins s σ H R I h
 refine Call_ (W5 I hg hm boot_enumerate (XS (thn (ha pos pins s σ H _ I h) fun us s1 ⟨vs,H1,I1,r1,q1⟩=>?_) hs rfl))
 obtain⟨t,e,⟨xs,hx⟩,q⟩:=q1
 subst e
 obtain⟨t0,e0,rt⟩:=Vt r1
 cases (show t0=Value.ref t from rt)
 subst e0
 obtain⟨u1,v1,p1',_⟩:=I1.list hx
 have p1:=p1'.isList
 refine Jk (ys:=u1.toArray) p1 fun g z0 i1 sz kp=>?_
 refine jb z0 ?_
 have I2:Inv X pins σ H1 { s1 with heap:=g }:=I1.kept (t':=s1.toks) kp
 refine⟨s1.heap.objs.size+1,[s1.heap.objs.size+1,s1.heap.objs.size],_,IteL X.K t,H1,rfl,I2,Kb (O:=?_) t,⟨⟨_,z0⟩,i1⟩,fun b hb=>?_,q⟩
 ·show @Ne Nat _ _
  omega
 ·have hb':s1.heap.objs.size<=b:=by
   simp only [YS,XI,GP] at hb
   rcases hb with rfl | rfl
   ·exact GD _ _
   ·exact YE _
  exact I1.fpOk hb' (I1.hok.fresh hb')
end
end Sb
namespace Sv
def sm:Nat->(Nat->Int)->Int
 | 0,_=>0
 | n+1,f=>sm n f+f n
theorem Y1 {n:Nat}{f g:Nat->Int}(h:∀ i,i<n->f i=g i):sm n f=sm n g:=by
 induction n with
 | zero=>rfl
 | succ n ih =>
  show sm n f+f n=sm n g+g n
  rw[ih fun i hi=>h i (by omega),h n (by omega)]
theorem Xr (n:Nat)(f g:Nat->Int):sm n (fun i=>f i+g i)=sm n f+sm n g:=by
 induction n with
 | zero=>rfl
 | succ n ih=>show sm n _+(f n+g n)=(sm n f+f n)+(sm n g+g n);rw[ih];omega
theorem Yt (a:Int)(n:Nat)(f:Nat->Int):sm n (fun i=>a*f i)=a*sm n f:=by
 induction n with
 | zero=>show (0:Int)=a*0;simp
 | succ n ih=>show sm n _+_=a*(sm n f+f n);rw[ih,Y1b]
theorem sm_zero {n:Nat}{f:Nat->Int}(h:∀ i,i<n->f i=0):sm n f=0:=by
 induction n with
 | zero=>rfl
 | succ n ih=>show sm n f+f n=0;rw[ih fun i hi=>h i (by omega),h n (by omega)];rfl
theorem Zz {n k:Nat}{f:Nat->Int}(hk:k<n):sm n f=f k+sm n (fun i=>if i=k then 0 else f i):=by
 induction n with
 | zero=>omega
 | succ n ih =>
  show sm n f+f n=f k+(sm n (fun i=>if i=k then 0 else f i)+if n=k then 0 else f n)
  by_cases e:n=k
  ·subst e
   rw[YM rfl,Y1 (f:=fun i=>if i=n then 0 else f i) (g:=f) fun i hi=>YG (by omega)]
   omega
  ·rw[YG e,ih (by omega)]
   omega
theorem sm_one {n k:Nat}{f:Nat->Int}(hk:k<n)(h:∀ i,i<n->i≠k->f i=0):sm n f=f k:=by
 rw[Zz hk,sm_zero fun i hi=>?_]
 ·omega
 ·by_cases e:i=k
  ·rw[YM e]
  ·rw[YG e];exact h i hi e
theorem Cu {n p q:Nat}{f:Nat->Int}(hp:p<n)(hq:q<n)(hpq:p≠q)(h:∀ i,i<n->i≠p->i≠q->f i=0):sm n f=f p+f q:=by
 rw[Zz hp,sm_one (k:=q) hq fun i hi hne=>?_]
 ·rw[YG (XO hpq)]
 ·by_cases e:i=p
  ·rw[YM e]
  ·rw[YG e];exact h i hi e hne
theorem Y0 {n:Nat}{f:Nat->Int}(h:∀ i,i<n->0<=f i):0<=sm n f:=by
 induction n with
 | zero=>exact Y1c _
 | succ n ih =>
  show 0<=sm n f+f n
  have:=ih fun i hi=>h i (by omega)
  have:=h n (by omega)
  omega
theorem Vu {n:Nat}{f g:Nat->Int}(h:∀ i,i<n->f i<=g i):sm n f<=sm n g:=by
 induction n with
 | zero=>exact Y1c _
 | succ n ih =>
  show sm n f+f n<=sm n g+g n
  have:=ih fun i hi=>h i (by omega)
  have:=h n (by omega)
  omega
theorem Kg {n:Nat}{f:Nat->Int}(h:0<sm n f):∃ i,i<n/\0<f i:=by
 apply YU
 intro hn
 have:sm n f<=sm n (fun _=>0):=Vu fun i hi=>by
  have:¬ 0<f i:=fun z=>hn ⟨i,hi,z⟩
  omega
 rw[sm_zero (f:=fun _=>0) fun _ _=>rfl] at this
 omega
theorem Kh (n m:Nat)(f:Nat->Int):sm (n+m) f=sm n f+sm m (fun i=>f (n+i)):=by
 induction m with
 | zero=>show sm n f=sm n f+0;omega
 | succ m ih =>
  show sm (n+m) f+f (n+m)=sm n f+(sm m (fun i=>f (n+i))+f (n+m))
  rw[ih]
  omega
abbrev Vec:=Nat->Int
abbrev Mat:=Nat->Vec
def skip (k i:Nat):Nat:=if i<k then i else i+1
def sgn:Nat->Int
 | 0=>1
 | n+1=>- sgn n
def minor (v:Mat)(k:Nat):Mat:=fun i r=>v (skip k i) (r+1)
def det:Nat->Mat->Int
 | 0,_=>1
 | m+1,v=>sm (m+1) (fun k=>sgn k*v k 0*det m (minor v k))
def put (v:Mat)(c:Nat)(x:Vec):Mat:=fun i=>if i=c then x else v i
theorem Yf (v:Mat)(c:Nat)(x:Vec):put v c x c=x:=YM rfl
theorem Ya {v:Mat}{c i:Nat}{x:Vec}(h:i≠c):put v c x i=v i:=YG h
theorem Vz (v:Mat)(c:Nat):put v c (v c)=v:=by
 funext i
 by_cases e:i=c
 ·subst e;exact Yf ..
 ·exact Ya e
theorem Xv {v:Mat}{c d:Nat}{x y:Vec}(h:c≠d):put (put v c x) d y=put (put v d y) c x:=by
 funext i
 by_cases e:i=c
 ·subst e;rw[Ya h,Yf,Yf]
 ·by_cases e':i=d
  ·subst e';rw[Yf,Ya e,Yf]
  ·rw[Ya e',Ya e,Ya e,Ya e']
theorem Xh:∀ {m:Nat} {v w:Mat},(∀ k r,k<m->r<m->v k r=w k r)->det m v=det m w
 | 0,_,_,_=>rfl
 | m+1,v,w,h=>by
  refine Y1 fun k hk=>?_
  rw[h k 0 hk (by omega),Xh (m:=m) (v:=minor v k) (w:=minor w k) fun i r hi hr=>?_]
  exact h _ _ (by unfold skip;split <;> omega) (by omega)
def unskip (k c:Nat):Nat:=if c<k then c else c - 1
theorem Up (v:Mat)(c:Nat)(z:Vec):minor (put v c z) c=minor v c:=by
 funext i r
 show put v c z (skip c i) (r+1)=v (skip c i) (r+1)
 rw[Ya (by unfold skip;split <;> omega)]
theorem Tx {v:Mat}{k c:Nat}{z:Vec}(h:k≠c):minor (put v c z) k=put (minor v k) (unskip k c) (fun r=>z (r+1)):=by
 funext i r
 show put v c z (skip k i) (r+1)=_
 by_cases e:skip k i=c
 ·have e':i=unskip k c:=by
   unfold skip at e
   unfold unskip
   split at e <;> split <;> omega
  rw[e,e',Yf,Yf]
 ·have e':i≠unskip k c:=by
   unfold skip at e
   unfold unskip
   split at e <;> split <;> omega
  rw[Ya e,Ya e']
  rfl
theorem Tm:∀ {m:Nat} {v:Mat} {c:Nat} {a b:Int} {x y:Vec},c<m->det m (put v c (fun r=>a*x r+b*y r))=a*det m (put v c x)+b*det m (put v c y)
 | 0,_,_,_,_,_,_,h=>by omega
 | m+1,v,c,a,b,x,y,h=>by
  show sm (m+1) _=a*sm (m+1) _+b*sm (m+1) _
  rw[← Yt,← Yt,← Xr]
  refine Y1 fun k hk=>?_
  by_cases e:k=c
  ·subst e
   rw[Up,Up,Up,Yf,Yf,Yf]
   grind
  ·rw[Tx e,Tx e,Tx e,Ya e,Ya e,Ya e]
   have:=Tm (m:=m) (v:=minor v k) (c:=unskip k c) (a:=a) (b:=b) (x:=fun r=>x (r+1)) (y:=fun r=>y (r+1)) (by unfold unskip;split <;> omega)
   rw[this]
   grind
theorem K0 {m:Nat}{v:Mat}{c:Nat}(h:c<m):det m (put v c (fun _=>0))=0:=by
 have:=Tm (m:=m) (v:=v) (c:=c) (a:=0) (b:=0) (x:=fun _=>0) (y:=fun _=>0) h
 simpa using this
theorem Tl {m:Nat}{v:Mat}{c:Nat}(h:c<m)(a:Nat->Int)(u:Nat->Vec):∀ n,det m (put v c (fun r=>sm n (fun k=>a k*u k r)))=sm n (fun k=>a k*det m (put v c (u k)))
 | 0=>K0 h
 | n+1=>by
  have:=Tm (m:=m) (v:=v) (c:=c) (a:=1) (b:=a n) (x:=fun r=>sm n (fun k=>a k*u k r)) (y:=u n) h
  show _=sm n (fun k=>a k*det m (put v c (u k)))+a n*det m (put v c (u n))
  rw[← Tl h a u n]
  rw[GU] at this
  rw[← this]
  congr 2
  funext r
  show sm n _+_=_
  rw[GU]
theorem K1 {m:Nat}{v:Mat}{c:Nat}(h:c<m)(a:Int)(x:Vec):det m (put v c (fun r=>a*x r))=a*det m (put v c x):=by
 have:=Tm (m:=m) (v:=v) (c:=c) (a:=a) (b:=0) (x:=x) (y:=x) h
 simpa using this
theorem M8 {m:Nat}{v:Mat}{c:Nat}(h:c<m)(x y:Vec):det m (put v c (fun r=>x r+y r))=det m (put v c x)+det m (put v c y):=by
 have:=Tm (m:=m) (v:=v) (c:=c) (a:=1) (b:=1) (x:=x) (y:=y) h
 simpa using this
theorem Rk:∀ {m:Nat} {v:Mat} {p:Nat},p+1<m->v p=v (p+1)->det m v=0
 | 0,_,_,h,_=>by omega
 | m+1,v,p,h,e=>by
  show sm (m+1) _=0
  rw[Cu (p:=p) (q:=p+1) (by omega) h (by omega) fun k hk h1 h2=>?_]
  ·have e2:minor v p=minor v (p+1):=by
    funext i r
    show v (skip p i) (r+1)=v (skip (p+1) i) (r+1)
    by_cases q:i=p
    ·have a1:skip p i=p+1:=by unfold skip;split <;> omega
     have a2:skip (p+1) i=p:=by unfold skip;split <;> omega
     rw[a1,a2,e]
    ·have a1:skip p i=skip (p+1) i:=by unfold skip;split <;> split <;> omega
     rw[a1]
   rw[e2,e]
   show sgn p*_*_ + -sgn p*_*_=0
   grind
  ·have:det m (minor v k)=0:=by
    by_cases q:k<p
    ·refine Rk (p:=p - 1) (by omega) ?_
     funext r
     show v (skip k (p - 1)) (r+1)=v (skip k (p - 1+1)) (r+1)
     have a1:skip k (p - 1)=p:=by unfold skip;split <;> omega
     have a2:skip k (p - 1+1)=p+1:=by unfold skip;split <;> omega
     rw[a1,a2,e]
    ·refine Rk (p:=p) (by omega) ?_
     funext r
     show v (skip k p) (r+1)=v (skip k (p+1)) (r+1)
     have a1:skip k p=p:=by unfold skip;split <;> omega
     have a2:skip k (p+1)=p+1:=by unfold skip;split <;> omega
     rw[a1,a2,e]
   rw[this,GQ]
theorem K2 {m:Nat}{v:Mat}{p q:Nat}(hp:p<m)(hq:q<m)(hpq:p≠q)(h0:∀ z:Vec,det m (put (put v p z) q z)=0)(x y:Vec):det m (put (put v p x) q y)=- det m (put (put v p y) q x):=by
 have e:=h0 (fun r=>x r+y r)
 rw[M8 hq,Xv hpq,M8 hp,Xv (c:=p) hpq,M8 hp] at e
 rw[Xv (XO hpq),Xv (XO hpq),Xv (XO hpq),Xv (XO hpq),h0 x,h0 y] at e
 omega
theorem M6:∀ (d:Nat) {m:Nat} {v:Mat} {p q:Nat},q=p+1+d->q<m->v p=v q->det m v=0
 | 0,m,v,p,q,h,hq,e=>Rk (p:=p) (by omega) (by rw[e,h])
 | d+1,m,v,p,q,h,hq,e=>by
  have hz:∀ z:Vec,det m (put (put v (q - 1) z) q z)=0:=fun z=>by
   refine Rk (p:=q - 1) (by omega) ?_
   have a:q - 1+1=q:=by omega
   rw[a,Yf,Ya (by omega),Yf]
  have s:=K2 (m:=m) (v:=v) (p:=q - 1) (q:=q) (by omega) hq (by omega) hz (v (q - 1)) (v q)
  rw[Vz,Vz] at s
  have:det m (put (put v (q - 1) (v q)) q (v (q - 1)))=0:=by
   refine M6 d (p:=p) (q:=q - 1) (by omega) (by omega) ?_
   rw[Ya (by omega),Ya (by omega),Ya (by omega),Yf,e]
  rw[s,this]
  rfl
theorem P9 {m:Nat}{v:Mat}{p q:Nat}(hp:p<m)(hq:q<m)(hpq:p≠q)(e:v p=v q):det m v=0:=by
 by_cases h:p<q
 ·exact M6 (q - p - 1) (p:=p) (q:=q) (by omega) hq e
 ·exact M6 (p - q - 1) (p:=q) (q:=p) (by omega) hp e.symm
theorem Z1r {m:Nat}{v:Mat}{p q:Nat}(hp:p<m)(hq:q<m)(hpq:p≠q)(x y:Vec):det m (put (put v p x) q y)=- det m (put (put v p y) q x) :=
 K2 hp hq hpq (fun z=>P9 hp hq hpq (by rw[Ya hpq,Yf,Yf])) x y
def idm:Mat:=fun k r=>if k=r then 1 else 0
theorem Z1t:∀ m:Nat,det m idm=1
 | 0=>rfl
 | m+1=>by
  show sm (m+1) _=1
  rw[sm_one (k:=0) (by omega) fun k hk h=>?_]
  ·have e:minor idm 0=idm:=by
    funext i r
    show (if skip 0 i=r+1 then (1:Int) else 0)=if i=r then 1 else 0
    have:skip 0 i=i+1:=by unfold skip;split <;> omega
    rw[this]
    by_cases q:i=r
    ·rw[YM q,YM (by omega)]
    ·rw[YG q,YG (by omega)]
   rw[e,Z1t m]
   show (1:Int)*(if (0:Nat)=0 then 1 else 0)*1=1
   rfl
  ·show sgn k*(if k=0 then 1 else 0)*_=0
   rw[YG h]
   simp
theorem Jq:∀ k,(sgn k).natAbs=1
 | 0=>rfl
 | k+1=>by show (-sgn k).natAbs=1;rw[Y0S];exact Jq k
end Sv
namespace Sb
theorem M5 {a b c:Int}(h:a ∣ b*c)(g:Int.gcd a b=1):a ∣ c:=by
 have h1:a.natAbs ∣ b.natAbs*c.natAbs:=by
  rw[← qg]
  exact GX.mpr h
 exact GX.mp (Nat.Coprime.dvd_of_dvd_mul_left g h1)
theorem Wi {r s:Rat}(hr:0<r.2)(hs:0<s.2)(cr:Int.gcd r.1 r.2=1)(cs:Int.gcd s.1 s.2=1)(h:r.1*s.2=s.1*r.2):r=s:=by
 have d1:r.2 ∣ s.2:=by
  have:r.2 ∣ r.1*s.2:=⟨s.1,by rw[h,XH]⟩
  exact M5 this (by rw[zl];exact cr)
 have d2:s.2 ∣ r.2:=by
  have:s.2 ∣ s.1*r.2:=⟨r.1,by rw[← h,XH]⟩
  exact M5 this (by rw[zl];exact cs)
 have e:r.2=s.2:=Int.dvd_antisymm (by omega) (by omega) d1 d2
 have e1:r.1=s.1:=by
  rw[e] at h
  exact zF (by omega) h
 obtain⟨a,b⟩:=r
 obtain⟨c,d⟩:=s
 simp only at e e1
 rw[e,e1]
theorem P8 {r:Rat}{D W:Int}(hr:0<r.2)(cr:Int.gcd r.1 r.2=1)(h:r.1*D=W*r.2):r.2 ∣ D :=
 M5 (show r.2 ∣ r.1*D from ⟨W,by rw[h,XH]⟩) (by rw[zl];exact cr)
theorem X9 {a b:Int}(hb:0<b)(h:a ∣ b):a.natAbs<=b.natAbs:=by
 have:=GX.mpr h
 exact Nat.le_of_dvd (by omega) this
theorem Bo {r:Rat}{D W:Int}(hD:0<D)(hr:0<r.2)(cr:Int.gcd r.1 r.2=1)(h:r.1*D=W*r.2):r.1.natAbs<=W.natAbs/\r.2.natAbs<=D.natAbs:=by
 have d:=P8 hr cr h
 refine⟨?_,X9 hD d⟩
 obtain⟨k,e⟩:=d
 have:W=r.1*k:=by
  rw[e] at h
  have:(r.1*k)*r.2=W*r.2:=by rw[← h];rw[JM,XH k]
  exact (zF (by omega) this).symm
 rw[this,qg]
 refine zS _ ?_
 have:k≠0:=by
  intro z
  rw[z] at e
  simp at e
  omega
 omega
theorem Wt {n:Nat}{r:Rat}{D W:Int}(hD:0<D)(hr:0<r.2)(cr:Int.gcd r.1 r.2=1)(h:r.1*D=W*r.2)(bD:Bd n D)(bW:Bd n W):Good n r :=
 ⟨bW.of_le' (Bo hD hr cr h).1,bD.of_le' (Bo hD hr cr h).2,hr,cr⟩
theorem Ni {p q:Int}(_:q≠0):(nrm p q).1*q=p*(nrm p q).2:=X2 p q
theorem Z2b {r s:Rat}{D1 D2 W1 W2:Int}(hr:0<r.2)(hs:0<s.2)(h1:r.1*D1=W1*r.2)(h2:s.1*D2=W2*s.2):(mulR' r s).1*(D1*D2)=(W1*W2)*(mulR' r s).2:=by
 have h3:(mulR' r s).1*(r.2*s.2)=(r.1*s.1)*(mulR' r s).2:=X2 _ _
 generalize mulR' r s=m at *
 have:(r.2*s.2)*(m.1*(D1*D2))=(r.2*s.2)*(W1*W2*m.2):=by grind
 exact JN (W4 hr hs) this
theorem Gh {r s:Rat}{D W1 W2:Int}(hr:0<r.2)(hs:0<s.2)(h1:r.1*D=W1*r.2)(h2:s.1*D=W2*s.2):(addR r s).1*D=(W1+W2)*(addR r s).2:=by
 have h3:(addR r s).1*(r.2*s.2)=(r.1*s.2+s.1*r.2)*(addR r s).2:=X2 _ _
 generalize addR r s=m at *
 have:(r.2*s.2)*(m.1*D)=(r.2*s.2)*((W1+W2)*m.2):=by grind
 exact JN (W4 hr hs) this
theorem Rc {r s:Rat}{D W1 W2:Int}(hr:0<r.2)(hs:0<s.2)(h1:r.1*D=W1*r.2)(h2:s.1*D=W2*s.2):(subR r s).1*D=(W1 - W2)*(subR r s).2:=by
 have h3:(subR r s).1*(r.2*s.2)=(r.1*s.2 - s.1*r.2)*(subR r s).2:=X2 _ _
 generalize subR r s=m at *
 have:(r.2*s.2)*(m.1*D)=(r.2*s.2)*((W1 - W2)*m.2):=by grind
 exact JN (W4 hr hs) this
structure Low (r:Rat):Prop where
 pos:0<r.2
 cop:Int.gcd r.1 r.2=1
theorem Good.low {n:Nat}{r:Rat}(h:Good n r):Low r:=⟨h.pos,h.cop⟩
theorem Yr {p q:Int}(h:q≠0):Low (nrm p q):=⟨Nt h,Z0x h⟩
theorem Nu {r s:Rat}(hr:Low r)(hs:Low s):Low (addR r s):=Yr (W4 hr.pos hs.pos)
theorem Tf {r s:Rat}(hr:Low r)(hs:Low s):Low (subR r s):=Yr (W4 hr.pos hs.pos)
theorem Tg {r s:Rat}(hr:Low r)(hs:Low s):Low (mulR' r s):=Yr (W4 hr.pos hs.pos)
theorem Sq:Low (0,1):=⟨by decide,by decide⟩
theorem Gs:Low (1,1):=⟨by decide,by decide⟩
structure RepL (n:Nat)(D:Int)(Ws:List Int)(rs:List Rat):Prop where
 pos:0<D
 bD:Bd n D
 len:Ws.length=rs.length
 at_:∀ (i:Nat) (W:Int) (r:Rat),Ws[i]?=some W->rs[i]?=some r->r.1*D=W*r.2/\Bd n W/\Low r
theorem RepL.good {n:Nat}{D:Int}{Ws:List Int}{rs:List Rat}(h:RepL n D Ws rs):∀ r∈rs,Good n r:=fun r hr=>by
 obtain⟨i,hi⟩:=XB hr
 have hl:i<rs.length:=(YH.mp hi).1
 have hw:i<Ws.length:=by rw[h.len];exact hl
 obtain⟨e,b,l⟩:=h.at_ i Ws[i] r (by simp[hw]) hi
 exact Wt h.pos l.pos l.cop e h.bD b
def lcm1 (l b:Int):Int:=(l*b).fdiv (Int.gcd l b)
theorem Py {l b:Int}(hl:0<l)(hb:0<b):0<lcm1 l b/\l ∣ lcm1 l b/\b ∣ lcm1 l b/\∀ D,l ∣ D->b ∣ D->lcm1 l b ∣ D:=by
 have hg:0<(Int.gcd l b:Int):=by
  have:=Y05 b (show l≠0 by omega)
  omega
 obtain⟨x,ex⟩:=Y0A (a:=l) (b:=b)
 obtain⟨y,ey⟩:=ja (a:=l) (b:=b)
 have e1:lcm1 l b=x*b:=by
  unfold lcm1
  have:l*b=(x*b)*(Int.gcd l b:Int):=by
   conv=>lhs;rw[ex]
   rw[XH (Int.gcd l b:Int),JM,XH (Int.gcd l b:Int),← JM]
  rw[this,Y01 _ (by omega)]
 have e2:lcm1 l b=l*y:=by
  unfold lcm1
  have:l*b=(l*y)*(Int.gcd l b:Int):=by
   conv=>lhs;rw[ey]
   rw[XH (Int.gcd l b:Int),JM]
  rw[this,Y01 _ (by omega)]
 have hx:0<x:=by
  apply YU
  intro z
  have:(Int.gcd l b:Int)*x<=0:=Int.mul_nonpos_of_nonneg_of_nonpos (by omega) (by omega)
  omega
 refine⟨by rw[e1];exact YZ hx hb,⟨y,e2⟩,⟨x,by rw[e1,XH]⟩,fun D h1 h2=>?_⟩
 have:(lcm1 l b).natAbs ∣ D.natAbs:=by
  have e3:(lcm1 l b).natAbs=Nat.lcm l.natAbs b.natAbs:=by
   unfold Nat.lcm
   have g:Nat.gcd l.natAbs b.natAbs=Int.gcd l b:=rfl
   rw[g]
   have e4:(lcm1 l b).natAbs*Int.gcd l b=l.natAbs*b.natAbs:=by
    rw[← qg,e1]
    have:((x*b).natAbs)*Int.gcd l b=(x*b*(Int.gcd l b:Int)).natAbs:=by
     rw[qg (x*b)]
     rfl
    rw[this]
    congr 1
    conv=>rhs;rw[ex]
    rw[JM,XH b,← JM,XH x]
   rw[← e4]
   exact (Nat.mul_div_cancel _ (by omega)).symm
  rw[e3]
  exact Nat.lcm_dvd (GX.mpr h1) (GX.mpr h2)
 exact GX.mp this
def lcmB (rs:List Rat):Int:=rs.foldl (fun l r=>lcm1 l r.2) 1
theorem Dx (rs:List Rat)(r:Rat):lcmB (rs++[r])=lcm1 (lcmB rs) r.2:=by
 unfold lcmB
 rw[List.foldl_append]
 rfl
theorem Dw {rs:List Rat}{i:Nat}{r:Rat}(h:rs[i]?=some r):lcmB (rs.take (i+1))=lcm1 (lcmB (rs.take i)) r.2:=by rw[Y5 h,Dx]
theorem Lv:∀ (rs:List Rat) (l:Int),0<l->(∀ r∈rs,0<r.2)->0<rs.foldl (fun l r=>lcm1 l r.2) l/\l ∣ rs.foldl (fun l r=>lcm1 l r.2) l/\(∀ r∈rs,r.2 ∣ rs.foldl (fun l r=>lcm1 l r.2) l)/\∀ D,l ∣ D->(∀ r∈rs,r.2 ∣ D)->rs.foldl (fun l r=>lcm1 l r.2) l ∣ D
 | [],l,hl,_=>⟨hl,Int.dvd_refl _,(fun _ h=>nomatch h),fun D h _=>h⟩
 | r::t,l,hl,h=>by
  obtain⟨p,d1,d2,m⟩:=Py hl (h r XC)
  obtain⟨p',d1',d2',m'⟩:=Lv t (lcm1 l r.2) p fun x hx=>h x (YV _ hx)
  refine⟨p',Y10 d1 d1',fun x hx=>?_,fun D h1 h2=>m' D (m D h1 (h2 r XC)) fun x hx=>h2 x (YV _ hx)⟩
  rcases YS.mp hx with rfl | hx
  ·exact Y10 d2 d1'
  ·exact d2' x hx
theorem Tz {rs:List Rat}(h:∀ r∈rs,0<r.2):0<lcmB rs/\(∀ r∈rs,r.2 ∣ lcmB rs)/\∀ D,(∀ r∈rs,r.2 ∣ D)->lcmB rs ∣ D:=by
 obtain⟨p,_,d,m⟩:=Lv rs 1 (by decide) h
 exact⟨p,d,fun D hD=>m D (Int.one_dvd _) hD⟩
def wholeB (rs:List Rat)(D:Int):List Int:=rs.map fun r=>r.1*D.fdiv r.2
theorem Vd {r:Rat}{D:Int}(h:r.2 ∣ D):r.1*D=(r.1*D.fdiv r.2)*r.2:=by
 have:=Uw h
 rw[JM,this]
theorem RepL.least {n:Nat}{D:Int}{Ws:List Int}{rs:List Rat}(h:RepL n D Ws rs):RepL n (lcmB rs) (wholeB rs (lcmB rs)) rs:=by
 have low:∀ r∈rs,Low r:=fun r hr=>(h.good r hr).low
 obtain⟨p,d,m⟩:=Tz fun r hr=>(low r hr).pos
 have dD:∀ r∈rs,r.2 ∣ D:=fun r hr=>by
  obtain⟨i,hi⟩:=XB hr
  have hl:i<rs.length:=(YH.mp hi).1
  have hw:i<Ws.length:=by rw[h.len];exact hl
  obtain⟨e,b,l⟩:=h.at_ i Ws[i] r (by simp[hw]) hi
  exact P8 l.pos l.cop e
 have hd:=m D dD
 refine⟨p,h.bD.of_le' (X9 h.pos hd),by unfold wholeB;rw[YC],fun i W r hW hr=>?_⟩
 have hrm:=YI hr
 have hl:i<rs.length:=(YH.mp hr).1
 have hw:i<Ws.length:=by rw[h.len];exact hl
 obtain⟨e,b,l⟩:=h.at_ i Ws[i] r (by simp[hw]) hr
 unfold wholeB at hW
 rw[YD,hr] at hW
 cases hW
 refine⟨Vd (d r hrm),?_,l⟩
 obtain⟨k,ek⟩:=hd
 have e1:=Vd (D:=lcmB rs) (d r hrm)
 have hk:Ws[i]=(r.1*(lcmB rs).fdiv r.2)*k:=by
  have:(r.1*(lcmB rs).fdiv r.2*k)*r.2=Ws[i]*r.2:=by
   rw[← e,ek,← JM,e1]
   grind
  exact (zF (by have:=l.pos;omega) this).symm
 have hk0:k≠0:=by
  intro z
  rw[z,GQ] at ek
  have:=h.pos
  omega
 refine b.of_le' ?_
 rw[hk,qg _ k]
 exact zS _ (by omega)
theorem M2 {a b:Int}(ha:0<a)(hb:0<b):(a.fdiv b).natAbs<=a.natAbs:=by
 rw[Int.fdiv_eq_ediv_of_nonneg _ (by omega)]
 have h1:=Int.ediv_nonneg (show 0<=a by omega) (show 0<=b by omega)
 have h2:=Int.ediv_le_self b (show 0<=a by omega)
 omega
theorem Sx {n:Nat}:∀ (rs:List Rat) (l:Int) (m:Nat),0<l->Bd m l->(∀ r∈rs,0<r.2/\Bd n r.2)->Bd (m+n*rs.length) (rs.foldl (fun l r=>lcm1 l r.2) l)
 | [],l,m,_,b,_=>b
 | r::t,l,m,hl,b,h=>by
  obtain⟨hp,hb⟩:=h r XC
  obtain⟨p,_,_,mm⟩:=Py hl hp
  have:Bd (m+n) (lcm1 l r.2):=(b.mul hb).of_le' (X9 (YZ hl hp) (mm _ (Int.dvd_mul_right ..) (Int.dvd_mul_left ..)))
  have:=Sx t (lcm1 l r.2) (m+n) p this fun x hx=>h x (YV _ hx)
  rw[XZ,Y0L]
  exact this.mono (by omega)
theorem RepL.of_good {n:Nat}{rs:List Rat}(h:∀ r∈rs,Good n r):RepL (n*(rs.length+1)+1) (lcmB rs) (wholeB rs (lcmB rs)) rs:=by
 obtain⟨p,d,_⟩:=Tz fun r hr=>(h r hr).pos
 have b:Bd (1+n*rs.length) (lcmB rs):=Sx rs 1 1 (by decide) (by show (1:Int).natAbs<2 ^ 1;decide) fun r hr=>⟨(h r hr).pos,(h r hr).b2⟩
 refine⟨p,b.mono (by rw[Y0L];omega),by unfold wholeB;rw[YC],fun i W r hW hr=>?_⟩
 have hrm:=YI hr
 unfold wholeB at hW
 rw[YD,hr] at hW
 cases hW
 exact⟨Vd (d r hrm),((h r hrm).b1.mul (b.of_le' (M2 p (h r hrm).pos))).mono (by rw[Y0L];omega),(h r hrm).low⟩
theorem Si {n:Nat}:∀ (xs:List Int),(∀ x∈xs,Bd n x)->∀ k,xs.length<=2 ^ k->Bd (n+k) xs.sum:=fun xs h k hk=>by
 have key:∀ (xs:List Int),(∀ x∈xs,Bd n x)->xs.sum.natAbs<=xs.length*(2 ^ n - 1):=fun xs=>by
  induction xs with
  | nil=>intro _;simp
  | cons a t ih =>
   intro h
   have h1:=ih fun x hx=>h x (YV _ hx)
   have h2:a.natAbs<2 ^ n:=h a XC
   rw[zy,XZ,Y0I]
   omega
 have h1:=key xs h
 unfold Bd
 have h2:xs.length*(2 ^ n - 1)<=2 ^ k*(2 ^ n - 1):=GM _ hk
 have h3:2 ^ k*(2 ^ n - 1)<2 ^ (n+k):=by
  rw[Y0Q,Y04 (2 ^ n)]
  have:0<2 ^ n:=Y1d (by decide)
  exact Nat.mul_lt_mul_of_pos_left (by omega) (Y1d (by decide))
 omega
theorem Gg {D:Int}(hD:0<D):∀ (Ns:List Int) (zs:List Rat),Ns.length=zs.length->(∀ (i:Nat) (N:Int) (z:Rat),Ns[i]?=some N->zs[i]?=some z->z.1*D=N*z.2/\Low z)->∀ (a:Rat) (A:Int),Low a->a.1*D=A*a.2->(zs.foldl addR a).1*D=(A+Ns.sum)*(zs.foldl addR a).2/\Low (zs.foldl addR a)
 | [],[],_,_,a,A,la,ha=>⟨by simpa using ha,la⟩
 | [],_::_,h,_,_,_,_,_=>by simp at h
 | _::_,[],h,_,_,_,_,_=>by simp at h
 | N::Ns,z::zs,h,hz,a,A,la,ha=>by
  obtain⟨e,lz⟩:=hz 0 N z rfl rfl
  obtain⟨h1,h2⟩:=Gg hD Ns zs (by simpa using h) (fun i N' z' e1 e2=>hz (i+1) N' z' (by simpa using e1) (by simpa using e2)) (addR a z) (A+N) (Nu la lz) (Gh la.pos lz.pos ha e)
  refine⟨?_,h2⟩
  rw[zy,← Int.add_assoc]
  exact h1
theorem RepL.mul {n n':Nat}{D D':Int}{Ws Rs:List Int}{ws rs:List Rat}(h:RepL n D Ws ws)(h':RepL n' D' Rs rs)(hl:ws.length=rs.length):RepL (n+n') (D*D') (List.zipWith (·*·) Ws Rs) (List.zipWith mulR' ws rs):=by
 refine⟨YZ h.pos h'.pos,h.bD.mul h'.bD,by rw[JG,JG,h.len,h'.len],fun i W r hW hr=>?_⟩
 rw[GG] at hW hr
 cases e1:Ws[i]? with
 | none=>rw[e1] at hW;cases hW
 | some x =>
  cases e2:Rs[i]? with
  | none=>rw[e1,e2] at hW;cases hW
  | some y =>
   cases e3:ws[i]? with
   | none=>rw[e3] at hr;cases hr
   | some u =>
    cases e4:rs[i]? with
    | none=>rw[e3,e4] at hr;cases hr
    | some v =>
     rw[e1,e2] at hW
     rw[e3,e4] at hr
     cases hW
     cases hr
     obtain⟨a1,b1,l1⟩:=h.at_ i x u e1 e3
     obtain⟨a2,b2,l2⟩:=h'.at_ i y v e2 e4
     exact⟨Z2b l1.pos l2.pos a1 a2,b1.mul b2,Tg l1 l2⟩
theorem RepL.sum {n:Nat}{D:Int}{Ns:List Int}{zs:List Rat}(h:RepL n D Ns zs):(zs.foldl addR (0,1)).1*D=Ns.sum*(zs.foldl addR (0,1)).2/\Low (zs.foldl addR (0,1)):=by
 have:=Gg h.pos Ns zs h.len (fun i N z e1 e2=>⟨(h.at_ i N z e1 e2).1,(h.at_ i N z e1 e2).2.2⟩) (0,1) 0 Sq (by simp)
 rwa [Int.zero_add] at this
theorem RepL.take {n:Nat}{D:Int}{Ns:List Int}{zs:List Rat}(h:RepL n D Ns zs)(i:Nat):RepL n D (Ns.take i) (zs.take i):=by
 refine⟨h.pos,h.bD,by rw[GC,GC,h.len],fun j W r hW hr=>?_⟩
 rw[Y15] at hW hr
 split at hW
 ·rename_i q
  rw[YM q] at hr
  exact h.at_ j W r hW hr
 ·cases hW
theorem RepL.sumGood {n k:Nat}{D:Int}{Ns:List Int}{zs:List Rat}(h:RepL n D Ns zs)(hk:zs.length<=2 ^ k):Good (n+k) (zs.foldl addR (0,1)):=by
 obtain⟨e,l⟩:=h.sum
 refine Wt h.pos l.pos l.cop e (h.bD.mono (by omega)) (Si Ns (fun x hx=>?_) k (by rw[h.len];exact hk))
 obtain⟨i,hi⟩:=XB hx
 have hl:i<Ns.length:=(YH.mp hi).1
 have hz:i<zs.length:=by rw[← h.len];exact hl
 exact (h.at_ i x zs[i] hi (by simp[hz])).2.1
theorem Z3l {n n':Nat}{D D':Int}{Ws Rs:List Int}{ws rs:List Rat}(h:RepL n D Ws ws)(h':RepL n' D' Rs rs)(hl:ws.length=rs.length) :
  nrm (List.zipWith (·*·) Ws Rs).sum (D*D')=(List.zipWith mulR' ws rs).foldl addR (0,1):=by
 have m:=h.mul h' hl
 obtain⟨e,l⟩:=m.sum
 have hne:D*D'≠0:=by have:=m.pos;omega
 have l':=Yr (p:=(List.zipWith (·*·) Ws Rs).sum) hne
 have e':=Ni (p:=(List.zipWith (·*·) Ws Rs).sum) hne
 refine Wi l'.pos l.pos l'.cop l.cop ?_
 generalize (List.zipWith mulR' ws rs).foldl addR (0,1)=u at *
 generalize nrm (List.zipWith (·*·) Ws Rs).sum (D*D')=v at *
 generalize (List.zipWith (·*·) Ws Rs).sum=N at *
 generalize D*D'=E at *
 have:E*(v.1*u.2)=E*(u.1*v.2):=by grind
 exact JN hne this
end Sb
namespace Sb
open PySem L2
def sumR (rs:List Rat):Rat:=rs.foldl addR (0,1)
theorem Ft (rs:List Rat)(r:Rat):sumR (rs++[r])=addR (sumR rs) r:=by
 unfold sumR
 rw[List.foldl_append]
 rfl
theorem Tq {rs:List Rat}{i:Nat}{r:Rat}(h:rs[i]?=some r):sumR (rs.take (i+1))=addR (sumR (rs.take i)) r:=by rw[Y5 h,Ft]
theorem N2 {n:Nat}:∀ (rs:List Rat) (m:Nat) (a:Rat),Good m a->(∀ r∈rs,Good n r)->Good (m+rs.length*(n+1)) (rs.foldl addR a)
 | [],m,a,h,_=>by simpa using h
 | r::t,m,a,h,g=>by
  have:=N2 t (m+n+1) (addR a r) (Ck h (g r XC)) fun x hx=>g x (YV _ hx)
  refine this.mono ?_
  rw[XZ,Y0I]
  omega
theorem Fu {n:Nat}{rs:List Rat}(h:∀ r∈rs,Good n r):Good (1+rs.length*(n+1)) (sumR rs):=N2 rs 1 (0,1) (g01 1 (by decide)) h
theorem Rw {n i:Nat}{rs:List Rat}(h:∀ r∈rs,Good n r)(hi:i<=rs.length):Good (1+rs.length*(n+1)) (sumR (rs.take i)):=by
 refine (Fu (rs:=rs.take i) fun r hr=>h r (List.mem_of_mem_take hr)).mono ?_
 have:(rs.take i).length*(n+1)<=rs.length*(n+1):=GM _ (by simp;omega)
 omega
theorem Np {n:Nat}{rs:List Rat}{i:Nat}(hi:i<rs.length):n<=1+rs.length*(n+1):=by
 have:1*(n+1)<=rs.length*(n+1):=GM _ (by omega)
 omega
def isW (rs:List Rat):Bool:=!((rs.map fun r=>ltR r (0,1)).any id) && decide (sumR rs=(1,1))
theorem Ke:∀ (ns:List Int) (m:Int),(∀ z∈ns,0<=z/\z<=m)->0<=ns.sum/\ns.sum<=m*ns.length
 | [],m,_=>by simp
 | z::t,m,h=>by
  obtain⟨h1,h2⟩:=Ke t m fun x hx=>h x (YV _ hx)
  obtain⟨h3,h4⟩:=h z XC
  rw[zy,XZ]
  have:m*((t.length+1:Nat):Int)=m*t.length+m:=by rw[Int.natCast_add,Y1b];simp
  omega
theorem Jo:∀ (ns:List Int),(∀ z∈ns,0<=z)->(∃ z∈ns,1<=z)->1<=ns.sum
 | [],_,h=>by obtain⟨z,hz,_⟩:=h;cases hz
 | y::t,h0,h=>by
  have ht:0<=t.sum:=by
   have:∀ l:List Int,(∀ z∈l,0<=z)->0<=l.sum:=fun l=>by
    induction l with
    | nil=>intro _;simp
    | cons a r ih =>
     intro h
     have:=ih fun x hx=>h x (YV _ hx)
     have:=h a XC
     rw[zy]
     omega
   exact this t fun x hx=>h0 x (YV _ hx)
  have hy:=h0 y XC
  rw[zy]
  obtain⟨z,hz,h1⟩:=h
  rcases YS.mp hz with e | e
  ·subst e;omega
  ·have:=Jo t (fun x hx=>h0 x (YV _ hx)) ⟨z,e,h1⟩
   omega
end Sb
namespace Sb
theorem V0 {α β:Type}(f:α->β){l:List α}{i:Nat}{x:α}(h:l[i]?=some x):(l.map f).take (i+1)=(l.map f).take i++[f x]:=Y5 (by rw[YD,h];rfl)
open Sv (sm Y1 Xr Yt sm_zero Y0 Zz Vu)
theorem Vc:∀ (c:Nat) (As Bs:List Int),As.length=c->Bs.length=c->(List.zipWith (·*·) As Bs).sum=sm c (fun i=>As.getD i 0*Bs.getD i 0)
 | 0,As,Bs,h1,h2=>by
  rw[jt h1]
  rfl
 | c+1,As,Bs,h1,h2=>by
  have e1:As=As.take c++[As.getD c 0]:=by
   have:As[c]?=some (As.getD c 0):=by simp[List.getD,show c<As.length by omega]
   rw[← Y5 this,YN (by omega)]
  have e2:Bs=Bs.take c++[Bs.getD c 0]:=by
   have:Bs[c]?=some (Bs.getD c 0):=by simp[List.getD,show c<Bs.length by omega]
   rw[← Y5 this,YN (by omega)]
  have l1:(As.take c).length=c:=by rw[GC];omega
  have l2:(Bs.take c).length=c:=by rw[GC];omega
  have ih:=Vc c (As.take c) (Bs.take c) l1 l2
  conv=>lhs;rw[e1,e2]
  rw[List.zipWith_append (by omega)]
  rw[List.sum_append,ih]
  show _+(As.getD c 0*Bs.getD c 0+0)=sm c _+As.getD c 0*Bs.getD c 0
  rw[Int.add_zero]
  congr 1
  refine Y1 fun i hi=>?_
  have g:∀ L:List Int,c<=L.length->(L.take c).getD i 0=L.getD i 0:=fun L hL=>by
   simp[List.getD,Y15,hi]
  rw[g As (by omega),g Bs (by omega)]
def cutZ (o:Option (Nat->Bool))(Zs:List Int):List Int:=Zs.mapIdx fun i z=>if inE o i then z else 0
theorem Xy (o:Option (Nat->Bool))(Zs:List Int):(cutZ o Zs).length=Zs.length:=by unfold cutZ;simp
theorem M9 {o:Option (Nat->Bool)}{Zs:List Int}{i:Nat}:(cutZ o Zs)[i]?=(Zs[i]?).map fun z=>if inE o i then z else 0:=by
 unfold cutZ
 rw[js]
theorem Wh (o:Option (Nat->Bool))(Zs:List Int)(i:Nat):(cutZ o Zs).getD i 0=if inE o i then Zs.getD i 0 else 0:=by
 simp only [List.getD,M9]
 cases Zs[i]? with
 | none=>simp
 | some z=>rfl
theorem bd0 (n:Nat):Bd n 0:=by
 show (0:Int).natAbs<2 ^ n
 exact Y1d (by decide)
theorem RepL.cut {n:Nat}{D:Int}{Zs:List Int}{rs:List Rat}(h:RepL n D Zs rs)(o:Option (Nat->Bool)):RepL n D (cutZ o Zs) (cutR o rs):=by
 refine⟨h.pos,h.bD,by rw[Xy,Ye,h.len],fun i W r hW hr=>?_⟩
 have hl:i<rs.length:=by
  have:=(YH.mp hr).1
  rwa [Ye] at this
 have hz:i<Zs.length:=by rw[h.len];exact hl
 rw[Wd (r:=rs[i]) (by simp[hl])] at hr
 rw[M9,show Zs[i]?=some Zs[i] by simp[hz]] at hW
 cases hr
 cases hW
 obtain⟨a,b,l⟩:=h.at_ i Zs[i] rs[i] (by simp[hz]) (by simp[hl])
 split
 ·exact⟨a,b,l⟩
 ·exact⟨by simp,bd0 n,Sq⟩
theorem RepL.ones (c:Nat):RepL 1 1 (List.replicate c 1) (List.replicate c (1,1)):=by
 refine⟨by decide,by show (1:Int).natAbs<2 ^ 1;decide,by simp,fun i W r hW hr=>?_⟩
 have h1:=qd (YI hW)
 have h2:=qd (YI hr)
 subst h1 h2
 exact⟨rfl,by show (1:Int).natAbs<2 ^ 1;decide,Gs⟩
theorem RepL.mono {m n:Nat}{D:Int}{Zs:List Int}{rs:List Rat}(h:RepL m D Zs rs)(k:m<=n):RepL n D Zs rs :=
 ⟨h.pos,h.bD.mono k,h.len,fun i W r hW hr=>⟨(h.at_ i W r hW hr).1,(h.at_ i W r hW hr).2.1.mono k,(h.at_ i W r hW hr).2.2⟩⟩
theorem RepL.of_map {n:Nat}{D:Int}(hD:0<D)(bD:Bd n D){α:Type}(l:List α)(f:α->Rat)(g:α->Int)(h:∀ x∈l,(f x).1*D=g x*(f x).2/\Bd n (g x)/\Low (f x)):RepL n D (l.map g) (l.map f):=by
 refine⟨hD,bD,by simp,fun i W r hW hr=>?_⟩
 rw[YD] at hW hr
 cases e:l[i]? with
 | none=>rw[e] at hW;cases hW
 | some x =>
  rw[e] at hW hr
  cases hW
  cases hr
  exact h x (YI e)
theorem V4 {r:Rat}{D W:Int}(k:Int)(h:r.1*D=W*r.2):r.1*(D*k)=(W*k)*r.2:=by
 rw[← JM,h,JM,XH r.2,← JM]
theorem Bn {mi sh q:Rat}{D S M:Int}(hm:0<mi.2)(hs:0<sh.2)(h1:mi.1*(D*6)=M*mi.2)(h2:sh.1*(D*1)=S*sh.2)(hq:q.1*(mi.2*sh.1)=(mi.1*sh.2)*q.2):q.1*(6*S)=M*q.2:=by
 have:(mi.2*sh.2)*(q.1*(6*S))=(mi.2*sh.2)*(M*q.2):=by
  have e1:(mi.2*sh.2)*(q.1*(6*S))=q.1*mi.2*6*(S*sh.2):=by grind
  have e2:(mi.2*sh.2)*(M*q.2)=(M*mi.2)*sh.2*q.2:=by grind
  rw[e1,e2,← h1,← h2]
  have e3:q.1*mi.2*6*(sh.1*(D*1))=(q.1*(mi.2*sh.1))*(6*D):=by grind
  rw[e3,hq]
  grind
 exact JN (W4 hm hs) this
def FitR (n:Nat)(Ws:List Int)(rs:List Rat):Prop:=∃ (D:Int) (Zs:List Int),RepL n D Zs rs/\(List.zipWith (·*·) Ws Zs).sum<=0
section
variable {c:Nat}{Ws Ro:List Int}{o:Option (Nat->Bool)}
theorem Z3t (lW:Ws.length=c)(lR:Ro.length=c)(t k C:Int) :
  (List.zipWith (·*·) Ws (cutZ o (Ro.map fun z=>t*(z*k - C)))).sum=t*(k*(List.zipWith (·*·) Ws (cutZ o Ro)).sum - C*(List.zipWith (·*·) Ws (cutZ o (List.replicate c 1))).sum):=by
 rw[Vc c _ _ lW (by rw[Xy,YC];exact lR),Vc c _ _ lW (by rw[Xy];exact lR),Vc c _ _ lW (by rw[Xy];simp)]
 have e:∀ i,i<c->Ws.getD i 0*(cutZ o (Ro.map fun z=>t*(z*k - C))).getD i 0=(t*k)*(Ws.getD i 0*(cutZ o Ro).getD i 0)+(-(t*C))*(Ws.getD i 0*(cutZ o (List.replicate c 1)).getD i 0):=fun i hi=>by
  rw[Wh,Wh,Wh]
  have a1:(Ro.map fun z=>t*(z*k - C)).getD i 0=t*(Ro.getD i 0*k - C):=by
   simp[List.getD,show i<Ro.length by omega]
  have a2:(List.replicate c (1:Int)).getD i 0=1:=by simp[List.getD,hi]
  rw[a1,a2]
  split
  ·grind
  ·simp
 rw[Y1 e,Xr,Yt,Yt]
 grind
end
theorem Z1q {m n k:Nat}{As Bs:List Int}(ha:∀ z∈As,Bd m z)(hb:∀ z∈Bs,Bd n z)(hl:As.length<=2 ^ k):Bd (m+n+k) (List.zipWith (·*·) As Bs).sum:=by
 refine Si _ (fun x hx=>?_) k (by rw[JG];omega)
 obtain⟨i,hi⟩:=XB hx
 rw[GG] at hi
 cases e1:As[i]? with
 | none=>rw[e1] at hi;cases hi
 | some a =>
  cases e2:Bs[i]? with
  | none=>rw[e1,e2] at hi;cases hi
  | some b =>
   rw[e1,e2] at hi
   cases hi
   exact (ha a (YI e1)).mul (hb b (YI e2))
theorem RepL.bdW {n:Nat}{D:Int}{Zs:List Int}{rs:List Rat}(h:RepL n D Zs rs):∀ z∈Zs,Bd n z:=fun z hz=>by
 obtain⟨i,hi⟩:=XB hz
 have hl:i<Zs.length:=(YH.mp hi).1
 have hr:i<rs.length:=by rw[← h.len];exact hl
 exact (h.at_ i z rs[i] hi (by simp[hr])).2.1
end Sb
namespace Sb
open PySem L2
structure Goes (J:It)(H:Hp)(xs:List V):Prop where
 go:∀ (i:Nat) (H':Hp),Same H H'->i<xs.length->J.go i H'
 yld:∀ (i:Nat) (H':Hp) (x:V) (H'':Hp),Same H H'->J.yld i H' x H''->H''=H'/\xs[i]?=some x
 stop:∀ H':Hp,Same H H'->J.stop xs.length H'
theorem Z6k {K:W.Frag}{H:Hp}{a:Addr}{xs:List V}(h:SqL K H a xs):Goes (Itl K a) H xs :=
 ⟨fun i H' S hi=>⟨xs,xs[i],V2 S h,by simp[hi]⟩,fun _ _ _ _ S ⟨e,f⟩=>⟨e,f xs (V2 S h)⟩,fun _ S=>⟨xs,V2 S h,YE _⟩⟩
theorem Z6j {K:W.Frag}{H:Hp}{a:Addr}{xs:List V}(h:SqT K H a xs):Goes (Itt K a) H xs :=
 ⟨fun i H' S hi=>⟨xs,xs[i],Zt S h,by simp[hi]⟩,fun _ _ _ _ S ⟨e,f⟩=>⟨e,f xs (Zt S h)⟩,fun _ S=>⟨xs,Zt S h,YE _⟩⟩
section
open PySem.Spec PyProof.Rows
variable {X:Cx}{tg:Expr}
def iAny (K:W.Frag)(tl:TE):TI:=fun σ H R=>tl σ H fun x H1=>∃ (a:Addr) (xs:List V),x=.ref a/\(SqL K H1 a xs \/ SqT K H1 a xs)/\∀ J:It,Goes J H1 xs->R J H1
theorem Z4u {l:Expr}{tl:TE}(hl:PE X l tl):PI X tg l (iAny X.K tl):=by
 intro pins s σ H R I h
 refine thn (hl pins s σ H _ I h) fun v s1 ⟨x,H1,I1,r1,q1⟩=>?_
 obtain⟨a,xs,e,hq | hq,q⟩:=q1
 ·subst e
  cases r1
  obtain⟨its,rv,p,hz⟩:=I1.list hq
  refine GF p.isList ?_
  refine⟨s1.heap.objs.size,[s1.heap.objs.size],_,_,H1,rfl,I1.kept (t':=s1.toks) fun b o e=>YA _ e,Tp a _,⟨_,YO _ rfl,rfl,rfl⟩,fun b hb=>?_,q _ (Z6k hq)⟩
  have e:b=s1.heap.objs.size:=by simpa using hb
  subst e
  exact I1.fpOk (YE _) (I1.hok.fresh (YE _))
 ·subst e
  cases r1
  obtain⟨its,rv,p,hz⟩:=I1.tuple hq
  refine GZ (show s1.heap.IsTuple a its.toArray from p) ?_
  refine⟨s1.heap.objs.size,[s1.heap.objs.size],_,_,H1,rfl,I1.kept (t':=s1.toks) fun b o e=>YA _ e,Um a _,⟨_,YO _ rfl,rfl,rfl⟩,fun b hb=>?_,q _ (Z6j hq)⟩
  have e:b=s1.heap.objs.size:=by simpa using hb
  subst e
  exact I1.fpOk (YE _) (I1.hok.fresh (YE _))
end
end Sb
namespace Sb
open PySem PySem.Spec PyProof.Rows L2
section
variable {X:Cx}
theorem Wp {i:Nat}{x:Str}{pos' spos:Pos}{elt iter tg:Expr}{ifs:List Expr}{scope:Scope}{pos:Pos}{wi:TI}{g:TG}{tt:TT}{te:TE}{N:List Str}{k:Nat}{fv:List Nat}
  (hXN:X.N.Nodup) (hix:X.N[i]?=some x) (hx:Loc X.env.scope x)
  (hc:X.calm=true) (hi:PI X tg iter wi) (hg:∀ cl C fp s H,PG (compCx X N scope cl C fp s H) tg g) (ht:∀ cl C fp s H,PTs (compCx X N scope cl C fp s H) ifs tt) (he:∀ cl C fp s H,PE (compCx X N scope cl C fp s H) elt te)
  (hw:∀ r x H Q,g x (List.replicate k none++r) H Q->g x (List.replicate k none++r) H fun σ4 H4=>Q σ4 H4/\Weaker σ4 (List.replicate k none++r))
  (hN:N.length=k+fv.length:=by rfl) (hfv:fv.map (fun j=>X.N[j]?)=(N.drop k).map some:=by rfl) (hk:(N.drop k).map X.env.kindOf=(N.drop k).map (fun _=>some .cell):=by rfl)
  (hfl:∀ y∈N.drop k,scope.names.lookup y=some .free:=by decide +kernel) (hfr:∀ y∈scope.names,y.2=.free->y.1∈N.drop k:=by decide +kernel)
  (hcell:∀ y∈scope.names,y.2≠.cell:=by decide +kernel) (hkind:scope.kind=.function:=by rfl) (hnames:∀ y∈scope.names,y.2=.local->scope.names.lookup y.1=some .local:=by decide +kernel)
  (hs:∀ x,foldedSetIterable iter X.env x=pure x:=by intro _;rfl)
  (hsw:swapsWith (.ListComp elt [⟨tg,iter,ifs,0⟩] scope pos) (some (.Name x pos')) spos.line X.env=pure true:=by rfl)
  (hf:X.fn x=true \/ X.env.scope.names.lookup x=some .local:=by first | exact .inl rfl | exact .inr rfl | assumption) :
  PS X (.Assign [.Name x pos'] (.ListComp elt [⟨tg,iter,ifs,0⟩] scope pos) spos) (tAsg (tComp wi g tt te k fv) (gName i)):=by
 intro pins s σ H D I h
 have kc:∀ y∈N.drop k,X.env.kindOf y=some .cell:=fun y hy=>by
  obtain⟨j,hj⟩:=XB hy
  have a:=congrArg (fun l=>l[j]?) hk
  simp only [YD,hj,GV] at a
  exact YK a
 obtain⟨cl,hclos,h1,h2⟩:=Wy (env:=X.env) (scope:=scope) fun y hy hf=>I.ok.has y.1 (.inl (kc y.1 (hfr y hy hf)))
 rw[exec_Assign_Name_used _ _ _ _ hsw]
 refine YB (zx (YB ?_))
 unfold evalThenUse
 refine YB (zI (use:=some (assign (.Name x pos') X.env)) rfl hs hclos hkind hnames (thn (hi pins s σ H _ I h) fun xv s1 h1'=>thn h1' fun itv s2 h2'=>?_))
 obtain⟨it,fp,tn,J,H2,e,I2,T,st2,f2,body⟩:=h2'
 subst e
 refine Pb (Q:=fun v H1=>gName i v σ H1 D.nx) (RR:=fun acc C=>compPost (model X.prog X.w) X.A X.xe (some (assign (.Name x pos') X.env)) _ acc C) hc hg ht he hw hN hfv hk hfl hcell hkind h1 h2 I2 T st2 f2 body fun Dd C H' s' ⟨m,hm⟩ fpC q iv=>?_
 show wpAny _ _ (assign (.Name x pos') X.env (.ref Dd)) _ _ s'
 have I':Inv X pins σ H' s':=iv s'.heap ⟨rfl,fun _ _=>rfl⟩
 refine wpAny_assign_Name (Pk I' hXN hix hx (v:=.ref Dd) rfl (fun s3 I3 ⟨a,sb,ha⟩=>⟨m,?_,fun h' hs'=>?_⟩) hf)
 ·have hne:C≠a:=by
   rcases ha with rfl | ha
   ·exact fpC.2.1
   ·exact fun z=>fpC.2.2.2.2.1 x a ha z.symm
  obtain⟨o,es,ep,ho,r⟩:=hm
  exact⟨o,es,ep,by rw[sb.2 C hne];exact ho,r⟩
 ·refine YR (YR ?_)
  have I4:=U7 (ch:=[C]) (h':=h') (t':=s3.toks) I3 (fun b hb=>by rw[JP.mp hb];exact fpC) fun b o hb e=>by
   rw[hs'.2 b (fun z=>hb (by rw[z];exact JP.mpr rfl))]
   exact e
  exact⟨_,H',I4,q⟩
end
end Sb
namespace Sb
open PySem L2
theorem Se {K:W.Frag}{a:Addr}{xs:List V}{g:TG}{tb:TS}{D:Ends}{σ:L2.St}{H:Hp}(Pv:Nat->L2.St->Hp->Prop)(h0:Pv 0 σ H)(hl:∀ i σ H,i<=xs.length->Pv i σ H->SqL K H a xs)
  (hs:∀ i x σ H p,xs[i]?=some x->Pv i σ H->H p=none->g (.ref p) σ (upd H p (.tup [.int (i:Int),x])) fun σ2 H2=>tb { D with nx:=Pv (i+1),ct:=Pv (i+1),bk:=D.nx } σ2 H2) (hd:∀ σ H,Pv xs.length σ H->D.nx σ H) :
  ∃ W:Nat->Nat->L2.St->Hp->Prop,(∃ m,W 0 m σ H)/\∀ i m σ H,W i m σ H →
   ((IteL K a).stop i H/\D.nx σ H) \/ ((IteL K a).go i H/\∃ N:L2.St->Hp->Prop,(∀ σ' H',N σ' H'->∃ m',m'<m/\W (i+1) m' σ' H')/\∀ x H',(IteL K a).yld i H x H'->g x σ H' fun σ2 H2=>tb { D with nx:=N,ct:=N,bk:=D.nx } σ2 H2):=by
 refine⟨fun i m σ H=>m=xs.length - i/\i<=xs.length/\Pv i σ H,⟨xs.length,by simp,JZ _,h0⟩,?_⟩
 rintro i m σ H ⟨rfl,hi,p⟩
 have q:=hl i σ H hi p
 by_cases hlt:i<xs.length
 ·refine .inr ⟨⟨xs,q,hlt⟩,Pv (i+1),fun σ' H' p'=>⟨xs.length - (i+1),by omega,rfl,hlt,p'⟩,fun x H' y=>?_⟩
  obtain⟨pp,x0,rfl,hp,rfl,fx⟩:=y
  exact hs i x0 σ H pp (fx xs q) p hp
 ·have e:i=xs.length:=by omega
  subst e
  exact .inl ⟨⟨xs,q,rfl⟩,hd σ H p⟩
theorem Paired.appP {α β:Type}{R:α->β->Prop}:∀ {xs xs':List α} {ys ys':List β},Paired R xs ys->Paired R xs' ys'->Paired R (xs++xs') (ys++ys')
 | _,_,_,_,.nil,s=>s
 | _,_,_,_,.cons r t,s=>.cons r (Paired.appP t s)
section
variable {K:W.Frag}
def RowsAt (K:W.Frag)(H:Hp)(l:Addr)(rss:List (List Rat)):Prop:=∃ as:List Addr,H l=some (.lst (as.map V.ref))/\Paired (RowAt K H) as rss
theorem Yq {H H':Hp}{as:List Addr}{rss:List (List Rat)}(h:Paired (RowAt K H) as rss)(x:Ext H H'):Paired (RowAt K H') as rss:=Paired.mapP h fun _ _ q=>q.ext x
end
theorem Lm {c A B:Prop}[Decidable c](hc:¬ c)(h:A):if (!decide c)=true then A else B:=by
 rw[JI hc]
 exact Uq h
end Sb
namespace Sb
open PySem PySem.Builtin.SmallTypes
abbrev xH1 (h:Heap)(t:Addr):Heap:=h.push { cls:=.type "tuple_iterator",data:=.fields #[.ref t,.int 0 0] }
abbrev xH2 (h:Heap)(t u:Addr):Heap:=(xH1 h t).push { cls:=.type "list_iterator",data:=.fields #[.ref u,.int 0 0] }
abbrev xH3 (h:Heap)(t u:Addr):Heap:=(xH2 h t u).push { cls:=.type "tuple",data:=.seq #[.ref h.objs.size,.ref (xH1 h t).objs.size] }
abbrev xH4 (h:Heap)(t u:Addr):Heap:=(xH3 h t u).push { cls:=.type "tuple",data:=.seq #[.none,.none] }
abbrev xH5 (h:Heap)(t u:Addr):Heap:=(xH4 h t u).push { cls:=.type "zip",data:=.fields #[.none,.bool false,.bool false,.ref (xH2 h t u).objs.size,.ref (xH3 h t u).objs.size] }
theorem J4 (t u:Addr)(xs ys:Array Value):Meets (Builtin.«zip.__new__» ⟨[.type "zip",.ref t,.ref u],[]⟩) (fun _ R s=>s.heap.IsTuple t xs/\s.heap.IsList u ys ∧
  R (.ok (.ret (.ref (xH4 s.heap t u).objs.size))) { s with heap:=xH5 s.heap t u }) :=
 .of_wp fun prog w A R s h=>by
  obtain⟨hp,g,d,tk,os⟩:=s
  obtain⟨h1,h2,h⟩:=h
  have hsub:=sub_zip
  have T1:Heap.IsTuple (Shared.heap ⟨hp,g,d,tk,os⟩) t xs:=h1
  have T2:Heap.IsList (Shared.heap ⟨hp.push { cls:=.type "tuple_iterator",data:=.fields #[.ref t,.int 0 0] },g,d,tk,os⟩) u ys:=Heap.IsList.push h2 _
  wp_walk using GZ T1,GF T2
  exact⟨_,rfl,h⟩
theorem Ce {prog:Program}{w:World}{A:Around}{E:Value->Shared->Prop}{s:Shared}{t u:Addr}{xs ys:Array Value}{Q:Value->Shared->Prop}(h1:s.heap.IsTuple t xs)(h2:s.heap.IsList u ys)
  (h:∀ h',IsZip h' (s.heap.objs.size+4) (s.heap.objs.size+2) (s.heap.objs.size+3) .none->IsPair h' (s.heap.objs.size+2) (.ref s.heap.objs.size) (.ref (s.heap.objs.size+1))->IsPair h' (s.heap.objs.size+3) .none .none →
   h'.IsTupleIter s.heap.objs.size t 0->h'.IsListIter (s.heap.objs.size+1) u 0->h'.objs.size=s.heap.objs.size+5->(∀ c o,s.heap.get? c=some o->h'.get? c=some o)->Q (.ref (s.heap.objs.size+4)) { s with heap:=h' }) :
  wpAny (model prog w) A (call (.type "zip") [.ref t,.ref u]) Q E s:=by
 refine Y0K F.called_zip (by decide) (F.typeCall_zip_2 _ _) (F.newCall_zip_2 _ _) (fun obj=>F.args_object_init_3 obj _ _) F.entry_zip_new (J4 t u xs ys) ⟨h1,h2,?_⟩
 have e1:(xH1 s.heap t).objs.size=s.heap.objs.size+1:=XM ..
 have e2:(xH2 s.heap t u).objs.size=s.heap.objs.size+2:=by rw[XM,e1]
 have e3:(xH3 s.heap t u).objs.size=s.heap.objs.size+3:=by rw[XM,e2]
 have e4:(xH4 s.heap t u).objs.size=s.heap.objs.size+4:=by rw[XM,e3]
 have e5:(xH5 s.heap t u).objs.size=s.heap.objs.size+5:=by rw[XM,e4]
 have p5:(xH5 s.heap t u).get? (xH4 s.heap t u).objs.size=some _:=YO _ rfl
 have p4:(xH5 s.heap t u).get? (xH3 s.heap t u).objs.size=some _:=YA _ (YO _ rfl)
 have p3:(xH5 s.heap t u).get? (xH2 s.heap t u).objs.size=some _:=YA _ (YA _ (YO _ rfl))
 have p2:(xH5 s.heap t u).get? (xH1 s.heap t).objs.size=some _:=YA _ (YA _ (YA _ (YO _ rfl)))
 have p1:(xH5 s.heap t u).get? s.heap.objs.size=some _:=YA _ (YA _ (YA _ (YA _ (YO _ rfl))))
 show _/\_
 rw[e2,e3,e4] at p5
 rw[e1,e2] at p3
 rw[e3] at p4
 rw[e1] at p2
 rw[e4]
 refine⟨⟨_,p5,rfl⟩,h _ p5 p3 p4 ⟨_,p1,rfl,rfl⟩ ⟨_,p2,rfl,rfl⟩ e5 fun c o x=>?_⟩
 exact YA _ (YA _ (YA _ (YA _ (YA _ x))))
end Sb
namespace Sb
open PySem PySem.Spec PyProof.Rows L2
def ItzM (K:W.Frag)(t u:Addr):It :=
 ⟨fun i H=>∃ xs ys,SqT K H t xs/\SqL K H u ys/\i<xs.length/\i<ys.length,
   fun i H v H'=>∃ p x y,v=.ref p/\H p=none/\H'=upd H p (.tup [x,y])/\(∀ xs,SqT K H t xs->xs[i]?=some x)/\∀ ys,SqL K H u ys->ys[i]?=some y,
   fun i H=>∃ xs ys,SqT K H t xs/\SqL K H u ys/\i=xs.length⟩
theorem Fo {P:Program}{w:World}{K:W.Frag}{es:List Expr}{kk:Nat}{tp:Pos}{z TI TO i1 i2:Addr}(O:ZOff z TI TO i1 i2)(t u:Addr) :
  Turn P w K (.Tuple es kk tp) (ItzM K t u) [z,TI,TO,i1,i2] z (fun i h=>IsZip h z TI TO .none/\IsPair h TI (.ref i1) (.ref i2)/\(∃ a b,IsPair h TO a b)/\h.IsTupleIter i1 t i/\h.IsListIter i2 u i) where
 mem:=by simp
 obj:=fun i h ⟨hz,hTI,⟨a,b,hTO⟩,⟨o1,e1,_,d1⟩,⟨o2,e2,_,d2⟩⟩ b hb=>by
  simp only [YS,XI,GP] at hb
  rcases hb with rfl | rfl | rfl | rfl | rfl
  ·exact⟨_,hz,fun v q=>by have q':Data.fields _=Data.cell v:=q;cases q'⟩
  ·exact⟨_,hTI,fun v q=>by have q':Data.seq _ _=Data.cell v:=q;cases q'⟩
  ·exact⟨_,hTO,fun v q=>by have q':Data.seq _ _=Data.cell v:=q;cases q'⟩
  ·exact⟨_,e1,fun v q=>by rw[d1] at q;cases q⟩
  ·exact⟨_,e2,fun v q=>by rw[d2] at q;cases q⟩
 keep:=fun i h h' ⟨hz,hTI,⟨a,b,hTO⟩,⟨o1,e1,r1⟩,⟨o2,e2,r2⟩⟩ k=>⟨k z (by simp) _ hz,k TI (by simp) _ hTI,⟨a,b,k TO (by simp) _ hTO⟩,⟨o1,k i1 (by simp) _ e1,r1⟩,⟨o2,k i2 (by simp) _ e2,r2⟩⟩
 item:=by
  intro X hP hw hK hc i pins s σ H E I hf st hg
  subst hP hw hK
  obtain⟨xs,ys,hx,hy,lx,ly⟩:=hg
  obtain⟨hz,hTI,⟨a,b,hTO⟩,c1,c2⟩:=st
  obtain⟨u1,v1,p1,_⟩:=I.tuple hx
  obtain⟨u2,v2,p2',_⟩:=I.list hy
  have p2:=p2'.isList
  have n1:=v1.length
  have n2:=v2.length
  have ne:∀ b∈[z,TI,TO,i1,i2],t≠b/\u≠b:=fun b hb=>⟨Nb I (hf b hb) hx,U5 I (hf b hb) hy⟩
  have off:∀ b∈[z,TI,TO,i1,i2],∀ x,(b,x) ∉ X.pn:=fun b hb x m=>(hf b hb).2.2.2.2.2 _ (YL _ m) rfl
  have qI:∀ p∈X.pn,s.heap.get? p.1=some p.2:=fun p hp=>(I.pin p (YL _ hp)).1
  have qO:∀ b∈[z,TI,TO,i1,i2],∀ p∈X.pn,p.1≠b:=fun b hb p hp=>(hf b hb).2.2.2.2.2 p (YL _ hp)
  have D:Off z TI TO i1 i2 (i1::t::X.pn.map Prod.fst) (i2::u::X.pn.map Prod.fst):=⟨O.a1,O.a2,O.a3,O.a4,O.a5,O.a6,O.a7,O.a8,O.a9,O.b1,
   by simp[O.a3.symm,(ne z (by simp)).1.symm,off z (by simp)],by simp[O.a8,(ne TO (by simp)).1.symm,off TO (by simp)],by simp[O.b1.symm,(ne i2 (by simp)).1.symm,off i2 (by simp)],
   by simp[O.a4.symm,(ne z (by simp)).2.symm,off z (by simp)],by simp[O.a9,(ne TO (by simp)).2.symm,off TO (by simp)],by simp[O.b1,(ne i1 (by simp)).2.symm,off i1 (by simp)]⟩
  have D1:=Ug (prog:=X.prog) (w:=X.w) (A:=X.A.in1) (I.ok.hd hc) i1 t (ne i1 (by simp)).1 (qO i1 (by simp)) u1.toArray
  have D2:=Sb.Draws.listQ (prog:=X.prog) (w:=X.w) (A:=X.A.in1) (I.ok.hd hc) i2 u (ne i2 (by simp)).2 (qO i2 (by simp)) u2.toArray
  refine So D D1 D2 hz hTI hTO ⟨c1,p1,qI⟩ ⟨c2,p2,qI⟩ (by simp;omega) (by simp;omega) fun x y g tk px py z' to' s1 s2 pr sz kp=>?_
  refine⟨_,rfl,Y0m z' fun g2 z2 sb=>?_⟩
  obtain⟨x0,ex⟩:∃ x0,xs[i]?=some x0:=⟨xs[i],by simp[lx]⟩
  obtain⟨y0,ey⟩:∃ y0,ys[i]?=some y0:=⟨ys[i],by simp[ly]⟩
  obtain⟨x1,ex1,rx⟩:=v1.get ex
  obtain⟨y1,ey1,ry⟩:=v2.get ey
  have qx:x1=x:=by
   have:u1.toArray[i]?=some x:=px
   rw[GW,ex1] at this
   exact YK this
  have qy:y1=y:=by
   have:u2.toArray[i]?=some y:=py
   rw[GW,ey1] at this
   exact YK this
  subst qx qy
  have zlt:z<s.heap.objs.size:=YJ hz
  have pz:s.heap.objs.size≠z:=qo zlt
  have sb2:∀ b,b≠z->g2.get? b=g.get? b:=fun b hb=>sb.2 b hb
  have keep:∀ b o,b ∉ [z,TI,TO,i1,i2]->s.heap.get? b=some o->g2.get? b=some o:=fun b o hb e=>by
   simp only [YS,XI,GP,Y14] at hb
   rw[sb2 b hb.1]
   exact kp b o hb.1 hb.2.2.1 hb.2.2.2.1 hb.2.2.2.2 e
  have new:ObjOk X.prog X.w (upd H s.heap.objs.size (.tup [x0,y0])) g2 s.heap.objs.size (.tup [x0,y0]) :=
   ⟨by show 2<=sizeLine;decide,[x1,y1],.cons rx (.cons ry .nil),⟨_,by rw[sb2 _ pz];exact pr,rfl,0,rfl⟩⟩
  have I2:=Wb (t':=tk) I hf keep (YE _) new
  have nn:∀ b∈[z,TI,TO,i1,i2],upd H s.heap.objs.size (.tup [x0,y0]) b=none:=fun b hb=>by
   have:b≠s.heap.objs.size:=by
    have ob:∃ o,s.heap.get? b=some o:=by
     simp only [YS,XI,GP] at hb
     obtain⟨o1,e1,_⟩:=c1
     obtain⟨o2,e2,_⟩:=c2
     rcases hb with rfl | rfl | rfl | rfl | rfl
     ·exact⟨_,hz⟩
     ·exact⟨_,hTI⟩
     ·exact⟨_,hTO⟩
     ·exact⟨_,e1⟩
     ·exact⟨_,e2⟩
    obtain⟨o,e⟩:=ob
    exact XA (YJ e)
   rw[Zf this]
   exact (hf b hb).1
  refine⟨.ref s.heap.objs.size,_,I2,rfl,⟨_,x0,y0,rfl,I.fresh,rfl,fun xs' h1=>by rw[I.tuple_inj h1 hx];exact ex,fun ys' h2=>by rw[I.list_inj h2 hy];exact ey⟩,⟨z2,?_,⟨x1,y1,?_⟩,?_,?_⟩,nn⟩
  ·exact (sb2 TI O.a1).trans (kp _ _ O.a1 O.a5 O.a6 O.a7 hTI)
  ·exact (sb2 TO O.a2).trans to'
  ·exact s1.1.extBut sb.extBut O.a3
  ·exact s2.1.extBut sb.extBut O.a4
 done:=by
  intro X hP hw hK hc i pins s σ H E I hf st hg
  subst hP hw hK
  obtain⟨xs,ys,hx,hy,rfl⟩:=hg
  obtain⟨hz,hTI,⟨a,b,hTO⟩,c1,c2⟩:=st
  obtain⟨u1,v1,p1,_⟩:=I.tuple hx
  have n1:=v1.length
  have ne:∀ b∈[z,TI,TO,i1,i2],t≠b/\u≠b:=fun b hb=>⟨Nb I (hf b hb) hx,U5 I (hf b hb) hy⟩
  have off:∀ b∈[z,TI,TO,i1,i2],∀ x,(b,x) ∉ X.pn:=fun b hb x m=>(hf b hb).2.2.2.2.2 _ (YL _ m) rfl
  have qI:∀ p∈X.pn,s.heap.get? p.1=some p.2:=fun p hp=>(I.pin p (YL _ hp)).1
  have qO:∀ b∈[z,TI,TO,i1,i2],∀ p∈X.pn,p.1≠b:=fun b hb p hp=>(hf b hb).2.2.2.2.2 p (YL _ hp)
  have D:Off z TI TO i1 i2 (i1::t::X.pn.map Prod.fst) (i2::u::X.pn.map Prod.fst):=⟨O.a1,O.a2,O.a3,O.a4,O.a5,O.a6,O.a7,O.a8,O.a9,O.b1,
   by simp[O.a3.symm,(ne z (by simp)).1.symm,off z (by simp)],by simp[O.a8,(ne TO (by simp)).1.symm,off TO (by simp)],by simp[O.b1.symm,(ne i2 (by simp)).1.symm,off i2 (by simp)],
   by simp[O.a4.symm,(ne z (by simp)).2.symm,off z (by simp)],by simp[O.a9,(ne TO (by simp)).2.symm,off TO (by simp)],by simp[O.b1,(ne i1 (by simp)).2.symm,off i1 (by simp)]⟩
  have D1:=Ug (prog:=X.prog) (w:=X.w) (A:=X.A.in1) (I.ok.hd hc) i1 t (ne i1 (by simp)).1 (qO i1 (by simp)) u1.toArray
  have c1':s.heap.IsTupleIter i1 t u1.toArray.size:=by
   rw[YQ,← n1]
   exact c1
  refine Vp D D1 hz hTI ⟨c1',p1,qI⟩ fun g kp=>⟨rfl,?_⟩
  exact U7 (t':=s.toks) I hf fun b o hb e=>by
   simp only [YS,XI,GP,Y14] at hb
   exact kp b o hb.1 hb.2.2.2.1 e
 self:=fun _ _ _ _ _ st h=>jp st.1 h
section
variable {X:Cx}
def iZipM (K:W.Frag)(ta:TA):TI:=fun σ H R=>ta σ H fun vs H1=>∃ t u,vs=[.ref t,.ref u]/\(∃ xs,SqT K H1 t xs)/\(∃ ys,SqL K H1 u ys)/\R (ItzM K t u) H1
theorem Z2j {a b:Expr}{ta:TA}{p pos:Pos}{es:List Expr}{kk:Nat}{tp:Pos}(hg:Gl X "zip")(hm:X.mg "zip"=none)(ha:PA X [a,b] ta)(hs:starEach [a,b] X.env=[(false,eval a X.env),(false,eval b X.env)]:=by rfl)
  (hs2:starEach [b] X.env=[(false,eval b X.env)]:=by rfl):PI X (.Tuple es kk tp) (.Call (.Name "zip" p) [a,b] [] pos) (iZipM X.K ta):=by
 intro pins s σ H R I h
 refine Call_ (W5 I hg hm boot_zip (XS (thn (ha pos pins s σ H _ I h) fun us s1 ⟨vs,H1,I1,r1,q1⟩=>?_) (by rw[hs,hs2]) (by rw[hs2];rfl)))
 obtain⟨t,u,e,⟨xs,hx⟩,⟨ys,hy⟩,q⟩:=q1
 subst e
 obtain⟨t0,u0,e0,rt,ru⟩:=Mg r1
 cases (show t0=Value.ref t from rt)
 cases (show u0=Value.ref u from ru)
 subst e0
 obtain⟨u1,v1,p1,_⟩:=I1.tuple hx
 obtain⟨u2,v2,p2',_⟩:=I1.list hy
 have p2:=p2'.isList
 refine Ce (xs:=u1.toArray) (ys:=u2.toArray) p1 p2 fun g z0 ti to i1 i2 sz kp=>?_
 refine jp z0 ?_
 have I2:Inv X pins σ H1 { s1 with heap:=g }:=I1.kept (t':=s1.toks) kp
 refine⟨s1.heap.objs.size+4,[s1.heap.objs.size+4,s1.heap.objs.size+2,s1.heap.objs.size+3,s1.heap.objs.size,s1.heap.objs.size+1],_,ItzM X.K t u,H1,rfl,I2,Fo (O:=?_) t u,⟨z0,ti,⟨_,_,to⟩,i1,i2⟩,fun b hb=>?_,q⟩
 ·refine⟨?_,?_,?_,?_,?_,?_,?_,?_,?_,?_⟩ <;> (show @Ne Nat _ _;omega)
 ·have hb':s1.heap.objs.size<=b:=by
   simp only [YS,XI,GP] at hb
   rcases hb with rfl | rfl | rfl | rfl | rfl
   ·exact GD _ _
   ·exact GD _ _
   ·exact GD _ _
   ·exact YE _
   ·exact GD _ _
  exact I1.fpOk hb' (I1.hok.fresh hb')
end
theorem Kc (l:Addr)(items:Array Value)(n:Nat)(dd:Option Addr)(sl:Array (Option Value))(u:Tok) :
  Meets (Builtin.«tuple.__mul__» ⟨[.ref l,.int 1 u],[]⟩) (fun _ R s=>s.heap.get? l=some { cls:=.type "tuple",dict:=dd,data:=.seq items n,slots:=sl }/\R (.ok (.ret (Value.ref l))) s) :=
 .of_wp fun prog w A R s h=>by
  obtain⟨hp,g,d,tk,os⟩:=s;obtain⟨hl,h⟩:=h
  have f1:=Y0B
  have f2:=zJ
  have c1:(items.isEmpty || (1:Int) == 1)=true:=by simp
  wp_walk using JB hl
  exact⟨_,rfl,h⟩
section
variable {X:Cx}{K:W.Frag}
def rRepU (K:W.Frag):R2:=fun x y H Q=>∃ a k xs,x=.ref a/\y=.int k/\SqT K H a xs/\1<=k/\xs≠[]/\xs.length*k.toNat<=1000/\∀ p H',Same H H'->SqT K H' p (List.replicate k.toNat xs).flatten->Q (.ref p) H'
theorem Gp:OpR X (binaryOp .Mult) (rRepU X.K):=by
 intro pins s σ H x y v u Q I rx ry h
 obtain⟨l,k,xs,rfl,rfl,hq,h1,h2,h3,q⟩:=h
 by_cases hk:2<=k
 ·exact Gq pins s σ H _ _ v u Q I rx ry ⟨l,k,xs,rfl,rfl,hq,hk,h2,h3,fun p hp=>q p _ (Same.new hp) (SqT.of Zc)⟩
 ·have e:k=1:=by omega
  subst e
  cases rx
  obtain⟨t,rfl⟩:=ry
  obtain⟨its,r,pl,hz⟩:=I.tuple hq
  obtain⟨⟨cls,dd,data,sl⟩,ho,hc,n,hd⟩:=id pl
  simp only at hc hd
  subst hc hd
  refine Y0l (T:="tuple") (U:="int") (by decide) ⟨_,ho,rfl⟩ (fun s'=>Y0H s' 1 t) V6 F.fills_int_mul jx T4 F.slot_int_index.lookup
   (jk jx (Y0H s 1 t) F.entry_int_rmul (F.args_int_rmul_2 _ _) (Uh 1 t l its.toArray n dd sl)
    ⟨ho,rfl,⟨_,ho,rfl⟩,jk jn ⟨_,ho,rfl⟩ F.entry_tuple_mul (F.args_tuple_mul_2 _ _) (Kc l its.toArray n dd sl t) ⟨ho,?_⟩⟩)
  refine⟨.ref l,H,I,rfl,q l H (fun _ _ h=>h) ?_⟩
  have:(List.replicate (1:Int).toNat xs).flatten=xs:=by simp
  rw[this]
  exact hq
end
end Sb
namespace Sv
structure Tab where
 b:Int
 own:Nat->Nat
 hd:Nat->Nat
 L:Nat->Nat->Int
def colOf (n:Nat)(col:Nat->Vec)(rhs:Vec)(T:Tab)(j:Nat):Vec:=if j<n then col (T.hd j) else rhs
def bas (col:Nat->Vec)(T:Tab):Mat:=fun i=>col (T.own i)
structure Inv (m n:Nat)(col:Nat->Vec)(rhs:Vec)(T:Tab):Prop where
 pos:0<T.b
 dt:det m (bas col T)=T.b
 eqs:∀ j,j<=n->∀ r,r<m->T.b*colOf n col rhs T j r=sm m (fun i=>T.L i j*bas col T i r)
 part:∀ f:Nat->Int,sm (n+m) f=sm m (fun i=>f (T.own i))+sm n (fun j=>f (T.hd j))
section
variable {m n:Nat}{col:Nat->Vec}{rhs:Vec}{T:Tab}
theorem Mc {a x y:Int}(h:0<a)(e:a*x=a*y):x=y:=JN (by omega) e
theorem M7 {i k:Nat}(hi:i<m)(hk:k<m):det m (put (bas col T) i (bas col T k))=if k=i then det m (bas col T) else 0:=by
 by_cases e:k=i
 ·subst e
  rw[YM rfl,Vz]
 ·rw[YG e]
  exact P9 hi hk (XO e) (by rw[Yf,Ya e])
theorem Inv.phi (I:Inv m n col rhs T){i j:Nat}(hi:i<m)(hj:j<=n):det m (put (bas col T) i (colOf n col rhs T j))=T.L i j:=by
 refine Mc I.pos ?_
 rw[← K1 hi]
 have e1:det m (put (bas col T) i (fun r=>T.b*colOf n col rhs T j r))=det m (put (bas col T) i (fun r=>sm m (fun k=>T.L k j*bas col T k r))):=by
  refine Xh fun k r hk hr=>?_
  by_cases e:k=i
  ·subst e
   rw[Yf,Yf]
   exact I.eqs j hj r hr
  ·rw[Ya e,Ya e]
 rw[e1,Tl hi]
 rw[sm_one (k:=i) hi fun k hk hne=>?_]
 ·rw[M7 hi hi,YM rfl,I.dt,XH]
 ·rw[M7 hi hk,YG hne,GQ]
theorem Inv.phiO (I:Inv m n col rhs T){i k:Nat}(hi:i<m)(hk:k<m):det m (put (bas col T) i (bas col T k))=if k=i then T.b else 0:=by
 rw[M7 hi hk,I.dt]
theorem Inv.two (I:Inv m n col rhs T){p i c j:Nat}(hp:p<m)(hi:i<m)(hpi:i≠p)(hc:c<=n)(hj:j<=n) :
  T.b*det m (put (put (bas col T) p (colOf n col rhs T c)) i (colOf n col rhs T j))=T.L i j*T.L p c - T.L i c*T.L p j:=by
 rw[Xv (XO hpi),← K1 hp]
 have e1:det m (put (put (bas col T) i (colOf n col rhs T j)) p (fun r=>T.b*colOf n col rhs T c r))=det m (put (put (bas col T) i (colOf n col rhs T j)) p (fun r=>sm m (fun k=>T.L k c*bas col T k r))):=by
  refine Xh fun k r hk hr=>?_
  by_cases e:k=p
  ·subst e
   rw[Yf,Yf]
   exact I.eqs c hc r hr
  ·rw[Ya e,Ya e]
 rw[e1,Tl hp]
 rw[Cu (p:=p) (q:=i) hp hi (XO hpi) fun k hk h1 h2=>?_]
 ·have a1:put (put (bas col T) i (colOf n col rhs T j)) p (bas col T p)=put (bas col T) i (colOf n col rhs T j):=by
   rw[Xv hpi,Vz]
  have a2:det m (put (put (bas col T) i (colOf n col rhs T j)) p (bas col T i))=- T.L p j:=by
   rw[Z1r hi hp hpi,Vz,I.phi hp hj]
  rw[a1,a2,I.phi hi hj]
  grind
 ·rw[P9 (p:=p) (q:=k) hp hk (XO h1) (by rw[Yf,Ya h1,Ya h2]),GQ]
def newL (T:Tab)(p c i j:Nat):Int:=if i=p then (if j=c then T.b else T.L p j) else if j=c then - T.L i c else (T.L i j*T.L p c - T.L i c*T.L p j).fdiv T.b
def up (f:Nat->Nat)(i v:Nat):Nat->Nat:=fun k=>if k=i then v else f k
def piv (T:Tab)(p c:Nat):Tab:=⟨T.L p c,up T.own p (T.hd c),up T.hd c (T.own p),newL T p c⟩
theorem Inv.newL_mul (I:Inv m n col rhs T){p c i j:Nat}(hp:p<m)(hc:c<n)(hi:i<m)(hj:j<=n)(h1:i≠p)(h2:j≠c):T.b*newL T p c i j=T.L i j*T.L p c - T.L i c*T.L p j:=by
 have h:=I.two hp hi h1 (JK hc) hj
 unfold newL
 rw[YG h1,YG h2,← h]
 rw[XH T.b (det m _),Y01 _ (by have:=I.pos;omega)]
 rw[XH]
theorem Z40 {k:Nat}{f:Nat->Int}{g:Nat->Nat}{i v:Nat}(hi:i<k):sm k (fun x=>f (up g i v x))=sm k (fun x=>f (g x))+f v - f (g i):=by
 rw[Zz (k:=i) hi,Zz (f:=fun x=>f (g x)) (k:=i) hi]
 have e:sm k (fun x=>if x=i then 0 else f (up g i v x))=sm k (fun x=>if x=i then 0 else f (g x)):=Y1 fun x _=>by
  by_cases h:x=i
  ·rw[YM h,YM h]
  ·rw[YG h,YG h];unfold up;rw[YG h]
 rw[e]
 have:up g i v i=v:=YM rfl
 show f (up g i v i)+_=_
 rw[this]
 omega
theorem Fh (T:Tab)(p c:Nat):bas col (piv T p c)=put (bas col T) p (col (T.hd c)):=by
 funext i
 show col (up T.own p (T.hd c) i)=_
 by_cases e:i=p
 ·subst e
  rw[Yf]
  unfold up
  rw[YM rfl]
 ·rw[Ya e]
  unfold up
  rw[YG e]
  rfl
theorem Wo {j:Nat}(h:j<n):colOf n col rhs T j=col (T.hd j):=YM h
theorem Inv.piv (I:Inv m n col rhs T){p c:Nat}(hp:p<m)(hc:c<n)(hk:0<T.L p c):Inv m n col rhs (piv T p c):=by
 refine⟨hk,?_,fun j hj r hr=>?_,fun f=>?_⟩
 ·rw[Fh,← Wo (col:=col) (rhs:=rhs) (T:=T) hc,I.phi hp (JK hc)]
  rfl
 ·rw[Fh]
  show T.L p c*colOf n col rhs (Sv.piv T p c) j r=sm m (fun i=>newL T p c i j*put (bas col T) p (col (T.hd c)) i r)
  have ec:=I.eqs c (JK hc) r hr
  rw[Wo hc,Zz (k:=p) hp] at ec
  rw[Zz (k:=p) hp,Yf]
  by_cases e:j=c
  ·subst e
   have e1:colOf n col rhs (Sv.piv T p j) j=bas col T p:=by
    rw[Wo hc]
    show col (up T.hd j (T.own p) j)=_
    unfold up
    rw[YM rfl]
    rfl
   have e2:sm m (fun i=>if i=p then 0 else newL T p j i j*put (bas col T) p (col (T.hd j)) i r)=(-1)*sm m (fun i=>if i=p then 0 else T.L i j*bas col T i r):=by
    rw[← Yt]
    refine Y1 fun i hi=>?_
    by_cases h:i=p
    ·rw[YM h,YM h];rfl
    ·rw[YG h,YG h,Ya h]
     unfold newL
     rw[YG h,YM rfl]
     grind
   have e3:newL T p j p j=T.b:=by unfold newL;rw[YM rfl,YM rfl]
   rw[e1,e2,e3]
   omega
  ·have ej:=I.eqs j hj r hr
   rw[Zz (k:=p) hp] at ej
   have e1:colOf n col rhs (Sv.piv T p c) j=colOf n col rhs T j:=by
    unfold colOf
    by_cases q:j<n
    ·rw[YM q,YM q]
     show col (up T.hd c (T.own p) j)=_
     unfold up
     rw[YG e]
    ·rw[YG q,YG q]
   have e3:newL T p c p j=T.L p j:=by unfold newL;rw[YM rfl,YG e]
   refine Mc I.pos ?_
   have e2:T.b*sm m (fun i=>if i=p then 0 else newL T p c i j*put (bas col T) p (col (T.hd c)) i r)=T.L p c*sm m (fun i=>if i=p then 0 else T.L i j*bas col T i r)+(- T.L p j)*sm m (fun i=>if i=p then 0 else T.L i c*bas col T i r):=by
    rw[← Yt,← Yt,← Yt,← Xr]
    refine Y1 fun i hi=>?_
    by_cases h:i=p
    ·rw[YM h,YM h,YM h];simp
    ·rw[YG h,YG h,YG h,Ya h,← JM,I.newL_mul hp hc hi hj h e]
     grind
   rw[e1,e3,Y1b,e2]
   generalize sm m (fun i=>if i=p then 0 else T.L i j*bas col T i r)=A at *
   generalize sm m (fun i=>if i=p then 0 else T.L i c*bas col T i r)=B at *
   generalize colOf n col rhs T j r=x at *
   generalize col (T.hd c) r=y at *
   generalize bas col T p r=z at *
   clear e2
   grind
 ·show sm (n+m) f=sm m (fun i=>f (up T.own p (T.hd c) i))+sm n (fun j=>f (up T.hd c (T.own p) j))
  rw[Z40 hp,Z40 hc,I.part f]
  omega
def ind (v:Nat):Nat->Int:=fun x=>if x=v then 1 else 0
theorem Sc (v x:Nat):0<=ind v x:=by unfold ind;split <;> omega
theorem Inv.cnt (I:Inv m n col rhs T){v:Nat}(h:v<n+m):sm m (fun i=>ind v (T.own i))+sm n (fun j=>ind v (T.hd j))=1:=by
 rw[← I.part (ind v),sm_one (f:=ind v) (k:=v) h fun i hi hne=>YG hne]
 exact YM rfl
theorem Inv.big (I:Inv m n col rhs T):sm m (fun i=>if T.own i<n+m then (0:Int) else 1)+sm n (fun j=>if T.hd j<n+m then (0:Int) else 1)=0:=by
 rw[← I.part (fun x=>if x<n+m then 0 else 1)]
 exact sm_zero fun i hi=>YM hi
theorem Inv.ownLt (I:Inv m n col rhs T){i:Nat}(hi:i<m):T.own i<n+m:=by
 apply YU
 intro h
 have e:=I.big
 have h1:0<=sm n (fun j=>if T.hd j<n+m then (0:Int) else 1):=Y0 fun j _=>by split <;> omega
 rw[Zz (k:=i) hi,YG h] at e
 have h2:0<=sm m (fun x=>if x=i then 0 else if T.own x<n+m then (0:Int) else 1):=Y0 fun j _=>by split <;> (try split) <;> omega
 omega
theorem Inv.hdLt (I:Inv m n col rhs T){j:Nat}(hj:j<n):T.hd j<n+m:=by
 apply YU
 intro h
 have e:=I.big
 have h1:0<=sm m (fun j=>if T.own j<n+m then (0:Int) else 1):=Y0 fun j _=>by split <;> omega
 rw[Zz (f:=fun j=>if T.hd j<n+m then (0:Int) else 1) (k:=j) hj,YG h] at e
 have h2:0<=sm n (fun x=>if x=j then 0 else if T.hd x<n+m then (0:Int) else 1):=Y0 fun j _=>by split <;> (try split) <;> omega
 omega
theorem Inv.ne (I:Inv m n col rhs T){i j:Nat}(hi:i<m)(hj:j<n):T.own i≠T.hd j:=fun h=>by
 have e:=I.cnt (I.ownLt hi)
 rw[Zz (k:=i) hi,Zz (f:=fun x=>ind (T.own i) (T.hd x)) (k:=j) hj] at e
 have a1:ind (T.own i) (T.own i)=1:=YM rfl
 have a2:ind (T.own i) (T.hd j)=1:=YM h.symm
 have h1:0<=sm m (fun x=>if x=i then 0 else ind (T.own i) (T.own x)):=Y0 fun x _=>by split;omega;exact Sc ..
 have h2:0<=sm n (fun x=>if x=j then 0 else ind (T.own i) (T.hd x)):=Y0 fun x _=>by split;omega;exact Sc ..
 omega
theorem Inv.ownInj (I:Inv m n col rhs T){i k:Nat}(hi:i<m)(hk:k<m)(h:T.own i=T.own k):i=k:=by
 apply YU
 intro hne
 have e:=I.cnt (I.ownLt hi)
 rw[Zz (k:=i) hi,Zz (f:=fun x=>if x=i then 0 else ind (T.own i) (T.own x)) (k:=k) hk] at e
 have a1:ind (T.own i) (T.own i)=1:=YM rfl
 rw[YG (XO hne)] at e
 have a2:ind (T.own i) (T.own k)=1:=YM h.symm
 have h1:0<=sm m (fun x=>if x=k then 0 else if x=i then 0 else ind (T.own i) (T.own x)):=Y0 fun x _=>by split;omega;split;omega;exact Sc ..
 have h2:0<=sm n (fun x=>ind (T.own i) (T.hd x)):=Y0 fun x _=>Sc ..
 omega
theorem Inv.hdInj (I:Inv m n col rhs T){i k:Nat}(hi:i<n)(hk:k<n)(h:T.hd i=T.hd k):i=k:=by
 apply YU
 intro hne
 have e:=I.cnt (I.hdLt hi)
 rw[Zz (f:=fun x=>ind (T.hd i) (T.hd x)) (k:=i) hi,Zz (f:=fun x=>if x=i then 0 else ind (T.hd i) (T.hd x)) (k:=k) hk] at e
 have a1:ind (T.hd i) (T.hd i)=1:=YM rfl
 rw[YG (XO hne)] at e
 have a2:ind (T.hd i) (T.hd k)=1:=YM h.symm
 have h1:0<=sm n (fun x=>if x=k then 0 else if x=i then 0 else ind (T.hd i) (T.hd x)):=Y0 fun x _=>by split;omega;split;omega;exact Sc ..
 have h2:0<=sm m (fun x=>ind (T.hd i) (T.own x)):=Y0 fun x _=>Sc ..
 omega
theorem Inv.cover (I:Inv m n col rhs T){v:Nat}(h:v<n+m):(∃ i,i<m/\T.own i=v) \/ (∃ j,j<n/\T.hd j=v):=by
 have e:=I.cnt h
 by_cases q:0<sm m (fun i=>ind v (T.own i))
 ·obtain⟨i,hi,hp⟩:=Kg q
  refine .inl ⟨i,hi,?_⟩
  apply YU
  intro z
  rw[show ind v (T.own i)=0 from YG z] at hp
  omega
 ·have:0<sm n (fun j=>ind v (T.hd j)):=by omega
  obtain⟨i,hi,hp⟩:=Kg this
  refine .inr ⟨i,hi,?_⟩
  apply YU
  intro z
  rw[show ind v (T.hd i)=0 from YG z] at hp
  omega
theorem Inv.row (I:Inv m n col rhs T){i:Nat}(hi:i<m)(x:Nat->Int)(hx:∀ r,r<m->sm (n+m) (fun v=>x v*col v r)=0):T.b*x (T.own i)+sm n (fun j=>T.L i j*x (T.hd j))=0:=by
 have e1:det m (put (bas col T) i (fun r=>sm (n+m) (fun v=>x v*col v r)))=0:=by
  rw[← K0 (m:=m) (v:=bas col T) (c:=i) hi]
  refine Xh fun k r hk hr=>?_
  by_cases e:k=i
  ·subst e
   rw[Yf,Yf]
   exact hx r hr
  ·rw[Ya e,Ya e]
 rw[Tl hi,I.part] at e1
 have e2:sm m (fun k=>x (T.own k)*det m (put (bas col T) i (col (T.own k))))=T.b*x (T.own i):=by
  rw[sm_one (k:=i) hi fun k hk hne=>?_]
  ·have:=I.phiO hi hi
   rw[YM rfl] at this
   show x (T.own i)*det m (put (bas col T) i (bas col T i))=_
   rw[this,XH]
  ·have:=I.phiO hi hk
   rw[YG hne] at this
   show x (T.own k)*det m (put (bas col T) i (bas col T k))=_
   rw[this,GQ]
 have e3:sm n (fun j=>x (T.hd j)*det m (put (bas col T) i (col (T.hd j))))=sm n (fun j=>T.L i j*x (T.hd j)):=Y1 fun j hj=>by
  have:=I.phi (i:=i) (j:=j) hi (JK hj)
  rw[Wo hj] at this
  rw[this,XH]
 rw[e2,e3] at e1
 exact e1
def dir (m:Nat)(T:Tab)(c:Nat):Nat->Int:=fun v=>(if v=T.hd c then T.b else 0) + - sm m (fun i=>if T.own i=v then T.L i c else 0)
theorem Inv.dirO (I:Inv m n col rhs T){c i:Nat}(hc:c<n)(hi:i<m):dir m T c (T.own i)=- T.L i c:=by
 unfold dir
 rw[YG (I.ne hi hc),sm_one (k:=i) hi fun k hk hne=>YG fun z=>hne (I.ownInj hk hi z),YM rfl]
 omega
theorem Inv.dirH (I:Inv m n col rhs T){c j:Nat}(hc:c<n)(hj:j<n):dir m T c (T.hd j)=if j=c then T.b else 0:=by
 unfold dir
 rw[sm_zero (f:=fun i=>if T.own i=T.hd j then T.L i c else 0) fun k hk=>YG (I.ne hk hj)]
 by_cases e:j=c
 ·subst e
  rw[YM rfl,YM rfl]
  omega
 ·rw[YG e,YG fun z=>e (I.hdInj hj hc z)]
  omega
theorem Inv.dirSol (I:Inv m n col rhs T){c:Nat}(hc:c<n){r:Nat}(hr:r<m):sm (n+m) (fun v=>dir m T c v*col v r)=0:=by
 rw[I.part]
 have e1:sm m (fun i=>dir m T c (T.own i)*col (T.own i) r)=(-1)*sm m (fun i=>T.L i c*bas col T i r):=by
  rw[← Yt]
  refine Y1 fun i hi=>?_
  rw[I.dirO hc hi]
  show _=-1*(T.L i c*col (T.own i) r)
  grind
 have e2:sm n (fun j=>dir m T c (T.hd j)*col (T.hd j) r)=T.b*col (T.hd c) r:=by
  rw[sm_one (k:=c) hc fun j hj hne=>by rw[I.dirH hc hj,YG hne,zo],I.dirH hc hc,YM rfl]
 have e3:=I.eqs c (JK hc) r hr
 rw[Wo hc] at e3
 rw[e1,e2,e3]
 omega
end
end Sv
namespace Sv
section
variable {m n lk i0:Nat}{col:Nat->Vec}{rhs:Vec}{T:Tab}{p c:Nat}
structure Step (m n lk i0:Nat)(T:Tab)(p c:Nat):Prop where
 hp:p<m
 hc:c<n
 nl:T.hd c≠lk
 help:0<T.L i0 c
 first:∀ j,j<n->T.hd j≠lk->0<T.L i0 j->T.hd c<=T.hd j
 el:T.own p<=lk
 key:0<T.L p c
 least:∀ i,i<m->T.own i<=lk->0<T.L i c->T.L p n*T.L i c<T.L i n*T.L p c \/ (T.L p n*T.L i c=T.L i n*T.L p c/\T.own p<=T.own i)
def Feas (m n lk:Nat)(T:Tab):Prop:=∀ i,i<m->T.own i<=lk->0<=T.L i n
theorem Dj {a x:Int}(ha:0<a)(h:0<=a*x):0<=x:=by
 apply YU
 intro z
 have:=Int.mul_neg_of_pos_of_neg ha (show x<0 by omega)
 omega
theorem Inv.end_ne (I:Inv m n col rhs T)(s:Step m n lk i0 T p c){i:Nat}(hi:i<m)(h:i≠p):T.b*(Sv.piv T p c).L i n=T.L i n*T.L p c - T.L i c*T.L p n :=
 I.newL_mul s.hp s.hc hi (YE n) h (by have:=s.hc;omega)
theorem Z4f (s:Step m n lk i0 T p c):(piv T p c).L p n=T.L p n:=by
 show newL T p c p n=_
 unfold newL
 rw[YM rfl,YG (by have:=s.hc;omega)]
theorem own_p:(piv T p c).own p=T.hd c:=YM rfl
theorem own_ne {i:Nat}(h:i≠p):(piv T p c).own i=T.own i:=YG h
theorem Step.feas (I:Inv m n col rhs T)(s:Step m n lk i0 T p c)(F:Feas m n lk T):Feas m n lk (piv T p c):=fun i hi ho=>by
 by_cases e:i=p
 ·subst e
  rw[Z4f s]
  exact F i hi s.el
 ·rw[own_ne e] at ho
  have h:=I.end_ne s hi e
  have h0:=F i hi ho
  have h1:=F p s.hp s.el
  refine Dj I.pos ?_
  rw[h]
  by_cases q:0<T.L i c
  ·rcases s.least i hi ho q with z | ⟨z,_⟩
   ·rw[XH (T.L i c)];omega
   ·rw[XH (T.L i c)];omega
  ·have a1:0<=T.L i n*T.L p c:=qq h0 (by have:=s.key;omega)
   have a2:T.L i c*T.L p n<=0:=GJ (by omega) h1
   omega
structure Run (m n lk i0:Nat)(col:Nat->Vec)(rhs:Vec)(K:Nat)(S:Nat->Tab)(P C:Nat->Nat):Prop where
 h0:i0<m
 I0:Inv m n col rhs (S 0)
 F0:Feas m n lk (S 0)
 st:∀ k,k<K->Step m n lk i0 (S k) (P k) (C k)
 stay:∀ k,k<K->P k≠i0
 nx:∀ k,k<K->S (k+1)=piv (S k) (P k) (C k)
variable {K:Nat}{S:Nat->Tab}{P C:Nat->Nat}
theorem Run.inv (R:Run m n lk i0 col rhs K S P C):∀ k,k<=K->Inv m n col rhs (S k)/\Feas m n lk (S k)
 | 0,_=>⟨R.I0,R.F0⟩
 | k+1,h=>by
  obtain⟨I,F⟩:=R.inv k (by omega)
  have s:=R.st k (by omega)
  rw[R.nx k (by omega)]
  exact⟨I.piv s.hp s.hc s.key,s.feas I F⟩
theorem Run.down (R:Run m n lk i0 col rhs K S P C){a:Nat}:∀ d,a+d<=K->(S (a+d)).L i0 n*(S a).b<=(S a).L i0 n*(S (a+d)).b/\((∃ l,a<=l/\l<a+d/\0<(S l).L (P l) n)->(S (a+d)).L i0 n*(S a).b<(S a).L i0 n*(S (a+d)).b)
 | 0,_=>⟨Y1c _,fun ⟨l,h1,h2,_⟩=>by omega⟩
 | d+1,h=>by
  obtain⟨h1,h2⟩:=R.down (a:=a) d (by omega)
  obtain⟨I,F⟩:=R.inv (a+d) (by omega)
  obtain⟨Ia,_⟩:=R.inv a (by omega)
  have s:=R.st (a+d) (by omega)
  have e:=I.end_ne s R.h0 (XO (R.stay (a+d) (by omega)))
  have eb:(piv (S (a+d)) (P (a+d)) (C (a+d))).b=(S (a+d)).L (P (a+d)) (C (a+d)):=rfl
  rw[← Y0x,R.nx (a+d) (by omega),eb]
  have hn:=F (P (a+d)) s.hp s.el
  have hh:=s.help
  have hk:=s.key
  have hb:=I.pos
  have ha:=Ia.pos
  have hd:0<=(S (a+d)).L i0 (C (a+d))*(S (a+d)).L (P (a+d)) n:=qq (by omega) hn
  have hds:0<(S (a+d)).L (P (a+d)) n->0<(S (a+d)).L i0 (C (a+d))*(S (a+d)).L (P (a+d)) n:=fun z=>YZ hh z
  have hs:(∃ l,a<=l/\l<a+d+1/\0<(S l).L (P l) n)->(∃ l,a<=l/\l<a+d/\0<(S l).L (P l) n) \/ 0<(S (a+d)).L (P (a+d)) n:=fun ⟨l,l1,l2,l3⟩=>by
   by_cases q:l=a+d
   ·subst q;exact .inr l3
   ·exact .inl ⟨l,l1,by omega,l3⟩
  generalize (piv (S (a+d)) (P (a+d)) (C (a+d))).L i0 n=x' at *
  generalize (S (a+d)).L i0 n=x at *
  generalize (S (a+d)).b=b at *
  generalize (S (a+d)).L (P (a+d)) (C (a+d))=b' at *
  generalize (S a).b=ba at *
  generalize (S a).L i0 n=xa at *
  generalize (S (a+d)).L i0 (C (a+d))*(S (a+d)).L (P (a+d)) n=t at *
  have e1:b*(x'*ba)=x*ba*b' - t*ba:=by
   have:b*(x'*ba)=(b*x')*ba:=by grind
   rw[this,e];grind
  have e2:b*(xa*b')=(xa*b)*b':=by grind
  have m1:x*ba*b'<=xa*b*b':=JT h1 (by omega)
  have m2:0<=t*ba:=qq hd (by omega)
  constructor
  ·exact Y0n (show b*(x'*ba)<=b*(xa*b') by omega) hb
  ·intro z
   rcases hs z with z | z
   ·have m3:x*ba*b'<xa*b*b':=zE (h2 z) hk
    exact qz (show b*(x'*ba)<b*(xa*b') by omega) (by omega)
   ·have m3:0<t*ba:=YZ (hds z) ha
    exact qz (show b*(x'*ba)<b*(xa*b') by omega) (by omega)
def isOwn (m:Nat)(T:Tab)(r:Nat):Prop:=∃ i,i<m/\T.own i=r
def Zr (m n:Nat)(T:Tab)(r:Nat):Prop:=∀ i,i<m->T.own i=r->T.L i n=0
theorem Jc {r:Nat}(h:isOwn m T r)(hr:r≠T.own p):isOwn m (piv T p c) r:=by
 obtain⟨i,hi,rfl⟩:=h
 have:i≠p:=fun z=>hr (by rw[z])
 exact⟨i,hi,own_ne this⟩
theorem Dz {r:Nat}(h:¬ isOwn m T r)(hr:r≠T.hd c):¬ isOwn m (piv T p c) r:=fun ⟨i,hi,e⟩=>by
 by_cases q:i=p
 ·subst q
  rw[own_p] at e
  exact hr e.symm
 ·rw[own_ne q] at e
  exact h ⟨i,hi,e⟩
theorem Z5z (I:Inv m n col rhs T)(s:Step m n lk i0 T p c)(h0:T.L p n=0){r:Nat}:(Zr m n T r->Zr m n (piv T p c) r)/\(Zr m n (piv T p c) r->Zr m n T r):=by
 have hb:=I.pos
 have hk:=s.key
 refine⟨fun h i hi e=>?_,fun h i hi e=>?_⟩
 ·by_cases q:i=p
  ·subst q
   rw[Z4f s];exact h0
  ·rw[own_ne q] at e
   have:=I.end_ne s hi q
   rw[h i hi e,h0] at this
   refine Mc hb ?_
   rw[this];simp
 ·by_cases q:i=p
  ·subst q;exact h0
  ·have:=I.end_ne s hi q
   rw[h i hi (by rw[own_ne q];exact e),h0] at this
   refine Mc hk ?_
   have e2:T.L p c*T.L i n=T.L i n*T.L p c:=XH ..
   rw[e2]
   simp at this
   simp
   omega
theorem Run.Zall (R:Run m n lk i0 col rhs K S P C){a d0:Nat}(hK:a+d0<=K)(hz:∀ l,a<=l->l<a+d0->(S l).L (P l) n=0){r:Nat}:∀ d,d<=d0->(Zr m n (S (a+d)) r ↔ Zr m n (S a) r)
 | 0,_=>Iff.rfl
 | d+1,h=>by
  have ih:=R.Zall hK hz (r:=r) d (by omega)
  obtain⟨I,_⟩:=R.inv (a+d) (by omega)
  obtain⟨z1,z2⟩:=Z5z I (R.st (a+d) (by omega)) (hz (a+d) (by omega) (by omega)) (r:=r)
  rw[← Y0x,R.nx (a+d) (by omega)]
  exact⟨fun h=>ih.mp (z2 h),fun h=>z1 (ih.mpr h)⟩
theorem Run.keeps (R:Run m n lk i0 col rhs K S P C){k r:Nat}(h:isOwn m (S k) r):∀ d,k+d<=K->(∀ l,k<=l->l<k+d->(S l).own (P l)≠r)->isOwn m (S (k+d)) r
 | 0,_,_=>h
 | d+1,hK,hl=>by
  have ih:=R.keeps h d (by omega) fun l h1 h2=>hl l h1 (by omega)
  rw[← Y0x,R.nx (k+d) (by omega)]
  exact Jc ih (XO (hl (k+d) (by omega) (by omega)))
theorem Run.keepsN (R:Run m n lk i0 col rhs K S P C){k r:Nat}(h:¬ isOwn m (S k) r):∀ d,k+d<=K->(∀ l,k<=l->l<k+d->(S l).hd (C l)≠r)->¬ isOwn m (S (k+d)) r
 | 0,_,_=>h
 | d+1,hK,hl=>by
  have ih:=R.keepsN h d (by omega) fun l h1 h2=>hl l h1 (by omega)
  rw[← Y0x,R.nx (k+d) (by omega)]
  exact Dz ih (XO (hl (k+d) (by omega) (by omega)))
theorem Z10 (f:Nat->Nat)(a:Nat):∀ d,0<d->∃ k,a<=k/\k<a+d/\∀ l,a<=l->l<a+d->f l<=f k
 | 0,h=>by omega
 | 1,_=>⟨a,by omega,by omega,fun l h1 h2=>by rw[show l=a by omega];exact YE _⟩
 | d+2,_=>by
  obtain⟨k,h1,h2,h3⟩:=Z10 f a (d+1) (by omega)
  by_cases q:f k<=f (a+d+1)
  ·refine⟨a+d+1,by omega,by omega,fun l l1 l2=>?_⟩
   by_cases e:l=a+d+1
   ·rw[e];exact YE _
   ·exact XU (h3 l l1 (by omega)) q
  ·refine⟨k,h1,by omega,fun l l1 l2=>?_⟩
   by_cases e:l=a+d+1
   ·rw[e];omega
   ·exact h3 l l1 (by omega)
theorem Run.once (R:Run m n lk i0 col rhs K S P C){a d:Nat}(hd:0<d)(hK:a+d<=K)(same:∀ i,i<m->(S a).own i=(S (a+d)).own i):False:=by
 obtain⟨Ia,Fa⟩:=R.inv a (by omega)
 obtain⟨Ib,Fb⟩:=R.inv (a+d) hK
 have eb:(S a).b=(S (a+d)).b:=by
  rw[← Ia.dt,← Ib.dt]
  refine Xh fun k r hk hr=>?_
  show col ((S a).own k) r=col ((S (a+d)).own k) r
  rw[same k hk]
 have ee:(S a).L i0 n=(S (a+d)).L i0 n:=by
  rw[← Ia.phi R.h0 (YE n),← Ib.phi R.h0 (YE n)]
  refine Xh fun k r hk hr=>?_
  by_cases e:k=i0
  ·subst e
   rw[Yf,Yf]
   unfold colOf
   rw[YG (by omega),YG (by omega)]
  ·rw[Ya e,Ya e]
   show col ((S a).own k) r=col ((S (a+d)).own k) r
   rw[same k hk]
 have hz:∀ l,a<=l->l<a+d->(S l).L (P l) n=0:=fun l h1 h2=>by
  have s:=R.st l (by omega)
  have f:=(R.inv l (by omega)).2 (P l) s.hp s.el
  apply YU
  intro z
  have:=(R.down (a:=a) d hK).2 ⟨l,h1,h2,by omega⟩
  rw[← ee,← eb] at this
  omega
 have own_iff:∀ r,isOwn m (S a) r->isOwn m (S (a+d)) r:=fun r ⟨i,hi,e⟩=>⟨i,hi,by rw[← same i hi];exact e⟩
 have own_iff':∀ r,isOwn m (S (a+d)) r->isOwn m (S a) r:=fun r ⟨i,hi,e⟩=>⟨i,hi,by rw[same i hi];exact e⟩
 obtain⟨k1,h11,h12,hmax⟩:=Z10 (fun k=>(S k).hd (C k)) a d hd
 have s1:=R.st k1 (by omega)
 obtain⟨I1,F1⟩:=R.inv k1 (by omega)
 have not1:¬ isOwn m (S k1) ((S k1).hd (C k1)):=fun ⟨i,hi,e⟩=>I1.ne hi s1.hc e
 have ⟨k2,h21,h22,h23⟩:∃ k,a<=k/\k<a+d/\(S k).own (P k)=(S k1).hd (C k1):=by
  apply YU
  intro hn
  have hne:∀ l,a<=l->l<a+d->(S l).own (P l)≠(S k1).hd (C k1):=fun l l1 l2 z=>hn ⟨l,l1,l2,z⟩
  have o1:isOwn m (S (k1+1)) ((S k1).hd (C k1)):=⟨P k1,s1.hp,by rw[R.nx k1 (by omega)];exact own_p⟩
  have o2:=R.keeps o1 (a+d - (k1+1)) (by omega) fun l l1 l2=>hne l (by omega) (by omega)
  rw[show k1+1+(a+d - (k1+1))=a+d by omega] at o2
  have o3:=R.keeps (own_iff' _ o2) (k1 - a) (by omega) fun l l1 l2=>hne l (by omega) (by omega)
  rw[show a+(k1 - a)=k1 by omega] at o3
  exact not1 o3
 have s2:=R.st k2 (by omega)
 obtain⟨I2,F2⟩:=R.inv k2 (by omega)
 have row:=I1.row R.h0 (dir m (S k2) (C k2)) fun r hr=>I2.dirSol s2.hc hr
 have ho:∀ k,k<=K->(S k).own i0=(S 0).own i0:=fun k=>by
  induction k with
  | zero=>intro _;rfl
  | succ k ih =>
   intro h
   rw[R.nx k (by omega),own_ne (XO (R.stay k (by omega)))]
   exact ih (by omega)
 have e12:(S k1).own i0=(S k2).own i0:=by rw[ho k1 (by omega),ho k2 (by omega)]
 rw[e12,I2.dirO s2.hc R.h0] at row
 have pos:0<sm n (fun j=>(S k1).L i0 j*dir m (S k2) (C k2) ((S k1).hd j)):=by
  have:=YZ I1.pos s2.help
  have e:(S k1).b * -(S k2).L i0 (C k2)=-((S k1).b*(S k2).L i0 (C k2)):=by grind
  rw[e] at row
  omega
 obtain⟨j,hj,hp⟩:=Kg pos
 rcases I2.cover (I1.hdLt hj) with ⟨i,hi,e⟩ | ⟨j',hj',e⟩
 ·rw[← e,I2.dirO s2.hc hi] at hp
  have own2:isOwn m (S k2) ((S k1).hd j):=⟨i,hi,e⟩
  have notown1:¬ isOwn m (S k1) ((S k1).hd j):=fun ⟨i',hi',e'⟩=>I1.ne hi' hj e'
  have ⟨k3,h31,h32,h33⟩:∃ k,a<=k/\k<a+d/\(S k).hd (C k)=(S k1).hd j:=by
   apply YU
   intro hn
   have hne:∀ l,a<=l->l<a+d->(S l).hd (C l)≠(S k1).hd j:=fun l l1 l2 z=>hn ⟨l,l1,l2,z⟩
   have o2:=R.keepsN notown1 (a+d - k1) (by omega) fun l l1 l2=>hne l (by omega) (by omega)
   rw[show k1+(a+d - k1)=a+d by omega] at o2
   have o3:=R.keepsN (fun z=>o2 (own_iff _ z)) (k2 - a) (by omega) fun l l1 l2=>hne l (by omega) (by omega)
   rw[show a+(k2 - a)=k2 by omega] at o3
   exact o3 own2
  have hle:(S k1).hd j<=(S k1).hd (C k1):=by rw[← h33];exact hmax k3 h31 h32
  have s3:=R.st k3 (by omega)
  have hnl:(S k1).hd j≠lk:=by rw[← h33];exact s3.nl
  by_cases q:i=P k2
  ·
   subst q
   have ej:(S k1).hd j=(S k1).hd (C k1):=by rw[← e];exact h23
   have ec:j=C k1:=I1.hdInj hj s1.hc ej
   subst ec
   have:=YZ s1.help s2.key
   have e':(S k1).L i0 (C k1) * -(S k2).L (P k2) (C k2)=-((S k1).L i0 (C k1)*(S k2).L (P k2) (C k2)):=by grind
   rw[e'] at hp
   omega
  ·have hlt:(S k1).hd j<(S k1).hd (C k1):=by
    rcases Y1a ((S k1).hd j) ((S k1).hd (C k1)) with z | z
    ·exact z
    ·have:(S k2).own i=(S k2).own (P k2):=by rw[e,h23];omega
     exact absurd (I2.ownInj hi s2.hp this) q
   have l1:(S k1).L i0 j<=0:=by
    apply YU
    intro z
    have:=s1.first j hj hnl (by omega)
    omega
   have l2:0<(S k2).L i (C k2):=by
    apply YU
    intro z
    have:(S k1).L i0 j * -(S k2).L i (C k2)<=0:=GJ l1 (by omega)
    omega
   have elr:(S k2).own i<=lk:=by rw[e];have:=s2.el;rw[h23] at this;omega
   have z3:Zr m n (S k3) ((S k1).hd j):=fun x hx ex=>absurd (by rw[ex,h33]) ((R.inv k3 (by omega)).1.ne hx s3.hc)
   have za:=(R.Zall hK hz (r:=(S k1).hd j) (k3 - a) (by omega))
   rw[show a+(k3 - a)=k3 by omega] at za
   have zb:=(R.Zall hK hz (r:=(S k1).hd j) (k2 - a) (by omega))
   rw[show a+(k2 - a)=k2 by omega] at zb
   have zi:=(zb.mpr (za.mp z3)) i hi e
   have zp:=hz k2 h21 h22
   rcases s2.least i hi elr l2 with z | ⟨_,z⟩
   ·rw[zi,zp] at z
    simp at z
   ·rw[e,h23] at z
    omega
 ·rw[← e,I2.dirH s2.hc hj'] at hp
  by_cases q:j'=C k2
  ·subst q
   rw[YM rfl] at hp
   have l1:0<(S k1).L i0 j:=by
    apply YU
    intro z
    have:(S k1).L i0 j*(S k2).b<=0:=GJ (by omega) (by have:=I2.pos;omega)
    omega
   have h1:=s1.first j hj (by rw[← e];exact s2.nl) l1
   have h2:=hmax k2 h21 h22
   have:(S k2).own (P k2)=(S k2).hd (C k2):=by
    rw[h23]
    have h1':(S k1).hd (C k1)<=(S k1).hd j:=h1
    have h2':(S k2).hd (C k2)<=(S k1).hd (C k1):=h2
    rw[e] at *
    omega
   exact I2.ne s2.hp s2.hc this
  ·rw[YG q] at hp
   simp at hp
theorem Bx:∀ (M:Nat) (f:Nat->Nat),(∀ i,i<=M->f i<M)->∃ a d,0<d/\a+d<=M/\f a=f (a+d)
 | 0,f,h=>absurd (h 0 (by omega)) (by omega)
 | M+1,f,h=>by
  by_cases q:∃ i,i<=M/\f i=f (M+1)
  ·obtain⟨i,hi,e⟩:=q
   exact⟨i,M+1 - i,by omega,by omega,by rw[show i+(M+1 - i)=M+1 by omega];exact e⟩
  ·have hne:∀ i,i<=M->f i≠f (M+1):=fun i hi z=>q ⟨i,hi,z⟩
   obtain⟨a,d,h1,h2,h3⟩:=Bx M (fun i=>if f i<f (M+1) then f i else f i - 1) fun i hi=>by
    have:=hne i hi
    have:=h i (by omega)
    have:=h (M+1) (by omega)
    show (if f i<f (M+1) then f i else f i - 1)<M
    split <;> omega
   refine⟨a,d,h1,by omega,?_⟩
   have n1:=hne a (by omega)
   have n2:=hne (a+d) (by omega)
   have h3:(if f a<f (M+1) then f a else f a - 1)=if f (a+d)<f (M+1) then f (a+d) else f (a+d) - 1:=h3
   split at h3 <;> split at h3 <;> omega
def code (N:Nat):Nat->(Nat->Nat)->Nat
 | 0,_=>0
 | k+1,f=>code N k f+f k*N ^ k
theorem Rn {N:Nat}:∀ {k:Nat} {f:Nat->Nat},(∀ i,i<k->f i<N)->code N k f<N ^ k
 | 0,_,_=>by show 0<1;decide
 | k+1,f,h=>by
  have h1:=Rn (k:=k) (f:=f) fun i hi=>h i (by omega)
  have h2:=h k (by omega)
  show code N k f+f k*N ^ k<N ^ (k+1)
  rw[Y19]
  have h3:(f k+1)*N ^ k<=N*N ^ k:=GM _ h2
  rw[Nat.add_mul] at h3
  rw[Y04 (N ^ k)]
  omega
theorem K6 {N:Nat}:∀ {k:Nat} {f g:Nat->Nat},(∀ i,i<k->f i<N)->(∀ i,i<k->g i<N)->code N k f=code N k g->∀ i,i<k->f i=g i
 | 0,_,_,_,_,_,i,hi=>by omega
 | k+1,f,g,hf,hg,e,i,hi=>by
  have a1:=Rn (k:=k) (f:=f) fun i hi=>hf i (by omega)
  have a2:=Rn (k:=k) (f:=g) fun i hi=>hg i (by omega)
  have e:code N k f+f k*N ^ k=code N k g+g k*N ^ k:=e
  have e1:code N k f=code N k g:=by
   have:=congrArg (· % N ^ k) e
   simp only [Nat.add_mul_mod_self_right] at this
   rwa [Nat.mod_eq_of_lt a1,Nat.mod_eq_of_lt a2] at this
  by_cases q:i=k
  ·subst q
   have:f i*N ^ i=g i*N ^ i:=by omega
   exact Y0f (by omega) this
  ·exact K6 (k:=k) (fun i hi=>hf i (by omega)) (fun i hi=>hg i (by omega)) e1 i (by omega)
theorem Run.short (R:Run m n lk i0 col rhs K S P C):K<(n+m) ^ m:=by
 rcases Y1a K ((n+m) ^ m) with h | h
 ·exact h
 ·obtain⟨a,d,h1,h2,h3⟩:=Bx ((n+m) ^ m) (fun k=>code (n+m) m (S k).own) fun k hk=>Rn fun i hi=>(R.inv k (by omega)).1.ownLt hi
  exact absurd (R.once h1 (by omega) fun i hi=>K6 (fun i hi=>(R.inv a (by omega)).1.ownLt hi) (fun i hi=>(R.inv (a+d) (by omega)).1.ownLt hi) h3 i hi) id
end
end Sv
namespace Sv
section
variable {m n:Nat}{col:Nat->Vec}{rhs:Vec}{T:Tab}
def numAt (n:Nat)(T:Tab)(i v:Nat):Int:=sm n (fun j=>if T.hd j=v then T.L i j else 0)
def endOf (m n:Nat)(T:Tab)(v:Nat):Int:=sm m (fun i=>if T.own i=v then T.L i n else 0)
def coef (n:Nat)(T:Tab)(i v:Nat):Int:=(if v=T.own i then T.b else 0)+numAt n T i v
theorem Inv.numH (I:Inv m n col rhs T){i j:Nat}(hj:j<n):numAt n T i (T.hd j)=T.L i j:=by
 unfold numAt
 rw[sm_one (k:=j) hj fun k hk hne=>YG fun z=>hne (I.hdInj hk hj z),YM rfl]
theorem Inv.numO (I:Inv m n col rhs T){i k:Nat}(hk:k<m):numAt n T i (T.own k)=0:=sm_zero fun j hj=>YG (XO (I.ne hk hj))
theorem Inv.endO (I:Inv m n col rhs T){i:Nat}(hi:i<m):endOf m n T (T.own i)=T.L i n:=by
 unfold endOf
 rw[sm_one (k:=i) hi fun k hk hne=>YG fun z=>hne (I.ownInj hk hi z),YM rfl]
theorem Inv.endH (I:Inv m n col rhs T){j:Nat}(hj:j<n):endOf m n T (T.hd j)=0:=sm_zero fun i hi=>YG (I.ne hi hj)
theorem Inv.coefs (I:Inv m n col rhs T){i v:Nat}(hi:i<m)(hv:v<n+m):det m (put (bas col T) i (col v))=coef n T i v:=by
 unfold coef
 rcases I.cover hv with ⟨k,hk,rfl⟩ | ⟨j,hj,rfl⟩
 ·rw[I.numO hk]
  have:=I.phiO hi hk
  show det m (put (bas col T) i (bas col T k))=_
  rw[this]
  by_cases e:k=i
  ·subst e
   rw[YM rfl,YM rfl];omega
  ·rw[YG e,YG fun z=>e (I.ownInj hk hi z)];omega
 ·rw[I.numH hj,YG (XO (I.ne hi hj))]
  have:=I.phi hi (JK hj)
  rw[Wo hj] at this
  rw[this];omega
theorem Inv.lin (I:Inv m n col rhs T)(hc:∀ i r,i<m->r<m->col (n+i) r=if i=r then 1 else 0){i:Nat}(hi:i<m)(x:Vec):det m (put (bas col T) i x)=sm m (fun r=>x r*coef n T i (n+r)):=by
 have e:det m (put (bas col T) i x)=det m (put (bas col T) i (fun r=>sm m (fun k=>x k*col (n+k) r))):=by
  refine Xh fun k r hk hr=>?_
  by_cases q:k=i
  ·subst q
   rw[Yf,Yf,sm_one (k:=r) hr fun k hk hne=>by rw[hc k r hk hr,YG hne,GQ],hc r r hr hr,YM rfl,GL]
  ·rw[Ya q,Ya q]
 rw[e,Tl hi]
 exact Y1 fun r hr=>by rw[I.coefs hi (by omega)]
theorem Inv.sol (I:Inv m n col rhs T){r:Nat}(hr:r<m):sm (n+m) (fun v=>endOf m n T v*col v r)=T.b*rhs r:=by
 rw[I.part]
 have e1:sm n (fun j=>endOf m n T (T.hd j)*col (T.hd j) r)=0:=sm_zero fun j hj=>by rw[I.endH hj,zo]
 have e2:sm m (fun i=>endOf m n T (T.own i)*col (T.own i) r)=sm m (fun i=>T.L i n*bas col T i r):=Y1 fun i hi=>by rw[I.endO hi];rfl
 have e3:=I.eqs n (YE n) r hr
 unfold colOf at e3
 rw[YG (by omega)] at e3
 rw[e1,e2,← e3];omega
end
section
variable {n g:Nat}{A:Nat->Nat->Int}{pap gl:Nat->Int}
def colS (n g:Nat)(A:Nat->Nat->Int)(pap gl:Nat->Int):Nat->Vec:=fun v r=>if v<n then (if r<g then A r v else if r=g then pap v else gl v) else if v - n=r then 1 else 0
def rhsS (g:Nat):Vec:=fun r=>if r=g then 1 else 0
def T0 (n g:Nat)(A:Nat->Nat->Int)(pap gl:Nat->Int):Tab:=⟨1,fun i=>n+i,fun j=>j,fun i j=>if j<n then colS n g A pap gl j i else rhsS g i⟩
theorem We {i r:Nat}:colS n g A pap gl (n+i) r=if i=r then 1 else 0:=by
 unfold colS
 rw[YG (by omega)]
 have:n+i - n=i:=by omega
 rw[this]
theorem inv0:Inv (g+2) n (colS n g A pap gl) (rhsS g) (T0 n g A pap gl):=by
 refine⟨by show (0:Int)<1;decide,?_,fun j hj r hr=>?_,fun f=>?_⟩
 ·show det (g+2) _=1
  rw[← Z1t (g+2)]
  exact Xh fun k r _ _=>We
 ·show 1*colOf n (colS n g A pap gl) (rhsS g) (T0 n g A pap gl) j r=sm (g+2) (fun i=>(if j<n then colS n g A pap gl j i else rhsS g i)*colS n g A pap gl (n+i) r)
  rw[sm_one (k:=r) hr fun k hk hne=>by rw[We,YG hne,GQ],We,YM rfl]
  unfold colOf
  rw[GL,GU]
  split <;> rfl
 ·rw[Kh,Int.add_comm]
  rfl
theorem feas0:Feas (g+2) n (n+g) (T0 n g A pap gl):=fun i _ _=>by
 show 0<=if n<n then _ else rhsS g i
 rw[YG (by omega)]
 unfold rhsS
 split <;> omega
variable {T:Tab}
abbrev InvS (n g:Nat)(A:Nat->Nat->Int)(pap gl:Nat->Int)(T:Tab):Prop:=Inv (g+2) n (colS n g A pap gl) (rhsS g) T
theorem InvS.world (I:InvS n g A pap gl T){i w:Nat}(hi:i<g+2)(hw:w<n):coef n T i w=sm g (fun k=>A k w*coef n T i (n+k))+pap w*coef n T i (n+g)+gl w*coef n T i (n+g+1):=by
 rw[← I.coefs hi (by omega),I.lin (fun i r _ _=>We) hi]
 show sm g _+colS n g A pap gl w g*_+colS n g A pap gl w (g+1)*_=_
 have e1:sm g (fun r=>colS n g A pap gl w r*coef n T i (n+r))=sm g (fun k=>A k w*coef n T i (n+k)):=Y1 fun r hr=>by
  unfold colS
  rw[YM hw,YM hr]
 have e2:colS n g A pap gl w g=pap w:=by unfold colS;rw[YM hw,YG (by omega),YM rfl]
 have e3:colS n g A pap gl w (g+1)=gl w:=by unfold colS;rw[YM hw,YG (by omega),YG (by omega)]
 rw[e1,e2,e3]
 rfl
theorem InvS.ends (I:InvS n g A pap gl T){i:Nat}(hi:i<g+2):T.L i n=coef n T i (n+g):=by
 rw[← I.phi hi (YE n)]
 unfold colOf
 rw[YG (by omega),I.lin (fun i r _ _=>We) hi,sm_one (k:=g) (by omega) fun k hk hne=>by unfold rhsS;rw[YG hne,zo]]
 unfold rhsS
 rw[YM rfl,GU]
theorem InvS.lines (I:InvS n g A pap gl T):(∀ k,k<g->sm n (fun w=>A k w*endOf (g+2) n T w)+endOf (g+2) n T (n+k)=0)/\sm n (fun w=>pap w*endOf (g+2) n T w)+endOf (g+2) n T (n+g)=T.b/\sm n (fun w=>gl w*endOf (g+2) n T w)+endOf (g+2) n T (n+g+1)=0:=by
 have key:∀ (r:Nat) (a:Nat->Int),r<g+2->(∀ w,w<n->colS n g A pap gl w r=a w)->sm n (fun w=>a w*endOf (g+2) n T w)+endOf (g+2) n T (n+r)=T.b*rhsS g r:=fun r a hr ha=>by
  rw[← I.sol hr,Kh]
  congr 1
  ·exact Y1 fun w hw=>by rw[ha w hw,XH]
  ·rw[sm_one (k:=r) hr fun k hk hne=>by rw[We,YG hne,GQ],We,YM rfl,GL]
 refine⟨fun k hk=>?_,?_,?_⟩
 ·rw[key k (fun w=>A k w) (by omega) fun w hw=>by unfold colS;rw[YM hw,YM hk]]
  unfold rhsS
  rw[YG (by omega),GQ]
 ·rw[key g pap (by omega) fun w hw=>by unfold colS;rw[YM hw,YG (by omega),YM rfl]]
  unfold rhsS
  rw[YM rfl,GL]
 ·have:=key (g+1) gl (by omega) fun w hw=>by unfold colS;rw[YM hw,YG (by omega),YG (by omega)]
  rw[show n+(g+1)=n+g+1 by omega] at this
  rw[this]
  unfold rhsS
  rw[YG (by omega),GQ]
theorem Rm (I:InvS n g A pap gl T){i lk v:Nat}(hv:v<n+(g+2))(h1:v≠T.own i)(h2:v≠lk)(hs:∀ j,j<n->T.hd j≠lk->T.L i j<=0):coef n T i v<=0:=by
 unfold coef
 rw[YG h1]
 rcases I.cover hv with ⟨k,hk,rfl⟩ | ⟨j,hj,rfl⟩
 ·rw[I.numO hk];omega
 ·rw[I.numH hj]
  have:=hs j hj h2
  omega
theorem InvS.none (I:InvS n g A pap gl T){i ia:Nat}(hi:i<g+2)(ho:T.own i=n+g)(hia:ia<g+2)(hoa:T.own ia=n+g+1)(hs:∀ j,j<n->T.hd j≠n+g->T.L i j<=0) :
  (∀ k,k<g->numAt n T i (n+k)<=0)/\∀ w,w<n->pap w*T.b<=sm g (fun k=>A k w * -numAt n T i (n+k)):=by
 have hk:∀ k,k<g->coef n T i (n+k)=numAt n T i (n+k):=fun k hk=>by
  unfold coef
  rw[YG (by omega)];omega
 refine⟨fun k hk'=>?_,fun w hw=>?_⟩
 ·rw[← hk k hk']
  exact Rm I (by omega) (by omega) (lk:=n+g) (by omega) hs
 ·have e:=I.world hi hw
  have h:=Rm I (v:=w) (by omega) (by omega) (lk:=n+g) (by omega) hs
  have e1:coef n T i (n+g)=T.b:=by
   unfold coef
   rw[YM ho.symm]
   have:=I.numO (i:=i) hi
   rw[ho] at this
   omega
  have e2:coef n T i (n+g+1)=0:=by
   unfold coef
   rw[YG (by omega)]
   have:=I.numO (i:=i) hia
   rw[hoa] at this
   omega
  have e3:sm g (fun k=>A k w*coef n T i (n+k))=- sm g (fun k=>A k w * -numAt n T i (n+k)):=by
   have:sm g (fun k=>A k w*coef n T i (n+k))=sm g (fun k=>(-1)*(A k w * -numAt n T i (n+k))):=Y1 fun k hk'=>by rw[hk k hk'];grind
   rw[this,Yt];omega
  rw[e1,e2,e3] at e
  omega
structure Most (n g:Nat)(A:Nat->Nat->Int)(pap gl:Nat->Int)(T:Tab)(i:Nat):Prop where
 x0:∀ w,w<n->0<=endOf (g+2) n T w
 fit:∀ k,k<g->sm n (fun w=>A k w*endOf (g+2) n T w)<=0
 lie:sm n (fun w=>pap w*endOf (g+2) n T w)=T.b
 val:sm n (fun w=>gl w*endOf (g+2) n T w)=- T.L i n
 y0:∀ k,k<g->numAt n T i (n+k)<=0
 show_:∀ w,w<n->gl w*T.b<=sm g (fun k=>A k w * -numAt n T i (n+k))+pap w * -T.L i n
theorem InvS.most (I:InvS n g A pap gl T)(F:Feas (g+2) n (n+g) T){i jl:Nat}(hi:i<g+2)(ho:T.own i=n+g+1)(hjl:jl<n)(hol:T.hd jl=n+g)(hs:∀ j,j<n->T.hd j≠n+g->T.L i j<=0):Most n g A pap gl T i:=by
 obtain⟨l1,l2,l3⟩:=I.lines
 have x0:∀ v,v<=n+g->0<=endOf (g+2) n T v:=fun v hv=>by
  rcases I.cover (v:=v) (by omega) with ⟨k,hk,rfl⟩ | ⟨j,hj,rfl⟩
  ·rw[I.endO hk];exact F k hk hv
  ·rw[I.endH hj];omega
 have hk:∀ k,k<g->coef n T i (n+k)=numAt n T i (n+k):=fun k hk=>by
  unfold coef
  rw[YG (by omega)];omega
 refine⟨fun w hw=>x0 w (by omega),fun k hk=>?_,?_,?_,fun k hk'=>?_,fun w hw=>?_⟩
 ·have:=l1 k hk
  have:=x0 (n+k) (by omega)
  omega
 ·have:=I.endH hjl
  rw[hol] at this
  rw[this] at l2
  omega
 ·have:=I.endO hi
  rw[ho] at this
  rw[this] at l3
  omega
 ·rw[← hk k hk']
  exact Rm I (by omega) (by omega) (lk:=n+g) (by omega) hs
 ·have e:=I.world hi hw
  have h:=Rm I (v:=w) (by omega) (by omega) (lk:=n+g) (by omega) hs
  have e1:=I.ends hi
  have e2:coef n T i (n+g+1)=T.b:=by
   unfold coef
   rw[YM ho.symm]
   have:=I.numO (i:=i) hi
   rw[ho] at this
   omega
  have e3:sm g (fun k=>A k w*coef n T i (n+k))=- sm g (fun k=>A k w * -numAt n T i (n+k)):=by
   have:sm g (fun k=>A k w*coef n T i (n+k))=sm g (fun k=>(-1)*(A k w * -numAt n T i (n+k))):=Y1 fun k hk'=>by rw[hk k hk'];grind
   rw[this,Yt];omega
  rw[← e1,e2,e3] at e
  have e4:pap w * -T.L i n=-(pap w*T.L i n):=by grind
  omega
theorem InvS.bounded (I:InvS n g A pap gl T)(hpap:∀ w,w<n->0<=pap w)(hgl:∀ w,w<n->pap w=0->gl w=0){i jl c:Nat}(hi:i<g+2)(ho:T.own i=n+g+1)(hjl:jl<n)(hol:T.hd jl=n+g)(hc:c<n)(hcl:T.hd c≠n+g)(hh:0<T.L i c) :
  ∃ k,k<g+2/\T.own k<=n+g/\0<T.L k c:=by
 apply YU
 intro hn
 have hle:∀ k,k<g+2->T.own k<=n+g->T.L k c<=0:=fun k h1 h2=>by
  apply YU
  intro z
  exact hn ⟨k,h1,h2,by omega⟩
 have x0:∀ v,v<=n+g->0<=dir (g+2) T c v:=fun v hv=>by
  rcases I.cover (v:=v) (by omega) with ⟨k,hk,rfl⟩ | ⟨j,hj,rfl⟩
  ·rw[I.dirO hc hk]
   have:=hle k hk hv
   omega
  ·rw[I.dirH hc hj]
   have:=I.pos
   split <;> omega
 have row:∀ (r:Nat) (a:Nat->Int),r<g+2->(∀ w,w<n->colS n g A pap gl w r=a w)->sm n (fun w=>a w*dir (g+2) T c w)+dir (g+2) T c (n+r)=0:=fun r a hr ha=>by
  rw[← I.dirSol hc hr,Kh]
  congr 1
  ·exact Y1 fun w hw=>by rw[ha w hw,XH]
  ·rw[sm_one (k:=r) hr fun k hk hne=>by rw[We,YG hne,GQ],We,YM rfl,GL]
 have r1:=row g pap (by omega) fun w hw=>by unfold colS;rw[YM hw,YG (by omega),YM rfl]
 have r2:=row (g+1) gl (by omega) fun w hw=>by unfold colS;rw[YM hw,YG (by omega),YG (by omega)]
 have hl:dir (g+2) T c (n+g)=0:=by
  rw[← hol,I.dirH hc hjl,YG fun z=>hcl (by rw[← z];exact hol)]
 have hz:∀ w,w<n->pap w*dir (g+2) T c w=0:=fun w hw=>by
  apply YU
  intro z
  have h1:∀ x,x<n->0<=pap x*dir (g+2) T c x:=fun x hx=>qq (hpap x hx) (x0 x (by omega))
  rw[hl,Zz (k:=w) hw] at r1
  have h2:0<=sm n (fun i=>if i=w then 0 else pap i*dir (g+2) T c i):=Y0 fun x hx=>by
   split
   ·omega
   ·exact h1 x hx
  have:=h1 w hw
  omega
 have hg:sm n (fun w=>gl w*dir (g+2) T c w)=0:=sm_zero fun w hw=>by
  by_cases q:pap w=0
  ·rw[hgl w hw q,zo]
  ·have:=hz w hw
   rcases Int.mul_eq_zero.mp this with z | z
   ·exact absurd z q
   ·rw[z,GQ]
 have ha:=I.dirO hc hi
 rw[ho] at ha
 rw[hg,show n+(g+1)=n+g+1 by omega,ha] at r2
 omega
end
end Sv
namespace Sb
open PySem PySem.Spec PyProof.Rows L2
theorem Pt {α β:Type}{R:α->β->Prop}:∀ {xs:List α} {us:List β},xs.length=us.length->(∀ (j:Nat) (x:α) (u:β),xs[j]?=some x->us[j]?=some u->R x u)->Paired R xs us
 | [],[],_,_=>.nil
 | [],_::_,h,_=>by simp at h
 | _::_,[],h,_=>by simp at h
 | x::xs,u::us,h,hr=>.cons (hr 0 x u rfl rfl) (Pt (by simpa using h) fun j y w e1 e2=>hr (j+1) y w (by simpa using e1) (by simpa using e2))
section
variable {X:Cx}{K:W.Frag}
theorem Z05 {p:Addr}{u v:V}{σ:L2.St}{H:Hp}{A B:L2.St->Hp->Prop}{t:TT}(hp:SqT K H p [u,v])(h:t ((σ.set 0 (some u)).set 1 (some v)) H fun b H5=>if b=true then A ((σ.set 0 (some u)).set 1 (some v)) H5 else B ((σ.set 0 (some u)).set 1 (some v)) H5) :
  gTup K 2 (gCons (gName 0) (gCons (gName 1) gNil)) (.ref p) σ H fun σ4 H4=>t σ4 H4 fun b H5=>if b=true then A σ4 H5 else B σ4 H5 :=
 ⟨p,[u,v],rfl,hp,rfl,u,[v],rfl,v,[],rfl,rfl,h⟩
theorem Nn {e:Expr}{f:Str}{pos:Pos}{ta:TE}(he:PE X e ta)(hb:attributeBase e f X.env (eval e X.env)=eval e X.env)(h:X.K=K:=by rfl):PE X (.Attribute e f pos) (tFld K ta f):=h ▸ Yg he hb
def tLR1 (ta:TA):TE:=fun σ H Q=>ta σ H fun vs H1=>∃ n:Nat,vs=[.int (n:Int)]/\n<=1000/\∀ l,H1 l=none->Q (.ref l) (upd H1 l (.lst ((List.range n).map fun (k:Nat)=>V.int (k:Int))))
def tLR2 (ta:TA):TE:=fun σ H Q=>ta σ H fun vs H1=>∃ i n:Nat,vs=[.int (i:Int),.int ((i+n:Nat):Int)]/\i<=1000/\n<=1000/\∀ l,H1 l=none->Q (.ref l) (upd H1 l (.lst ((List.range n).map fun k=>V.int ((i+k:Nat):Int))))
theorem Uk {pins:List (Addr × Obj)}{σ:L2.St}{H:Hp}{s:Shared}{Q:VK}{i n:Nat}{t u v:Tok}{tk:Nat}(hc:X.calm=true)(I:Inv X pins σ H s)(hi:i<=1000)(hn:n<=1000)
  (q:∀ l,H l=none->Q (.ref l) (upd H l (.lst ((List.range n).map fun k=>V.int ((i+k:Nat):Int))))) :
  wpAny (model X.prog X.w) X.A (call (.type "list") [.ref s.heap.objs.size]) (EP X pins σ Q) X.xe { s with heap:=s.heap.push { cls:=.type "range",data:=.fields #[.int (i:Int) t,.int ((i+n:Nat):Int) u,.int 1 v] },toks:=tk }:=by
 have I1:Inv X pins σ H { s with heap:=s.heap.push { cls:=.type "range",data:=.fields #[.int (i:Int) t,.int ((i+n:Nat):Int) u,.int 1 v] },toks:=tk }:=I.kept fun b o e=>YA _ e
 refine Nw (n:=n) (I1.ok.hd hc) (fun p hp=>(I1.pin p (YL _ hp)).1) (IsRange.new ..) (small_one (by omega) (by omega) (by omega) (by omega)) ?_ (by omega) fun h' tk' acc c' kp e items=>?_
 ·rw[rangeSize_one]
  split <;> omega
 ·refine⟨.ref _,_,I1.laid (t':=tk') (o:=.lst ((List.range n).map fun k=>V.int ((i+k:Nat):Int))) kp (YE _) ?_,rfl,q _ (I1.hok.fresh (YE _))⟩
  obtain⟨hsz,hat⟩:=items
  refine⟨by rw[YC,List.length_range];exact XU hn (by decide),acc.toList,c',?_,by simpa using e⟩
  refine Pt (by simp[hsz]) fun j x u' e1 e2=>?_
  rw[YD] at e1
  cases e3:(List.range n)[j]? with
  | none=>rw[e3] at e1;cases e1
  | some k =>
   rw[e3] at e1
   cases e1
   have hk:k=j:=by
    have:=YH.mp e3
    obtain⟨_,h2⟩:=this
    rw[← h2]
    simp
   subst hk
   obtain⟨t',e4⟩:=hat k u' (by simpa using e2)
   refine⟨t',?_⟩
   rw[e4]
   congr 1
   omega
theorem D4 {a b:Expr}{ta:TA}{p p' pos pos':Pos}(hc:X.calm=true)(hgL:Gl X "list")(hmL:X.mg "list"=none)(hgR:Gl X "range")(hmR:X.mg "range"=none)(ha:PA X [a,b] ta)
  (hs:starEach [a,b] X.env=[(false,eval a X.env),(false,eval b X.env)]:=by rfl) (hs2:starEach [b] X.env=[(false,eval b X.env)]:=by rfl)
  (hs0:starEach [.Call (.Name "range" p') [a,b] [] pos'] X.env=[(false,eval (.Call (.Name "range" p') [a,b] [] pos') X.env)]:=by rfl) :
  PE X (.Call (.Name "list" p) [.Call (.Name "range" p') [a,b] [] pos'] [] pos) (tLR2 ta):=by
 intro pins s σ H Q I h
 refine qb (W5 I hgL hmL GE ?_)
 refine XS ?_ (by rw[hs0];rfl) rfl
 rw[hs0]
 show wpAny _ _ (spliced ((false,eval (.Call (.Name "range" p') [a,b] [] pos') X.env)::[])) _ _ s
 refine Y0c (Call_ (W5 I hgR hmR boot_range (XS (thn (ha pos' pins s σ H _ I h) fun us s1 ⟨vs,H1,I1,r1,q1⟩=>?_) (by rw[hs,hs2]) (by rw[hs2];rfl))))
 obtain⟨i,n,e,hi,hn,q⟩:=q1
 subst e
 obtain⟨t0,u0,e0,rt,ru⟩:=Mg r1
 obtain⟨t,rfl⟩:=rt
 obtain⟨u,rfl⟩:=ru
 subst e0
 refine call_range_2 ?_
 refine Y0r ?_
 exact Uk hc I1 hi hn q
theorem D5 {a:Expr}{ta:TA}{p p' pos pos':Pos}(hc:X.calm=true)(hgL:Gl X "list")(hmL:X.mg "list"=none)(hgR:Gl X "range")(hmR:X.mg "range"=none)(ha:PA X [a] ta)
  (hs:starEach [a] X.env=[(false,eval a X.env)]:=by rfl)
  (hs0:starEach [.Call (.Name "range" p') [a] [] pos'] X.env=[(false,eval (.Call (.Name "range" p') [a] [] pos') X.env)]:=by rfl) :
  PE X (.Call (.Name "list" p) [.Call (.Name "range" p') [a] [] pos'] [] pos) (tLR1 ta):=by
 intro pins s σ H Q I h
 refine qb (W5 I hgL hmL GE ?_)
 refine XS ?_ (by rw[hs0];rfl) rfl
 rw[hs0]
 show wpAny _ _ (spliced ((false,eval (.Call (.Name "range" p') [a] [] pos') X.env)::[])) _ _ s
 refine Y0c (Call_ (W5 I hgR hmR boot_range (XS (thn (ha pos' pins s σ H _ I h) fun us s1 ⟨vs,H1,I1,r1,q1⟩=>?_) hs rfl)))
 obtain⟨n,e,hn,q⟩:=q1
 subst e
 obtain⟨t0,e0,rt⟩:=Vt r1
 obtain⟨t,rfl⟩:=rt
 subst e0
 refine call_range_1 ?_
 refine Y0r ?_
 have:=Uk (i:=0) (n:=n) (t:=s1.toks) (u:=t) (v:=s1.toks+1) (tk:=s1.toks+1+1) (Q:=Q) hc I1 (by decide) hn (by simpa using q)
 simpa using this
end
theorem Pd:∀ (names:List (Str × NameKind)) (n:Nat) (acc:List (Str × Addr)) (h:Heap),(names.filter fun y=>y.2 == .cell)=[]->cellsFrom n names acc=acc/\pushCells h names=h
 | [],_,_,_,_=>⟨rfl,rfl⟩
 | (m,k)::r,n,acc,h,e=>by
  by_cases hk:(k == NameKind.cell)=true
  ·rw[Y0D (a:=(m,k)) (l:=r) (p:=fun y:Str × NameKind=>y.2 == .cell) hk] at e
   cases e
  ·rw[Y0E (a:=(m,k)) (l:=r) (p:=fun y:Str × NameKind=>y.2 == .cell) hk] at e
   unfold cellsFrom pushCells
   rw[YG hk,YG hk]
   exact Pd r n acc h e
theorem Sg {x:Str}:∀ (names:List (Str × NameKind)) (n:Nat) (acc:List (Str × Addr)) (h:Heap),(names.filter fun y=>y.2 == .cell)=[(x,.cell)]->cellsFrom n names acc=(x,n)::acc/\pushCells h names=h.push { cls:=.type "cell",data:=.cell none }
 | [],_,_,_,e=>by cases e
 | (m,k)::r,n,acc,h,e=>by
  by_cases hk:(k == NameKind.cell)=true
  ·rw[Y0D (a:=(m,k)) (l:=r) (p:=fun y:Str × NameKind=>y.2 == .cell) hk] at e
   injection e with e1 e2
   cases e1
   unfold cellsFrom pushCells
   rw[YM hk,YM hk]
   exact Pd r _ _ _ e2
  ·rw[Y0E (a:=(m,k)) (l:=r) (p:=fun y:Str × NameKind=>y.2 == .cell) hk] at e
   unfold cellsFrom pushCells
   rw[YG hk,YG hk]
   exact Sg r n acc h e
theorem Z0t {M:Model}{A:Around}{E:Value->Shared->Prop}{s:Shared}{scope:Scope}{globals:Addr}{cl:List (Str × Addr)}{qual:Str}{func:Option Addr}{code:Value}{outer:Env}{builtins:Addr}{Q:Env->Shared->Prop}{x:Str}
  (hone:(scope.names.filter fun y=>y.2 == .cell)=[(x,.cell)])
  (hQ:∀ h',h'=(s.heap.push { cls:=.type "dict",data:=.dict #[] }).push { cls:=.type "cell",data:=.cell none }->Q (newEnv scope s.heap.objs.size globals ((x,s.heap.objs.size+1)::cl) qual func code (some outer) builtins) { s with heap:=h' }) :
  wpAny M A (newFunctionEnv scope globals cl [] qual func code (some outer) builtins) Q E s:=by
 simp only [newFunctionEnv,Y16,jr]
 refine YB (wpAny_alloc ?_)
 refine YB (wpAny_layCells _ (fun name kind cells=>by cases hkc:kind == NameKind.cell <;> simp[hkc]) _ _ _ _ ?_)
 rw[show ({ s with heap:=s.heap.push { cls:=.type "dict",data:=.dict #[] } }:Shared).heap.objs.size=s.heap.objs.size+1 from XM ..]
 rw[(Sg scope.names (s.heap.objs.size+1) cl (s.heap.push { cls:=.type "dict",data:=.dict #[] }) hone).1,(Sg scope.names (s.heap.objs.size+1) cl (s.heap.push { cls:=.type "dict",data:=.dict #[] }) hone).2]
 refine YB ?_
 rw[Y0h]
 exact YR (YR (hQ _ rfl))
theorem Vm {x:Str}{n:Addr}{cl:List (Str × Addr)}{y:Str}{c:Addr}(h:((x,n)::cl).lookup y=some c):(y=x/\c=n) \/ (y≠x/\cl.lookup y=some c):=by
 rw[JA] at h
 cases hb:y == x with
 | true=>rw[hb] at h;cases h;exact .inl ⟨qa.mp hb,rfl⟩
 | false=>rw[hb] at h;exact .inr ⟨JF.mp hb,h⟩
theorem Z4d {x:Str}{n:Addr}{cl:List (Str × Addr)}{y:Str}(h:y≠x):((x,n)::cl).lookup y=cl.lookup y:=by
 rw[JA,JF.mpr h]
theorem Gu {x:Str}{n:Addr}{cl:List (Str × Addr)}:((x,n)::cl).lookup x=some n:=by
 rw[JA,qc]
def compCxC (X:Cx)(N:List Str)(scope:Scope)(x:Str)(cl:List (Str × Addr))(C:Addr)(fp:List Addr)(s:Shared)(H:Hp):Cx :=
 { compCx X N scope ((x,C+1)::cl) C fp s H with fn:=fun y=>y == x }
section
variable {X:Cx}{pins:List (Addr × Obj)}{σ:L2.St}{H:Hp}{s:Shared}{N:List Str}{scope:Scope}{cl:List (Str × Addr)}{fp:List Addr}{k:Nat}{fv:List Nat}{x:Str}
theorem Z09 (hone:(scope.names.filter fun y=>y.2 == .cell)=[(x,.cell)]){y:Str × NameKind}(hy:y∈scope.names)(hc:y.2=.cell):y.1=x:=by
 have:y∈scope.names.filter fun y=>y.2 == .cell:=zK.mpr ⟨hy,by rw[hc];rfl⟩
 rw[hone] at this
 rw[JP.mp this]
theorem Z1w (I:Inv X pins σ H s)(hc:X.calm=true)(hf:∀ b∈fp,FpOk X pins H b)(hl:∀ b∈fp,b<s.heap.objs.size)(hkind:scope.kind=.function)(hone:(scope.names.filter fun y=>y.2 == .cell)=[(x,.cell)])
  (h1:∀ y c,cl.lookup y=some c->X.env.cells.lookup y=some c) (h2:∀ y∈scope.names,y.2=.free->∃ c,cl.lookup y.1=some c):(compCxC X N scope x cl s.heap.objs.size fp s H).Ok where
 mod:=I.ok.mod
 kind:=hkind
 glob:=I.ok.glob
 blt:=I.ok.blt
 above:=YE _
 inj:=fun y z c a b=>by
  have old:∀ {n:Str} {d:Addr},cl.lookup n=some d->d<s.heap.objs.size:=fun {n d} e=>by
   obtain⟨v,ic⟩:=I.cell n d (h1 n d e)
   exact ic.lt
  rcases Vm a with ⟨ey,ec⟩ | ⟨ny,a'⟩
  ·rcases Vm b with ⟨ez,_⟩ | ⟨nz,b'⟩
   ·rw[ey,ez]
   ·have:=old b';rw[ec] at this;exact absurd this (jm.mpr (ze _))
  ·rcases Vm b with ⟨ez,ec⟩ | ⟨nz,b'⟩
   ·have:=old a';rw[ec] at this;exact absurd this (jm.mpr (ze _))
   ·exact I.ok.inj y z c (h1 y c a') (h1 z c b')
 has:=fun z hz=>by
  have:∃ y∈scope.names,y.1=z/\(y.2=.free \/ y.2=.cell):=by
   rcases hz with q | q
   ·exact Xi (.inl rfl) q
   ·exact Xi (.inr rfl) q
  obtain⟨y,hy,e,q⟩:=this
  by_cases hx:z=x
  ·exact⟨_,by rw[hx];exact Gu⟩
  ·rcases q with q | q
   ·obtain⟨c,hcl⟩:=h2 y hy q
    exact⟨c,(Z4d hx).trans (by rw[← e];exact hcl)⟩
   ·exact absurd (e.symm.trans (Z09 hone hy q)) hx
 cab:=fun y c z e=>by
  have hy:y=x:=qa.mp z
  subst hy
  have e':((y,s.heap.objs.size+1)::cl).lookup y=some c:=e
  rw[Gu] at e'
  cases e'
  exact ze _
 hd:=fun _=>I.ok.hd hc
 frames:=I.ok.frames
 stk:=.inl rfl
 exf:=fun b hb=>⟨XA (hl b hb),fun y c e=>by
  rcases Vm e with ⟨_,rfl⟩ | ⟨_,e⟩
  ·exact fun z=>absurd (hl b hb) (jm.mpr (by rw[← z];exact ze _))
  ·exact (hf b hb).2.2.2.2.1 y c (h1 y c e)⟩
 bs:=I.bs
 bsz:=XU I.ok.bsz I.sz
 noex:=fun b o e hb=>by
  rcases (hf b hb).2.2.2.1 with z | z
  ·exact I.ok.noex b o e z
  ·exact absurd (YW (YJ (I.ok.bs b o e).1) z) (XQ _)
 exfs:=fun b hb z=>(YS.mp (I.stkSub b z)).elim (fun e=>(hf b hb).2.1 e) fun e=>(hf b hb).2.2.1 e
 funs:=I.stack
 frf:=I.stkFree
theorem C8 (I:Inv X pins σ H s)(hc:X.calm=true)(hf:∀ b∈fp,FpOk X pins H b)(hl:∀ b∈fp,b<s.heap.objs.size)(hkind:scope.kind=.function)(hone:(scope.names.filter fun y=>y.2 == .cell)=[(x,.cell)])(hx:scope.names.lookup x=some .cell)
  (h1:∀ y c,cl.lookup y=some c->X.env.cells.lookup y=some c) (h2:∀ y∈scope.names,y.2=.free->∃ c,cl.lookup y.1=some c)
  (hN:N.length=k+fv.length) (hfv:fv.map (fun j=>X.N[j]?)=(N.drop k).map some) (hk:(N.drop k).map X.env.kindOf=(N.drop k).map fun _=>some .cell) (hfl:∀ y∈N.drop k,scope.names.lookup y=some .free)
  {h':Heap} {tk:Nat} (hn:h'.Ns s.heap.objs.size fun _=>none) (hcn:h'.IsCell (s.heap.objs.size+1) none) (hb:∀ b o,s.heap.get? b=some o->h'.get? b=some o) :
  Inv (compCxC X N scope x cl s.heap.objs.size fp s H) [] (comp0 k fv σ) H { s with heap:=h',toks:=tk } where
 ok:=Z1w I hc hf hl hkind hone h1 h2
 os:=rfl
 bare:=I.bare
 base:=Un.kept hb
 loc:=⟨_,hn,fun i y v e1 e2 e3=>by
  have hik:k<=i:=by
   apply Y0z
   intro z
   have:(comp0 k fv σ)[i]?=some none:=by
    unfold comp0
    rw[JE (by simpa using z)]
    simp[z]
   rw[this] at e2
   cases e2
  obtain⟨j,rfl⟩:∃ j,i=k+j:=⟨i - k,by omega⟩
  have e2':(fv.map fun j=>σ.getD j none)[j]?=some (some v):=by
   have:(comp0 k fv σ)[k+j]?=(fv.map fun j=>σ.getD j none)[j]?:=by
    unfold comp0
    rw[XY (by simp)]
    simp
   rw[← this]
   exact e2
  rw[YD] at e2'
  cases hj:fv[j]? with
  | none=>rw[hj] at e2';cases e2'
  | some m =>
   rw[hj] at e2'
   have e4:σ.getD m none=some v:=YK e2'
   have e5:(N.drop k)[j]?=some y:=by rw[Y0g];exact e1
   have e6:X.N[m]?=some y:=by
    have a:=congrArg (fun l=>l[j]?) hfv
    simp only [YD,hj,e5,GV] at a
    exact YK a
   have e7:X.env.kindOf y=some .cell:=by
    have a:=congrArg (fun l=>l[j]?) hk
    simp only [YD,e5,GV] at a
    exact YK a
   have e8:σ[m]?=some (some v):=by
    cases q:σ[m]? with
    | none=>rw[List.getD,q] at e4;cases e4
    | some o=>rw[List.getD,q] at e4;rw[show o=some v from e4]
   obtain⟨m0,hm0,hl0⟩:=I.loc
   obtain⟨u,ru,lk⟩:=hl0 m y v e6 e8 (.inr (.inl e7))
   refine⟨u,ru,?_⟩
   rcases lk with ⟨z,_⟩ | ⟨_,c,hcc,ic⟩
   ·rw[e7] at z;cases z
   ·have mem:y∈N.drop k:=YI e5
    have fr:=hfl y mem
    have nyx:y≠x:=fun z=>by rw[z,hx] at fr;cases fr
    obtain⟨c',hc'⟩:=h2 (y,.free) (Ql fr) rfl
    have ec:=h1 y c' hc'
    rw[hcc] at ec
    cases ec
    refine .inr ⟨.inl (Vg I.ok.kind fr e7),c,(Z4d nyx).trans hc',?_⟩
    obtain⟨o,ho,hd⟩:=ic
    exact⟨o,hb _ _ ho,hd⟩⟩
 cell:=fun y c e=>by
  rcases Vm e with ⟨_,rfl⟩ | ⟨_,e⟩
  ·exact⟨_,hcn⟩
  ·obtain⟨v,o,ho,hd⟩:=I.cell y c (h1 y c e)
   exact⟨v,o,hb _ _ ho,hd⟩
 free:=I.hok.fresh (YE _)
 freeC:=fun y c e=>by
  rcases Vm e with ⟨_,rfl⟩ | ⟨_,e⟩
  ·exact I.hok.fresh (ze _)
  ·exact I.freeC y c (h1 y c e)
 pin:=fun p hp=>by
  obtain⟨a1,a2,a3,a4,a5⟩:=I.pin p (YL _ ((JV.mp hp).elim id fun z=>nomatch z))
  exact⟨hb _ _ a1,a2,XA (YJ a1),fun z=>(YS.mp (I.stkSub p.1 z)).elim a3 a4,a5⟩
 hok:=I.hok.kept hb
 len:=by
  show (comp0 k fv σ).length=N.length
  unfold comp0
  simp[hN]
end
section
variable {X:Cx}
set_option maxHeartbeats 1000000 in
theorem K4 {elt iter tg:Expr}{ifs:List Expr}{scope:Scope}{pos:Pos}{g:TG}{tt:TT}{te:TE}{N:List Str}{k:Nat}{fv:List Nat}{cl:List (Str × Addr)}{x0:Str}
  {pins:List (Addr × Obj)} {σ:L2.St} {H:Hp} {s:Shared} {it:Addr} {fp:List Addr} {tn:Nat->Heap->Prop} {J:It} {Q:VK} {RR:Value->Addr->Result->Shared->Prop} {E:Value->Shared->Prop}
  (hc:X.calm=true) (hg:∀ cl C fp s H,PG (compCxC X N scope x0 cl C fp s H) tg g) (ht:∀ cl C fp s H,PTs (compCxC X N scope x0 cl C fp s H) ifs tt) (he:∀ cl C fp s H,PE (compCxC X N scope x0 cl C fp s H) elt te)
  (hw:∀ r x H Q,g x (List.replicate k none++r) H Q->g x (List.replicate k none++r) H fun σ4 H4=>Q σ4 H4/\Weaker σ4 (List.replicate k none++r))
  (hN:N.length=k+fv.length) (hfv:fv.map (fun j=>X.N[j]?)=(N.drop k).map some) (hk:(N.drop k).map X.env.kindOf=(N.drop k).map fun _=>some .cell) (hfl:∀ y∈N.drop k,scope.names.lookup y=some .free)
  (hone:(scope.names.filter fun y=>y.2 == .cell)=[(x0,.cell)]) (hx0:scope.names.lookup x0=some .cell) (hkind:scope.kind=.function) (h1:∀ y c,cl.lookup y=some c->X.env.cells.lookup y=some c) (h2:∀ y∈scope.names,y.2=.free->∃ c,cl.lookup y.1=some c)
  (I:Inv X pins σ H s) (T:Turn X.prog X.w X.K tg J fp it tn) (st:tn 0 s.heap) (f:∀ b∈fp,FpOk X pins H b)
  (body:∀ d,H d=none->∃ (n:Nat) (W:Nat->List V->Hp->Prop),n<=sizeLine/\W 0 [] (upd H d (.lst [])) ∧
   (∀ i ys H2,i<n->W i ys H2->H2 d=some (.lst ys)->J.go i H2/\∀ x H3,J.yld i H2 x H3->g x (comp0 k fv σ) H3 fun σ4 H4=>tt σ4 H4 fun b H5 =>
    if b=true then te σ4 H5 fun y H6=>H6 d=some (.lst ys)/\W (i+1) (ys++[y]) (upd H6 d (.lst (ys++[y]))) else H5 d=some (.lst ys)/\W (i+1) ys H5) ∧
   (∀ ys H2,W n ys H2->H2 d=some (.lst ys)->J.stop n H2/\Q (.ref d) H2))
  (hR:∀ (D C:Addr) (H':Hp) (s':Shared),(∃ m,s'.heap.Ns C m)->FpOk X pins H' C->Q (.ref D) H'->(∀ h',Heap.SameBut C s'.heap h'->Inv X pins σ H' { s' with heap:=h' })->RR (.ref D) C (.ok .next) s') :
  wpAny (model X.prog X.w) X.A (newList []) (fun acc s3=>wpAny (model X.prog X.w) X.A (newFunctionEnv scope X.env.globals cl [] X.env.qual none .none (some X.env)) (fun cenv s4 =>
   codeAny (model X.prog X.w) X.A (.compStart (.ListComp elt [⟨tg,iter,ifs,0⟩] scope pos) 0 (.ref it) acc { cenv with scope:=relabel scope X.env }) (RR acc cenv.locals) s4) E s3) E s:=by
 refine JX ?_
 have I3:=I.lnew (its:=[]) (ys:=[]) (t':=s.toks) .nil (JZ _)
 have fresh:=I.fresh
 generalize hD:s.heap.objs.size=D at I3 fresh ⊢
 have f3:∀ b∈fp,FpOk X pins (upd H D (.lst [])) b:=fun b hb=>by
  refine⟨?_,(f b hb).2⟩
  have hne:b≠D:=by
   obtain⟨o,e,_⟩:=T.obj 0 _ st b hb
   rw[← hD]
   exact XA (YJ e)
  rw[Zf hne]
  exact (f b hb).1
 have up3:∀ b o,s.heap.get? b=some o->(s.heap.push { cls:=.type "list",data:=.seq ([]:List Value).toArray }).get? b=some o:=fun b o e=>YA _ e
 have st3:tn 0 (s.heap.push { cls:=.type "list",data:=.seq ([]:List Value).toArray }):=T.keep 0 _ _ st fun b _ o e=>up3 b o e
 have hl3:∀ b∈fp,b<(s.heap.push { cls:=.type "list",data:=.seq ([]:List Value).toArray }).objs.size:=fun b hb=>by
  obtain⟨o,e,_⟩:=T.obj 0 _ st3 b hb
  exact YJ e
 obtain⟨n,W,hn,w0,step,fin⟩:=body D fresh
 generalize hS3:({ s with heap:=s.heap.push { cls:=.type "list",data:=.seq ([]:List Value).toArray },toks:=s.toks }:Shared)=s3 at I3
 have eS3:s3.heap=s.heap.push { cls:=.type "list",data:=.seq ([]:List Value).toArray }:=by rw[← hS3]
 rw[← eS3] at st3 hl3
 refine Z0t hone (fun h4 eh4=>?_)
 have old:∀ b o,s3.heap.get? b=some o->h4.get? b=some o:=fun b o e=>by rw[eh4];exact YA _ (YA _ e)
 have hns:h4.Ns s3.heap.objs.size (fun _=>none):=by rw[eh4];exact (Heap.Ns.new s3.heap (.type "dict")).keeps fun b o e=>YA _ e
 have hcn:h4.IsCell (s3.heap.objs.size+1) none:=by
  rw[eh4]
  rw[← XM s3.heap { cls:=.type "dict",data:=.dict #[] }]
  exact⟨_,YO _ rfl,rfl⟩
 clear eh4
 have I4:=C8 (N:=N) (tk:=s3.toks) I3 hc f3 hl3 hkind hone hx0 h1 h2 hN hfv hk hfl (h':=h4) hns hcn old
 have st4:tn 0 h4:=T.keep 0 _ _ st3 fun b _ o e=>old b o e
 have hCn:s3.heap.get? s3.heap.objs.size=none:=by
  cases e:s3.heap.get? s3.heap.objs.size with
  | none=>rfl
  | some o=>exact absurd (YJ e) (XQ _)
 generalize hC:s3.heap.objs.size=C at I4 hCn ⊢
 have stat:∀ {H':Hp} {ps:List (Addr × Obj)},(∀ b∈fp,H' b=none)->(∀ p∈ps,p.1 ∉ fp)->∀ b∈fp,FpOk (compCxC X N scope x0 cl C fp s3 (upd H D (.lst []))) ps H' b:=fun {H' ps} hn hp b hb =>
  ⟨hn b hb,by rw[← hC];exact XA (hl3 b hb),fun z=>(YS.mp (I3.stkSub b z)).elim (fun e=>(f3 b hb).2.1 e) fun e=>(f3 b hb).2.2.1 e,.inl hb,fun x c e=>(Vm e).elim (fun z q=>absurd (hl3 b hb) (jm.mpr (by rw[← q,z.2,← hC];exact ze _))) (fun z=>(f3 b hb).2.2.2.2.1 x c (h1 x c z.2)),fun p q z=>(JV.mp q).elim (fun q=>(f3 b hb).2.2.2.2.2 p (YL _ q) z) fun q=>hp p q (by rw[z];exact hb)⟩
 have loop:∀ s4:Shared,s4={ s3 with heap:=h4,toks:=s3.toks } →
   codeAny (model X.prog X.w) X.A (.compLoop (.ListComp elt [⟨tg,iter,ifs,0⟩] scope pos) 0 (.ref it) (.ref D) (compEnvC scope ((x0,C+1)::cl) C X.env)) (RR (.ref D) C) s4:=by
  rintro s4 rfl
  refine N5 (fun m s'=>∃ i ys H',Inv (compCxC X N scope x0 cl C fp s3 (upd H D (.lst []))) [] (comp0 k fv σ) H' s'/\tn i s'.heap/\(∀ b∈fp,H' b=none)/\i<=n/\m=n+1 - i/\ys.length<=i/\H' D=some (.lst ys)/\W i ys H') ?_ (n+1)
   ⟨0,[],_,I4,st4,fun b hb=>(f3 b hb).1,JZ _,rfl,YE _,Zc,w0⟩
  rintro m s5 ⟨i,ys,H5,I5,st5,fr5,hi,rfl,hys,hD5,w5⟩
  by_cases hlt:i<n
  ·obtain⟨go,stp⟩:=step i ys H5 hlt w5 hD5
   refine thn (T.item (compCxC X N scope x0 cl C fp s3 (upd H D (.lst []))) rfl rfl rfl rfl i [] s5 _ H5 noX I5 (stat fr5 (by simp)) st5 go) fun r s6 ⟨u,er,h6⟩=>?_
   subst er
   refine thn h6 fun _ s7 ⟨x,H7,I7,r7,y7,st7,fr7⟩=>?_
   have I7':=I7.pinned (stat fr7 (by simp)) (T.obj _ _ st7)
   refine thn (hg cl C fp s3 _ _ s7 _ H7 x u _ I7' r7 (hw _ x H7 _ (stp x H7 y7))) fun _ s8 ⟨σ8,H8,I8,q8,wk⟩=>?_
   refine thn (ht cl C fp s3 _ _ s8 σ8 H8 _ I8 q8) fun ok s9 ⟨H9,I9,q9⟩=>?_
   have back:∀ {σ':L2.St} {H':Hp} {s':Shared},Inv (compCxC X N scope x0 cl C fp s3 (upd H D (.lst []))) ([]++pinsAt fp s7.heap) σ' H' s'->Weaker σ' (comp0 k fv σ) →
     Inv (compCxC X N scope x0 cl C fp s3 (upd H D (.lst []))) [] (comp0 k fv σ) H' s'/\tn (i+1) s'.heap/\∀ b∈fp,H' b=none:=fun {σ' H' s'} I' wk'=>by
    refine⟨I'.unpinned.weak wk'.1 wk'.2,T.keep _ _ _ st7 fun b hb o e=>(I'.pin (b,o) (XL _ (XL _ (Xt hb e)))).1,fun b hb=>?_⟩
    obtain⟨o,e,_⟩:=T.obj _ _ st7 b hb
    exact (I'.pin (b,o) (XL _ (XL _ (Xt hb e)))).2.1
   cases ok with
   | false =>
    rw[YG YT] at q9 ⊢
    obtain⟨hD9,w9⟩:=q9
    obtain⟨a1,a2,a3⟩:=back I9 wk
    exact⟨n+1 - (i+1),by omega,i+1,ys,H9,a1,a2,a3,hlt,rfl,Nat.le_succ_of_le hys,hD9,w9⟩
   | true =>
    rw[YM rfl] at q9 ⊢
    refine thn (he cl C fp s3 _ _ s9 σ8 H9 _ I9 q9) fun y s10 ⟨yv,H10,I10,r10,hD10,w10⟩=>?_
    refine thn (Yy _ s10 σ8 H10 (.ref D) [yv] (.ref D) [y] (fun _ H'=>H'=upd H10 D (.lst (ys++[yv]))) I10 rfl (.cons r10 .nil) ⟨D,ys,yv,rfl,rfl,hD10,GA hys (YW hlt hn),rfl⟩) fun _ s11 ⟨_,H11,I11,_,e11⟩=>?_
    subst e11
    obtain⟨a1,a2,a3⟩:=back I11 wk
    exact⟨n+1 - (i+1),by omega,i+1,ys++[yv],_,a1,a2,a3,hlt,rfl,by rw[XD];show ys.length+1<=i+1;omega,Zc,w10⟩
  ·obtain rfl:i=n:=Nat.le_antisymm hi (jm.mp hlt)
   obtain⟨stop,q⟩:=fin ys H5 w5 hD5
   refine thn (T.done (compCxC X N scope x0 cl C fp s3 (upd H D (.lst []))) rfl rfl rfl rfl i [] s5 _ H5 noX I5 (stat fr5 (by simp)) st5 stop) fun r s6 ⟨er,I6⟩=>?_
   subst er
   refine hR D C H5 s6 ?_ (I3.fpOk (by rw[hC];exact YE _) I6.free) q fun h' hs'=>?_
   ·obtain⟨m,hm,_⟩:=I6.loc
    exact⟨m,hm⟩
   ·have hs2:∀ b,b≠C->h'.get? b=s6.heap.get? b:=fun b hb=>hs'.2 b hb
    refine I3.call' (s':={ s6 with heap:=h' }) (ch:=fp) ?_ (Co I6.base hCn hs2) (F6 I6.hok I6.free hs2) I6.bare fun b hb=>?_
    ·exact I6.os
    ·exact⟨(f3 b hb).2.2.2.1,(f3 b hb).2.1,(f3 b hb).2.2.2.2.1,(f3 b hb).2.2.2.2.2⟩
 exact codeAny_compStart_list (loop _ rfl) (T.self _ 0 _ _ _ st4 (loop _ rfl))
theorem Z03 {elt iter tg:Expr}{ifs:List Expr}{scope:Scope}{pos:Pos}{wi:TI}{g:TG}{tt:TT}{te:TE}{N:List Str}{k:Nat}{fv:List Nat}{x0:Str}
  (hc:X.calm=true) (hi:PI X tg iter wi) (hg:∀ cl C fp s H,PG (compCxC X N scope x0 cl C fp s H) tg g) (ht:∀ cl C fp s H,PTs (compCxC X N scope x0 cl C fp s H) ifs tt) (he:∀ cl C fp s H,PE (compCxC X N scope x0 cl C fp s H) elt te)
  (hw:∀ r x H Q,g x (List.replicate k none++r) H Q->g x (List.replicate k none++r) H fun σ4 H4=>Q σ4 H4/\Weaker σ4 (List.replicate k none++r))
  (hN:N.length=k+fv.length:=by rfl) (hfv:fv.map (fun j=>X.N[j]?)=(N.drop k).map some:=by rfl) (hk:(N.drop k).map X.env.kindOf=(N.drop k).map (fun _=>some .cell):=by rfl)
  (hfl:∀ y∈N.drop k,scope.names.lookup y=some .free:=by decide +kernel) (hfr:∀ y∈scope.names,y.2=.free->y.1∈N.drop k:=by decide +kernel)
  (hone:(scope.names.filter fun y=>y.2 == .cell)=[(x0,.cell)]:=by decide +kernel) (hx0:scope.names.lookup x0=some .cell:=by decide +kernel) (hkind:scope.kind=.function:=by rfl) (hnames:∀ y∈scope.names,y.2=.local->scope.names.lookup y.1=some .local:=by decide +kernel)
  (hs:∀ x,foldedSetIterable iter X.env x=pure x:=by intro _;rfl):PE X (.ListComp elt [⟨tg,iter,ifs,0⟩] scope pos) (tComp wi g tt te k fv):=by
 intro pins s σ H Q I h
 have kc:∀ y∈N.drop k,X.env.kindOf y=some .cell:=fun y hy=>by
  obtain⟨j,hj⟩:=XB hy
  have a:=congrArg (fun l=>l[j]?) hk
  simp only [YD,hj,GV] at a
  exact YK a
 obtain⟨cl,hclos,h1,h2⟩:=Wy (env:=X.env) (scope:=scope) fun y hy hf=>I.ok.has y.1 (.inl (kc y.1 (hfr y hy hf)))
 rw[eval_ListComp]
 refine zI (use:=none) rfl hs hclos hkind hnames (thn (hi pins s σ H _ I h) fun xv s1 h1'=>thn h1' fun itv s2 h2'=>?_)
 obtain⟨it,fp,tn,J,H2,e,I2,T,st2,f2,body⟩:=h2'
 subst e
 exact K4 (RR:=fun acc C=>compPost (model X.prog X.w) X.A X.xe none (EP X pins σ Q) acc C) hc hg ht he hw hN hfv hk hfl hone hx0 hkind h1 h2 I2 T st2 f2 body fun D C H' s' ⟨m,hm⟩ _ q iv=>⟨m,hm,fun h' hs'=>⟨.ref D,H',iv h' hs',rfl,q⟩⟩
end
section
variable {X:Cx}{K:W.Frag}{tg l:Expr}{tl:TE}
theorem Z00 (hl:PE X l tl)(h:X.K=K:=by rfl):PI X tg l (iList K tl):=h ▸ Xd hl
end
theorem C7 (o:Obj)(f):(o.mapFields f).dict=o.dict:=by
 obtain⟨c,d,dt,sl⟩:=o
 cases dt <;> rfl
def TrD (h B:Heap)(e:Addr)(c:Value)(dd:Option Addr)(fl:Value):Prop :=
 ∃ (oe:Obj) (vs:Array Value) (T:Addr) (oT:Obj) (ts:Array Value),(h.get? e=some oe/\oe.cls=c/\oe.dict=dd/\oe.data=.fields vs/\vs[1]?=some (.ref T)/\vs[2]?=some .none)/\(B.get? T=none/\T≠e)/\(h.get? T=some oT/\oT.data=.fields ts/\ts[3]?=some fl)
theorem TrD.obj {h B:Heap}{e:Addr}{c:Value}{dd:Option Addr}{fl:Value}(x:TrD h B e c dd fl):∃ oe vs,h.get? e=some oe/\oe.cls=c/\oe.dict=dd/\oe.data=.fields vs:=by
 obtain⟨oe,vs,_,_,_,⟨e1,e2,e3,e4,_⟩,_⟩:=x
 exact⟨oe,vs,e1,e2,e3,e4⟩
def FlyD (B:Heap)(l:List Env)(e:Addr)(c:Value)(dd:Option Addr)(h:Heap):Prop:=B.StaysIn h/\B.get? e=none/\h.FunFrames B l/\TrD h B e c dd .none
def HeldD (B:Heap)(l:List Env)(e:Addr)(c:Value)(dd:Option Addr)(L:Addr)(h:Heap):Prop:=B.StaysIn h/\B.get? e=none/\h.FunFrames B l/\TrD h B e c dd (rawInt L)
section
variable {M:Model}{A:Around}{E:Value->Shared->Prop}{s:Shared}{B:Heap}{env:Env}{outer:List Env}{L e:Addr}{c:Value}{dd:Option Addr}{Q:Unit->Shared->Prop}
theorem Z1o {oe:Obj}{vs:Array Value}{hd0:Value}{nx:Bool}(fr:A.frames=some (env::outer))(ff:s.heap.FunFrames B (env::outer))(lf:env.frame=some L)(he:s.heap.get? e=some oe)(kb:B.StaysIn s.heap)(nb:B.get? e=none)(d0:oe.data=.fields vs)(sz:1<vs.size)(hc:vs[2]?=some .none)
  (hq:∀ h',HeldD B (env::outer) e oe.cls oe.dict L h'->s.heap.UpToSlots h'->Q () { s with heap:=h' }) :
  wpAny M A (do let a ← frameOf env;let pl ← entryPlaceOf L nx;let b ← EntryCells.newEntry hd0 a .none (rawInt L) .none pl;setField (.ref e) 1 b) Q E s:=by
 have ne:e ∉ (env::outer).filterMap (·.frame):=fun z=>by
  obtain⟨_,o,ho,nf⟩:=ff.mem z
  rw[he] at ho
  cases ho
  exact nf vs d0
 refine YB (wpAny_frameOf_fun fr ff lf fun g1 so=>?_)
 refine YB (wpAny_entryPlaceOf fun pl ip=>?_)
 unfold EntryCells.newEntry newFields
 refine YB (JX ?_ (ip.sizeOk5 _ _ _ _ _))
 have e1:g1.get? e=some oe:=(so.2.1 e ne).trans he
 have kb1:B.StaysIn g1:=fun b o q=>(so.2.1 b fun z=>by rw[(ff.mem z).1] at q;cases q).trans (kb b o q)
 generalize hN:({ cls:=Value.type "traceback",dict:=none,data:=.fields ([hd0,.ref L,.none,rawInt L,.none]++(if pl.isEmpty then List.replicate 6 Value.none else pl)).toArray }:Obj)=N
 have e2:=YA (h:=g1) N e1
 have nT:g1.objs.size≠e:=qo (YJ e1)
 have d3:=qp d0 (·.setIfInBounds 1 (Value.ref g1.objs.size))
 have e3:=JJ (Obj.mapFields (·.setIfInBounds 1 (Value.ref g1.objs.size))) e2 (zz d3)
 have kp:∀ b o,b≠e->g1.get? b=some o->((g1.push N).update e (Obj.mapFields (·.setIfInBounds 1 (Value.ref g1.objs.size)))).get? b=some o:=fun b o q z=>by
  rw[XT _ _ (XO q)]
  exact YA _ z
 have nr:∀ b o,s.heap.get? b=some o->(∀ vs,o.data≠.fields vs)->b≠e:=fun b o z nf q=>by
  rw[q,he] at z
  cases z
  exact nf vs d0
 refine qe e2 d0 sz (hq _ ?_ ?_)
 ·have hT:((g1.push N).update e (Obj.mapFields (·.setIfInBounds 1 (Value.ref g1.objs.size)))).get? g1.objs.size=some N:=by
   rw[XT _ _ (XO nT)]
   exact YO g1 (by rw[← hN];rfl)
  refine⟨fun b o q=>kp b o (fun z=>by rw[z,nb] at q;cases q) (kb1 b o q),nb,ff.of_keeps fun b o z nf=>?_,?_⟩
  ·obtain⟨sl,w⟩:=so.2.2 b o z
   exact⟨_,kp b _ (nr b o z nf) w,rfl⟩
  ·refine⟨_,_,g1.objs.size,N,([hd0,.ref L,.none,rawInt L,.none]++(if pl.isEmpty then List.replicate 6 Value.none else pl)).toArray,⟨e3,Y0p _ _,C7 _ _,d3,by simp[sz],by rw[Array.getElem?_setIfInBounds_ne (by decide)];exact hc⟩,⟨kb1.fresh,nT⟩,hT,by rw[← hN],?_⟩
   first | (simp;done) | (rcases ip with rfl | ⟨_,_,_,_,_,_,_,rfl⟩ <;> simp)
 ·intro b o z nf
  obtain⟨sl,w⟩:=so.2.2 b o z
  exact⟨sl,kp b _ (nr b o z nf) w⟩
theorem Gv {l:List Env}{fl:Value}(kb:B.StaysIn s.heap)(nb:B.get? e=none)(ff:s.heap.FunFrames B l)(t:TrD s.heap B e c dd fl)(hq:∀ h',FlyD B l e c dd h'->s.heap.UpToSlots h'->Q () { s with heap:=h' }):wpAny M A (setFlight (.ref e) none) Q E s:=by
 obtain⟨oe,vs,T,oT,ts,⟨he,q1,q2,d0,h1⟩,⟨nT,Te⟩,hT,dT,h3⟩:=t
 have sz:3<ts.size:=(qu.mp h3).1
 have ot:∀ b,b≠T->(s.heap.update T (Obj.mapFields (·.setIfInBounds 3 ((none:Option Addr).elim Value.none fun f=>rawInt f)))).get? b=s.heap.get? b:=fun b q=>XT _ _ (XO q)
 have nr:∀ b o,s.heap.get? b=some o->(∀ vs,o.data≠.fields vs)->b≠T:=fun b o z nf q=>by
  rw[q,hT] at z
  cases z
  exact nf ts dT
 unfold setFlight
 refine YB (XJ he d0 h1.1 ?_)
 rw[YM (by simp)]
 refine qe hT dT sz (hq _ ⟨fun b o q=>(ot b fun z=>by rw[z,nT] at q;cases q).trans (kb b o q),nb,ff.of_keeps fun b o z nf=>⟨o,(ot b (nr b o z nf)).trans z,rfl⟩,?_⟩ fun b o z nf=>⟨o.slots,(ot b (nr b o z nf)).trans z⟩)
 exact⟨oe,vs,T,_,_,⟨(ot e (XO Te)).trans he,q1,q2,d0,h1⟩,⟨nT,Te⟩,JJ _ hT (zz (qp dT _)),qp dT _,by simp[sz]⟩
theorem J2 {oe:Obj}{vs:Array Value}(fr:A.frames=some (env::outer))(ff:s.heap.FunFrames B (env::outer))(lf:env.frame=some L)(he:s.heap.get? e=some oe)(kb:B.StaysIn s.heap)(nb:B.get? e=none)(d0:oe.data=.fields vs)(h1:vs[1]?=some .none)(hc:vs[2]?=some .none)
  (hq:∀ h',HeldD B (env::outer) e oe.cls oe.dict L h'->s.heap.UpToSlots h'->Q () { s with heap:=h' }):wpAny M A (noteFrame (.ref e) env) Q E s:=by
 unfold noteFrame
 simp only [lf]
 refine YB (XJ he d0 h1 ?_)
 rw[YG (by decide)]
 exact Z1o fr ff lf he kb nb d0 (qu.mp h1).1 hc hq
theorem Px (fr:A.frames=some (env::outer))(lf:env.frame=some L)(x:FlyD B (env::outer) e c dd s.heap)(hq:∀ h',HeldD B (env::outer) e c dd L h'->s.heap.UpToSlots h'->Q () { s with heap:=h' }):wpAny M A (noteFrame (.ref e) env) Q E s:=by
 obtain⟨kb,nb,ff,oe,vs,T,oT,ts,⟨he,rfl,rfl,d0,h1⟩,⟨nT,Te⟩,hT,dT,h3⟩:=x
 unfold noteFrame
 simp only [lf]
 refine YB (XJ he d0 h1.1 ?_)
 rw[YM (by simp)]
 refine YB (XJ hT dT h3 ?_)
 rw[YG (by simp[rawInt])]
 refine YB (qe hT dT (qu.mp h3).1 ?_)
 have ot:∀ b,b≠T->(s.heap.update T (Obj.mapFields (·.setIfInBounds 3 Value.none))).get? b=s.heap.get? b:=fun b q=>XT _ _ (XO q)
 have nr:∀ b o,s.heap.get? b=some o->(∀ vs,o.data≠.fields vs)->b≠T:=fun b o z nf q=>by
  rw[q,hT] at z
  cases z
  exact nf ts dT
 exact Z1o fr (ff.of_keeps fun b o z nf=>⟨o,(ot b (nr b o z nf)).trans z,rfl⟩) lf ((ot e (XO Te)).trans he) (fun b o q=>(ot b fun z=>by rw[z,nT] at q;cases q).trans (kb b o q)) nb d0 (qu.mp h1.1).1 h1.2
  fun h' x u=>hq h' x fun b o z nf=>u b o ((ot b (nr b o z nf)).trans z) nf
theorem Lk {oe:Obj}{vs:Array Value}(fr:A.frames=some (env::outer))(ff:s.heap.FunFrames B (env::outer))(lf:env.frame=some L)(he:s.heap.get? e=some oe)(kb:B.StaysIn s.heap)(nb:B.get? e=none)(d0:oe.data=.fields vs)(h1:vs[1]?=some .none)(hc:vs[2]?=some .none)
  (hq:∀ h',FlyD B outer e oe.cls oe.dict h'->s.heap.UpToSlots h'->Q () { s with heap:=h' }):wpAny M A (leaving env (.ref e)) Q E s:=by
 unfold leaving
 refine YB (J2 fr ff lf he kb nb d0 h1 hc fun h' x u=>Gv x.1 x.2.1 x.2.2.1 x.2.2.2 fun h2 y v=>hq h2 ⟨y.1,y.2.1,y.2.2.1.2.2,y.2.2.2⟩ (u.trans v))
theorem J9 (fr:A.frames=some (env::outer))(lf:env.frame=some L)(x:FlyD B (env::outer) e c dd s.heap)(hq:∀ h',FlyD B outer e c dd h'->s.heap.UpToSlots h'->Q () { s with heap:=h' }):wpAny M A (leaving env (.ref e)) Q E s:=by
 unfold leaving
 refine YB (Px fr lf x fun h' x u=>Gv x.1 x.2.1 x.2.2.1 x.2.2.2 fun h2 y v=>hq h2 ⟨y.1,y.2.1,y.2.2.1.2.2,y.2.2.2⟩ (u.trans v))
end
abbrev newTupO (vs:List Value):Obj:={ cls:=.type "tuple",data:=.seq vs.toArray }
abbrev newExcO (C:Addr)(t:Addr)(dd:Option Addr):Obj:={ cls:=.ref C,dict:=dd,data:=.fields #[.ref t,.none,.none,.none,.bool false,.none] }
abbrev excHeap (h:Heap)(C:Addr)(vs:List Value):Heap:=(h.push (newTupO vs)).push (newExcO C h.objs.size none)
section
variable {P:Program}{w:World}{A:Around}{E:Value->Shared->Prop}{h:Heap}{g:Array GenState}{d:Drawn}{tk:Nat}{os:OsState}
variable {nm q:Str}{C N fI:Addr}{bs tl bB:List Value}{hdct:Bool}{sn:List Str}{sub:List Value}{ab:Bool}{col:Option Bool}{dd:Option Addr}{k0 k1 k2 k3 k5:Option Value}{B newId initId:String}{mN:Str->Option Value}{vs:List Value}{oI:Obj}
theorem Xb {b:Addr}{o:Obj}(e:h.get? b=some o):(excHeap h C vs).get? b=some o:=YA _ (YA _ e)
theorem P5:(excHeap h C vs).get? (h.objs.size+1)=some (newExcO C h.objs.size none):=Heap.get?_push_at (XM ..).symm rfl
theorem Kd {Q:Fin->Shared->Prop}(F:ExcBaseFacts B newId initId bB)(T:OwnTail h bB tl)(hC:h.get? C=some (excClassObj nm q C N bs tl hdct sn sub ab col dd k0 k1 k2 k3 k5 newId))(hn:h.Ns N mN)(hi:mN "__init__"=some (.ref fI))
  (hf:h.get? fI=some oI) (hfc:oI.cls=.type "function") (hv:vs.length<=sizeLine)
  (hq:wpAny (model P w) A (call (.ref fI) (.ref (h.objs.size+1)::vs)) (fun r s'=>r=.none/\Q (.done (.ret (.ref (h.objs.size+1)))) s') E ⟨excHeap h C vs,g,d,tk,os⟩) :
  wpAny (model P w) A (Builtin.«type.__call__» ⟨.ref C::vs,[]⟩) Q E ⟨h,g,d,tk,os⟩:=by
 repeat (first | with_reducible refine GR hC ?_ | with_reducible refine wpAny_madeBy_exc hC ?_ | wp_step)
 refine codeAny_call_builtin_code (Code.quiet_builtin _ F.quiet) (wpAny_check_new_subT F T hC (codeAny_exc_new_subT F T hC ?_ hv))
 show wpAny _ _ _ _ _ _
 have hC1:(excHeap h C vs).get? C=_:=Xb hC
 have hg1:(excHeap h C vs).get? (h.objs.size+1)=_:=P5
 have hn1:(excHeap h C vs).Ns N mN:=hn.keeps fun b o e=>Xb e
 have T1:OwnTail (excHeap h C vs) bB tl:=T.keeps fun b o e=>Xb e
 have cC:(Value.ref C::tl).contains (.ref C)=true:=by simp
 unfold isInstance
 repeat (first | with_reducible refine GR hg1 ?_ | (with_reducible refine Y02 hC1 ?_;rw[cC]) | wp_step)
 show wpAny _ _ (typeLookup (.ref C) _) _ _ _
 refine wpAny_typeLookup_tail hC1 hn1 T1 F.mroIs F.init.lookup ?_
 rw[hi]
 refine GB (YB ?_)
 unfold bindSpecial
 refine YB (wpAny_typeOf (T:="function") ⟨_,Xb hf,hfc⟩ ?_)
 rw[YM (by decide)]
 refine YR (YB (GO hq (fun r s' ⟨hr,hQ⟩=>?_) fun _ _ x=>x))
 subst hr
 wp_walk
 exact hQ
theorem Ci {Q:Value->Shared->Prop}(F:ExcBaseFacts B newId initId bB)(T:OwnTail h bB tl)(hC:h.get? C=some (excClassObj nm q C N bs tl hdct sn sub ab col dd k0 k1 k2 k3 k5 newId))(hn:h.Ns N mN)(hi:mN "__init__"=some (.ref fI))
  (hf:h.get? fI=some oI) (hfc:oI.cls=.type "function") (hv:vs.length<=sizeLine)
  (hq:wpAny (model P w) (A.under (.builtin "type.__call__" ⟨.ref C::vs,[]⟩)) (call (.ref fI) (.ref (h.objs.size+1)::vs)) (fun r s'=>r=.none/\Q (.ref (h.objs.size+1)) s') E ⟨excHeap h C vs,g,d,tk,os⟩) :
  wpAny (model P w) A (call (.ref C) vs) Q E ⟨h,g,d,tk,os⟩:=by
 have f1:=tc_lookup
 have f2:=tc_bind (.ref C)
 have hT:(⟨h,g,d,tk,os⟩:Shared).TypeIs (.ref C) "type":=⟨_,hC,rfl⟩
 refine Y0d (codeAny_of_tree ?_)
 show wpAny _ _ (callAny (.ref C) _) _ _ _
 repeat (any_goals (first | assumption | with_reducible refine GR hC ?_ | wp_step))
 exact⟨rfl,codeAny_call_builtin_at (Code.quiet_builtin _ (by decide +kernel)) entry_typeCall (wpAny_check_type_call_sub hC (Kd F T hC hn hi hf hfc hv hq))⟩
end
theorem Z0r {K:W.Frag}{h:Heap}{N:Addr}{m:Str->Option Value}{n:Str}{v:Value}(X:K.In h)(G:h.Ns N m)(e:W.nsIn K N n=some (some v)):m n=some v:=by
 obtain⟨o,es,ep,ho,hd,_,hf⟩:=G
 unfold W.nsIn at e
 split at e
 ·rename_i c d es' n' sl q
  have z:=X _ _ q
  rw[ho] at z
  cases z
  cases hd
  split at e
  ·rename_i en he
   cases e
   rw[← hf]
   unfold nsFind findBy
   rw[← Y12,he]
   rfl
  ·split at e <;> cases e
 ·cases e
def excInI (K:W.Frag)(C fI:Addr):Bool:=match K.lookup C with
 | some ⟨.type "type",_,.cls cd,sl⟩=>(match cd.mro,sl.toList with
  | .ref C'::bm,[_,_,_,_,some (.builtin n),_]=>C' == C && (cd.hasDict && (n == "ValueError.__new__" && (!cd.hasDel && (W.tailIn K bmV bm && (W.nsOkIn K cd.ns && W.nsIn K cd.ns "__init__" == some (some (.ref fI)))))))
  | _,_=>false)
 | _=>false
structure ExcI (K:W.Frag)(mg:Str->Option Value)(x:Str)(C fI:Addr):Prop where
 ok:excInI K C fI=true
 fn:W.isFn K (.ref fI)=true
 bd:mg x=some (.ref C)
theorem ExcI.own {K:W.Frag}{mg:Str->Option Value}{x:Str}{C fI:Addr}{h:Heap}(O:ExcI K mg x C fI)(X:K.In h) :
  ∃ bm N nm q bs sn sub ab col dd k0 k1 k2 k3 k5 mN,h.get? C=some (excClassObj nm q C N bs bm true sn sub ab col dd k0 k1 k2 k3 k5 "ValueError.__new__")/\h.Ns N mN/\mN "__init__"=some (.ref fI)/\OwnTail h bmV bm:=by
 have q:=O.ok
 unfold excInI at q
 revert q
 split
 ·rename_i d0 c0 s0 hob
  split
  ·rename_i C1 rest y0 y1 y2 y3 nn y5 em es
   intro q
   rw[JH,JH,JH,JH,JH,JH] at q
   obtain⟨q1,q0,q2,q3,q4,q5,q6⟩:=q
   cases qa.mp q1
   cases qa.mp q2
   have q3':=Bool.not_eq_true' _ ▸ q3
   have q6':=qa.mp q6
   cases c0
   simp only at em q0 q3' q5 q6'
   subst em q0 q3'
   obtain⟨ll⟩:=s0
   have el:ll=[y0,y1,y2,y3,some (.builtin "ValueError.__new__"),y5]:=es
   subst el
   have G:h.Ns _ _:=.of_isNs (W.isNs_of_in X q5)
   exact⟨_,_,_,_,_,_,_,_,_,_,_,_,_,_,_,_,X _ _ hob,G,Z0r X G q6',W.tail_of_in X q4⟩
  ·intro q;cases q
 ·intro q;cases q
def excN (e C:Addr)(dd:Option Addr):HO:=.ext fun h=>∃ t,h.get? e=some (newExcO C t dd)
theorem M4 {P:Program}{w:World}{H:Hp}{h:Heap}{e C t:Addr}{dd:Option Addr}(x:h.get? e=some (newExcO C t dd)):ObjOk P w H h e (excN e C dd) :=
 ⟨⟨t,x⟩,⟨_,x⟩,fun _ _ ⟨t',e1⟩ k=>⟨t',k _ e1⟩⟩
theorem Ri {P:Program}{w:World}{H:Hp}{h:Heap}{e C:Addr}{dd:Option Addr}(x:HOk P w H h)(y:H e=some (excN e C dd)):∃ t,h.get? e=some (newExcO C t dd):=(x e _ y).1
def unT (H:Hp)(e:Addr):Hp:=fun b=>if b=e then none else H b
theorem Cp {H:Hp}{e:Addr}:unT H e e=none:=YM rfl
theorem Ve {H:Hp}{e b:Addr}(n:b≠e):unT H e b=H b:=YG n
def CXD (P:Program)(w:World):CXT:=fun outer H s E e s'=>∃ (a:Addr) (cls:Value) (dd:Option Addr) (H':Hp) (B:Heap),e=.ref a/\s'.os=s.os/\AllBare s'.gens/\FlyD B outer a cls dd s'.heap ∧
 Un (frs outer) [] H H' s.heap s'.heap/\HOk P w H' B/\(∀ b o,s.heap.get? b=some o->b ∉ frs outer->(∃ o',B.get? b=some o')/\(H b=none->B.get? b=some o))/\E cls dd H'
section
variable {M:Model}{A:Around}{E:Value->Shared->Prop}{env:Env}
variable {nm q:Str}{C N:Addr}{bs tl:List Value}{hdct:Bool}{sn:List Str}{sub:List Value}{ab:Bool}{col:Option Bool}{dd:Option Addr}{k0 k1 k2 k3 k5:Option Value}{newId:String}
theorem Fx {s:Shared}{x:Sem Value}{Q:Flow->Shared->Prop}(hb:tl.contains (.type "BaseException")=true)(hh:A.handled=none)
  (h:wpAny M A x (fun v s1=>∃ (e t:Addr) (dx:Option Addr),v=.ref e/\s1.heap.get? C=some (excClassObj nm q C N bs tl hdct sn sub ab col dd k0 k1 k2 k3 k5 newId)/\s1.heap.get? e=some (newExcO C t dx)/\E (.ref e) s1) E s) :
  wpAny M A (raiseStmt env (some x) none) Q E s:=by
 have cB:(Value.ref C::tl).contains (.type "BaseException")=true:=by rw[Y17,hb,Bool.or_true]
 unfold raiseStmt
 refine YB (GO h (fun v s1 h1=>?_) fun _ _ x=>x)
 obtain⟨e,t,dx,rfl,hC,he,hE⟩:=h1
 obtain⟨hp,g,d,tk,os⟩:=s1
 repeat (first | with_reducible refine GR he ?_ | with_reducible refine GR hC ?_ | (with_reducible refine Y02 hC ?_;rw[cB]) | wp_step)
 exact wpAny_raiseNew_none hh hE
end
section
variable {P:Program}{w:World}{K:W.Frag}{mg:Str->Option Value}{base:Heap}{N:List Str}{qual:Str}{scope:Scope}{f:Addr}{cd:Value}{A:Around}{outer:List Env}{s:Shared}{H:Hp}{E:XK}
theorem Wx {b:Addr}{o:Obj}(e:s.heap.get? b=some o)(hb:b ∉ frs outer):b ∉ frs (envOfC qual scope s.heap.objs.size f cd::outer):=fun z=>by
 rcases YS.mp (show b∈s.heap.objs.size::frs outer from z) with z | z
 ·rw[z] at e
  exact absurd (YJ e) (XQ _)
 ·exact hb z
theorem Pg {pins:List (Addr × Obj)}{σ:L2.St}{H2:Hp}{s2:Shared}{e C:Addr}{dd:Option Addr}(I:Inv (cxOf (CXD P w) P w K mg base N qual scope f cd A outer s H E) pins σ H2 s2)(he:H2 e=some (excN e C dd))(ne:∀ o,s.heap.get? e=some o->False)
  (q:E (.ref C) dd (unT H2 e)):(cxOf (CXD P w) P w K mg base N qual scope f cd A outer s H E).xe (.ref e) s2:=by
 obtain⟨t,ht⟩:=Ri I.hok he
 have nT:∀ b o,H2 b=some o->(∀ φ,o≠HO.ext φ)->b≠e:=fun b o z d y=>by
  rw[y,he] at z
  cases z
  exact d _ rfl
 have hB:∀ b o,s.heap.get? b=some o->b ∉ frs outer->(∃ o',(W.hideAll s2.heap (e::frs (envOfC qual scope s.heap.objs.size f cd::outer))).get? b=some o')/\(H b=none->(W.hideAll s2.heap (e::frs (envOfC qual scope s.heap.objs.size f cd::outer))).get? b=some o):=fun b o z hb=>by
  have nb:b ∉ e::frs (envOfC qual scope s.heap.objs.size f cd::outer):=fun y=>by
   rcases YS.mp y with y | y
   ·exact ne o (by rw[← y];exact z)
   ·exact Wx z hb y
  refine⟨?_,fun n=>?_⟩
  ·obtain⟨o',z'⟩:=I.base.there b o z (by intro z;cases z)
   exact⟨o',Y0v _ z' nb⟩
  ·exact Y0v _ (I.base.keep b o z n hb (by intro z;cases z)) nb
 have un:Un (frs outer) [] H (unT H2 e) s.heap s2.heap:=by
  have u:Un (frs outer) [] H H2 s.heap s2.heap:=I.base
  refine⟨u.keep,u.slot,fun b o z n hx=>?_,u.there,fun b xs z=>?_,fun b o v z=>?_,fun b ps z=>?_⟩
  ·unfold unT
   split
   ·rfl
   ·exact u.free b o z n hx
  ·have y:=u.tups b xs z
   rw[Ve (nT b _ y fun φ d=>nomatch d)]
   exact y
  ·have y:=u.frzs b o v z
   rw[Ve (nT b _ y fun φ d=>nomatch d)]
   exact y
  ·obtain⟨m,y⟩:=u.tbls b ps z
   exact⟨m,by rw[Ve (nT b _ y fun φ d=>nomatch d)];exact y⟩
 have hok:HOk P w (unT H2 e) (W.hideAll s2.heap (e::frs (envOfC qual scope s.heap.objs.size f cd::outer))):=fun a o z=>by
  have na:a≠e:=fun y=>by rw[y,Cp] at z;cases z
  rw[Ve na] at z
  have nf:∀ b u,H2 b=some u->b≠e->b ∉ e::frs (envOfC qual scope s.heap.objs.size f cd::outer):=fun b u y nb y'=>by
   rcases YS.mp y' with y' | y'
   ·exact nb y'
   ·rw[I.stkFree b y'] at y;cases y
  refine (I.hok a o z).stay (fun b u hb y=>Y0v _ y ?_) (fun b y=>by rw[Ve (nT b _ y fun φ d=>nomatch d)];exact y) fun b xs y=>by rw[Ve (nT b _ y fun φ d=>nomatch d)];exact y
  rcases hb with rfl | hb
  ·exact nf _ _ z na
  ·exact nf _ _ hb (nT b _ hb fun φ d=>nomatch d)
 refine Lk (B:=W.hideAll s2.heap (e::frs (envOfC qual scope s.heap.objs.size f cd::outer))) I.ok.frames (W.funFrames_hide I.stack fun env z b hb=>YV _ (Y0a.mpr ⟨env,z,hb⟩)) (L:=s.heap.objs.size) rfl ht (fun b o z=>W.of_hideAll _ z)
  (W.hideAll_none _ XC) rfl rfl rfl fun h2 fl up=>?_
 refine⟨e,.ref C,dd,unT H2 e,_,rfl,I.os,I.bare,fl,?_,hok,hB,q⟩
 refine K9 (P:=P) (w:=w) un hB fl.1 up fun b hb=>?_
 obtain⟨_,o,z,d⟩:=I.funs.mem hb
 exact⟨o,z,d⟩
def tRaiseD (E:XK)(C:Addr)(sp:Sp)(t:TA):TS:=fun _ σ H=>t σ H fun vs H1=>vs.length<=sizeLine/\∀ e,H1 e=none->sp (.ref e::vs) (upd H1 e (excN e C none)) (fun v H2=>v=.non/\∃ dd,H2 e=some (excN e C dd)/\E (.ref C) dd (unT H2 e)) E0
theorem D0 {x:Str}{C fI:Addr}{fd:FuncData}{ps:List Str}{sp:Sp}{k:Nat}{e₀:Expr}{rest:List Expr}{t:TA}{np cpos pos:Pos}(O:ExcI K mg x C fI)(F:FnOk P w K mg base CX0 k fI fd ps sp)(hb:Binds K fd ps [])
  (hr:Room (k+1) (A.deeper (envOfC qual scope s.heap.objs.size f cd)) true) (hg:Gl (cxOf (CXD P w) P w K mg base N qual scope f cd A outer s H E) x) (ha:PA (cxOf (CXD P w) P w K mg base N qual scope f cd A outer s H E) (e₀::rest) t)
  (he:starEach (e₀::rest) (envOfC qual scope s.heap.objs.size f cd)=(false,eval e₀ (envOfC qual scope s.heap.objs.size f cd))::starEach rest (envOfC qual scope s.heap.objs.size f cd):=by rfl)
  (hplain:(backTo cpos (starEach rest (envOfC qual scope s.heap.objs.size f cd))).any (·.1)=false:=by rfl) (hd:(x == ("__debug__":Str))=false:=by decide) :
  PS (cxOf (CXD P w) P w K mg base N qual scope f cd A outer s H E) (.Raise (some (.Call (.Name x np) (e₀::rest) [] cpos)) none pos) (tRaiseD E C sp t):=by
 intro pins s1 σ H1 D I h
 obtain⟨tl,NN,nm,q,bs,sn,sub,ab,col,dd,k0,k1,k2,k3,k5,mN,hC,hN,hni,T⟩:=O.own I.ok.mod.kin
 rw[arm_exec_Raise]
 refine YB (zx (Fx (C:=C) (nm:=nm) (q:=q) (N:=NN) (bs:=bs) (tl:=tl) (hdct:=true) (sn:=sn) (sub:=sub) (ab:=ab) (col:=col) (dd:=dd) (k0:=k0) (k1:=k1) (k2:=k2) (k3:=k3) (k5:=k5) (newId:="ValueError.__new__")
  (T.hasType GS.hasBase) (hr.hd rfl) (YB (GO (wpAny_Call_ofName (Vn I hg O.bd ?_ hd)) (fun v s3 h3=>YB (zx (YR h3))) fun _ _ x=>x))))
 have h2:=ha cpos pins s1 σ H1 _ I h
 replace h2:wpAny (model P w) (A.deeper (envOfC qual scope s.heap.objs.size f cd)) (spliced (backTo cpos (starEach (e₀::rest) (envOfC qual scope s.heap.objs.size f cd)))) _ _ s1:=h2
 rw[he] at h2
 show wpAny _ _ (callWith cpos (.ref C) [] (backTo cpos (starEach (e₀::rest) (envOfC qual scope s.heap.objs.size f cd))) (backToKw cpos (keywordEach [] (envOfC qual scope s.heap.objs.size f cd)))) _ _ _
 unfold callWith
 refine YB (GB (GO (?_:wpAny _ _ (evalArgs (.ref C) true (backTo cpos (starEach (e₀::rest) (envOfC qual scope s.heap.objs.size f cd))) []) (fun a s2=>a.kw=[]/\∃ vs H2,Inv (cxOf (CXD P w) P w K mg base N qual scope f cd A outer s H E) pins σ H2 s2/\Vals vs a.pos/\vs.length<=sizeLine/\∀ e,H2 e=none->sp (.ref e::vs) (upd H2 e (excN e C none)) (fun v H2=>v=.non/\∃ dd,H2 e=some (excN e C dd)/\E (.ref C) dd (unT H2 e)) E0) _ s1) (fun a s2 h3=>YB (zx ?_)) fun _ _ x=>x))
 ·rw[he]
  refine Calls.evalArgs_plain (GO h2 (fun us s2 h3=>?_) fun _ _ y=>y)
  obtain⟨vs,H2,I2,r,hl,q⟩:=h3
  exact⟨rfl,vs,H2,I2,r,hl,q⟩
 obtain⟨us,akw⟩:=a
 obtain⟨hkw,vs,H2,I2,r,hl,sq⟩:=h3
 obtain rfl:akw=[]:=hkw
 obtain⟨hp,g,d,tk,os⟩:=s2
 have hpl:(backTo cpos (starEach (e₀::rest) (envOfC qual scope s.heap.objs.size f cd))).any (·.1)=false:=by
  rw[he]
  show (false || (backTo cpos (starEach rest (envOfC qual scope s.heap.objs.size f cd))).any (·.1))=false
  rw[hplain]
  rfl
 simp only [hpl]
 have hC2:=I2.bk _ _ hC
 refine YB (wpAny_keeperOf_exc hC2 ?_)
 have fnI:(∃ oI,hp.get? fI=some oI/\oI.cls=.type "function"):=by
  have z:=qa.mp O.fn
  obtain⟨o,ho,hc⟩:=Option.map_eq_some_iff.mp z
  exact⟨o,I2.kIn _ _ ho,hc⟩
 obtain⟨oI,hfI,hfc⟩:=fnI
 have hl':us.length<=sizeLine:=by rw[← r.length];exact hl
 have sz:s.heap.objs.size<=hp.objs.size:=I2.sz
 have hq0:=sq (hp.objs.size+1) (I2.hok.fresh (ze _))
 have I3:Inv (cxOf (CXD P w) P w K mg base N qual scope f cd A outer s H E) pins σ (upd H2 (hp.objs.size+1) (excN (hp.objs.size+1) C none)) ⟨excHeap hp C us,g,d,tk,os⟩ :=
  I2.laid (t':=tk) (fun b u e=>Xb e) (ze _) (M4 P5)
 have r2:Vals (V.ref (hp.objs.size+1)::vs) (Value.ref (hp.objs.size+1)::us):=.cons rfl r
 have hlen:(Value.ref (hp.objs.size+1)::us++[]).length=ps.length:=by
  rw[qh,← r2.length]
  exact F.len _ _ _ _ hq0
 refine YB (Ci GS (T.keeps I2.bk) hC2 (hN.keeps I2.bk) hni hfI hfc hl' (Y0d ?_))
 refine zW (F.run _ _ _ _ ⟨Value.ref (hp.objs.size+1)::us,[]⟩ (Value.ref (hp.objs.size+1)::us) _ _ E0 (hr.make C us []).loose ((I3.env0 rfl).make C us []) (by have z:=hb ⟨excHeap hp C us,g,d,tk,os⟩ (Value.ref (hp.objs.size+1)::us) I3.kIn hlen;rw[qh] at z;exact z) r2 hq0) fun r' s' hq'=>?_
 cases r' with
 | error e=>exact False.elim hq'
 | ok fl =>
  cases fl with
  | ret u =>
   obtain⟨v,H',I4,rv,ev,dx,q3,q4⟩:=I3.after hq'
   subst ev
   obtain⟨t',ht'⟩:=Ri I4.hok q3
   refine⟨rv,YB (GB (wpAny_point (YR ⟨_,t',dx,rfl,I4.bk _ _ hC,ht',Pg I4 q3 (fun o z=>?_) q4⟩)))⟩
   exact absurd (YW (YJ z) sz) (jm.mpr (ze _))
  | next=>exact False.elim hq'
  | brk=>exact False.elim hq'
  | cont=>exact False.elim hq'
end
def HasD (P:Program)(w:World)(K:W.Frag)(mg:Str->Option Value)(base:Heap)(k:Nat)(x:Str)(ps:List Str)(sp:Sp):Prop :=
 ∃ (f:Addr) (fd:FuncData),FnOk P w K mg base (CXD P w) k f fd ps sp true/\mg x=some (.ref f)/\W.keepIn K (.ref f)=true/\Binds K fd ps []
theorem Def.hasD {P:Program}{w:World}{K:W.Frag}{mg:Str->Option Value}{base:Heap}{k:Nat}{x:Str}{st:Stmt}{ps N:List Str}{sp:Sp}(D:Def K mg x st ps)(S:FnScope N ps (defScope st))(len:∀ vs H Q E,sp vs H Q E->vs.length=ps.length)
  (hbody:∀ (f:Addr) (cdv:Value) (A:Around) (outer:List Env) (s:Shared) (H:Hp) (vs:List V) (Q:VK) (E:XK),Room k (A.deeper (envOfC x (defScope st) s.heap.objs.size f cdv)) true->sp vs H Q E →
   ∃ t,PSs (cxOf (CXD P w) P w K mg base N x (defScope st) f cdv A outer s H E) (defBody st) t/\t { nx:=fun _ H'=>Q .non H',rt:=Q } (start N vs) H):HasD P w K mg base (k+1) x ps sp:=by
 obtain⟨f,fd,F,hm,b⟩:=D
 refine⟨f,fd,?_,hm,F.kp,b⟩
 obtain⟨oc,od,kV,doc,pm,an,cdv,ct,osl,rfl,lk,hcd⟩:=F.ex
 exact Z4e lk hcd S len fun A outer s H vs Q E hr hsp=>hbody f cdv A outer s H vs Q E hr hsp
def LandsD (X:Cx)(EX:L2.St->XK):Prop:=∀ (pins:List (Addr × Obj)) (σ:L2.St) (H:Hp) (s:Shared) (e:Value) (s':Shared),Inv X pins σ H s->CXD X.prog X.w X.stack H s (EX σ) e s'->X.xe e s'
section
variable {X:Cx}{k:Nat}{x:Str}{ps:List Str}{sp:Sp}{e:Expr}{es:List Expr}{t:TA}{p pos:Pos}{EX:L2.St->XK}
theorem Nm (h:HasD X.prog X.w X.K X.mg X.base k x ps sp)(hr:Room k X.A true)(hg:Gl X x)(hx:LandsD X EX)(ha:PA X (e::es) t)(hdb:(x == ("__debug__":Str))=false:=by decide)
  (he:starEach (e::es) X.env=(false,eval e X.env)::starEach es X.env:=by rfl) (hpl:(backTo pos (starEach es X.env)).any (·.1)=false:=by rfl) (hc:X.calm=true:=by rfl):PE X (.Call (.Name x p) (e::es) [] pos) (tUseX sp EX t):=by
 obtain⟨f,fd,F,hm,hk,hb⟩:=h
 intro pins s σ H Q I h
 refine qb (Vn I hg hm ?_ hdb)
 refine W.callWith_K (h₀:=X.base) I.ok.mod.kin hk (thn (ha pos pins s σ H _ I h) fun us s1 ⟨vs,H1,I1,r,q⟩=>⟨I1.kIn,?_⟩) he hpl
 have hl:us.length=ps.length:=by rw[← r.length];exact F.len _ _ _ _ q
 have bd:=hb s1 us I1.kIn (by rw[qh];exact hl)
 rw[qh] at bd
 refine Y0d (zW (F.run X.A X.stack s1 H1 ⟨us,[]⟩ us vs Q (EX σ) hr (I1.env0 hc) bd r q) fun r' s' hq=>?_)
 cases r' with
 | error e=>exact hx pins σ H1 s1 e s' I1 hq
 | ok fl =>
  cases fl with
  | ret u=>exact I1.after hq
  | next=>exact False.elim hq
  | brk=>exact False.elim hq
  | cont=>exact False.elim hq
end
section
variable {P:Program}{w:World}{K:W.Frag}{mg:Str->Option Value}{base:Heap}{N:List Str}{qual:Str}{scope:Scope}{f:Addr}{cd:Value}{A:Around}{outer:List Env}{s:Shared}{H:Hp}{E:XK}
theorem Qq:LandsD (cxOf (CXD P w) P w K mg base N qual scope f cd A outer s H E) (fun _=>E):=by
 intro pins σ H1 s1 e s' I hx
 obtain⟨a,cls,dd,H',B,rfl,os,bare,fl,un,hok,hB,q⟩:=hx
 replace fl:FlyD B (envOfC qual scope s.heap.objs.size f cd::outer) a cls dd s'.heap:=fl
 have u:Un (frs outer) [] H H1 s.heap s1.heap:=I.base
 have hB2:∀ b o,s.heap.get? b=some o->b ∉ frs outer->(∃ o',B.get? b=some o')/\(H b=none->B.get? b=some o):=fun b o z hb=>by
  have nb:=Wx (qual:=qual) (scope:=scope) (f:=f) (cd:=cd) z hb
  obtain⟨o1,z1⟩:=u.there b o z (by intro z;cases z)
  refine⟨(hB b o1 z1 nb).1,fun n=>?_⟩
  exact (hB b o (u.keep b o z n hb (by intro z;cases z)) nb).2 (u.free b o z n (by intro z;cases z))
 refine J9 I.ok.frames (L:=s.heap.objs.size) rfl fl fun h2 fl2 up=>?_
 refine⟨a,cls,dd,H',B,rfl,os.trans I.os,bare,fl2,?_,hok,hB2,q⟩
 have nf:∀ b∈frs outer,∃ o,s'.heap.get? b=some o/\∀ vs,o.data≠.fields vs:=fun b hb=>by
  obtain⟨_,o,z,d⟩:=fl.2.2.1.mem (b:=b) (YV _ hb)
  exact⟨o,z,d⟩
 refine K9 (P:=P) (w:=w) ⟨fun b o z n hb hx=>?_,fun b o z n hb hx=>?_,fun b o z n hx=>?_,fun b o z hx=>?_,fun b xs z=>un.tups b xs (u.tups b xs z),fun b o v z=>un.frzs b o v (u.frzs b o v z),fun b ps z=>?_⟩ hB2 fl2.1 up nf
 ·exact un.keep b o (u.keep b o z n hb hx) (u.free b o z n hx) (Wx z hb) hx
 ·obtain⟨sl,z1⟩:=u.slot b o z n hb hx
  obtain⟨sl2,z2⟩:=un.slot b _ z1 (u.free b o z n hx) (YV _ hb) hx
  exact⟨sl2,z2⟩
 ·obtain⟨o1,z1⟩:=u.there b o z hx
  exact un.free b o1 z1 (u.free b o z n hx) hx
 ·obtain⟨o1,z1⟩:=u.there b o z hx
  exact un.there b o1 z1 hx
 ·obtain⟨m1,z1⟩:=u.tbls b ps z
  obtain⟨m2,z2⟩:=un.tbls b _ z1
  exact⟨m1++m2,by rw[z2,Y11]⟩
end
section
variable {X:Cx}{pins:List (Addr × Obj)}{σ:L2.St}{H:Hp}{s:Shared}{a:Addr}
theorem Z18 {B:Heap}{H':Hp}{s':Shared}{h2:Heap}{t':Nat}{cls:Value}{dd:Option Addr}(I:Inv X pins σ H s)(os:s'.os=s.os)(bare:AllBare s'.gens)(fl:FlyD B X.stack a cls dd h2)(up:s'.heap.UpToSlots h2)(fl0:FlyD B X.stack a cls dd s'.heap)
  (un:Un (frs X.stack) [] H H' s.heap s'.heap) (hok:HOk X.prog X.w H' B) (hB:∀ b o,s.heap.get? b=some o->b ∉ frs X.stack->(∃ o',B.get? b=some o')/\(H b=none->B.get? b=some o)) :
  Inv X pins σ H' { s' with heap:=h2,toks:=t' }:=by
 refine Inv.call' (s':={ s' with heap:=h2,toks:=t' }) (ch:=[]) I os ?_ (hok.kept fl.1) bare (fun b z=>nomatch z)
 exact K9 (P:=X.prog) (w:=X.w) un hB fl.1 up fun b hb=>by
  obtain⟨_,o,e,d⟩:=fl0.2.2.1.mem hb
  exact⟨o,e,d⟩
end
section
variable {X:Cx}{x n:Str}{i:Nat}{C D:Addr}{body:List Stmt}{b₀:Stmt}{suite:List Stmt}{np hp pos:Pos}{tb:(L2.St->XK)->TS}{ts:TS}
def tTryD (C:Addr)(tb:(L2.St->XK)->TS)(ts:TS):TS:=fun Ds σ H=>tb (fun σ' cls _ H'=>cls=.ref C/\ts Ds σ' H') Ds σ H
theorem Z2f (hst:X.stack=X.env::X.outer)(hfr:X.env.frame=some X.env.locals)(c:CatchBy X.K C D)(hm:X.mg x=some (.ref D))(hg:Gl X x)
  (hb:∀ (pn:List (Addr × Obj)) (E:Value->Shared->Prop) (EX:L2.St->XK),LandsD (tryCx X pn E) EX->PSs (tryCx X pn E) body (tb EX)) (hs:∀ (a:Addr) (pn:List (Addr × Obj)) (E:Value->Shared->Prop),PSs (sutCx X a pn E) (b₀::suite) ts)
  (hd:(x == ("__debug__":Str))=false:=by decide):PS X (.Try body [.ExceptHandler (some (.Name x np)) none (b₀::suite) hp] [] [] pos) (tTryD C tb ts):=by
 intro pins s0 σ0 H0 Ds I0 h
 refine wpAny_Try_except ?_
 refine thn (hb (X.pn++pins) (fun e s₁=>wpAny (model X.prog X.w) X.A (noteFrame e X.env) (fun _ s₂=>wpAny (model X.prog X.w) X.A (setFlight e none) (fun _ s₃=>wpAny (model X.prog X.w) X.A (handleBy e X.env [.ExceptHandler (some (.Name x np)) none (b₀::suite) hp]) (SP X pins Ds) X.xe s₃) X.xe s₂) X.xe s₁)
  (fun σ' cls _ H'=>cls=.ref C/\ts Ds σ' H') ?_ [] s0 σ0 H0 Ds (Z3p I0) h) fun fl s1 q=>?_
 ·intro pins' σ H s e s' I hx
  obtain⟨a,cls,dd,H',B,rfl,os,bare,fl,un,hok,hB,rfl,hts⟩:=hx
  have IX:Inv X pins σ H s:=V8 I0.ok I
  replace fl:FlyD B X.stack a (.ref C) dd s'.heap:=fl
  have st2:∀ h2 t',FlyD B X.stack a (.ref C) dd h2->s'.heap.UpToSlots h2->Inv X pins σ H' { s' with heap:=h2,toks:=t' }:=fun h2 t' f2 u2=>Z18 IX os bare f2 u2 fl un hok hB
  have frm:X.A.frames=some (X.env::X.outer):=by rw[← hst];exact I0.ok.frames
  have fl':FlyD B (X.env::X.outer) a (.ref C) dd s'.heap:=by rw[← hst];exact fl
  refine Px frm hfr fl' fun h4 held u4=>Gv held.1 held.2.1 held.2.2.1 held.2.2.2 fun h5 fl5 u5=>?_
  have u45:=u4.trans u5
  rw[← hst] at fl5
  have I5:=st2 h5 s'.toks fl5 u45
  obtain⟨ob,_,hob,hoc,_⟩:=fl5.2.2.2.obj
  refine wpAny_handleBy_cons (codeAny_handlers_test (Vn (X:=sutCx X a (X.pn++pins) X.xe) (F4 I5) hg hm ?_ hd)) (by intro z;cases z)
  obtain⟨hh,g1,d1,t1,o1⟩:=s'
  refine Lx I5.kIn c hob hoc (codeAny_handlers_suite ?_)
  refine Gv fl5.1 fl5.2.1 fl5.2.2.1 fl5.2.2.2 fun h6 fl6 u6=>?_
  have I6:=st2 h6 t1 fl6 (u45.trans u6)
  refine thn (hs a (X.pn++pins) _ [] _ σ H' Ds (F4 I6) hts) fun f2 s2 q2=>?_
  exact Ct I0.ok q2
 ·have q':=Cs I0.ok q
  cases fl with
  | next=>exact zL q'
  | brk=>exact q'
  | cont=>exact q'
  | ret u=>exact q'
end
theorem _root_.L2.Room.mark {k:Nat}{A:Around}{sr:Bool}{h:Option Value}(r:Room k A sr):Room k (A.mark h):=⟨(fun z=>nomatch z),r.dp,r.un⟩
section
variable {X:Cx}{pins pins' pn:List (Addr × Obj)}{σ:L2.St}{H:Hp}{s:Shared}{E:Value->Shared->Prop}{a C:Addr}{dd:Option Addr}
end
section
variable {X:Cx}{x n:Str}{i:Nat}{C D:Addr}{body:List Stmt}{b₀:Stmt}{suite:List Stmt}{np hp pos:Pos}{tb:(L2.St->XK)->TS}{ts:Addr->Option Addr->TS}
end
open PySem.W (Looks findIn specialIn takesIn mroIn clsIn)
open Builtin Builtin.ObjectAttr
section
variable {P:Program}{w:World}{A:Around}{E:Value->Shared->Prop}
theorem Cj {s:Shared}{e t:Addr}{C:Addr}{dd:Option Addr}{vs:List Value}{Q:Fin->Shared->Prop}(he:s.heap.get? e=some (newExcO C t dd))(hv:vs.length<=sizeLine)
  (h:Q (.done (.ret .none)) { s with heap:=(s.heap.push (newTupO vs)).update e (Obj.mapFields (·.setIfInBounds 0 (.ref s.heap.objs.size))) }):wpAny (model P w) A (Builtin.«BaseException.__init__» ⟨.ref e::vs,[]⟩) Q E s:=by
 unfold Builtin.«BaseException.__init__»
 dsimp only
 rw[YG (by simp)]
 unfold newTuple Builtin.BaseException.bexcPut
 have h1:=YA (h:=s.heap) (newTupO vs) he
 refine YB (JX (YB (YB (XJ h1 rfl rfl (YB (qe h1 rfl (by show 0<6;decide) ?_))))) (by size_fits))
 exact Y0P (YR h)
end
structure BaseI (K:W.Frag)(mg:Str->Option Value)(x:Str)(D:Addr):Prop where
 bd:mg x=some (.ref D)
 rd:W.readsIn K D (.type "type")=true
 ty:W.typeIn K (.ref D)=some (.type "type")
 fc:W.findCls K (.ref D) (.type "type") "__init__"=some (.val (.builtin "ValueError.__init__"))
def tBaseI (K:W.Frag)(mg:Str->Option Value)(t:TA):TE:=fun σ H Q=>t σ H fun vs H1=>∃ (e C fI:Addr) (dd:Option Addr) (xn:Str) (ws:List V),vs=.ref e::ws/\ws.length<=sizeLine/\H1 e=some (excN e C dd)/\ExcI K mg xn C fI/\Q .non H1
theorem Cm {H:Hp}{a:Addr}{o:HO}(h:H a=some o):upd H a o=H:=by
 funext b
 unfold upd
 split
 ·rename_i z;rw[z,h]
 ·rfl
section
variable {X:Cx}{x:Str}{D:Addr}{e:Expr}{es:List Expr}{t:TA}{np apos pos:Pos}
theorem Z04 {pl:Sem Bool}(B:BaseI X.K X.mg x D)(hg:Gl X x)(ha:PA X (e::es) t)(hd:(x == ("__debug__":Str))=false:=by decide)
  (hst:starEach (e::es) X.env=(false,eval e X.env)::starEach es X.env:=by rfl) (hpl:(backTo pos (starEach es X.env)).any (·.1)=false:=by rfl)
  (ht:eval (.Call (.Attribute (.Name x np) "__init__" apos) (e::es) [] pos) X.env=(do
   let ov ← eval (.Name x np) X.env
   standAt apos.atName
   let (f,first) ← holding [ov] (getMethod ov "__init__" pl)
   callWith pos f first (backTo pos (starEach (e::es) X.env)) (backToKw pos (keywordEach [] X.env))):=by rfl) :
  PE X (.Call (.Attribute (.Name x np) "__init__" apos) (e::es) [] pos) (tBaseI X.K X.mg t):=by
 intro pins s σ H Q I h
 refine W.methodCall_KW (pl:=pl) (Vn I hg B.bd ?_ hd) ht
 have L0:=W.looks_typeIn (M:=model X.prog X.w) I.kIn B.ty
 have hga:findIn X.K (.type "type") "__getattribute__"=some (some (.builtin "type.__getattribute__")):=W.type_tga
 unfold getMethod specialOf
 refine YB (YB (L0.at ((Y0b I.kIn hga).at ?_)))
 dsimp only
 rw[YM W.canon_tga]
 refine YB (GO (Q:=fun v s'=>v=.builtin "ValueError.__init__"/\s'={ s with toks:=s.toks+1 }) (E:=X.xe) (W.cls_value I.kIn B.rd B.fc rfl ⟨rfl,rfl⟩) (fun v s' ⟨z1,z2⟩=>YR ?_) fun _ _ z=>z)
 subst z1 z2
 refine jj (thn (ha pos pins _ σ H _ (I.tok _) h) fun us s1 ⟨vs,H1,I1,r,q⟩=>?_) hst hpl
 obtain⟨ea,C,fI,dd,xn,ws,rfl,hl,he,O,q⟩:=q
 cases r with
 | @cons _ u _ us' r1 r2 =>
  cases (show u=Value.ref ea from r1)
  obtain⟨t0,ht0⟩:=Ri I1.hok he
  obtain⟨tl,NN,nm,qn,bs,sn,sub,ab,col,dd',k0,k1,k2,k3,k5,mN,hC,hN,hni,T⟩:=O.own I1.kIn
  have hl':us'.length<=sizeLine:=by rw[← r2.length];exact hl
  have I1':=I1
  obtain⟨hp,g,d,tk,os⟩:=s1
  refine Y0d (codeAny_call_builtin GS.init.plain GS.initEntry (wpAny_check_init_subT GS T hC ht0 rfl (Cj ht0 hl' ?_)))
  have e1:((hp.push (newTupO us')).update ea (Obj.mapFields (·.setIfInBounds 0 (.ref hp.objs.size)))).get? ea=some (newExcO C hp.objs.size dd):=by
   rw[JJ _ (YA _ ht0) rfl]
   rfl
  have I2:=I1'.write (o:=excN ea C dd) (h':=(hp.push (newTupO us')).update ea (Obj.mapFields (·.setIfInBounds 0 (.ref hp.objs.size)))) (t':=tk) (x:=ea) (e:=ea) (by rw[he];trivial) (.inl rfl) (fun b u hb hu=>by
   rw[XT _ _ (XO hb)]
   exact YA _ hu) ⟨_,e1⟩ (M4 e1)
  rw[Cm he] at I2
  exact⟨.non,H1,I2,rfl,q⟩
end
structure StoI (K:W.Frag)(C:Addr)(f:Str):Prop where
 sa:findIn K (.ref C) "__setattr__"=some (some (.builtin "object.__setattr__"))
 na:findIn K (.ref C) f=some none
theorem L8 {h:Heap}{tl:List Value}{v:Value}(T:OwnTail h bmV tl):refuseLoop v "__setattr__" tl=pure ():=by
 induction T with
 | base=>exact JW.passes v
 | own _ _ _ _ ih=>rw[refuseLoop_ref];exact ih
section
variable {P:Program}{w:World}{A:Around}{E:Value->Shared->Prop}{h:Heap}{g:Array GenState}{d:Drawn}{t:Nat}{os:OsState}{K:W.Frag}{mg:Str->Option Value}{xn f:Str}{C fI x t0:Addr}{v:Value}
theorem Fv {tk:Tok}{Q:Fin->Shared->Prop}(X:K.In h)(O:ExcI K mg xn C fI)(S:StoI K C f)(hx:h.get? x=some (newExcO C t0 none))
  (hq:∀ h' tk',h'.get? x=some (newExcO C t0 (some h.objs.size))->h'.Ns1 h.objs.size (fun y=>if y=f then some v else none)->(∀ b o,b≠x->h.get? b=some o->h'.get? b=some o)->Q (.done (.ret .none)) ⟨h',g,d,tk',os⟩) :
  wpAny (model P w) A (Builtin.«object.__setattr__» ⟨[.ref x,.str f tk,v],[]⟩) Q E ⟨h,g,d,t,os⟩:=by
 obtain⟨tl,NN,nm,qn,bs,sn,sub,ab,col,dd',k0,k1,k2,k3,k5,mN,hC,hN,hni,T⟩:=O.own X
 have hpass:=L8 (v:=.ref x) T
 have L1:=Y0b (M:=model P w) X S.na
 have hx0:=hx
 generalize ho:newExcO C t0 none=o at hx
 have hc:o.cls=.ref C:=by rw[← ho]
 have hdn:o.dict=none:=by rw[← ho]
 have hnc:∀ c,o.data≠.cls c:=fun c z=>by rw[← ho] at z;cases z
 unfold Builtin.«object.__setattr__»
 repeat (first | rw[refuse_eq] | (rw[refuseLoop_ref,hpass]) | (with_reducible refine GR hx ?_;rw[hc]) | with_reducible refine wpAny_mroOf_exc hC ?_ | (refine YB (L1.at ?_)) | wp_step)
 rw[hdn,YG (by simp[typeHasDict])]
 split
 ·rename_i z
  cases z
 split
 ·rename_i c z
  exact absurd z (hnc c)
 subst ho
 have hx1:(h.push { cls:=.type "dict",data:=.dict #[] }).get? x=some (newExcO C t0 none):=YA _ hx
 have hxs:x≠h.objs.size:=XA (YJ hx)
 refine YB (wpAny_alloc' (YB (wpAny_update' hx1 (YR ?_))))
 have gd:((h.push { cls:=.type "dict",data:=.dict #[] }).update x fun o=>{ cls:=o.cls,dict:=some h.objs.size,data:=o.data,slots:=o.slots }).get? h.objs.size=some { cls:=.type "dict",data:=.dict #[] }:=(Heap.get?_update_ne _ _ _ _ hxs.symm).trans (Heap.get?_push_at rfl rfl)
 have nd:((h.push { cls:=.type "dict",data:=.dict #[] }).update x fun o=>{ cls:=o.cls,dict:=some h.objs.size,data:=o.data,slots:=o.slots }).Ns h.objs.size (fun _=>none):=⟨_,#[],_,gd,rfl,fun e he=>absurd he (by simp),fun _=>rfl⟩
 show wpAny _ _ (storeInDict h.objs.size (.str f tk) f v) _ _ _
 unfold storeInDict newKeyGuard
 refine YB (YR (YB (wpAny_nsSet1 (Heap.Ns1.of_empty nd) fun h' hn' hs=>?_)))
 obtain⟨oD,esD,epD,hoD,hdD,hcD⟩:=hn'.count (Within.cons f v Within.nil)
 refine YB (wpAny_lookBehind hoD (by rw[hdD];exact pastItsLine_dict (XU hcD (by rw[XZ,jy,Y0q];omega))) ?_)
 wp_walk
 refine hq h' _ ?_ hn' fun b ob hbx hb=>?_
 ·refine (hs.2 x hxs).trans ((JJ _ hx1 rfl).trans ?_)
  rfl
 ·exact (hs.2 b (XA (YJ hb))).trans ((Heap.get?_update_ne _ _ _ _ hbx).trans (YA _ hb))
theorem Cb {M:Model}{nv:Value}{Q:Unit->Shared->Prop}(X:K.In h)(O:ExcI K mg xn C fI)(hx:h.get? x=some (newExcO C t0 none))(hq:Q () ⟨h,g,d,t,os⟩) :
  wpAny M A (checkBuiltinCall "object.__setattr__" ⟨[.ref x,nv,v],[]⟩) Q E ⟨h,g,d,t,os⟩:=by
 obtain⟨tl,NN,nm,qn,bs,sn,sub,ab,col,dd',k0,k1,k2,k3,k5,mN,hC,hN,hni,T⟩:=O.own X
 have cO:(Value.ref C::tl).contains (.type "object")=true:=by rw[Y17,T.hasType (b:=true) (by decide +kernel),Bool.or_true]
 have ha:=JW.args (.ref x) nv v
 simp only [checkBuiltinCall,JW.kind,JW.split]
 refine YB ?_
 unfold isInstance
 repeat (first | (with_reducible refine GR hx ?_) | (with_reducible refine Y02 hC ?_;rw[cO]) | wp_step)
 exact hq
theorem Cr {Q:Unit->Shared->Prop}(X:K.In h)(O:ExcI K mg xn C fI)(S:StoI K C f)(hx:h.get? x=some (newExcO C t0 none))
  (hq:∀ h' tk',h'.get? x=some (newExcO C t0 (some h.objs.size))->h'.Ns1 h.objs.size (fun y=>if y=f then some v else none)->(∀ b o,b≠x->h.get? b=some o->h'.get? b=some o)->Q () ⟨h',g,d,tk',os⟩) :
  wpAny (model P w) A (setAttr (.ref x) f v) Q E ⟨h,g,d,t,os⟩:=by
 have L1:=Y0b (M:=model P w) X S.sa
 have f3:=JW.slot.bind (.ref x)
 unfold setAttr callSpecial? specialOf
 refine YB (wpAny_mkText ?_)
 refine YB (YB (YB ?_))
 repeat (any_goals (first | assumption | (with_reducible refine GR hx ?_) | (refine YB (L1.at ?_)) | (refine L1.at ?_) | wp_step))
 refine codeAny_call_builtin JW.slot.plain JW.entry (Cb X O hx (Fv X O S hx fun h' tk' a b c=>?_))
 repeat (any_goals (first | assumption | wp_step))
 exact hq h' tk' a b c
end
section
variable {X:Cx}{o value:Expr}{f:Str}{pos pos':Pos}{ta tv:TE}
def sFldX (K:W.Frag)(mg:Str->Option Value)(ta tv:TE)(f:Str):TS:=fun D σ H=>tv σ H fun y H1=>ta σ H1 fun x H2=>∃ (e C fI:Addr) (xn:Str),x=.ref e/\H2 e=some (excN e C none)/\ExcI K mg xn C fI/\StoI K C f ∧
 ∀ d,H2 d=none->d≠e->D.nx σ (upd (upd H2 e (excN e C (some d))) d (.xd [(f,y)]))
theorem Z2g (ha:PE X o ta)(hv:PE X value tv)(hs:swapsWith value (some (.Attribute o f pos')) pos.line X.env=pure false):PS X (.Assign [.Attribute o f pos'] value pos) (sFldX X.K X.mg ta tv f):=by
 intro pins s σ H D I h
 refine jf (thn (hv pins s σ H _ I h) fun u s1 ⟨y,H1,I1,ry,q⟩=>thn (ha pins s1 σ H1 _ I1 q) fun ov s2 ⟨x,H2,I2,rx,e,C,fI,xn,ex,ea,O,S,q2⟩=>?_) hs
 subst ex
 obtain rfl:ov=Value.ref e:=rx
 obtain⟨t0,ht0⟩:=Ri I2.hok ea
 obtain⟨hp,g,d,tk,os⟩:=s2
 refine Cr I2.kIn O S ht0 fun h' tk' a b c=>?_
 have hne:hp.objs.size≠e:=qo (YJ ht0)
 have I3:=I2.write (o:=excN e C (some hp.objs.size)) (h':=h') (t':=tk') (x:=e) (e:=e) (by rw[ea];trivial) (.inl rfl) (fun b' u hb hu=>c b' u hb hu) ⟨_,a⟩ (M4 a)
 have fr:H2 hp.objs.size=none:=I2.hok.fresh (YE _)
 have fr':upd H2 e (excN e C (some hp.objs.size)) hp.objs.size=none:=by rw[Zf hne];exact fr
 have nw:ObjOk X.prog X.w (upd (upd H2 e (excN e C (some hp.objs.size))) hp.objs.size (.xd [(f,y)])) h' hp.objs.size (.xd [(f,y)]):=by
  refine⟨_,b,fun z=>?_⟩
  by_cases hz:z=f
  ·subst hz
   rw[YM rfl]
   show RelO (List.lookup z [(z,y)]) (some u)
   rw[show List.lookup z [(z,y)]=some y from by simp[List.lookup]]
   exact ry
  ·rw[YG hz]
   show RelO (List.lookup z [(f,y)]) none
   rw[show List.lookup z [(f,y)]=none from by simp[List.lookup,JF.mpr hz]]
   trivial
 have I4:Inv X pins σ (upd (upd H2 e (excN e C (some hp.objs.size))) hp.objs.size (.xd [(f,y)])) ⟨h',g,d,tk',os⟩:=by
  refine C0 I3 fr' nw (fun ob z=>?_) (fun z=>?_) (fun y' cc z z'=>?_) (fun p hp' z=>?_)
  ·exact absurd (YW (YJ z) I2.sz) (XQ _)
  ·obtain⟨m,⟨o',_,_,ho',_⟩,_⟩:=I2.loc
   rw[← z] at ho'
   exact absurd (YJ ho') (XQ _)
  ·obtain⟨v',o',ho',_⟩:=I2.cell y' cc z
   rw[z'] at ho'
   exact absurd (YJ ho') (XQ _)
  ·have e':=(I2.pin p hp').1
   rw[z] at e'
   exact absurd (YJ e') (XQ _)
 exact⟨σ,_,I4,q2 _ fr hne⟩
end
end Sb
namespace Sb
open PySem PySem.Spec PyProof.Rows L2
open PySem.W (Looks findIn specialIn takesIn mroIn clsIn)
open Builtin Builtin.ObjectAttr
section
variable {K:W.Frag}{C x dx:Addr}{P:Program}{w:World}{A:Around}{E:Value->Shared->Prop}{h:Heap}{g:Array GenState}{d:Drawn}{t:Nat}{os:OsState}{f:Str}{v:Value}{mA:Str->Option Value}{ox:Obj}
end
section
variable {X:Cx}{e:Expr}{f:Str}{pos:Pos}{ta:TE}
end
end Sb
namespace Sb
open PySem PySem.Spec PyProof.Rows L2
def ErrHere (K:W.Frag)(mg:Str->Option Value)(x q:Str)(st:Stmt):Prop:=∃ (C f:Addr) (fd:FuncData),ExcI K mg x C f/\Fun K "__init__" q st f fd/\Binds K fd ["self","multiples"] []/\StoI K C "multiples"/\ExcRead K C
theorem Z5u {K:W.Frag}{h:Heap}{mg:Str->Option Value}{x q:Str}{st:Stmt}{C f:Addr}{oc:Value}{od an:Option Addr}{sl:Array (Option Value)}{kV dc pm cd ct:Value}(X:K.In h)(G:h.Ns mainGlobals mg)(aC:W.nsIn K mainGlobals x=some (some (.ref C)))
  (a1:W.findIn K (.ref C) "__init__"=some (some (.ref f))) (i1:W.isFn K (.ref f)=true) (l1:K.lookup f=some ⟨oc,od,.func (W.fnOf "__init__" q (defArgs st) (defBody st) (defScope st) .none kV dc pm an cd ct),sl⟩) (c1:W.codeIn K cd q=true) (k1:W.keepIn K (.ref f)=true)
  (sa:W.findIn K (.ref C) "__setattr__"=some (some (.builtin "object.__setattr__"))) (na:W.findIn K (.ref C) "multiples"=some none)
  (ga:W.findIn K (.ref C) "__getattribute__"=some (some (.builtin "BaseException.__getattribute__"))) (gh:W.findIn K (.ref C) "__getattr__"=some none) (cl:W.findIn K (.ref C) "__class__"=some (some (.builtin "object.__class__"))) (gt:W.specialIn K (.builtin "object.__class__") "__get__"=some (some (.builtin "getset_descriptor.__get__")))
  (tk:W.takesIn K (.builtin "object.__class__")=some true) (mo:W.mroIn K C (.type "object")=some true) (be:W.subIn K (.ref C) (.type "BaseException")=some true)
  (ok:excInI K C f=true) (bd:∀ (us:List Value),us.length=2->bindArgs (W.fnOf "__init__" q (defArgs st) (defBody st) (defScope st) .none kV dc pm an cd ct) ⟨us,[]⟩=pure ((["self","multiples"]:List Str).zip us)):ErrHere K mg x q st :=
 ⟨C,f,_,⟨ok,i1,Y0s X G aC⟩,Sd l1 c1 k1,Binds.all bd,⟨sa,na⟩,⟨ga,gh,cl,gt,tk,mo,be⟩⟩
def BaseHere (K:W.Frag)(mg:Str->Option Value)(x:Str):Prop:=∃ D,BaseI K mg x D
theorem Z3x {K:W.Frag}{h:Heap}{mg:Str->Option Value}{x:Str}{D:Addr}(X:K.In h)(G:h.Ns mainGlobals mg)(a:W.nsIn K mainGlobals x=some (some (.ref D)))(r:W.readsIn K D (.type "type")=true)(t:W.typeIn K (.ref D)=some (.type "type"))
  (f:W.findCls K (.ref D) (.type "type") "__init__"=some (.val (.builtin "ValueError.__init__"))):BaseHere K mg x:=⟨D,Y0s X G a,r,t,f⟩
theorem Z0z {mg:Str->Option Value}{x:Str}{a b:Addr}(h1:mg x=some (.ref a))(h2:mg x=some (.ref b)):a=b:=by
 rw[h1] at h2
 injection h2 with h
 injection h
def CatchHere (K:W.Frag)(mg:Str->Option Value)(x y:Str):Prop:=∃ (C D:Addr),CatchBy K C D/\mg x=some (.ref C)/\mg y=some (.ref D)
theorem Z1z {K:W.Frag}{h:Heap}{mg:Str->Option Value}{x y:Str}{C D:Addr}(X:K.In h)(G:h.Ns mainGlobals mg)(a:W.nsIn K mainGlobals x=some (some (.ref C)))(b:W.nsIn K mainGlobals y=some (some (.ref D)))
  (n:W.instIn K (.ref D) (.type "tuple")=some false) (be:W.subIn K (.ref D) (.type "BaseException")=some true) (i:W.kitOne K (.type "int") (.ref D)=some false) (k:W.subIn K (.ref C) (.ref D)=some true):CatchHere K mg x y :=
 ⟨C,D,⟨n,be,i,k⟩,Y0s X G a,Y0s X G b⟩
def fH (K:W.Frag)(C:Addr):Sp:=fun vs H Q _=>∃ (e l:Addr) (xs:List V),vs=[.ref e,.ref l]/\H e=some (excN e C none)/\SqL K H l xs ∧
 ∀ (d l':Addr) (H':Hp),H l'=none->H d=none->H' e=some (excN e C (some d))->H' d=some (.xd [("multiples",.ref l')])->H' l'=some (.lst xs)->(∀ b o,H b=some o->b≠e->H' b=some o)->Q .non H'
theorem Z1l {H:Hp}{e l' d C:Addr}{xs:List V}{Q:VK}(he:H e=some (excN e C none))(hl':H l'=none)(hd:upd H l' (.lst xs) d=none)(hde:d≠e)
  (k:∀ (d l':Addr) (H':Hp),H l'=none->H d=none->H' e=some (excN e C (some d))->H' d=some (.xd [("multiples",.ref l')])->H' l'=some (.lst xs)->(∀ b o,H b=some o->b≠e->H' b=some o)->Q .non H') :
  Q .non (upd (upd (upd H l' (.lst xs)) e (excN e C (some d))) d (.xd [("multiples",.ref l')])):=by
 have ne:l'≠e:=fun z=>by rw[z,he] at hl';cases hl'
 have nd:d≠l':=fun z=>by rw[z,Zc] at hd;cases hd
 rw[Zf nd] at hd
 refine k d l' _ hl' hd ?_ Zc ?_ fun b o hb hne=>?_
 ·rw[Zf (XO hde),Zc]
 ·rw[Zf (XO nd),Zf ne,Zc]
 ·rw[Zf (fun z=>by rw[z,hd] at hb;cases hb),Zf hne,Zf (fun z=>by rw[z,hl'] at hb;cases hb)]
  exact hb
section
variable {X:Cx}{K:W.Frag}
end
theorem Pi {X:Cx}{K:W.Frag}(hK:X.K=K:=by rfl):CallR X (.type "list") (fun xs H Q=>∃ p ys,xs=[.ref p]/\(SqL K H p ys \/ SqT K H p ys)/\∀ l,H l=none->Q (.ref l) (upd H l (.lst ys))):=hK ▸ Xp
open PySem.W (Looks findIn specialIn takesIn mroIn clsIn)
section
variable {X:Cx}{e:Expr}{f:Str}{pos:Pos}{ta:TE}
end
section
variable {X:Cx}{K:W.Frag}
end
end Sb
namespace Sb
open PySem L2
def top (i:Nat):Stmt:=PySem.Challenge.pw_surebook_k29_left_weights.main.body.getD i (.Pass ⟨0,0,0,0⟩)
abbrev kD:Stmt:=top 8
abbrev j7:Stmt:=top 9
abbrev lD:Stmt:=top 10
abbrev lB:Stmt:=top 11
abbrev mE:Stmt:=top 12
abbrev lY:Stmt:=top 13
abbrev lQ:Stmt:=top 14
abbrev kZ:Stmt:=top 15
abbrev kB:Stmt:=top 16
abbrev kX:Stmt:=top 17
abbrev kC:Stmt:=top 19
abbrev lA:Stmt:=top 20
abbrev lP:Stmt:=top 21
abbrev mF:Stmt:=top 22
abbrev mI:Stmt:=top 23
abbrev mS:Stmt:=top 24
abbrev k4:Stmt:=top 25
abbrev mK:Stmt:=top 31
abbrev kW:Stmt:=top 32
abbrev lV:Stmt:=top 33
abbrev l8:Stmt:=top 34
abbrev k9:Stmt:=top 35
abbrev lN:Stmt:=top 36
abbrev kF:Stmt:=top 39
abbrev lE:Stmt:=top 40
abbrev mC:Stmt:=top 41
abbrev kO:Stmt:=top 42
abbrev k8:Stmt:=top 43
abbrev kH:Stmt:=top 44
abbrev kS:Stmt:=top 45
abbrev kK:Stmt:=top 46
abbrev l9:Stmt:=top 47
abbrev kI:Stmt:=top 48
abbrev lM:Stmt:=top 49
abbrev kG:Stmt:=top 51
abbrev lS:Stmt:=top 52
abbrev j6:Stmt:=top 53
abbrev lT:Stmt:=top 54
abbrev lJ:Stmt:=top 57
abbrev j8:Stmt:=top 58
abbrev kA:Stmt:=top 60
abbrev k6:Stmt:=top 61
abbrev lK:Stmt:=top 62
abbrev kJ:Stmt:=top 63
abbrev mG:Stmt:=top 64
abbrev mM:Stmt:=top 66
abbrev lO:Stmt:=top 67
abbrev mT:Stmt:=top 68
abbrev mD:Stmt:=top 69
abbrev mQ:Stmt:=top 70
abbrev lZ:Stmt:=top 71
abbrev lH:Stmt:=top 72
abbrev lG:Stmt:=top 73
abbrev k7:Stmt:=top 74
abbrev l6:Stmt:=top 75
abbrev lC:Stmt:=top 77
abbrev l5:Stmt:=top 78
abbrev mH:Stmt:=top 79
abbrev lI:Stmt:=top 80
abbrev mL:Stmt:=top 83
abbrev lU:Stmt:=top 84
abbrev mO:Stmt:=top 85
abbrev kY:Stmt:=top 86
abbrev mB:Stmt:=top 87
abbrev mP:Stmt:=top 88
abbrev lX:Stmt:=top 89
abbrev kU:Stmt:=top 90
abbrev kR:Stmt:=top 91
abbrev kP:Stmt:=top 92
abbrev mJ:Stmt:=top 93
abbrev mR:Stmt:=top 94
abbrev j9:Stmt:=inClass (top 4) 0
abbrev j5:Stmt:=inClass (top 38) 0
structure Blt (mg:Str->Option Value):Prop where
 len:mg "len"=none
 abs:mg "abs"=none
 isinstance:mg "isinstance"=none
 int:mg "int"=none
 bool:mg "bool"=none
 tuple:mg "tuple"=none
 range:mg "range"=none
 zip:mg "zip"=none
 enumerate:mg "enumerate"=none
 any:mg "any"=none
 sum:mg "sum"=none
 list:mg "list"=none
 min:mg "min"=none
theorem Fi {ns:List Int}{k:Int}(h0:0<=k)(h1:k<((ns.map V.int).length:Int)):∃ z,atI (ns.map V.int) k=some (.int z):=by
 obtain⟨j,rfl⟩:=Int.eq_ofNat_of_zero_le h0
 rw[YC] at h1
 have hj:j<ns.length:=by omega
 exact⟨ns[j],Zh (by simp[hj])⟩
theorem Jb {n:Nat}{k:Int}(h0:0<=k)(h1:k<(n:Int)):ixN n k=some k.toNat:=by
 unfold ixN
 rw[YM h0,YM h1]
theorem Uj {j:Int}(h:(0:Int)<j):(0:Int)<j:=h
theorem Z3v {j:Int}(h0:0<=j)(h1:j<=1000):CPow 10 j:=⟨h0,by omega,by decide⟩
theorem Ua (t:Int):-(2 ^ 64)<t % 65537/\t % 65537<2 ^ 64:=by omega
section
variable {P:Program}{w:World}{K:W.Frag}{mg:Str->Option Value}{base:Heap}
def gT (K:W.Frag):Sp:=fun vs H Q _=>∃ (a:Addr) (k:Int) (ns:List Int),vs=[.ref a,.int k]/\SqL K H a (ns.map V.int)/\0<=k/\k<=100000/\∀ z:Int,Q (.int z) H
theorem Bi:FnScope ["_law_script","_law_k","_law_seed","_law_some"] ["_law_script","_law_k"] (defScope mM):=fsc
theorem Z5e (D:Def K mg "_law_cell" mM ["_law_script","_law_k"])(T:Blt mg):Has P w K mg base 1 "_law_cell" ["_law_script","_law_k"] (gT K):=by
 refine D.has fun f fd F=>F.ok Bi (fun vs H Q E h=>?_) (fun cdv A outer s H vs Q E hr h=>?_)
 ·obtain⟨a,k,ns,rfl,_⟩:=h
  rfl
 ·obtain⟨a,k,ns,rfl,hS,hk,hk2,q⟩:=h
  have sc:=Bi
  refine⟨_,(Zb (Yc (Zn Qe (pv 1) (Zx Y6 rfl T.len zf (Z0 (pv 0) Z9)) (Zq _))
    (Zd (Zi (Zj Y2 (pv 0) (pv 1) (fun _ _=>rfl))))
    Zv)
   (Zb (Zk (i:=2) sc.nd rfl (Or.inl rfl) (Zl Zw (pv 1) Za))
   (Zb (Yc (Zn Qg (Zx Y6 rfl T.len zf (Z0 (pv 0) Z9)) Za (Zq _))
    (Zd (Zk (i:=2) sc.nd rfl (Or.inl rfl) (Zl Yz (pv 2) (Zl W3 (Zj Y2 (pv 0) (Zl W3 (pv 1) (Zx Y6 rfl T.len zf (Z0 (pv 0) Z9))) (fun _ _=>rfl)) Za))))
    Zv)
   (Zb (Zk (i:=3) sc.nd rfl (Or.inl rfl) (Zl W3 (Zl Zw (pv 2) Za) Za))
   (Zd (Zi (Zl W3 (Zl W9 (Zl Zw (pv 3) (Zl Yz (Zl Yz (pv 3) (Zl Zw Za (pv 1))) Za)) Za) Za))))))),?_⟩
  refine⟨_,rfl,_,rfl,a,_,rfl,.inl hS,_,_,rfl,rfl,_,rfl,?_⟩
  refine Xa (fun h=>?_) (fun h=>?_)
  ·have h':=XE h
   obtain⟨z,hz⟩:=Fi hk h'
   exact⟨_,rfl,_,rfl,a,_,_,_,rfl,rfl,hS,hz,q z⟩
  ·refine⟨_,rfl,_,_,rfl,rfl,Dn (by decide) (by decide),?_⟩
   refine⟨_,rfl,a,_,rfl,.inl hS,_,_,rfl,rfl,_,rfl,?_⟩
   refine Xa (fun h2=>?_) (fun h2=>?_)
   ·have h3:=XE h2
    obtain⟨z,hz⟩:=Fi (ns:=ns) (k:=k % ((ns.map V.int).length:Int)) (zw _ (by omega)) (zq _ h3)
    refine⟨_,rfl,_,rfl,_,rfl,_,rfl,a,_,rfl,.inl hS,_,_,rfl,rfl,h3,a,_,_,_,rfl,rfl,hS,hz,_,_,rfl,rfl,Uj (by decide),_,_,rfl,rfl,?_⟩
    refine⟨_,rfl,_,_,rfl,rfl,Dn (by decide) (by decide),_,_,rfl,rfl,Uj (by decide),?_⟩
    exact⟨_,rfl,_,rfl,_,rfl,_,_,rfl,rfl,Do (by decide) (by decide),_,_,rfl,rfl,_,_,rfl,rfl,_,_,rfl,rfl,Do (Ua _).1 (Ua _).2,_,_,rfl,rfl,⟨by decide,by decide +kernel⟩,_,_,rfl,rfl,Uj (by decide),q _⟩
   ·refine⟨_,rfl,_,_,rfl,rfl,Dn (by decide) (by decide),_,_,rfl,rfl,Uj (by decide),?_⟩
    exact⟨_,rfl,_,rfl,_,rfl,_,_,rfl,rfl,Do (by decide) (by decide),_,_,rfl,rfl,_,_,rfl,rfl,_,_,rfl,rfl,Do (Ua _).1 (Ua _).2,_,_,rfl,rfl,⟨by decide,by decide +kernel⟩,_,_,rfl,rfl,Uj (by decide),q _⟩
def j0:Sp:=fun vs H Q _=>∃ (p q:Int),vs=[.int p,.int q]/\0<q/\q.natAbs.log2<9000/\∀ a H',H a=none->Same H H'->H' a=some (.tup [.int (nT p q),.int (nB p q)])->Q (.ref a) H'
theorem Nd {p q:Int}(h:q≠0)(k:q.natAbs.log2<9000):(sg p q).natAbs.log2<9000:=by
 have h1:=Z61 (p:=p) h
 have h0:=Pl (p:=p) h
 have h2:(sg p q).natAbs≠0:=by omega
 have h3:q.natAbs≠0:=by omega
 exact (Y0R h2).mpr (GA h1 ((Y0R h3).mp k))
def muLow (σ:St)(_:Hp):Nat:=match σ with
 | [_,_,_,some (.int y),_]=>y.toNat
 | _=>0
theorem Z42:FnScope ["_law_top","_law_bottom","_law_one","_law_other","_law_rest"] ["_law_top","_law_bottom"] (defScope mQ):=fsc
abbrev Z1 (P:Program)(w:World)(K:W.Frag)(mg:Str->Option Value)(base:Heap):Prop:=Has P w K mg base 2 "_law_low" ["_law_top","_law_bottom"] j0
theorem Z67 (D:Def K mg "_law_low" mQ ["_law_top","_law_bottom"])(T:Blt mg):Z1 P w K mg base:=by
 refine D.has fun f fd F=>F.ok Z42 (fun vs H Q E h=>?_) (fun cdv A outer s H vs Q E hr h=>?_)
 ·obtain⟨a,b,rfl,_⟩:=h
  rfl
 ·obtain⟨p,q,rfl,hq,hlog,k⟩:=h
  have sc:=Z42
  refine⟨_,(Zb (Zk (i:=2) sc.nd rfl (Or.inl rfl) (Zx K8 rfl T.abs Y0O (Z0 (pv 0) Z9)))
   (Zb (Zk (i:=3) sc.nd rfl (Or.inl rfl) (pv 1))
   (Zb (Qa JC (Zn Qg (pv 3) Za (Zq _))
    (Zb (Zk (i:=4) sc.nd rfl (Or.inl rfl) (Zl W3 (pv 2) (pv 3)))
    (Zb (Zk (i:=2) sc.nd rfl (Or.inl rfl) (pv 3))
    (Zd (Zk (i:=3) sc.nd rfl (Or.inl rfl) (pv 4))))))
   (Zd (Zi (Yk (Z0 (Zl W9 (pv 0) (pv 2)) (Z0 (Zl W9 (pv 1) (pv 2)) Z9)))))))),?_⟩
  refine⟨_,rfl,_,rfl,_,rfl,?_⟩
  have hq':q≠0:=by omega
  have eg:Int.gcd (if p<0 then -p else p) q=Int.gcd p q:=by split <;> simp
  refine Mf (fun σ H'=>H'=H/\∃ (x y:Int) (r:Option V),σ=[some (.int p),some (.int q),some (.int x),some (.int y),r]/\0<=x/\0<=y/\Int.gcd x y=Int.gcd p q) muLow ⟨rfl,_,q,none,rfl,(by split <;> omega),by omega,eg⟩ ?_
   (fun σ H Q Q' f ⟨v,e,i,j,e1,e2,k,e3,z⟩=>⟨v,e,i,j,e1,e2,k,e3,f _ _ z⟩)
  rintro σ H' ⟨rfl,x,y,r,rfl,hx,hy,hg⟩
  refine⟨_,rfl,_,_,rfl,rfl,_,rfl,?_⟩
  refine Xa (fun h=>?_) (fun h=>?_)
  ·have h':0<y:=XE h
   refine⟨_,rfl,_,rfl,_,_,rfl,rfl,h',?_⟩
   refine⟨_,rfl,_,rfl,⟨rfl,y,x % y,_,rfl,hy,zw _ (by omega),gcd_step.trans hg⟩,?_⟩
   show (x % y).toNat<y.toNat
   have:=zq x h'
   have:=zw x (show y≠0 by omega)
   omega
  ·have h':¬ 0<y:=fun z=>h (XF z)
   have e:=Z5q x y hx (by omega)
   rw[hg] at e
   have es:x=sg p q:=by
    unfold sg gI
    rw[YG (by omega),← e]
   subst es
   refine⟨_,rfl,_,rfl,_,_,rfl,rfl,⟨Pl hq',Nd hq' hlog⟩,_,rfl,_,rfl,_,_,rfl,rfl,⟨Pl hq',Nd hq' hlog⟩,sz2,fun a ha=>?_⟩
   exact k a _ ha (Same.new ha) Zc
def gU (K:W.Frag):Sp:=fun vs H Q _=>∃ (a:Addr) (at_:Nat) (ns:List Int),vs=[.ref a,.int (at_:Int)]/\SqL K H a (ns.map V.int)/\at_<=100/\∀ b H',H b=none->Same H H'->BagAt H' b 101->Q (.ref b) H'
theorem Bj:FnScope ["_law_script","_law_at","_law_cell_here"] ["_law_script","_law_at"] (defScope mT):=fsc
theorem Z5f (D:Def K mg "_law_bag" mT ["_law_script","_law_at"])(fS:Has P w K mg base 1 "_law_cell" ["_law_script","_law_k"] (gT K)):Has P w K mg base 2 "_law_bag" ["_law_script","_law_at"] (gU K):=by
 refine D.has fun f fd F=>F.ok Bj (fun vs H Q E h=>?_) (fun cdv A outer s H vs Q E hr h=>?_)
 ·obtain⟨a,at_,ns,rfl,_⟩:=h
  rfl
 ·obtain⟨a,at_,ns,rfl,hS,hat,k⟩:=h
  have sc:=Bj
  refine⟨_,(Zb (Zk (i:=2) sc.nd rfl (Or.inl rfl) (Zg fS hr (Z0 (pv 0) (Z0 (pv 1) Z9))))
   (Zb (Yc (PW.pt (Vy (Zn Z64 (pv 2) (Zl No Za Za) (Zq _)) (Vx (Zn Z07 (pv 2) (Vq Xz (Zl No Za Za)) (Zq _)))))
    (Zd (Zi (W0 (Z0 (pv 2) (Z0 Za Z9)))))
    Zv)
   (Zd (Zi (W0 (Z0 (Zl W3 (pv 2) Za) (Z0 (Zl Yz (pv 1) Za) Z9))))))),?_⟩
  refine⟨_,rfl,_,rfl,a,_,ns,rfl,hS,by omega,by omega,fun z=>?_⟩
  have fin:∀ (x y:Int),0<=y->y<=101->∀ d,H d=none->Q (.ref d) (upd H d (.lst [.int x,.int y])):=fun x y y0 y1 d hd=>k d _ hd (Same.new hd) ⟨x,y,Zc,y0,by omega⟩
  refine⟨_,rfl,_,_,rfl,rfl,Z3v (by decide) (by decide),_,_,rfl,rfl,_,rfl,?_⟩
  refine Xa (fun h1=>?_) (fun h1=>?_)
  ·exact⟨_,rfl,sz2,fun d hd=>fin _ _ (by decide) (by decide) d hd⟩
  refine⟨_,rfl,_,_,rfl,rfl,Z3v (by decide) (by decide),_,rfl,_,_,rfl,rfl,_,rfl,?_⟩
  refine Xa (fun h2=>?_) (fun h2=>?_)
  ·exact⟨_,rfl,sz2,fun d hd=>fin _ _ (by decide) (by decide) d hd⟩
  ·exact⟨_,rfl,_,_,rfl,rfl,Uj (by decide),_,rfl,_,_,rfl,rfl,sz2,fun d hd=>fin _ _ (by omega) (by omega) d hd⟩
def jP:Sp:=fun vs H Q _=>∃ (b:Addr) (m:Int) (n:Nat),vs=[.ref b,.int m]/\BagAt H b n/\n<=1000000000/\0<m/\m.natAbs.log2<9000 ∧
 ∀ (r:Int) (H':Hp),0<=r->r<m->BagAt H' b (n+1)->SameX b H H'->Q (.int r) H'
theorem Cw:FnScope ["_law_bag_here","_law_many","_law_some"] ["_law_bag_here","_law_many"] (defScope mD):=fsc
abbrev Z3 (P:Program)(w:World)(K:W.Frag)(mg:Str->Option Value)(base:Heap):Prop:=Has P w K mg base 1 "_law_take" ["_law_bag_here","_law_many"] jP
theorem Z53 (D:Def K mg "_law_take" mD ["_law_bag_here","_law_many"]):Z3 P w K mg base:=by
 refine D.has fun f fd F=>F.ok Cw (fun vs H Q E h=>?_) (fun cdv A outer s H vs Q E hr h=>?_)
 ·obtain⟨b,m,n,rfl,_⟩:=h
  rfl
 ·obtain⟨b,m,n,rfl,⟨x,y,e,hy,hyn⟩,hn,hm,hlog,q⟩:=h
  have sc:=Cw
  have hL:SqL K H b [.int x,.int y]:=SqL.of e
  refine⟨_,(Zb (Yc (Zn Xo (Zj Gx (pv 0) Za (fun _ _=>rfl)) Za (Zq _))
    (Zb (Zk (i:=2) sc.nd rfl (Or.inl rfl) (Zl W3 (Zj Gy (pv 0) Za (fun _ _=>rfl)) (pv 1)))
    (Zb (Uo (Zl W9 (Zj Gy (pv 0) Za (fun _ _=>rfl)) (pv 1)) (Tt (pv 0) Za V1))
    (Zd (Zi (pv 2)))))
    Zv)
   (Zb (Uo (Zl W3 (Zl Yz (Zl Yz (Zl Zw (Zj Gy (pv 0) Za (fun _ _=>rfl)) Za) (Zl Zw (Zl Zw Za (Zj Gx (pv 0) Za (fun _ _=>rfl))) (Zj Gx (pv 0) Za (fun _ _=>rfl)))) Za) Za) (Tt (pv 0) Za V1))
   (Zb (Uo (Zl Yz (Zj Gx (pv 0) Za (fun _ _=>rfl)) Za) (Tt (pv 0) Za V1))
   (Zd (Zi (Zl W3 (Zl W3 (Zl Zw (Zj Gy (pv 0) Za (fun _ _=>rfl)) Za) Za) (pv 1))))))),?_⟩
  refine⟨_,rfl,b,_,_,rfl,rfl,hL,rfl,_,rfl,?_⟩
  refine Xa (fun h=>?_) (fun h=>?_)
  ·refine⟨_,rfl,b,_,_,rfl,rfl,hL,_,rfl,_,_,rfl,rfl,hm,?_⟩
   refine⟨_,rfl,b,_,_,rfl,rfl,hL,_,rfl,_,_,rfl,rfl,⟨by omega,hlog⟩,_,rfl,b,_,_,0,rfl,rfl,e,rfl,?_⟩
   refine⟨_,rfl,?_⟩
   exact q _ _ (zw _ (by omega)) (zq _ hm) ⟨_,y,Zc,hy,by omega⟩ (SameX.upd b H _)
  ·refine⟨_,rfl,b,_,_,rfl,rfl,hL,_,_,rfl,rfl,Dn (by decide) (by decide),_,rfl,b,_,_,rfl,rfl,hL,_,_,rfl,rfl,Do (by decide) (by decide),_,rfl,b,_,_,rfl,rfl,hL,_,_,rfl,rfl,Dn (by omega) (by omega),_,_,rfl,rfl,_,_,rfl,rfl,_,_,rfl,rfl,Uj (by decide),_,rfl,b,_,_,0,rfl,rfl,e,rfl,?_⟩
   refine⟨_,rfl,b,_,_,rfl,rfl,SqL.of Zc,_,_,rfl,rfl,_,rfl,b,_,_,1,rfl,rfl,Zc,rfl,?_⟩
   refine⟨_,rfl,b,_,_,rfl,rfl,SqL.of Zc,_,_,rfl,rfl,Dn (by decide) (by decide),_,_,rfl,rfl,Uj (by decide),_,rfl,_,_,rfl,rfl,hm,?_⟩
   exact q _ _ (zw _ (by omega)) (zq _ hm) ⟨_,y+1,Zc,by omega,by omega⟩ ((SameX.upd b H _).trans (SameX.upd b _ _))
def iX:Sp:=fun vs H Q _=>∃ (a b:Int),vs=[.int a,.int b]/\Q (.int (Int.gcd a b:Nat)) H
theorem Z44:FnScope ["one","other","rest"] ["one","other"] (defScope j7):=fsc
def muGcd (σ:St)(_:Hp):Nat:=match σ with
 | [_,some (.int y),_]=>y.natAbs
 | _=>0
theorem Z3h {y:Int}(h:(!decide (V.int y=V.int 0))=true):y≠0:=by
 intro z
 subst z
 simp at h
theorem Z3s {y:Int}(h:¬ (!decide (V.int y=V.int 0))=true):y=0:=by
 apply YU
 intro z
 apply h
 have:¬ V.int y=V.int 0:=fun q=>z (V.int.inj q)
 simp[this]
theorem Z69 (D:Def K mg "common_divisor" j7 ["one","other"])(T:Blt mg):Has P w K mg base 1 "common_divisor" ["one","other"] iX:=by
 refine D.has fun f fd F=>F.ok Z44 (fun vs H Q E h=>?_) (fun cdv A outer s H vs Q E hr h=>?_)
 ·obtain⟨a,b,rfl,_⟩:=h
  rfl
 ·obtain⟨a,b,rfl,q⟩:=h
  have sc:=Z44
  refine⟨_,(Zb (Qa JC (Zn Pu (pv 1) Za (Zq _))
    (Zb (Zk (i:=2) sc.nd rfl (Or.inl rfl) (Zl Z2p (pv 0) (pv 1)))
    (Zb (Zk (i:=0) sc.nd rfl (Or.inl rfl) (pv 1))
    (Zd (Zk (i:=1) sc.nd rfl (Or.inl rfl) (pv 2))))))
   (Zd (Zi (Zx K8 rfl T.abs Y0O (Z0 (pv 0) Z9))))),?_⟩
  refine Mf (fun σ H'=>H'=H/\∃ (x y:Int) (r:Option V),σ=[some (.int x),some (.int y),r]/\Int.gcd x y=Int.gcd a b) muGcd ⟨rfl,a,b,none,rfl,rfl⟩ ?_
   (fun σ H Q Q' f ⟨v,e,e1,k,e3,z⟩=>⟨v,e,e1,k,e3,f _ _ z⟩)
  rintro σ H' ⟨rfl,x,y,r,rfl,hg⟩
  refine⟨_,rfl,rfl,_,rfl,?_⟩
  refine Xa (fun h=>?_) (fun h=>?_)
  ·have h':y≠0:=Z3h h
   refine⟨_,rfl,_,rfl,_,_,rfl,rfl,h',?_⟩
   refine⟨_,rfl,_,rfl,⟨rfl,y,x.fmod y,_,rfl,(C5 x y).trans hg⟩,?_⟩
   exact Z1k x h'
  ·have h':y=0:=Z3s h
   subst h'
   refine⟨_,rfl,_,rfl,?_⟩
   have e:(if x<0 then -x else x)=((Int.gcd a b:Nat):Int):=by
    rw[← hg]
    simp
    split <;> omega
   rw[e]
   exact q
def eQ:Sp:=fun vs H Q _=>∃ (p q:Int),vs=[.int p,.int q]/\q≠0/\q.natAbs.log2<9000/\∀ a H',H a=none->Same H H'->H' a=some (.tup [.int (nT p q),.int (nB p q)])->Q (.ref a) H'
theorem Mr:FnScope ["top","bottom","divisor"] ["top","bottom"] (defScope lD):=fsc
abbrev Z5 (P:Program)(w:World)(K:W.Frag)(mg:Str->Option Value)(base:Heap):Prop:=Has P w K mg base 2 "lowest" ["top","bottom"] eQ
theorem Z0g (D:Def K mg "lowest" lD ["top","bottom"])(eI:Has P w K mg base 1 "common_divisor" ["one","other"] iX):Z5 P w K mg base:=by
 refine D.has fun f fd F=>F.ok Mr (fun vs H Q E h=>?_) (fun cdv A outer s H vs Q E hr h=>?_)
 ·obtain⟨a,b,rfl,_⟩:=h
  rfl
 ·obtain⟨p,q,rfl,hq,hlog,k⟩:=h
  have sc:=Mr
  refine⟨_,(Zb (Zk (i:=2) sc.nd rfl (Or.inl rfl) (Zg eI hr (Z0 (pv 0) (Z0 (pv 1) Z9))))
   (Zb (Xc (Yc (Zn Qe (pv 1) Za (Zq _))
    (Zd (Zk (i:=2) sc.nd rfl (Or.inl rfl) (Vq Xz (pv 2))))
    Zv))
   (Zd (Zi (Yk (Z0 (Zl W9 (pv 0) (pv 2)) (Z0 (Zl W9 (pv 1) (pv 2)) Z9))))))),?_⟩
  refine⟨_,rfl,_,rfl,_,_,rfl,?_⟩
  refine⟨fun σ H'=>H'=H/\σ=[some (.int p),some (.int q),some (.int (sg p q))],?_,?_⟩
  ·refine⟨_,rfl,_,_,rfl,rfl,_,rfl,?_⟩
   refine Xa (fun h=>?_) (fun h=>?_)
   ·have h':q<0:=XE h
    refine⟨_,rfl,_,rfl,rfl,?_⟩
    have e:sg p q=-((Int.gcd p q:Nat):Int):=by unfold sg gI;rw[YM h']
    rw[e]
    rfl
   ·have h':¬ q<0:=fun z=>h (XF z)
    refine⟨rfl,?_⟩
    have e:sg p q=((Int.gcd p q:Nat):Int):=by unfold sg gI;rw[YG h']
    rw[e]
    rfl
  ·rintro σ H' ⟨rfl,rfl⟩
   refine⟨_,rfl,_,rfl,_,_,rfl,rfl,⟨Pl hq,Nd hq hlog⟩,_,rfl,_,rfl,_,_,rfl,rfl,⟨Pl hq,Nd hq hlog⟩,sz2,fun a ha=>?_⟩
   exact k a _ ha (Same.new ha) Zc
def eK (K:W.Frag)(op:Rat->Rat->Rat):Sp:=fun vs H Q _=>∃ (a b:Addr) (r s:Rat) (n:Nat),vs=[.ref a,.ref b]/\SqT K H a [.int r.1,.int r.2]/\SqT K H b [.int s.1,.int s.2]/\Good n r/\Good n s/\n<=4000 ∧
 ∀ c H',H c=none->Same H H'->H' c=some (.tup [.int (op r s).1,.int (op r s).2])->Q (.ref c) H'
theorem Wq {n:Nat}{x y:Int}(h:Bd n x)(k:Bd n y)(hn:n<=4000):(x*y).natAbs.log2<9000:=Bd.log (h.mul k) (by omega)
theorem G4:FnScope ["_law_one","_law_other"] ["_law_one","_law_other"] (defScope lZ):=fsc
abbrev Z7 (P:Program)(w:World)(K:W.Frag)(mg:Str->Option Value)(base:Heap):Prop:=Has P w K mg base 3 "_law_plus" ["_law_one","_law_other"] (eK K addR)
theorem Z36 (D:Def K mg "_law_plus" lZ ["_law_one","_law_other"])(eC:Z1 P w K mg base):Z7 P w K mg base:=by
 refine D.has fun f fd F=>F.ok G4 (fun vs H Q E h=>?_) (fun cdv A outer s H vs Q E hr h=>?_)
 ·obtain⟨a,b,r,s,n,rfl,_⟩:=h
  rfl
 ·obtain⟨a,b,r,s,n,rfl,hA,hB,gr,gs,hn,k⟩:=h
  have sc:=G4
  refine⟨_,(Zd (Zi (Zg eC hr (Z0 (Zl Yz (Zl Zw (Zj Yu (pv 0) Za (fun _ _=>rfl)) (Zj Yn (pv 1) Za (fun _ _=>rfl))) (Zl Zw (Zj Yu (pv 1) Za (fun _ _=>rfl)) (Zj Yn (pv 0) Za (fun _ _=>rfl)))) (Z0 (Zl Zw (Zj Yn (pv 0) Za (fun _ _=>rfl)) (Zj Yn (pv 1) Za (fun _ _=>rfl))) Z9))))),?_⟩
  exact⟨_,rfl,_,_,_,rfl,rfl,hA,_,rfl,_,_,_,rfl,rfl,hB,_,_,rfl,rfl,gr.b1.mulOk gs.b2 (by omega) (by omega),_,rfl,_,_,_,rfl,rfl,hB,_,rfl,_,_,_,rfl,rfl,hA,_,_,rfl,rfl,gs.b1.mulOk gr.b2 (by omega) (by omega),_,_,rfl,rfl,_,rfl,_,_,_,rfl,rfl,hA,_,rfl,_,_,_,rfl,rfl,hB,_,_,rfl,rfl,gr.b2.mulOk gs.b2 (by omega) (by omega),_,_,rfl,YZ gr.pos gs.pos,Wq gr.b2 gs.b2 hn,k⟩
theorem Mu:FnScope ["_law_one","_law_other"] ["_law_one","_law_other"] (defScope lH):=fsc
theorem Z0j (D:Def K mg "_law_minus" lH ["_law_one","_law_other"])(eC:Z1 P w K mg base):Has P w K mg base 3 "_law_minus" ["_law_one","_law_other"] (eK K subR):=by
 refine D.has fun f fd F=>F.ok Mu (fun vs H Q E h=>?_) (fun cdv A outer s H vs Q E hr h=>?_)
 ·obtain⟨a,b,r,s,n,rfl,_⟩:=h
  rfl
 ·obtain⟨a,b,r,s,n,rfl,hA,hB,gr,gs,hn,k⟩:=h
  have sc:=Mu
  refine⟨_,(Zd (Zi (Zg eC hr (Z0 (Zl U4 (Zl Zw (Zj Yu (pv 0) Za (fun _ _=>rfl)) (Zj Yn (pv 1) Za (fun _ _=>rfl))) (Zl Zw (Zj Yu (pv 1) Za (fun _ _=>rfl)) (Zj Yn (pv 0) Za (fun _ _=>rfl)))) (Z0 (Zl Zw (Zj Yn (pv 0) Za (fun _ _=>rfl)) (Zj Yn (pv 1) Za (fun _ _=>rfl))) Z9))))),?_⟩
  exact⟨_,rfl,_,_,_,rfl,rfl,hA,_,rfl,_,_,_,rfl,rfl,hB,_,_,rfl,rfl,gr.b1.mulOk gs.b2 (by omega) (by omega),_,rfl,_,_,_,rfl,rfl,hB,_,rfl,_,_,_,rfl,rfl,hA,_,_,rfl,rfl,gs.b1.mulOk gr.b2 (by omega) (by omega),_,_,rfl,rfl,_,rfl,_,_,_,rfl,rfl,hA,_,rfl,_,_,_,rfl,rfl,hB,_,_,rfl,rfl,gr.b2.mulOk gs.b2 (by omega) (by omega),_,_,rfl,YZ gr.pos gs.pos,Wq gr.b2 gs.b2 hn,k⟩
theorem Mt:FnScope ["_law_one","_law_other"] ["_law_one","_law_other"] (defScope lG):=fsc
theorem Z0i (D:Def K mg "_law_times" lG ["_law_one","_law_other"])(eC:Z1 P w K mg base):Has P w K mg base 3 "_law_times" ["_law_one","_law_other"] (eK K mulR'):=by
 refine D.has fun f fd F=>F.ok Mt (fun vs H Q E h=>?_) (fun cdv A outer s H vs Q E hr h=>?_)
 ·obtain⟨a,b,r,s,n,rfl,_⟩:=h
  rfl
 ·obtain⟨a,b,r,s,n,rfl,hA,hB,gr,gs,hn,k⟩:=h
  have sc:=Mt
  refine⟨_,(Zd (Zi (Zg eC hr (Z0 (Zl Zw (Zj Yu (pv 0) Za (fun _ _=>rfl)) (Zj Yu (pv 1) Za (fun _ _=>rfl))) (Z0 (Zl Zw (Zj Yn (pv 0) Za (fun _ _=>rfl)) (Zj Yn (pv 1) Za (fun _ _=>rfl))) Z9))))),?_⟩
  exact⟨_,rfl,_,_,_,rfl,rfl,hA,_,rfl,_,_,_,rfl,rfl,hB,_,_,rfl,rfl,gr.b1.mulOk gs.b1 (by omega) (by omega),_,rfl,_,_,_,rfl,rfl,hA,_,rfl,_,_,_,rfl,rfl,hB,_,_,rfl,rfl,gr.b2.mulOk gs.b2 (by omega) (by omega),_,_,rfl,YZ gr.pos gs.pos,Wq gr.b2 gs.b2 hn,k⟩
end
theorem p6:(10:Int) ^ (6:Int).toNat=1000000:=by decide +kernel
theorem lg6:(2*(10:Int) ^ (6:Int).toNat+1).natAbs.log2<9000:=by decide +kernel
theorem Z5y {x:Int}(h1:-2000000<x)(h2:x<2000000):Bd 21 x:=by
 unfold Bd
 have e:(2:Nat) ^ 21=2097152:=by decide
 rw[e]
 omega
theorem Zu {n:Nat}(h:n<=1000):n<=sizeLine:=XU h (by decide)
theorem T9 {r:Rat}(hp:0<r.2)(hc:Int.gcd r.1 r.2=1):nrm r.1 r.2=r:=by
 have e:=X2 r.1 r.2
 have hq:r.2≠0:=by omega
 refine Wi (Nt hq) hp (Z0x hq) hc ?_
 exact e
section
variable {P:Program}{w:World}{K:W.Frag}{mg:Str->Option Value}{base:Heap}
def fM:Sp:=fun vs H Q _=>∃ (i:Int),vs=[.int i]/\Q (.bl true) H
theorem Js:FnScope ["_law_found"] ["_law_found"] (defScope lO):=fsc
theorem Z2u (D:Def K mg "_law_whole" lO ["_law_found"])(T:Blt mg):Has P w K mg base 1 "_law_whole" ["_law_found"] fM:=by
 refine D.has fun f fd F=>F.ok Js (fun vs H Q E h=>?_) (fun cdv A outer s H vs Q E hr h=>?_)
 ·obtain⟨i,rfl,_⟩:=h
  rfl
 ·obtain⟨i,rfl,q⟩:=h
  have sc:=Js
  refine⟨_,(Zd (Zi (Qd (Zx Wu rfl T.isinstance XV (Z0 (pv 0) (Z0 (T7 T.int zA) Z9))) (Tu (Kt (Zx Wu rfl T.isinstance XV (Z0 (pv 0) (Z0 (T7 T.bool jc) Z9)))))))),?_⟩
  refine⟨_,rfl,_,_,_,_,rfl,TyOf.int i,V7,_,rfl,Uq ?_⟩
  exact⟨_,rfl,_,_,_,_,rfl,TyOf.int i,Ti,_,rfl,q⟩
def iV (K:W.Frag):Sp:=fun vs H Q _=>∃ (a:Addr) (r:Rat) (n:Nat),vs=[.ref a]/\SqT K H a [.int r.1,.int r.2]/\Good n r/\n<=8000/\∀ H',Same H H'->Q (.bl true) H'
theorem Bc:FnScope ["_law_found"] ["_law_found"] (defScope k7):=fsc
theorem Z59 (D:Def K mg "_law_is_ratio" k7 ["_law_found"])(T:Blt mg)(fX:Has P w K mg base 1 "_law_whole" ["_law_found"] fM)(eC:Z1 P w K mg base):Has P w K mg base 3 "_law_is_ratio" ["_law_found"] (iV K):=by
 refine D.has fun f fd F=>F.ok Bc (fun vs H Q E h=>?_) (fun cdv A outer s H vs Q E hr h=>?_)
 ·obtain⟨a,r,n,rfl,_⟩:=h
  rfl
 ·obtain⟨a,r,n,rfl,hA,g,hn,k⟩:=h
  have hU:=zB (Z19 hr)
  have sc:=Bc
  refine⟨_,(Zb (Yc (PW.pt (Vy (Wk (Xk (Zx Xq rfl T.isinstance XV (Z0 (pv 0) (Z0 (T7 T.tuple YY) Z9))))) (Vx (Zn Pu (Zx Y6 rfl T.len zf (Z0 (pv 0) Z9)) Za (Zq _)))))
    (Zd (Zi Vs))
    Zv)
   (Zb (Yc (PW.pt (Vy (Wk (Xk (Zg fX hr (Z0 (Zj Yu (pv 0) Za (fun _ _=>rfl)) Z9)))) (Vy (Wk (Xk (Zg fX hr (Z0 (Zj Yn (pv 0) Za (fun _ _=>rfl)) Z9)))) (Vx (Zn Qe (Zj Yn (pv 0) Za (fun _ _=>rfl)) Za (Zq _))))))
    (Zd (Zi Vs))
    Zv)
   (Zd (Zi (Xn (Ku (K:=K) hU) (Zg eC hr (Z0 (Zj Yu (pv 0) Za (fun _ _=>rfl)) (Z0 (Zj Yn (pv 0) Za (fun _ _=>rfl)) Z9))) (pv 0) (Zq _)))))),?_⟩
  refine⟨_,rfl,_,_,_,_,rfl,hA,V7,_,rfl,Yw ?_⟩
  refine⟨_,rfl,a,_,rfl,.inr hA,rfl,_,rfl,Ln rfl ?_⟩
  refine⟨_,rfl,_,_,_,rfl,rfl,hA,_,rfl,_,rfl,Yw ?_⟩
  refine⟨_,rfl,_,_,_,rfl,rfl,hA,_,rfl,_,rfl,Yw ?_⟩
  refine⟨_,rfl,_,_,_,rfl,rfl,hA,_,_,rfl,rfl,_,rfl,?_⟩
  have pos:=g.pos
  have e0:decide (r.2<1)=false:=JI (by omega)
  rw[e0]
  refine Yw ?_
  refine⟨_,rfl,_,_,_,rfl,rfl,hA,_,rfl,_,_,_,rfl,rfl,hA,_,_,rfl,pos,g.b2.log (by omega),fun c H2 fc S2 e2=>?_⟩
  have en:=T9 pos g.cop
  have e2':H2 c=some (.tup ([r.1,r.2].map V.int)):=by
   rw[e2]
   show some (HO.tup [.int (nrm r.1 r.2).1,.int (nrm r.1 r.2).2])=_
   rw[en]
   rfl
  have hA2:SqT K H2 a ([r.1,r.2].map V.int):=Zt S2 hA
  refine⟨_,rfl,c,a,[r.1,r.2],[r.1,r.2],rfl,rfl,SqT.of e2',hA2,?_⟩
  rw[XF rfl]
  exact k _ S2
def fO (K:W.Frag):Sp:=fun vs H Q _=>∃ (a b:Addr) (r s:Rat) (n:Nat),vs=[.ref a,.ref b]/\SqT K H a [.int r.1,.int r.2]/\SqT K H b [.int s.1,.int s.2]/\Good n r/\Good n s/\0<s.1/\n<=4000/\∀ c H',H c=none->Same H H'->H' c=some (.tup [.int (nrm (r.1*s.2) (r.2*s.1)).1,.int (nrm (r.1*s.2) (r.2*s.1)).2])->Q (.ref c) H'
theorem Mp:FnScope ["_law_one","_law_other","_law_top","_law_bottom"] ["_law_one","_law_other"] (defScope lC):=fsc
theorem Z0e (D:Def K mg "_law_parted" lC ["_law_one","_law_other"])(eC:Z1 P w K mg base):Has P w K mg base 3 "_law_parted" ["_law_one","_law_other"] (fO K):=by
 refine D.has fun f fd F=>F.ok Mp (fun vs H Q E h=>?_) (fun cdv A outer s H vs Q E hr h=>?_)
 ·obtain⟨a,b,r,s,n,rfl,_⟩:=h
  rfl
 ·obtain⟨a,b,r,s,n,rfl,hA,hB,gr,gs,hs,hn,k⟩:=h
  have sc:=Mp
  refine⟨_,(Zb (Zk (i:=2) sc.nd rfl (Or.inl rfl) (Zl Zw (Zj Yu (pv 0) Za (fun _ _=>rfl)) (Zj Yn (pv 1) Za (fun _ _=>rfl))))
   (Zb (Zk (i:=3) sc.nd rfl (Or.inl rfl) (Zl Zw (Zj Yn (pv 0) Za (fun _ _=>rfl)) (Zj Yu (pv 1) Za (fun _ _=>rfl))))
   (Zb (Yc (Zn Qe (pv 3) Za (Zq _))
    (Zd (Zi (Zg eC hr (Z0 (Vq Xz (pv 2)) (Z0 (Vq Xz (pv 3)) Z9)))))
    Zv)
   (Zd (Zi (Zg eC hr (Z0 (pv 2) (Z0 (pv 3) Z9)))))))),?_⟩
  have hp:=YZ gr.pos hs
  refine⟨_,rfl,_,_,_,rfl,rfl,hA,_,rfl,_,_,_,rfl,rfl,hB,_,_,rfl,rfl,gr.b1.mulOk gs.b2 (by omega) (by omega),?_⟩
  refine⟨_,rfl,_,_,_,rfl,rfl,hA,_,rfl,_,_,_,rfl,rfl,hB,_,_,rfl,rfl,gr.b2.mulOk gs.b1 (by omega) (by omega),?_⟩
  refine⟨_,rfl,_,_,rfl,rfl,_,rfl,?_⟩
  refine Xa (fun h=>?_) (fun h=>?_)
  ·have:=XE h
   omega
  ·exact⟨_,rfl,_,rfl,_,_,rfl,hp,Wq gr.b2 gs.b1 hn,k⟩
end
section
variable {K:W.Frag}{H:Hp}{Q:VK}{a b:Addr}{rs ss:List Rat}
theorem RowAt.same {H':Hp}(h:RowAt K H a rs)(S:Same H H'):RowAt K H' a rs:=h.ext (Ext.same S)
end
theorem Gr {z m:Int}(h0:0<=z)(h1:z<m):∃ i:Nat,z=(i:Int)/\(i:Int)<m:=⟨z.toNat,by omega,by omega⟩
theorem Nv {c:Nat}(h:c<=1000):(c:Int).natAbs.log2<9000:=by
 have e:(c:Int).natAbs=c:=by omega
 rw[e]
 rcases Y0e c with z | z
 ·subst z;decide
 ·exact GA (Nat.log2_le_self c) (by omega)
theorem bdS {n:Nat}{x:Int}(h:x.natAbs<2 ^ n):Bd n x:=h
theorem Z5g {σ:L2.St}{H:Hp}{Q:Option Int->Hp->Prop}(h:Q none H):tNoPart σ H Q:=h
section
variable {P:Program}{w:World}{K:W.Frag}{mg:Str->Option Value}{base:Heap}
theorem Po:FnScope ["value"] ["value"] (defScope kD):=fsc
theorem Db (D:Def K mg "is_whole" kD ["value"])(T:Blt mg):Has P w K mg base 1 "is_whole" ["value"] fM:=by
 refine D.has fun f fd F=>F.ok Po (fun vs H Q E h=>?_) (fun cdv A outer s H vs Q E hr h=>?_)
 ·obtain⟨i,rfl,_⟩:=h
  rfl
 ·obtain⟨i,rfl,q⟩:=h
  have sc:=Po
  refine⟨_,(Zd (Zi (Qd (Zx Wu rfl T.isinstance XV (Z0 (pv 0) (Z0 (T7 T.int zA) Z9))) (Tu (Kt (Zx Wu rfl T.isinstance XV (Z0 (pv 0) (Z0 (T7 T.bool jc) Z9)))))))),?_⟩
  refine⟨_,rfl,_,_,_,_,rfl,TyOf.int i,V7,_,rfl,Uq ?_⟩
  exact⟨_,rfl,_,_,_,_,rfl,TyOf.int i,Ti,_,rfl,q⟩
theorem Mo:FnScope ["top","bottom"] ["top","bottom"] (defScope lB):=fsc
theorem Z0d (D:Def K mg "ratio" lB ["top","bottom"])(fF:Has P w K mg base 1 "is_whole" ["value"] fM)(eG:Z5 P w K mg base):Has P w K mg base 3 "ratio" ["top","bottom"] eQ:=by
 refine D.has fun f fd F=>F.ok Mo (fun vs H Q E h=>?_) (fun cdv A outer s H vs Q E hr h=>?_)
 ·obtain⟨p,q,rfl,_⟩:=h
  rfl
 ·obtain⟨p,q,rfl,hq,hlog,k⟩:=h
  have sc:=Mo
  refine⟨_,(Zb (Yc (PW.pt (Vy (Wk (Xk (Zg fF hr (Z0 (pv 0) Z9)))) (Vx (Wk (Xk (Zg fF hr (Z0 (pv 1) Z9)))))))
    (Zd U0)
    Zv)
   (Zb (Yc (Zn Xo (pv 1) Za (Zq _))
    (Zd U0)
    Zv)
   (Zd (Zi (Zg eG hr (Z0 (pv 0) (Z0 (pv 1) Z9))))))),?_⟩
  refine⟨_,rfl,p,rfl,_,rfl,Yw ⟨_,rfl,q,rfl,_,rfl,Yw ?_⟩⟩
  refine⟨_,rfl,rfl,_,rfl,Qr (fun z=>hq (V.int.inj z)) ?_⟩
  exact⟨_,rfl,_,rfl,p,q,rfl,hq,hlog,k⟩
end
def fldsT (a b c d e:V):List (Str × V):=putF "lack" e (putF "bottom" d (putF "heads" c (putF "owners" b (putF "lines" a []))))
section
variable {a b c d e:V}
theorem Xx:(fldsT a b c d e).lookup ("lines":Str)=some a:=by
 unfold fldsT
 rw[Y4,YG (by decide +kernel),Y4,YG (by decide +kernel),Y4,YG (by decide +kernel),Y4,YG (by decide +kernel),Y4,YM rfl]
theorem X4:(fldsT a b c d e).lookup ("owners":Str)=some b:=by
 unfold fldsT
 rw[Y4,YG (by decide +kernel),Y4,YG (by decide +kernel),Y4,YG (by decide +kernel),Y4,YM rfl]
theorem V9:(fldsT a b c d e).lookup ("heads":Str)=some c:=by
 unfold fldsT
 rw[Y4,YG (by decide +kernel),Y4,YG (by decide +kernel),Y4,YM rfl]
theorem Va:(fldsT a b c d e).lookup ("bottom":Str)=some d:=by
 unfold fldsT
 rw[Y4,YG (by decide +kernel),Y4,YM rfl]
theorem M3:(fldsT a b c d e).lookup ("lack":Str)=some e:=by
 unfold fldsT
 rw[Y4,YM rfl]
end
def ownI (m:Nat)(T:Sv.Tab):List Int:=(List.range m).map fun i=>(T.own i:Int)
def hdI (n:Nat)(T:Sv.Tab):List Int:=(List.range n).map fun j=>(T.hd j:Int)
def lineI (n:Nat)(T:Sv.Tab)(i:Nat):List Int:=(List.range (n+1)).map fun j=>T.L i j
theorem Vj {m:Nat}{T:Sv.Tab}{i:Nat}(h:i<m):(ownI m T)[i]?=some (T.own i:Int):=by unfold ownI;simp[h]
theorem Ur {n:Nat}{T:Sv.Tab}{j:Nat}(h:j<n):(hdI n T)[j]?=some (T.hd j:Int):=by unfold hdI;simp[h]
theorem Xw {n:Nat}{T:Sv.Tab}{i j:Nat}(h:j<=n):(lineI n T i)[j]?=some (T.L i j):=by unfold lineI;simp[show j<n+1 by omega]
theorem U3 (m:Nat)(T:Sv.Tab):(ownI m T).length=m:=by unfold ownI;simp
theorem Vo (n:Nat)(T:Sv.Tab):(hdI n T).length=n:=by unfold hdI;simp
theorem Yp (n:Nat)(T:Sv.Tab)(i:Nat):(lineI n T i).length=n+1:=by unfold lineI;simp
theorem X7 {xs:List Int}{i:Nat}{z:Int}(h:xs[i]?=some z):(xs.map V.int)[i]?=some (V.int z):=by rw[YD,h];rfl
def TabAt (C:Addr)(H:Hp)(p:Addr)(m n lk:Nat)(T:Sv.Tab):Prop:=∃ (dx la oa ha:Addr) (las:List Addr),H p=some (.ins C dx (fldsT (.ref la) (.ref oa) (.ref ha) (.int T.b) (.int (lk:Int))))/\H la=some (.lst (las.map V.ref))/\las.length=m ∧
 (∀ (i:Nat) (a:Addr),las[i]?=some a->H a=some (.lst ((lineI n T i).map V.int)))/\H oa=some (.lst ((ownI m T).map V.int))/\H ha=some (.lst ((hdI n T).map V.int))
theorem TabAt.same {C:Addr}{H H':Hp}{p:Addr}{m n lk:Nat}{T:Sv.Tab}(h:TabAt C H p m n lk T)(S:Same H H'):TabAt C H' p m n lk T:=by
 obtain⟨dx,la,oa,ha,las,h1,h2,h3,h4,h5,h6⟩:=h
 exact⟨dx,la,oa,ha,las,S _ _ h1,S _ _ h2,h3,fun i a e=>S _ _ (h4 i a e),S _ _ h5,S _ _ h6⟩
structure TabOk (m n:Nat)(T:Sv.Tab):Prop where
 oi:∀ i k,i<m->k<m->T.own i=T.own k->i=k
 hi:∀ i k,i<n->k<n->T.hd i=T.hd k->i=k
 ne:∀ i j,i<m->j<n->T.own i≠T.hd j
theorem TabOk.of {m n:Nat}{col:Nat->Sv.Vec}{rhs:Sv.Vec}{T:Sv.Tab}(I:Sv.Inv m n col rhs T):TabOk m n T:=⟨fun _ _ h1 h2 e=>I.ownInj h1 h2 e,fun _ _ h1 h2 e=>I.hdInj h1 h2 e,fun _ _ h1 h2=>I.ne h1 h2⟩
structure TabC (K:W.Frag)(mg:Str->Option Value)(C:Addr):Prop where
 cl:Cls K C
 nL:NoAttr K C "lines"
 nO:NoAttr K C "owners"
 nH:NoAttr K C "heads"
 nB:NoAttr K C "bottom"
 nK:NoAttr K C "lack"
 mgC:mg "Table"=some (.ref C)
theorem Ny {K:W.Frag}{H:Hp}{a:Addr}{ns:List Int}{z:Int}{Q:VK}(h:H a=some (.lst (ns.map V.int)))(q:Q (.bl (decide (z∈ns))) H):rIn K false (.int z) (.ref a) H Q:=by
 refine⟨a,_,rfl,.inl (SqL.of h),rfl,Sf _,?_⟩
 show Q (.bl (inV (.int z) (ns.map V.int))) H
 rw[Qv]
 exact q
theorem mem_ownI {m v:Nat}{T:Sv.Tab}:((v:Int)∈ownI m T) ↔ ∃ i,i<m/\T.own i=v:=by
 unfold ownI
 simp only [XG,GN]
 constructor
 ·rintro ⟨i,hi,e⟩
  exact⟨i,hi,by omega⟩
 ·rintro ⟨i,hi,e⟩
  exact⟨i,hi,by omega⟩
theorem mem_hdI {n v:Nat}{T:Sv.Tab}:((v:Int)∈hdI n T) ↔ ∃ i,i<n/\T.hd i=v:=by
 unfold hdI
 simp only [XG,GN]
 constructor
 ·rintro ⟨i,hi,e⟩
  exact⟨i,hi,by omega⟩
 ·rintro ⟨i,hi,e⟩
  exact⟨i,hi,by omega⟩
section
variable {P:Program}{w:World}{K:W.Frag}{mg:Str->Option Value}{base:Heap}{C:Addr}
def fC (C:Addr):Sp:=fun vs H Q _=>∃ (p:Addr) (m n lk i:Nat) (T:Sv.Tab),vs=[.ref p,.int (T.own i:Int)]/\TabAt C H p m n lk T/\TabOk m n T/\i<m/\m<=1000/\∀ a,H a=some (.lst ((lineI n T i).map V.int))->Q (.ref a) H
theorem Ms:FnScope ["table","owner"] ["table","owner"] (defScope lE):=fsc
theorem Z0h (D:Def K mg "line_of" lE ["table","owner"])(tc:TabC K mg C):Has P w K mg base 1 "line_of" ["table","owner"] (fC C):=by
 refine D.has fun f fd F=>F.ok Ms (fun vs H Q E h=>?_) (fun cdv A outer s H vs Q E hr h=>?_)
 ·obtain⟨p,m,n,lk,i,T,rfl,_⟩:=h
  rfl
 ·obtain⟨p,m,n,lk,i,T,rfl,⟨dx,la,oa,ha,las,h1,h2,h3,h4,h5,h6⟩,ok,hi,hm,k⟩:=h
  have sc:=Ms
  refine⟨_,(Zd (Zi (Zj Y2 (Yg (pv 0) rfl) (Vr XR zU zV (Qk (K:=K)) (Yg (pv 0) rfl) (Z0 (pv 1) Z9)) (fun _ _=>rfl)))),?_⟩
  have ea:las[i]?=some (las[i]'(by omega)):=by simp
  refine⟨_,rfl,p,C,dx,_,_,rfl,h1,tc.cl,tc.nL,Xx,_,rfl,p,C,dx,_,_,rfl,h1,tc.cl,tc.nO,X4,.inl ⟨rfl,_,SqL.of h5⟩,_,rfl,?_⟩
  refine⟨oa,ownI m T,_,i,rfl,rfl,SqL.of h5,Vj hi,fun k hk e=>?_,by rw[U3];exact hm,?_⟩
  ·rw[Vj (by omega)] at e
   have:=ok.oi k i (by omega) hi (by have:=YK e;omega)
   omega
  ·exact⟨la,_,_,_,rfl,rfl,SqL.of h2,Zh (by rw[YD,ea];rfl),k _ (h4 i _ ea)⟩
def iH (C:Addr):Sp:=fun vs H Q _=>∃ (p:Addr) (m n lk v:Nat) (T:Sv.Tab),vs=[.ref p,.int (v:Int)]/\TabAt C H p m n lk T/\TabOk m n T/\m<=1000/\n<=1000/\Q (.int (Sv.endOf m n T v)) H
theorem TabOk.endO {m n:Nat}{T:Sv.Tab}(h:TabOk m n T){i:Nat}(hi:i<m):Sv.endOf m n T (T.own i)=T.L i n:=by
 unfold Sv.endOf
 rw[Sv.sm_one (k:=i) hi fun k hk hne=>YG fun z=>hne (h.oi k i hk hi z),YM rfl]
theorem TabOk.numH {m n:Nat}{T:Sv.Tab}(h:TabOk m n T){i j:Nat}(hj:j<n):Sv.numAt n T i (T.hd j)=T.L i j:=by
 unfold Sv.numAt
 rw[Sv.sm_one (k:=j) hj fun k hk hne=>YG fun z=>hne (h.hi k j hk hj z),YM rfl]
theorem Md {n:Nat}{T:Sv.Tab}{i:Nat}:atI ((lineI n T i).map V.int) (-1)=some (V.int (T.L i n)):=by
 unfold atI ixN
 rw[YC,Yp,YG (by decide),YM (by omega)]
 show ((lineI n T i).map V.int)[(-1+((n+1:Nat):Int)).toNat]?=_
 have:(-1+((n+1:Nat):Int)).toNat=n:=by omega
 rw[this]
 exact X7 (Xw (YE n))
theorem Gc:FnScope ["table","thing"] ["table","thing"] (defScope mC):=fsc
theorem Z3e (D:Def K mg "end_of" mC ["table","thing"])(tc:TabC K mg C)(fE:Has P w K mg base 1 "line_of" ["table","owner"] (fC C)):Has P w K mg base 2 "end_of" ["table","thing"] (iH C):=by
 refine D.has fun f fd F=>F.ok Gc (fun vs H Q E h=>?_) (fun cdv A outer s H vs Q E hr h=>?_)
 ·obtain⟨p,m,n,lk,v,T,rfl,_⟩:=h
  rfl
 ·obtain⟨p,m,n,lk,v,T,rfl,tab,ok,hm,hn,q⟩:=h
  obtain⟨dx,la,oa,ha,las,h1,h2,h3,h4,h5,h6⟩:=id tab
  have sc:=Gc
  refine⟨_,(Zd (Zi (V5 (Zn Wf (pv 1) (Yg (pv 0) rfl) rfl) (Zj Y2 (Zg fE hr (Z0 (pv 0) (Z0 (pv 1) Z9))) (Vq Xz Za) (fun _ _=>rfl)) Za))),?_⟩
  refine⟨_,rfl,_,rfl,p,C,dx,_,_,rfl,h1,tc.cl,tc.nO,X4,Ny h5 ⟨_,rfl,?_⟩⟩
  refine Xa (fun h=>?_) (fun h=>?_)
  ·obtain⟨i,hi,e⟩:=mem_ownI.mp (XE h)
   subst e
   refine⟨_,rfl,_,rfl,p,m,n,lk,i,T,rfl,tab,ok,hi,hm,fun a ea=>⟨_,rfl,?_⟩⟩
   refine⟨a,_,_,_,rfl,rfl,SqL.of ea,Md,?_⟩
   rw[ok.endO hi] at q
   exact q
  ·have:Sv.endOf m n T v=0:=Sv.sm_zero fun i hi=>YG fun z=>h (XF (mem_ownI.mpr ⟨i,hi,z⟩))
   rw[this] at q
   exact q
def h9 (C:Addr):Sp:=fun vs H Q _=>∃ (p:Addr) (m n lk i v:Nat) (T:Sv.Tab),vs=[.ref p,.int (T.own i:Int),.int (v:Int)]/\TabAt C H p m n lk T/\TabOk m n T/\i<m/\m<=1000/\n<=1000/\Q (.int (Sv.numAt n T i v)) H
theorem G0:FnScope ["table","owner","thing"] ["table","owner","thing"] (defScope kO):=fsc
theorem Z33 (D:Def K mg "number_at" kO ["table","owner","thing"])(tc:TabC K mg C)(fE:Has P w K mg base 1 "line_of" ["table","owner"] (fC C)):Has P w K mg base 2 "number_at" ["table","owner","thing"] (h9 C):=by
 refine D.has fun f fd F=>F.ok G0 (fun vs H Q E h=>?_) (fun cdv A outer s H vs Q E hr h=>?_)
 ·obtain⟨p,m,n,lk,i,v,T,rfl,_⟩:=h
  rfl
 ·obtain⟨p,m,n,lk,i,v,T,rfl,tab,ok,hi,hm,hn,q⟩:=h
  obtain⟨dx,la,oa,ha,las,h1,h2,h3,h4,h5,h6⟩:=id tab
  have sc:=G0
  refine⟨_,(Zd (Zi (V5 (Zn Wf (pv 2) (Yg (pv 0) rfl) rfl) (Zj Y2 (Zg fE hr (Z0 (pv 0) (Z0 (pv 1) Z9))) (Vr XR zU zV (Qk (K:=K)) (Yg (pv 0) rfl) (Z0 (pv 2) Z9)) (fun _ _=>rfl)) Za))),?_⟩
  refine⟨_,rfl,_,rfl,p,C,dx,_,_,rfl,h1,tc.cl,tc.nH,V9,Ny h6 ⟨_,rfl,?_⟩⟩
  refine Xa (fun h=>?_) (fun h=>?_)
  ·obtain⟨j,hj,e⟩:=mem_hdI.mp (XE h)
   subst e
   refine⟨_,rfl,_,rfl,p,m,n,lk,i,T,rfl,tab,ok,hi,hm,fun a ea=>?_⟩
   refine⟨_,rfl,p,C,dx,_,_,rfl,h1,tc.cl,tc.nH,V9,.inl ⟨rfl,_,SqL.of h6⟩,_,rfl,ha,hdI n T,_,j,rfl,rfl,SqL.of h6,Ur hj,fun k hk e=>?_,by rw[Vo];exact hn,?_⟩
   ·rw[Ur (by omega)] at e
    have:=ok.hi k j (by omega) hj (by have:=YK e;omega)
    omega
   ·refine⟨a,_,_,_,rfl,rfl,SqL.of ea,Zh (X7 (Xw (JK hj))),?_⟩
    rw[ok.numH hj] at q
    exact q
  ·have:Sv.numAt n T i v=0:=Sv.sm_zero fun j hj=>YG fun z=>h (XF (mem_hdI.mpr ⟨j,hj,z⟩))
   rw[this] at q
   exact q
def helps (lk:Nat)(T:Sv.Tab)(i j:Nat):Bool:=decide (0<T.L i j) && !decide (T.hd j=lk)
def foundI (n lk:Nat)(T:Sv.Tab)(i:Nat):List Int:=((List.range n).filter fun j=>helps lk T i j).map fun j=>(T.hd j:Int)
theorem Sw (n lk:Nat)(T:Sv.Tab)(i:Nat):foundI (n+1) lk T i=foundI n lk T i++if helps lk T i n then [(T.hd n:Int)] else []:=by
 unfold foundI
 rw[zv,zP,XX]
 congr 1
 cases h:helps lk T i n <;> simp[h]
def fW (C:Addr):Sp:=fun vs H Q _=>∃ (p:Addr) (m n lk i:Nat) (T:Sv.Tab),vs=[.ref p,.int (T.own i:Int)]/\TabAt C H p m n lk T/\TabOk m n T/\i<m/\m<=1000/\n<=1000 ∧
 ∀ H',Same H H'->(∀ c,c<n->helps lk T i c=true->(∀ j,j<n->helps lk T i j=true->T.hd c<=T.hd j)->Q (.int (c:Int)) H')/\((∀ j,j<n->helps lk T i j=false)->Q .non H')
theorem Pp:FnScope ["table","owner","found"] ["table","owner"] (defScope k8):=fsc
theorem De (D:Def K mg "helping" k8 ["table","owner"])(T0:Blt mg)(tc:TabC K mg C)(fE:Has P w K mg base 1 "line_of" ["table","owner"] (fC C)):Has P w K mg base 2 "helping" ["table","owner"] (fW C):=by
 refine D.has fun f fd F=>F.ok Pp (fun vs H Q E h=>?_) (fun cdv A outer s H vs Q E hr h=>?_)
 ·obtain⟨p,m,n,lk,i,T,rfl,_⟩:=h
  rfl
 ·obtain⟨p,m,n,lk,i,Tb,rfl,tab,ok,hi,hm,hn,k⟩:=h
  obtain⟨dx,la,oa,ha,las,h1,h2,h3,h4,h5,h6⟩:=id tab
  have sc:=Pp
  have T:=T0
  have nd1:(["head","number","table"]:List Str).Nodup:=by decide +kernel
  refine⟨_,(Zb (Wp (i:=2) (N:=["head","number","table"]) (k:=2) (fv:=[0]) sc.nd rfl (Or.inl rfl) rfl (Nl rfl T.zip (Z0 (Yg (pv 0) rfl) (Z0 (Zg fE hr (Z0 (pv 0) (Z0 (pv 1) Z9))) Z9)))
   (fun _ _ _ _ _=>Wl (n:=2) rfl (Y7 (Zm (i:=0) nd1 rfl (Or.inl rfl)) (Y7 (Zm (i:=1) nd1 rfl (Or.inl rfl)) Xm))) (fun _ _ _ _ _=>Nk (PW.pt (Nj (Zn Qg (pv 1) Za (Zq _)) (Re (Zn Pu (pv 0) (Nn (K:=K) (pv 2) rfl) (Zq _)))))) (fun _ _ _ _ _=>(pv 0)) Wz)
   (Zd (Zi (V5 (Bv (pv 2) (fun _=>rfl)) (Vr XR zU zV (Qk (K:=K)) (Yg (pv 0) rfl) (Z0 (Zx (Cg (K:=K) rfl) rfl T.min PyProof.Rows.boot_min (Z0 (pv 2) Z9)) Z9)) Yv)))),?_⟩
  refine⟨_,rfl,p,C,dx,_,_,rfl,h1,tc.cl,tc.nH,V9,_,rfl,_,rfl,p,m,n,lk,i,Tb,rfl,tab,ok,hi,hm,fun a ea=>?_⟩
  refine⟨ha,a,rfl,⟨_,SqL.of h6⟩,⟨_,SqL.of ea⟩,fun d hd=>?_⟩
  refine⟨n,fun j ys H2=>Same H H2/\ys=(foundI j lk Tb i).map V.int,Zu hn,⟨Same.new hd,rfl⟩,?_,?_⟩
  ·rintro j ys H2 hj ⟨S2,rfl⟩ hd2
   refine⟨⟨_,_,SqL.of (S2 _ _ h6),SqL.of (S2 _ _ ea),by rw[YC,Vo];exact hj,by rw[YC,Yp];omega⟩,?_⟩
   rintro x H3 ⟨pp,x0,y0,rfl,hp,rfl,fx,fy⟩
   have ex:x0=V.int (Tb.hd j:Int):=by
    have:=fx _ (SqL.of (S2 _ _ h6))
    rw[X7 (Ur hj)] at this
    exact (YK this).symm
   have ey:y0=V.int (Tb.L i j):=by
    have:=fy _ (SqL.of (S2 _ _ ea))
    rw[X7 (Xw (JK hj))] at this
    exact (YK this).symm
   subst ex ey
   have S3:Same H2 (upd H2 pp (.tup [.int (Tb.hd j:Int),.int (Tb.L i j)])):=Same.new hp
   have hd3:=S3 _ _ hd2
   have up:∀ zs,Same H (upd (upd H2 pp (.tup [.int (Tb.hd j:Int),.int (Tb.L i j)])) d (.lst zs)):=fun zs q o e=>by
    rw[Zf (Ze e hd)]
    exact S3 _ _ (S2 _ _ e)
   refine Z05 (SqT.of Zc) ?_
   have no:helps lk Tb i j=false->upd H2 pp (.tup [.int (Tb.hd j:Int),.int (Tb.L i j)]) d=some (.lst ((foundI j lk Tb i).map V.int))/\Same H (upd H2 pp (.tup [.int (Tb.hd j:Int),.int (Tb.L i j)]))/\(foundI j lk Tb i).map V.int=(foundI (j+1) lk Tb i).map V.int:=fun e=>by
    refine⟨hd3,S2.trans S3,?_⟩
    rw[Sw,e]
    simp
   refine⟨_,rfl,_,_,rfl,rfl,_,rfl,?_⟩
   refine Xa (fun h=>?_) (fun h=>?_)
   ·have hp1:0<Tb.L i j:=XE h
    refine⟨_,rfl,_,rfl,p,C,dx,_,_,rfl,S3 _ _ (S2 _ _ h1),tc.cl,tc.nK,M3,rfl,_,rfl,?_⟩
    by_cases hl:Tb.hd j=lk
    ·refine Ln (by rw[hl]) ?_
     exact no (by unfold helps;simp[hl])
    ·refine Lm (fun z=>hl (by have:=V.int.inj z;omega)) ?_
     have e:helps lk Tb i j=true:=by unfold helps;simp[hl,hp1]
     refine⟨_,rfl,hd3,up _,?_⟩
     rw[Sw,e,XX]
     rfl
   ·have hp1:¬ 0<Tb.L i j:=fun z=>h (XF z)
    exact no (by unfold helps;simp[hp1])
  ·rintro ys H2 ⟨S2,rfl⟩ hd2
   refine⟨⟨_,_,SqL.of (S2 _ _ h6),SqL.of (S2 _ _ ea),by rw[YC,Vo]⟩,?_⟩
   obtain⟨k1,k0⟩:=k H2 S2
   have memf:∀ z,z∈foundI n lk Tb i ↔ ∃ j,j<n/\helps lk Tb i j=true/\(Tb.hd j:Int)=z:=fun z=>by
    unfold foundI
    simp only [XG,zK,GN]
    constructor
    ·rintro ⟨j,⟨hj,hh⟩,e⟩
     exact⟨j,hj,hh,e⟩
    ·rintro ⟨j,hj,hh,e⟩
     exact⟨j,⟨hj,hh⟩,e⟩
   refine⟨_,rfl,!((foundI n lk Tb i).map V.int).isEmpty,?_,?_⟩
   ·exact .inl ⟨_,SqL.of hd2,rfl⟩
   ·refine Xa (fun h=>?_) (fun h=>?_)
    ·have hne:foundI n lk Tb i≠[]:=fun z=>by rw[z] at h;simp at h
     refine⟨_,rfl,p,C,dx,_,_,rfl,S2 _ _ h1,tc.cl,tc.nH,V9,.inl ⟨rfl,_,SqL.of (S2 _ _ h6)⟩,_,rfl,d,_,rfl,SqL.of hd2,hne,fun M hM hle=>?_⟩
     obtain⟨c,hc,hh,rfl⟩:=(memf M).mp hM
     refine⟨ha,hdI n Tb,_,c,rfl,rfl,SqL.of (S2 _ _ h6),Ur hc,fun k hk e=>?_,by rw[Vo];exact hn,?_⟩
     ·rw[Ur (by omega)] at e
      have:=ok.hi k c (by omega) hc (by have:=YK e;omega)
      omega
     ·exact k1 c hc hh fun j hj hj2=>by
       have:=hle _ ((memf _).mpr ⟨j,hj,hj2,rfl⟩)
       omega
    ·refine k0 fun j hj=>?_
     cases e:helps lk Tb i j with
     | false=>rfl
     | true =>
      exfalso
      have:=(memf _).mpr ⟨j,hj,e,rfl⟩
      apply h
      cases q:foundI n lk Tb i with
      | nil=>rw[q] at this;cases this
      | cons=>rfl
end
structure Six (r:Rat):Prop where
 g:Good 21 r
 d:r.2 ∣ 6
theorem Z5h (p q:Int):nB p q ∣ q:=⟨sg p q,(Tw p q).symm⟩
theorem R0 {p q:Int}(h1:-2000000<p)(h2:p<2000000)(hq:q=1 \/ q=2 \/ q=3):Six (nrm p q):=by
 refine⟨Ta (Z5y h1 h2) (Z5y (by omega) (by omega)) (by omega),Y10 (Z5h p q) ?_⟩
 rcases hq with rfl | rfl | rfl
 ·exact⟨6,rfl⟩
 ·exact⟨3,rfl⟩
 ·exact⟨2,rfl⟩
theorem Six.rep {r:Rat}(h:Six r):r.1*6=(r.1*(6:Int).fdiv r.2)*r.2/\Bd 24 (r.1*(6:Int).fdiv r.2):=by
 refine⟨Vd h.d,?_⟩
 have:Bd 3 ((6:Int).fdiv r.2):=by
  refine Bd.of_le (M2 (by decide) h.g.pos) ?_
  show (6:Int).natAbs<2 ^ 3
  decide
 exact h.g.b1.mul this
theorem Xf {n:Nat}{x:Int}(m:Nat)(h:x.natAbs<2 ^ m)(k:m<=n):Bd n x:=Bd.mono (m:=m) h k
theorem RepL.six {rs:List Rat}(h:∀ r∈rs,Six r):RepL 24 6 (wholeB rs 6) rs:=by
 refine⟨by decide,Xf 3 (by decide) (by decide),by unfold wholeB;rw[YC],fun i W r hW hr=>?_⟩
 unfold wholeB at hW
 rw[YD,hr] at hW
 cases hW
 have:=h r (YI hr)
 exact⟨this.rep.1,this.rep.2,this.g.low⟩
section
variable {P:Program}{w:World}{K:W.Frag}{mg:Str->Option Value}{base:Heap}
def gE (K:W.Frag):Sp:=fun vs H Q _=>∃ (b:Addr) (n:Nat),vs=[.ref b]/\BagAt H b n/\n<=1000000 ∧
 ∀ (a:Addr) (H':Hp) (r:Rat),BagAt H' b (n+3)->SameX b H H'->H' a=some (.tup [.int r.1,.int r.2])->Six r->Q (.ref a) H'
theorem Mn:FnScope ["_law_bag_here","_law_bottom"] ["_law_bag_here"] (defScope lU):=fsc
theorem Z0c (D:Def K mg "_law_small" lU ["_law_bag_here"])(eA:Z3 P w K mg base)(eC:Z1 P w K mg base) :
  Has P w K mg base 3 "_law_small" ["_law_bag_here"] (gE K):=by
 refine D.has fun f fd F=>F.ok Mn (fun vs H Q E h=>?_) (fun cdv A outer s H vs Q E hr h=>?_)
 ·obtain⟨b,n,rfl,_⟩:=h
  rfl
 ·obtain⟨b,n,rfl,hB,hn,k⟩:=h
  have sc:=Mn
  refine⟨_,(Zb (Zk (i:=1) sc.nd rfl (Or.inl rfl) (Zj Y2 (W0 (Z0 Za (Z0 Za (Z0 Za (Z0 Za Z9))))) (Zg eA hr (Z0 (pv 0) (Z0 Za Z9))) (fun _ _=>rfl)))
   (Zb (Yc (Zn Xo (Zg eA hr (Z0 (pv 0) (Z0 Za Z9))) Za (Zq _))
    (Zd (Zi (Zg eC hr (Z0 (Zl U4 (Zg eA hr (Z0 (pv 0) (Z0 (Zl Yz (Zl Zw Za (Zl No Za Za)) Za) Z9))) (Zl No Za Za)) (Z0 (pv 1) Z9)))))
    Zv)
   (Zd (Zi (Zg eC hr (Z0 (Zl U4 (Zg eA hr (Z0 (pv 0) (Z0 Za Z9))) Za) (Z0 (pv 1) Z9))))))),?_⟩
  refine⟨sz4,fun l hl=>?_⟩
  have S0:Same H (upd H l (.lst [.int 1,.int 1,.int 2,.int 3])):=Same.new hl
  have e0:upd H l (.lst [.int 1,.int 1,.int 2,.int 3]) l=some (.lst [.int 1,.int 1,.int 2,.int 3]):=Zc
  generalize upd H l (.lst [.int 1,.int 1,.int 2,.int 3])=H0 at *
  have hbl:l≠b:=by
   obtain⟨ys,e⟩:=hB.lst
   exact (Ze e hl).symm
  refine⟨_,rfl,b,_,n,rfl,hB.same S0,by omega,by decide,by decide +kernel,fun r1 H1 r10 r11 B1 S1=>?_⟩
  obtain⟨q,eq,hq⟩:∃ q:Int,atI [V.int 1,.int 1,.int 2,.int 3] r1=some (.int q)/\(q=1 \/ q=2 \/ q=3):=by
   have h:r1=0 \/ r1=1 \/ r1=2 \/ r1=3:=by omega
   rcases h with rfl | rfl | rfl | rfl
   ·exact⟨1,Zh (j:=0) rfl,.inl rfl⟩
   ·exact⟨1,Zh (j:=1) rfl,.inl rfl⟩
   ·exact⟨2,Zh (j:=2) rfl,.inr (.inl rfl)⟩
   ·exact⟨3,Zh (j:=3) rfl,.inr (.inr rfl)⟩
  refine⟨l,_,_,_,rfl,rfl,SqL.of (S1 _ _ e0 hbl),eq,?_⟩
  have bq:Bd 21 q:=Z5y (by omega) (by omega)
  refine⟨_,rfl,b,_,n+1,rfl,B1,by omega,by decide,by decide +kernel,fun r2 H2 r20 r21 B2 S2=>⟨rfl,_,rfl,?_⟩⟩
  refine Xa (fun h=>?_) (fun h=>?_)
  ·refine⟨_,rfl,_,_,rfl,rfl,Z3v (by decide) (by decide),_,_,rfl,rfl,Do (by decide) (by decide),_,_,rfl,rfl,b,_,n+1+1,rfl,B2,by omega,by rw[p6];decide,lg6,fun r3 H3 r30 r31 B3 S3=>?_⟩
   rw[p6] at r31
   refine⟨_,_,rfl,rfl,Z3v (by decide) (by decide),_,_,rfl,rfl,_,rfl,_,_,rfl,by omega,bq.log (by decide),fun a H4 fa S4 e=>?_⟩
   rw[p6] at e
   exact k a H4 (nrm (r3 - 1000000) q) (B3.same S4) (((((SameX.of S0).trans S1).trans S2).trans S3).trans (SameX.of S4)) e (R0 (by omega) (by omega) hq)
  ·refine⟨_,rfl,b,_,n+1+1,rfl,B2,by omega,by decide,by decide +kernel,fun r3 H3 r30 r31 B3 S3=>⟨_,_,rfl,rfl,_,rfl,?_⟩⟩
   refine⟨_,_,rfl,by omega,bq.log (by decide),fun a H4 fa S4 e=>?_⟩
   exact k a H4 (nrm (r3 - 8) q) (B3.same S4) (((((SameX.of S0).trans S1).trans S2).trans S3).trans (SameX.of S4)) e (R0 (by omega) (by omega) hq)
def iS (K:W.Frag):Sp:=fun vs H Q _=>∃ (b:Addr) (c n:Nat),vs=[.ref b,.int c]/\BagAt H b n/\n<=100000/\c<=1000 ∧
 ∀ (a:Addr) (H':Hp) (rs:List Rat),BagAt H' b (n+3*c)->SameX b H H'->RowAt K H' a rs->rs.length=c->(∀ r∈rs,Six r)->Q (.ref a) H'
theorem Cy:FnScope ["_law_bag_here","_law_count"] ["_law_bag_here","_law_count"] (defScope mO):=fsc
theorem Z54 (D:Def K mg "_law_row" mO ["_law_bag_here","_law_count"])(T:Blt mg)(iM:Has P w K mg base 3 "_law_small" ["_law_bag_here"] (gE K)):Has P w K mg base 4 "_law_row" ["_law_bag_here","_law_count"] (iS K):=by
 refine D.has fun f fd F=>F.ok Cy (fun vs H Q E h=>?_) (fun cdv A outer s H vs Q E hr h=>?_)
 ·obtain⟨b,c,n,rfl,_⟩:=h
  rfl
 ·obtain⟨b,c,n,rfl,hB,hn,hc,k⟩:=h
  have sc:=Cy
  have nd1:(["_law_k","_law_bag_here"]:List Str).Nodup:=by decide +kernel
  refine⟨_,(Zd (Zi (Y8 Y3 rfl T.tuple YY (Z0 (Yl (N:=["_law_k","_law_bag_here"]) (k:=1) (fv:=[0]) rfl (Yx rfl T.range (Z0 (pv 1) Z9))
   (fun _ _ _ _ _=>Zm (i:=0) nd1 rfl (Or.inl rfl)) (fun _ _ _ _ _=>Yb) (fun _ _ _ _ _=>(Zg iM hr (Z0 (pv 1) Z9))) Zy) Z9)))),?_⟩
  have hBl:=hB.lst
  refine⟨_,rfl,(c:Int),rfl,(by omega),(by omega),fun d hd=>?_⟩
  have hdb:d≠b:=by
   obtain⟨ys,e⟩:=hBl
   exact (Ze e hd).symm
  have et:(c:Int).toNat=c:=by omega
  rw[et]
  refine⟨c,fun i ys H2=>∃ rs,Rs K H2 rs ys/\rs.length=i/\(∀ r∈rs,Six r)/\BagAt H2 b (n+3*i)/\SameX b H H2,Zu hc,?_,?_,?_⟩
  ·exact⟨[],.nil,rfl,(fun _ h=>nomatch h),hB.upd (XO hdb),SameX.of (Same.new hd)⟩
  ·rintro i ys H2 hi ⟨rs,h1,h2,h3,h4,h5⟩ hd2
   refine⟨hi,?_⟩
   rintro x H3 ⟨rfl,rfl⟩
   refine Yh ?_
   refine⟨_,rfl,b,n+3*i,rfl,h4,by omega,fun a H4 r B4 S4 e4 g4=>?_⟩
   have E4:=Ext.bag S4 h4
   have hd4:H4 d=some (.lst ys):=S4 _ _ hd2 hdb
   have E5:Ext H4 (upd H4 d (.lst (ys++[.ref a]))):=Ext.upd hd4
   refine⟨hd4,rs++[r],(h1.ext (E4.trans E5)).snoc ⟨a,rfl,E5.sq (SqT.of e4)⟩,by rw[XD,h2];rfl,fun r' hr'=>?_,(B4.upd (XO hdb)).mono (by omega),?_⟩
   ·rcases JV.mp hr' with z | z
    ·exact h3 r' z
    ·rw[JP.mp z];exact g4
   ·exact fun q o e ne=>by
     have e2:=S4 q o (h5 q o e ne) ne
     rw[Zf (Ze e hd)]
     exact e2
  ·rintro ys H2 ⟨rs,h1,h2,h3,h4,h5⟩ hd2
   refine⟨YE _,d,ys,rfl,.inl ⟨SqL.of hd2,fun l hl=>?_⟩⟩
   have E:=Ext.new (o:=.tup ys) hl
   exact k l _ rs (h4.same (Same.new hl)) (h5.trans (SameX.of (Same.new hl))) ⟨ys,SqT.of Zc,h1.ext E⟩ h2 h3
structure WtsR (c:Nat)(Ws:List Int)(rs:List Rat):Prop where
 len:rs.length=c
 nn:∀ W∈Ws,0<=W
 pos:0<Ws.sum
 rep:RepL 10 Ws.sum Ws rs
def eX (K:W.Frag):Sp:=fun vs H Q _=>∃ (b:Addr) (c n:Nat),vs=[.ref b,.int c]/\BagAt H b n/\n<=100000/\1<=c/\c<=100 ∧
 ∀ (a:Addr) (H':Hp) (Ws:List Int) (rs:List Rat),BagAt H' b (n+c+1)->SameX b H H'->RowAt K H' a rs->WtsR c Ws rs->Q (.ref a) H'
theorem Q1:FnScope ["_law_bag_here","_law_count","_law_parts"] ["_law_bag_here","_law_count"] (defScope kY):=fsc
theorem Kv (D:Def K mg "_law_weights" kY ["_law_bag_here","_law_count"])(T:Blt mg)(eA:Z3 P w K mg base)(eC:Z1 P w K mg base) :
  Has P w K mg base 3 "_law_weights" ["_law_bag_here","_law_count"] (eX K):=by
 refine D.has fun f fd F=>F.ok Q1 (fun vs H Q E h=>?_) (fun cdv A outer s H vs Q E hr h=>?_)
 ·obtain⟨b,c,n,rfl,_⟩:=h
  rfl
 ·obtain⟨b,c,n,rfl,hB,hn,hc1,hc,k⟩:=h
  have sc:=Q1
  have nd1:(["_law_k","_law_bag_here"]:List Str).Nodup:=by decide +kernel
  have nd2:(["_law_part","_law_parts"]:List Str).Nodup:=by decide +kernel
  refine⟨_,(Zb (Zk (i:=2) sc.nd rfl (Or.inr rfl) (Yl (N:=["_law_k","_law_bag_here"]) (k:=1) (fv:=[0]) rfl (Yx rfl T.range (Z0 (pv 1) Z9))
   (fun _ _ _ _ _=>Zm (i:=0) nd1 rfl (Or.inl rfl)) (fun _ _ _ _ _=>Yb) (fun _ _ _ _ _=>(Zg eA hr (Z0 (pv 1) (Z0 Za Z9)))) Zy))
   (Zb (Xc (Yc (Zn Xo (Zx (Sh (K:=K) rfl) rfl T.sum jg (Z0 (pv 2) Z9)) Za (Zq _))
    (Zd (Uo Za (Tt (pv 2) (Zg eA hr (Z0 (pv 0) (Z0 (pv 1) Z9))) V1)))
    Zv))
   (Zd (Zi (Y8 Y3 rfl T.tuple YY (Z0 (Yl (N:=["_law_part","_law_parts"]) (k:=1) (fv:=[2]) rfl (Xd (pv 2))
   (fun _ _ _ _ _=>Zm (i:=0) nd2 rfl (Or.inl rfl)) (fun _ _ _ _ _=>Yb) (fun _ _ _ _ _=>(Zg eC hr (Z0 (pv 0) (Z0 (Zx (Sh (K:=K) rfl) rfl T.sum jg (Z0 (pv 1) Z9)) Z9)))) Zy) Z9)))))),?_⟩
  have hBl:=hB.lst
  refine⟨_,rfl,(c:Int),rfl,(by omega),(by omega),fun d hd=>?_⟩
  have hdb:d≠b:=by
   obtain⟨ys,e⟩:=hBl
   exact (Ze e hd).symm
  have et:(c:Int).toNat=c:=by omega
  rw[et]
  refine⟨c,fun i ys H2=>∃ ns:List Int,ys=ns.map V.int/\ns.length=i/\(∀ z∈ns,0<=z/\z<=4)/\BagAt H2 b (n+i)/\SameX b H H2,Zu (by omega),?_,?_,?_⟩
  ·exact⟨[],rfl,rfl,(fun _ h=>nomatch h),hB.upd (XO hdb),SameX.of (Same.new hd)⟩
  ·rintro i ys H2 hi ⟨ns,rfl,h2,h3,B2,S2⟩ hd2
   refine⟨hi,?_⟩
   rintro x H3 ⟨rfl,rfl⟩
   refine Yh ?_
   refine⟨_,rfl,b,_,_,rfl,B2,by omega,by decide,by decide +kernel,fun r H4 r0 r1 B4 S4=>?_⟩
   have hd4:H4 d=some (.lst (ns.map V.int)):=S4 _ _ hd2 hdb
   refine⟨hd4,ns++[r],by rw[XX];rfl,by rw[XD,h2];rfl,fun z hz=>?_,(B4.upd (XO hdb)).mono (by omega),?_⟩
   ·rcases JV.mp hz with z' | z'
    ·exact h3 z z'
    ·rw[JP.mp z'];omega
   ·exact fun q o e ne=>by
     have e2:=S4 q o (S2 q o e ne) ne
     rw[Zf (Ze e hd)]
     exact e2
  ·rintro ys H2 ⟨ns,rfl,h2,h3,B2,S2⟩ hd2
   refine⟨YE _,?_⟩
   refine⟨fun σ H'=>σ=[some (.ref b),some (.int c),some (.ref d)]/\∃ ms:List Int,ms.length=c/\(∀ z∈ms,0<=z/\z<=4)/\1<=ms.sum/\H' d=some (.lst (ms.map V.int))/\BagAt H' b (n+c+1)/\SameX b H H',?_,?_⟩
   ·refine⟨_,rfl,d,ns,rfl,SqL.of hd2,rfl,_,rfl,?_⟩
    refine Xa (fun h=>?_) (fun h=>?_)
    ·refine⟨_,rfl,_,rfl,_,rfl,b,_,_,rfl,B2,by omega,by omega,Nv (by omega),fun r H4 r0 r1 B4 S4=>?_⟩
     obtain⟨j,rfl,hj⟩:=Gr r0 r1
     have hd4:H4 d=some (.lst (ns.map V.int)):=S4 _ _ hd2 hdb
     have hjn:j<ns.length:=by omega
     refine⟨d,_,_,j,rfl,rfl,hd4,?_,?_⟩
     ·rw[YC]
      exact Jb (by omega) (by omega)
     have em:(ns.map V.int).set j (V.int 1)=(ns.set j 1).map V.int:=by rw[jd]
     rw[em]
     have h4:∀ z∈ns.set j 1,0<=z/\z<=4:=fun z hz=>by
      rcases Y0o hz with e | e
      ·exact h3 z e
      ·omega
     refine⟨rfl,ns.set j 1,by rw[qi];exact h2,h4,?_,Zc,(B4.upd (XO hdb)).mono (by omega),fun q o e ne=>?_⟩
     ·exact Jo _ (fun z hz=>(h4 z hz).1) ⟨1,by
       refine List.mem_iff_getElem?.mpr ⟨j,?_⟩
       rw[JO (by simpa using hjn)],by omega⟩
     ·rw[Zf (Ze e hd)]
      exact S4 q o (S2 q o e ne) ne
    ·have h0:ns.sum≠0:=fun z=>h (XF (by rw[z]))
     have:=(Ke ns 4 h3).1
     exact⟨rfl,ns,h2,h3,by omega,hd2,B2.mono (by omega),S2⟩
   ·rintro σ H5 ⟨rfl,ms,l4,h4,s1,hd5,B5,S5⟩
    have s2:ms.sum<=4*(c:Int):=by
     have:=(Ke _ 4 h4).2
     rw[l4] at this
     exact this
    refine⟨_,rfl,d,rfl,⟨_,SqL.of hd5⟩,fun e he=>?_⟩
    have hed:d≠e:=Ze hd5 he
    refine⟨c,fun i ys H2=>Same H5 H2/\Rs K H2 ((ms.map fun m=>nrm m ms.sum).take i) ys,Zu (by omega),⟨Same.new he,.nil⟩,?_,?_⟩
    ·rintro i ys H6 hi ⟨S6,R6⟩ he6
     have him:i<ms.length:=by omega
     refine⟨⟨_,V.int ms[i],SqL.of (S6 _ _ hd5),by simp[him]⟩,?_⟩
     rintro x H7 ⟨rfl,fx⟩
     have ex:x=V.int ms[i]:=by
      have:=fx _ (SqL.of (S6 _ _ hd5))
      rw[YD,show ms[i]?=some ms[i] by simp[him]] at this
      exact (YK this).symm
     subst ex
     refine Yh ?_
     have b2:Bd 10 ms.sum:=bdS (by omega)
     refine⟨_,rfl,_,rfl,d,ms,rfl,SqL.of (S6 _ _ hd5),ms[i],ms.sum,rfl,by omega,b2.log (by decide),fun a8 H8 f8 S8 e8=>?_⟩
     have he8:=S8 _ _ he6
     refine⟨he8,fun q o' e'=>?_,?_⟩
     ·rw[Zf (Ze e' he)]
      exact S8 _ _ (S6 _ _ e')
     ·rw[Y5 (show (ms.map fun m=>nrm m ms.sum)[i]?=some (nrm ms[i] ms.sum) by rw[YD,show ms[i]?=some ms[i] by simp[him]];rfl)]
      exact (R6.ext ((Ext.same S8).trans (Ext.upd he8))).snoc ⟨a8,rfl,(Ext.upd he8).sq (SqT.of e8)⟩
    ·rintro ys H6 ⟨S6,R6⟩ he6
     refine⟨⟨_,SqL.of (S6 _ _ hd5),by rw[YC];omega⟩,e,ys,rfl,.inl ⟨SqL.of he6,fun l hl'=>?_⟩⟩
     rw[YN (by rw[YC];omega)] at R6
     refine k l _ ms _ (((B5.same S6).same (Same.new hl')).mono (by omega)) ((S5.trans (SameX.of S6)).trans (SameX.of (Same.new hl'))) ⟨ys,SqT.of Zc,R6.ext (Ext.new hl')⟩ ⟨by rw[YC];exact l4,fun W hW=>(h4 W hW).1,by omega,⟨by omega,bdS (by omega),by rw[YC],fun i W r hW hr=>?_⟩⟩
     rw[YD,hW] at hr
     cases hr
     have:=h4 W (YI hW)
     exact⟨Ni (by omega),bdS (by omega),Yr (by omega)⟩
end
end Sb
namespace Sb
open Sv (sm Y1 Xr Yt sm_zero Y0 Zz Vu)
theorem Pw {c i:Nat}(h:i<c):(List.replicate c (1:Int)).getD i 0=1:=by simp[List.getD,h]
theorem Q0 {c:Nat}{Ws:List Int}{o:Option (Nat->Bool)}(lW:Ws.length=c)(nn:∀ W∈Ws,0<=W):0<=(List.zipWith (·*·) Ws (cutZ o (List.replicate c 1))).sum ∧
  ∀ i,i<c->0<=Ws.getD i 0*(cutZ o (List.replicate c 1)).getD i 0:=by
 have h:∀ i,i<c->0<=Ws.getD i 0*(cutZ o (List.replicate c 1)).getD i 0:=fun i hi=>by
  rw[Wh,Pw hi]
  have:0<=Ws.getD i 0:=by
   have e:Ws.getD i 0=Ws[i]'(by omega):=by simp[List.getD,show i<Ws.length by omega]
   rw[e]
   exact nn _ (YX _)
  split
  ·omega
  ·simp
 refine⟨?_,h⟩
 rw[Vc c _ _ lW (by rw[Xy];simp)]
 exact Y0 h
theorem Ki {c:Nat}{Ws Ro:List Int}{o:Option (Nat->Bool)}(lW:Ws.length=c)(lR:Ro.length=c)(nn:∀ W∈Ws,0<=W)(h0:(List.zipWith (·*·) Ws (cutZ o (List.replicate c 1))).sum=0):(List.zipWith (·*·) Ws (cutZ o Ro)).sum=0:=by
 have h:=(Q0 (o:=o) lW nn).2
 rw[Vc c _ _ lW (by rw[Xy];simp)] at h0
 rw[Vc c _ _ lW (by rw[Xy];exact lR)]
 refine sm_zero fun i hi=>?_
 have hz:Ws.getD i 0*(cutZ o (List.replicate c 1)).getD i 0=0:=by
  rw[Zz (k:=i) hi] at h0
  have h1:0<=sm c (fun j=>if j=i then 0 else Ws.getD j 0*(cutZ o (List.replicate c 1)).getD j 0):=Y0 fun j hj=>by
   split
   ·omega
   ·exact h j hj
  have:=h i hi
  omega
 rw[Wh,Pw hi] at hz
 rw[Wh]
 split
 ·rename_i q
  rw[YM q] at hz
  have:Ws.getD i 0=0:=by omega
  rw[this]
  simp
 ·simp
end Sb
namespace Sb
open PySem L2
theorem Nz {n:Nat}{Zs:List Int}(h:∀ z∈Zs,Bd n z)(k:Nat):Bd n (Zs.getD k 0):=by
 simp only [List.getD]
 cases e:Zs[k]? with
 | none=>exact bd0 n
 | some z=>exact h z (YI e)
theorem RepL.scale {n:Nat}{D:Int}{Zs:List Int}{rs:List Rat}(h:RepL n D Zs rs){k:Int}{m:Nat}(hk:0<k)(bk:Bd m k):RepL (n+m) (D*k) (Zs.map fun z=>z*k) rs:=by
 refine⟨YZ h.pos hk,h.bD.mul bk,by rw[YC,h.len],fun i W r hW hr=>?_⟩
 rw[YD] at hW
 cases e:Zs[i]? with
 | none=>rw[e] at hW;cases hW
 | some z =>
  rw[e] at hW
  cases hW
  obtain⟨a1,a2,a3⟩:=h.at_ i z r e hr
  exact⟨V4 k a1,a2.mul bk,a3⟩
structure TabBd (N m n:Nat)(T:Sv.Tab):Prop where
 l:∀ i j,i<m->j<=n->Bd N (T.L i j)
 b:Bd N T.b
theorem F7 {a b c x y z:Int}(hy:0<y)(hx:0<x)(hz:0<z)(h1:a*y<=b*x)(h2:b*z<=c*y):a*z<=c*x:=by
 have e1:a*y*z<=b*x*z:=JT h1 (by omega)
 have e2:b*z*x<=c*y*x:=JT h2 (by omega)
 have:y*(a*z)<=y*(c*x):=by
  have f1:y*(a*z)=a*y*z:=by grind
  have f2:y*(c*x)=c*y*x:=by grind
  have f3:b*x*z=b*z*x:=by grind
  omega
 exact Y0n this hy
theorem Lr {a b c x y z:Int}(hy:0<y)(hx:0<x)(hz:0<z)(h1:a*y<b*x)(h2:b*z<=c*y):a*z<c*x:=by
 have e1:a*y*z<b*x*z:=zE h1 hz
 have e2:b*z*x<=c*y*x:=JT h2 (by omega)
 have:y*(a*z)<y*(c*x):=by
  have f1:y*(a*z)=a*y*z:=by grind
  have f2:y*(c*x)=c*y*x:=by grind
  have f3:b*x*z=b*z*x:=by grind
  omega
 exact qz this (by omega)
theorem Z1c {a b c x y z:Int}(hy:0<y)(hx:0<x)(hz:0<z)(h1:a*y<=b*x)(h2:b*z<c*y):a*z<c*x:=by
 have e1:a*y*z<=b*x*z:=JT h1 (by omega)
 have e2:b*z*x<c*y*x:=zE h2 hx
 have:y*(a*z)<y*(c*x):=by
  have f1:y*(a*z)=a*y*z:=by grind
  have f2:y*(c*x)=c*y*x:=by grind
  have f3:b*x*z=b*z*x:=by grind
  omega
 exact qz this (by omega)
def Ahead (n c:Nat)(T:Sv.Tab)(a b:Nat):Prop:=T.L a n*T.L b c<T.L b n*T.L a c \/ (T.L a n*T.L b c=T.L b n*T.L a c/\T.own a<=T.own b)
theorem Ahead.trans {n c:Nat}{T:Sv.Tab}{a b k:Nat}(ha:0<T.L a c)(hb:0<T.L b c)(hk:0<T.L k c)(h1:Ahead n c T a b)(h2:Ahead n c T b k):Ahead n c T a k:=by
 rcases h1 with h1 | ⟨h1,o1⟩
 ·rcases h2 with h2 | ⟨h2,_⟩
  ·exact .inl (Lr hb ha hk h1 (by omega))
  ·exact .inl (Lr hb ha hk h1 (by omega))
 ·rcases h2 with h2 | ⟨h2,o2⟩
  ·exact .inl (Z1c hb ha hk (by omega) h2)
  ·refine .inr ⟨?_,by omega⟩
   have e1:=F7 hb ha hk (show T.L a n*T.L b c<=T.L b n*T.L a c by omega) (show T.L b n*T.L k c<=T.L k n*T.L b c by omega)
   have e2:=F7 hb hk ha (show T.L k n*T.L b c<=T.L b n*T.L k c by omega) (show T.L b n*T.L a c<=T.L a n*T.L b c by omega)
   omega
def elig (lk c:Nat)(T:Sv.Tab)(k:Nat):Prop:=T.own k<=lk/\0<T.L k c
section
variable {P:Program}{w:World}{K:W.Frag}{mg:Str->Option Value}{base:Heap}{C:Addr}
def goB (n c:Nat)(T:Sv.Tab)(a b:Nat):Bool:=if T.L a n*T.L b c=T.L b n*T.L a c then decide (T.own a<T.own b) else decide (T.L a n*T.L b c<T.L b n*T.L a c)
def iW (C:Addr):Sp:=fun vs H Q _=>∃ (p:Addr) (m n lk c a b N:Nat) (T:Sv.Tab),vs=[.ref p,.int (c:Int),.int (a:Int),.int (b:Int)]/\TabAt C H p m n lk T/\a<m/\b<m/\c<n/\TabBd N m n T/\N<=8000/\Q (.bl (goB n c T a b)) H
theorem Bf:FnScope ["table","column","one","other","mine","theirs"] ["table","column","one","other"] (defScope kH):=fsc
theorem Z5b (D:Def K mg "goes_ahead" kH ["table","column","one","other"])(tc:TabC K mg C):Has P w K mg base 1 "goes_ahead" ["table","column","one","other"] (iW C):=by
 refine D.has fun f fd F=>F.ok Bf (fun vs H Q E h=>?_) (fun cdv A outer s H vs Q E hr h=>?_)
 ·obtain⟨p,m,n,lk,c,a,b,N,T,rfl,_⟩:=h
  rfl
 ·obtain⟨p,m,n,lk,c,a,b,N,T,rfl,⟨dx,la,oa,ha,las,h1,h2,h3,h4,h5,h6⟩,hA,hB,hc,bd,hN,q⟩:=h
  have sc:=Bf
  refine⟨_,(Zb (Zk (i:=4) sc.nd rfl (Or.inl rfl) (Zl Zw (Zj Y2 (Zj Y2 (Yg (pv 0) rfl) (pv 2) (fun _ _=>rfl)) (Vq Xz Za) (fun _ _=>rfl)) (Zj Y2 (Zj Y2 (Yg (pv 0) rfl) (pv 3) (fun _ _=>rfl)) (pv 1) (fun _ _=>rfl))))
   (Zb (Zk (i:=5) sc.nd rfl (Or.inl rfl) (Zl Zw (Zj Y2 (Zj Y2 (Yg (pv 0) rfl) (pv 3) (fun _ _=>rfl)) (Vq Xz Za) (fun _ _=>rfl)) (Zj Y2 (Zj Y2 (Yg (pv 0) rfl) (pv 2) (fun _ _=>rfl)) (pv 1) (fun _ _=>rfl))))
   (Zb (Yc (Zn Xo (pv 4) (pv 5) (Zq _))
    (Zd (Zi (Xn Qe (Zj Y2 (Yg (pv 0) rfl) (pv 2) (fun _ _=>rfl)) (Zj Y2 (Yg (pv 0) rfl) (pv 3) (fun _ _=>rfl)) (Zq _))))
    Zv)
   (Zd (Zi (Xn Qe (pv 4) (pv 5) (Zq _))))))),?_⟩
  have ea:las[a]?=some (las[a]'(by omega)):=by simp
  have eb:las[b]?=some (las[b]'(by omega)):=by simp
  have la':=h4 a _ ea
  have lb':=h4 b _ eb
  have va:(las.map V.ref)[a]?=some (V.ref (las[a]'(by omega))):=by rw[YD,ea];rfl
  have vb:(las.map V.ref)[b]?=some (V.ref (las[b]'(by omega))):=by rw[YD,eb];rfl
  have atc:∀ i,atI ((lineI n T i).map V.int) (c:Int)=some (V.int (T.L i c)):=fun i=>Zh (X7 (Xw (JK hc)))
  refine⟨_,rfl,p,C,dx,_,_,rfl,h1,tc.cl,tc.nL,Xx,_,rfl,la,_,_,_,rfl,rfl,SqL.of h2,Zh va,_,rfl,_,_,_,_,rfl,rfl,SqL.of la',Md,?_⟩
  refine⟨_,rfl,p,C,dx,_,_,rfl,h1,tc.cl,tc.nL,Xx,_,rfl,la,_,_,_,rfl,rfl,SqL.of h2,Zh vb,_,rfl,_,_,_,_,rfl,rfl,SqL.of lb',atc b,_,_,rfl,rfl,(bd.l a n hA (YE n)).mulOk (bd.l b c hB (JK hc)) (by omega) (by omega),?_⟩
  refine⟨_,rfl,p,C,dx,_,_,rfl,h1,tc.cl,tc.nL,Xx,_,rfl,la,_,_,_,rfl,rfl,SqL.of h2,Zh vb,_,rfl,_,_,_,_,rfl,rfl,SqL.of lb',Md,?_⟩
  refine⟨_,rfl,p,C,dx,_,_,rfl,h1,tc.cl,tc.nL,Xx,_,rfl,la,_,_,_,rfl,rfl,SqL.of h2,Zh va,_,rfl,_,_,_,_,rfl,rfl,SqL.of la',atc a,_,_,rfl,rfl,(bd.l b n hB (YE n)).mulOk (bd.l a c hA (JK hc)) (by omega) (by omega),?_⟩
  refine⟨_,rfl,_,rfl,rfl,_,rfl,?_⟩
  unfold goB at q
  refine Xa (fun h=>?_) (fun h=>?_)
  ·have e:T.L a n*T.L b c=T.L b n*T.L a c:=V.int.inj (XE h)
   rw[YM e] at q
   refine⟨_,rfl,p,C,dx,_,_,rfl,h1,tc.cl,tc.nO,X4,_,rfl,oa,_,_,_,rfl,rfl,SqL.of h5,Zh (X7 (Vj hA)),_,rfl,p,C,dx,_,_,rfl,h1,tc.cl,tc.nO,X4,_,rfl,oa,_,_,_,rfl,rfl,SqL.of h5,Zh (X7 (Vj hB)),_,_,rfl,rfl,?_⟩
   have e2:decide ((T.own a:Int)<(T.own b:Int))=decide (T.own a<T.own b):=by simp
   show Q (.bl (decide ((T.own a:Int)<(T.own b:Int)))) H
   rw[e2]
   exact q
  ·have e:¬ T.L a n*T.L b c=T.L b n*T.L a c:=fun z=>h (XF (by show V.int _=V.int _;rw[z]))
   rw[YG e] at q
   exact⟨_,rfl,_,rfl,_,_,rfl,rfl,q⟩
def iC (C:Addr):Sp:=fun vs H Q _=>∃ (p:Addr) (m n lk c N:Nat) (T:Sv.Tab),vs=[.ref p,.int (c:Int)]/\TabAt C H p m n lk T/\c<n/\m<=1000/\TabBd N m n T/\N<=8000/\(∃ k,k<m/\elig lk c T k) ∧
 ∀ (H':Hp) (b:Nat),Same H H'->b<m->elig lk c T b->(∀ k,k<m->elig lk c T k->Ahead n c T b k)->Q (.int (b:Int)) H'
theorem G6:FnScope ["table","column","first","place","owner"] ["table","column"] (defScope kS):=fsc
theorem Z38 (D:Def K mg "going_out" kS ["table","column"])(T0:Blt mg)(tc:TabC K mg C)(gW:Has P w K mg base 1 "goes_ahead" ["table","column","one","other"] (iW C)):Has P w K mg base 2 "going_out" ["table","column"] (iC C):=by
 refine D.has fun f fd F=>F.ok G6 (fun vs H Q E h=>?_) (fun cdv A outer s H vs Q E hr h=>?_)
 ·obtain⟨p,m,n,lk,c,N,T,rfl,_⟩:=h
  rfl
 ·obtain⟨p,m,n,lk,c,N,Tb,rfl,tab,hc,hm,bd,hN,hex,k⟩:=h
  obtain⟨dx,la,oa,ha,las,h1,h2,h3,h4,h5,h6⟩:=id tab
  have sc:=G6
  have T:=T0
  refine⟨_,(Zb (Zk (i:=2) sc.nd rfl (Or.inl rfl) Yv)
   (Zb (Xs JC rfl (Qc rfl T.enumerate (Z0 (Yg (pv 0) rfl) Z9)) (Wl (n:=2) rfl (Y7 (Zm (i:=3) sc.nd rfl (Or.inl rfl)) (Y7 (Zm (i:=4) sc.nd rfl (Or.inl rfl)) Xm)))
    (Zd (Yc (PW.pt (Nj (Zn Z07 (pv 4) (Yg (pv 0) rfl) (Zq _)) (Re (Zn Qg (Zj Y2 (Zj Y2 (Yg (pv 0) rfl) (pv 3) (fun _ _=>rfl)) (pv 1) (fun _ _=>rfl)) Za (Zq _)))))
     (Zd (Yc (PW.pt (Vy (Zn Qf (pv 2) Yv (Zq _)) (Vx (Xk (Zg gW hr (Z0 (pv 0) (Z0 (pv 1) (Z0 (pv 3) (Z0 (pv 2) Z9)))))))))
      (Zd (Zk (i:=2) sc.nd rfl (Or.inl rfl) (pv 3)))
      Zv))
     Zv)))
   (Zd (Zi (pv 2))))),?_⟩
  have ol:=U3 m Tb
  refine⟨_,rfl,p,C,dx,_,_,rfl,h1,tc.cl,tc.nO,X4,oa,rfl,⟨_,SqL.of h5⟩,Se (K:=K) (a:=oa) (xs:=(ownI m Tb).map V.int) (fun i σ H'=>Same H H'/\∃ x y:Option V,((∀ k,k<i->¬ elig lk c Tb k)/\σ=[some (.ref p),some (.int (c:Int)),some .non,x,y]) \/ ∃ b,b<i/\b<m/\elig lk c Tb b/\(∀ k,k<i->elig lk c Tb k->Ahead n c Tb b k)/\σ=[some (.ref p),some (.int (c:Int)),some (.int (b:Int)),x,y]) ⟨Same.refl _,none,none,.inl ⟨fun k hk=>by omega,rfl⟩⟩ (fun i σ H' _ h=>SqL.of (h.1 _ _ h5)) ?_ ?_⟩
  ·rintro i v σ H1 pp hi ⟨S1,x,y,inv⟩ hp
   have him:i<m:=by
    have:=(YH.mp hi).1
    rw[YC,ol] at this
    exact this
   rw[X7 (Vj him)] at hi
   cases hi
   have S2:Same H1 (upd H1 pp (.tup [.int (i:Int),.int (Tb.own i:Int)])):=Same.new hp
   have S02:=S1.trans S2
   have hst:∃ fv:V,σ=[some (.ref p),some (.int (c:Int)),some fv,x,y]:=by
    rcases inv with ⟨_,e⟩ | ⟨b,_,_,_,_,e⟩
    ·exact⟨_,e⟩
    ·exact⟨_,e⟩
   obtain⟨fv,hst⟩:=hst
   subst hst
   refine⟨pp,_,rfl,SqT.of Zc,rfl,_,_,rfl,_,_,rfl,rfl,?_⟩
   generalize upd H1 pp (.tup [.int (i:Int),.int (Tb.own i:Int)])=H2 at *
   have inv':((∀ k,k<i->¬ elig lk c Tb k)/\fv=.non) \/ ∃ b,b<i/\b<m/\elig lk c Tb b/\(∀ k,k<i->elig lk c Tb k->Ahead n c Tb b k)/\fv=.int (b:Int):=by
    rcases inv with ⟨h,e⟩ | ⟨b,g1,g2,g3,g4,e⟩
    ·injection e with _ e
     injection e with _ e
     injection e with e _
     injection e with e
     exact .inl ⟨h,e⟩
    ·injection e with _ e
     injection e with _ e
     injection e with e _
     injection e with e
     exact .inr ⟨b,g1,g2,g3,g4,e⟩
   have skip:¬ elig lk c Tb i->Same H H2/\∃ x y:Option V,((∀ k,k<i+1->¬ elig lk c Tb k)/\[some (V.ref p),some (V.int (c:Int)),some fv,some (V.int (i:Int)),some (V.int (Tb.own i:Int))]=[some (.ref p),some (.int (c:Int)),some .non,x,y]) \/ ∃ b,b<i+1/\b<m/\elig lk c Tb b/\(∀ k,k<i+1->elig lk c Tb k->Ahead n c Tb b k)/\[some (V.ref p),some (V.int (c:Int)),some fv,some (V.int (i:Int)),some (V.int (Tb.own i:Int))]=[some (.ref p),some (.int (c:Int)),some (.int (b:Int)),x,y]:=fun hne=>by
    refine⟨S02,some (.int (i:Int)),some (.int (Tb.own i:Int)),?_⟩
    rcases inv' with ⟨h,rfl⟩ | ⟨b,g1,g2,g3,g4,rfl⟩
    ·refine .inl ⟨fun k hk=>?_,rfl⟩
     by_cases q:k=i
     ·subst q;exact hne
     ·exact h k (by omega)
    ·refine .inr ⟨b,by omega,g2,g3,fun k hk hk2=>?_,rfl⟩
     by_cases q:k=i
     ·subst q;exact absurd hk2 hne
     ·exact g4 k (by omega) hk2
   refine⟨_,rfl,_,rfl,p,C,dx,_,_,rfl,S02 _ _ h1,tc.cl,tc.nK,M3,_,_,rfl,rfl,_,rfl,?_⟩
   refine Xa (fun h=>?_) (fun h=>?_)
   ·have hle:Tb.own i<=lk:=by have:=XE h;omega
    have ei:las[i]?=some (las[i]'(by omega)):=by simp
    refine⟨_,rfl,p,C,dx,_,_,rfl,S02 _ _ h1,tc.cl,tc.nL,Xx,_,rfl,la,_,_,_,rfl,rfl,SqL.of (S02 _ _ h2),Zh (show (las.map V.ref)[i]?=_ by rw[YD,ei];rfl),_,rfl,_,_,_,_,rfl,rfl,SqL.of (S02 _ _ (h4 i _ ei)),Zh (X7 (Xw (JK hc))),_,_,rfl,rfl,_,rfl,?_⟩
    refine Xa (fun h'=>?_) (fun h'=>?_)
    ·have hpos:0<Tb.L i c:=XE h'
     have hel:elig lk c Tb i:=⟨hle,hpos⟩
     rcases inv' with ⟨hno,rfl⟩ | ⟨b,g1,g2,g3,g4,rfl⟩
     ·refine⟨_,rfl,rfl,_,rfl,Lo rfl ⟨_,rfl,S02,_,_,.inr ⟨i,by omega,him,hel,fun k hk hk2=>?_,rfl⟩⟩⟩
      by_cases q:k=i
      ·subst q;exact .inr ⟨rfl,YE _⟩
      ·exact absurd hk2 (hno k (by omega))
     ·refine⟨_,rfl,rfl,_,rfl,Qr (fun z=>nomatch z) ?_⟩
      refine⟨_,rfl,_,rfl,_,rfl,_,rfl,p,m,n,lk,c,i,b,N,Tb,rfl,tab.same S02,him,g2,hc,bd,hN,_,rfl,?_⟩
      refine Z3o (fun hg=>?_) (fun hg=>?_)
      ·have hib:Ahead n c Tb i b:=by
        unfold goB at hg
        split at hg
        ·rename_i e
         have:=XE hg
         exact .inr ⟨e,by omega⟩
        ·exact .inl (XE hg)
       refine⟨_,rfl,S02,_,_,.inr ⟨i,by omega,him,hel,fun k hk hk2=>?_,rfl⟩⟩
       by_cases q:k=i
       ·subst q;exact .inr ⟨rfl,YE _⟩
       ·exact Ahead.trans hpos g3.2 hk2.2 hib (g4 k (by omega) hk2)
      ·have hbi:Ahead n c Tb b i:=by
        unfold goB at hg
        split at hg
        ·rename_i e
         have:=Y18 hg
         exact .inr ⟨e.symm,by omega⟩
        ·rename_i e
         have:=Y18 hg
         exact .inl (by omega)
       refine⟨S02,_,_,.inr ⟨b,by omega,g2,g3,fun k hk hk2=>?_,rfl⟩⟩
       by_cases q:k=i
       ·subst q;exact hbi
       ·exact g4 k (by omega) hk2
    ·exact skip fun z=>h' (XF z.2)
   ·exact skip fun z=>h (XF (by have:=z.1;omega))
  ·rintro σ H1 ⟨S1,x,y,inv⟩
   rw[YC,ol] at inv
   rcases inv with ⟨hno,rfl⟩ | ⟨b,g1,g2,g3,g4,rfl⟩
   ·obtain⟨k',hk',he⟩:=hex
    exact absurd he (hno k' hk')
   ·exact⟨_,rfl,k H1 b S1 g2 g3 g4⟩
def eY:Sp:=fun vs H Q _=>∃ (a:Addr) (i:Nat) (v:V) (xs:List V),vs=[.ref a,.int (i:Int),v]/\H a=some (.lst xs)/\i<xs.length/\∀ (d:Addr) (H':Hp),H d=none->Same H H'->H' d=some (.lst (xs.set i v))->Q (.ref d) H'
theorem Q3:FnScope ["numbers","place","number","told"] ["numbers","place","number"] (defScope kK):=fsc
theorem Kx (D:Def K mg "replaced" kK ["numbers","place","number"])(T:Blt mg):Has P w K mg base 1 "replaced" ["numbers","place","number"] eY:=by
 refine D.has fun f fd F=>F.ok Q3 (fun vs H Q E h=>?_) (fun cdv A outer s H vs Q E hr h=>?_)
 ·obtain⟨a,i,v,xs,rfl,_⟩:=h
  rfl
 ·obtain⟨a,i,v,xs,rfl,ha,hi,k⟩:=h
  have sc:=Q3
  refine⟨_,(Zb (Zk (i:=3) sc.nd rfl (Or.inl rfl) (Y8 Xp rfl T.list GE (Z0 (pv 0) Z9)))
   (Zb (Uo (pv 2) (Tt (pv 3) (pv 1) V1))
   (Zd (Zi (pv 3))))),?_⟩
  refine⟨_,rfl,a,_,rfl,.inl (SqL.of ha),fun d hd=>?_⟩
  refine⟨_,rfl,_,rfl,_,rfl,d,_,_,i,rfl,rfl,Zc,Jb (by omega) (by omega),?_⟩
  refine⟨_,rfl,k d _ hd (fun q o e=>?_) Zc⟩
  rw[Zf (Ze e hd),Zf (Ze e hd)]
  exact e
def freedI (xs zs:List Int)(c:Nat)(b:Int):List Int:=((List.range xs.length).map fun j=>(xs.getD j 0*zs.getD c 0 - xs.getD c 0*zs.getD j 0).fdiv b).set c (-xs.getD c 0)
def iD:Sp:=fun vs H Q _=>∃ (a k:Addr) (c N:Nat) (b:Int) (xs zs:List Int),vs=[.ref a,.ref k,.int (c:Int),.int b]/\H a=some (.lst (xs.map V.int))/\H k=some (.lst (zs.map V.int))/\xs.length=zs.length/\c<xs.length/\xs.length<=1000/\(∀ z∈xs,Bd N z)/\(∀ z∈zs,Bd N z)/\Bd N b/\0<b/\N<=8000 ∧
 ∀ (d:Addr) (H':Hp),H d=none->Same H H'->H' d=some (.lst ((freedI xs zs c b).map V.int))->Q (.ref d) H'
theorem G7:FnScope ["line","key_line","column","bottom","key","by","told"] ["line","key_line","column","bottom"] (defScope l9):=fsc
theorem Z39 (D:Def K mg "freed" l9 ["line","key_line","column","bottom"])(T:Blt mg)(eH:Has P w K mg base 1 "replaced" ["numbers","place","number"] eY):Has P w K mg base 2 "freed" ["line","key_line","column","bottom"] iD:=by
 refine D.has fun f fd F=>F.ok G7 (fun vs H Q E h=>?_) (fun cdv A outer s H vs Q E hr h=>?_)
 ·obtain⟨a,k,c,N,b,xs,zs,rfl,_⟩:=h
  rfl
 ·obtain⟨a,k,c,N,b,xs,zs,rfl,ha,hk,hl,hc,h1000,bx,bz,bb,hb,hN,kk⟩:=h
  have sc:=G7
  have nd1:(["number","other","bottom","key","by"]:List Str).Nodup:=by decide +kernel
  refine⟨_,(Zb (Zk (i:=4) sc.nd rfl (Or.inr rfl) (Zj Y2 (pv 1) (pv 2) (fun _ _=>rfl)))
   (Zb (Zk (i:=5) sc.nd rfl (Or.inr rfl) (Zj Y2 (pv 0) (pv 2) (fun _ _=>rfl)))
   (Zb (Wp (i:=6) (N:=["number","other","bottom","key","by"]) (k:=2) (fv:=[3,4,5]) sc.nd rfl (Or.inl rfl) rfl (Nl rfl T.zip (Z0 (pv 0) (Z0 (pv 1) Z9)))
   (fun _ _ _ _ _=>Wl (n:=2) rfl (Y7 (Zm (i:=0) nd1 rfl (Or.inl rfl)) (Y7 (Zm (i:=1) nd1 rfl (Or.inl rfl)) Xm))) (fun _ _ _ _ _=>Yb) (fun _ _ _ _ _=>(Zl W9 (Zl U4 (Zl Zw (pv 0) (pv 3)) (Zl Zw (pv 4) (pv 1))) (pv 2))) Wz)
   (Zd (Zi (Zg eH hr (Z0 (pv 6) (Z0 (pv 2) (Z0 (Vq Xz (pv 5)) Z9))))))))),?_⟩
  have ex:∀ j,j<xs.length->xs[j]?=some (xs.getD j 0):=fun j hj=>by simp[List.getD,hj]
  have ez:∀ j,j<xs.length->zs[j]?=some (zs.getD j 0):=fun j hj=>by simp[List.getD,show j<zs.length by omega]
  have bxj:∀ j,Bd N (xs.getD j 0):=Nz bx
  have bzj:∀ j,Bd N (zs.getD j 0):=Nz bz
  refine⟨_,rfl,_,rfl,k,_,_,_,rfl,rfl,SqL.of hk,Zh (X7 (ez c hc)),?_⟩
  refine⟨_,rfl,_,rfl,a,_,_,_,rfl,rfl,SqL.of ha,Zh (X7 (ex c hc)),?_⟩
  refine⟨_,rfl,_,rfl,a,k,rfl,⟨_,SqL.of ha⟩,⟨_,SqL.of hk⟩,fun d hd=>?_⟩
  refine⟨xs.length,fun j ys H2=>Same H H2/\ys=(((List.range xs.length).map fun j=>(xs.getD j 0*zs.getD c 0 - xs.getD c 0*zs.getD j 0).fdiv b).take j).map V.int,Zu h1000,⟨Same.new hd,rfl⟩,?_,?_⟩
  ·rintro j ys H2 hj ⟨S2,rfl⟩ hd2
   refine⟨⟨_,_,SqL.of (S2 _ _ ha),SqL.of (S2 _ _ hk),by rw[YC];exact hj,by rw[YC];omega⟩,?_⟩
   rintro x H3 ⟨pp,x0,y0,rfl,hp,rfl,fx,fy⟩
   have e1:x0=V.int (xs.getD j 0):=by
    have:=fx _ (SqL.of (S2 _ _ ha))
    rw[X7 (ex j hj)] at this
    exact (YK this).symm
   have e2:y0=V.int (zs.getD j 0):=by
    have:=fy _ (SqL.of (S2 _ _ hk))
    rw[X7 (ez j hj)] at this
    exact (YK this).symm
   subst e1 e2
   have hpd:d≠pp:=Ze hd2 hp
   refine Rf (SqT.of Zc) ?_
   refine⟨_,rfl,_,rfl,_,_,rfl,rfl,(bxj j).mulOk (bzj c) (by omega) (by omega),_,rfl,_,rfl,_,_,rfl,rfl,(bxj c).mulOk (bzj j) (by omega) (by omega),_,_,rfl,rfl,_,rfl,_,_,rfl,rfl,⟨by omega,bb.log (by omega)⟩,by rw[Zf hpd];exact hd2,fun q o e=>?_,?_⟩
   ·have:=S2 _ _ e
    rw[Zf (Ze e hd),Zf (Ze this hp)]
    exact this
   ·rw[V0 _ (show (List.range xs.length)[j]?=some j by simp[hj]),XX]
    rfl
  ·rintro ys H2 ⟨S2,rfl⟩ hd2
   rw[YN (by simp)] at hd2
   refine⟨⟨_,_,SqL.of (S2 _ _ ha),SqL.of (S2 _ _ hk),by rw[YC]⟩,?_⟩
   refine⟨_,rfl,_,rfl,_,rfl,_,rfl,d,c,_,_,rfl,hd2,by simp;exact hc,fun d2 H3 f3 S3 e3=>?_⟩
   refine kk d2 H3 ?_ (S2.trans S3) ?_
   ·cases q:H d2 with
    | none=>rfl
    | some o=>rw[S2 _ _ q] at f3;cases f3
   ·rw[e3]
    unfold freedI
    rw[jd]
end
end Sb
namespace Sv
section
variable {m n lk i0:Nat}{col:Nat->Vec}{rhs:Vec}{K:Nat}{S:Nat->Tab}{P C:Nat->Nat}
theorem Run.more (R:Run m n lk i0 col rhs K S P C){p c:Nat}(s:Step m n lk i0 (S K) p c)(h:p≠i0) :
  ∃ S' P' C',Run m n lk i0 col rhs (K+1) S' P' C'/\S' (K+1)=piv (S K) p c:=by
 refine⟨fun t=>if t<=K then S t else piv (S K) p c,fun t=>if t<K then P t else p,fun t=>if t<K then C t else c,⟨R.h0,?_,?_,fun k hk=>?_,fun k hk=>?_,fun k hk=>?_⟩,?_⟩
 ·show Inv m n col rhs (if 0<=K then S 0 else _)
  rw[YM (by omega)]
  exact R.I0
 ·show Feas m n lk (if 0<=K then S 0 else _)
  rw[YM (by omega)]
  exact R.F0
 ·show Step m n lk i0 (if k<=K then S k else _) (if k<K then P k else p) (if k<K then C k else c)
  rw[YM (by omega)]
  by_cases q:k<K
  ·rw[YM q,YM q]
   exact R.st k q
  ·have:k=K:=by omega
   subst this
   rw[YG q,YG q]
   exact s
 ·show (if k<K then P k else p)≠i0
  by_cases q:k<K
  ·rw[YM q]
   exact R.stay k q
  ·rw[YG q]
   exact h
 ·show (if k+1<=K then S (k+1) else piv (S K) p c)=piv (if k<=K then S k else _) (if k<K then P k else p) (if k<K then C k else c)
  by_cases q:k<K
  ·rw[YM (by omega),YM (by omega),YM q,YM q]
   exact R.nx k q
  ·have:k=K:=by omega
   subst this
   rw[YG (by omega),YM (by omega),YG q,YG q]
 ·show (if K+1<=K then _ else _)=_
  rw[YG (by omega)]
theorem Run.start (h0:i0<m){T:Tab}(I:Inv m n col rhs T)(F:Feas m n lk T):Run m n lk i0 col rhs 0 (fun _=>T) (fun _=>0) (fun _=>0) :=
 ⟨h0,I,F,fun k hk=>by omega,fun k hk=>by omega,fun k hk=>by omega⟩
end
end Sv
namespace Sb
open PySem L2
section
variable {P:Program}{w:World}{K:W.Frag}{mg:Str->Option Value}{base:Heap}{C:Addr}
theorem X8 (f:Str)(v:V):∀ fs:List (Str × V),(putF f v fs).length<=fs.length+1
 | []=>YE _
 | (g,x)::r=>by
  have:=X8 f v r
  unfold putF
  split
  ·simp
  ·simp only [XZ]
   omega
def iB (C:Addr):Sp:=fun vs H Q _=>∃ (p dx:Addr) (a b c d e:V),vs=[.ref p,a,b,c,d,e]/\H p=some (.ins C dx [])/\∀ H',H' p=some (.ins C dx (fldsT a b c d e))->(∀ q o,H q=some o->q≠p->H' q=some o)->Q .non H'
theorem Z2a:FnScope ["self","lines","owners","heads","bottom","lack"] ["self","lines","owners","heads","bottom","lack"] (defScope j5):=fsc
theorem Z2x {f:Addr}{fd:FuncData}(F:Fun K "__init__" "Table.__init__" j5 f fd)(tc:TabC K mg C):FnOk P w K mg base CX0 1 f fd ["self","lines","owners","heads","bottom","lack"] (iB C):=by
 refine F.ok Z2a (fun vs H Q E h=>?_) (fun cdv A outer s H vs Q E hr h=>?_)
 ·obtain⟨p,dx,a,b,c,d,e,rfl,_⟩:=h
  rfl
 ·obtain⟨p,dx,a,b,c,d,e,rfl,hp,k⟩:=h
  refine⟨_,Zb (Qb (pv 0) (pv 1) rfl) (Zb (Qb (pv 0) (pv 2) rfl) (Zb (Qb (pv 0) (pv 3) rfl) (Zb (Qb (pv 0) (pv 4) rfl) (Zd (Qb (pv 0) (pv 5) rfl))))),?_⟩
  refine⟨_,rfl,_,rfl,p,C,dx,_,rfl,hp,tc.cl,tc.nL,(by show 0<1000;decide),?_⟩
  refine⟨_,rfl,_,rfl,p,C,dx,_,rfl,Zc,tc.cl,tc.nO,(by show 1<1000;decide),?_⟩
  refine⟨_,rfl,_,rfl,p,C,dx,_,rfl,Zc,tc.cl,tc.nH,?_,?_⟩
  ·have z1:=X8 "owners" b (putF "lines" a [])
   have z2:=X8 "lines" a []
   simp only [jy] at z2
   omega
  refine⟨_,rfl,_,rfl,p,C,dx,_,rfl,Zc,tc.cl,tc.nB,?_,?_⟩
  ·have z1:=X8 "owners" b (putF "lines" a [])
   have z2:=X8 "lines" a []
   have z3:=X8 "heads" c (putF "owners" b (putF "lines" a []))
   simp only [jy] at z2
   omega
  refine⟨_,rfl,_,rfl,p,C,dx,_,rfl,Zc,tc.cl,tc.nK,?_,?_⟩
  ·have z1:=X8 "owners" b (putF "lines" a [])
   have z2:=X8 "lines" a []
   have z3:=X8 "heads" c (putF "owners" b (putF "lines" a []))
   have z4:=X8 "bottom" d (putF "heads" c (putF "owners" b (putF "lines" a [])))
   simp only [jy] at z2
   omega
  refine k _ Zc fun q o e hq=>?_
  rw[Zf hq,Zf hq,Zf hq,Zf hq,Zf hq]
  exact e
def HasT (P:Program)(w:World)(K:W.Frag)(mg:Str->Option Value)(base:Heap)(C:Addr):Prop:=∃ (f:Addr) (fd:FuncData),Mk K C f/\FnOk P w K mg base CX0 1 f fd ["self","lines","owners","heads","bottom","lack"] (iB C)/\Binds K fd ["self","lines","owners","heads","bottom","lack"] []
theorem Vb {n:Nat}{xs:List Int}{f:Nat->Int}(hl:xs.length=n)(h:∀ i,i<n->xs[i]?=some (f i)):xs=(List.range n).map f:=by
 apply je
 intro i
 by_cases q:i<n
 ·rw[h i q]
  simp[q]
 ·rw[jh (by omega),jh (by simp;omega)]
theorem Z2o {m p c:Nat}{T:Sv.Tab}(hp:p<m):(ownI m T).set p (T.hd c:Int)=ownI m (Sv.piv T p c):=by
 refine Vb (by rw[qi,U3]) fun i hi=>?_
 show _=some ((Sv.up T.own p (T.hd c) i:Nat):Int)
 unfold Sv.up
 by_cases e:i=p
 ·subst e
  rw[JO (by rw[U3];exact hi),YM rfl]
 ·rw[JU (XO e),Vj hi,YG e]
theorem Z5p {n p c:Nat}{T:Sv.Tab}(hc:c<n):(hdI n T).set c (T.own p:Int)=hdI n (Sv.piv T p c):=by
 refine Vb (by rw[qi,Vo]) fun i hi=>?_
 show _=some ((Sv.up T.hd c (T.own p) i:Nat):Int)
 unfold Sv.up
 by_cases e:i=c
 ·subst e
  rw[JO (by rw[Vo];exact hi),YM rfl]
 ·rw[JU (XO e),Ur hi,YG e]
theorem Z3n {n p c:Nat}{T:Sv.Tab}(hc:c<n):(lineI n T p).set c T.b=lineI n (Sv.piv T p c) p:=by
 refine Vb (by rw[qi,Yp]) fun j hj=>?_
 show _=some (Sv.newL T p c p j)
 unfold Sv.newL
 rw[YM rfl]
 by_cases e:j=c
 ·subst e
  rw[JO (by rw[Yp];exact hj),YM rfl]
 ·rw[JU (XO e),Xw (by omega),YG e]
theorem Wn {n i j:Nat}{T:Sv.Tab}(h:j<=n):(lineI n T i).getD j 0=T.L i j:=by
 simp only [List.getD,Xw h]
 rfl
theorem Z14 {n p c i:Nat}{T:Sv.Tab}(hc:c<n)(h:i≠p):freedI (lineI n T i) (lineI n T p) c T.b=lineI n (Sv.piv T p c) i:=by
 unfold freedI
 refine Vb (by rw[qi];simp[Yp]) fun j hj=>?_
 show _=some (Sv.newL T p c i j)
 unfold Sv.newL
 rw[YG h,Yp]
 by_cases e:j=c
 ·subst e
  rw[JO (by simpa using hj),YM rfl,Wn (by omega)]
 ·rw[JU (XO e),YG e]
  simp only [YD,show (List.range (n+1))[j]?=some j by simp[hj],GV]
  rw[Wn (by omega),Wn (by omega),Wn (by omega),Wn (by omega)]
theorem Lj {N m n i:Nat}{T:Sv.Tab}(h:TabBd N m n T)(hi:i<m):∀ z∈lineI n T i,Bd N z:=fun z hz=>by
 unfold lineI at hz
 obtain⟨j,hj,rfl⟩:=XG.mp hz
 exact h.l i j hi (by have:=GN.mp hj;omega)
def iZ (C:Addr):Sp:=fun vs H Q _=>∃ (p:Addr) (m n lk pl c N:Nat) (T:Sv.Tab),vs=[.ref p,.int (pl:Int),.int (c:Int)]/\TabAt C H p m n lk T/\pl<m/\c<n/\m<=900/\n<=900/\TabBd N m n T/\N<=8000/\0<T.b ∧
 ∀ (q:Addr) (H':Hp),Same H H'->TabAt C H' q m n lk (Sv.piv T pl c)->Q (.ref q) H'
theorem Bh:FnScope ["table","place","column","key_line","lines"] ["table","place","column"] (defScope kI):=fsc
set_option maxHeartbeats 800000 in
theorem Z5d (D:Def K mg "exchanged" kI ["table","place","column"])(tc:TabC K mg C)(hT:HasT P w K mg base C)(jW:Has P w K mg base 2 "freed" ["line","key_line","column","bottom"] iD)(eH:Has P w K mg base 1 "replaced" ["numbers","place","number"] eY):Has P w K mg base 3 "exchanged" ["table","place","column"] (iZ C):=by
 refine D.has fun f fd F=>F.ok Bh (fun vs H Q E h=>?_) (fun cdv A outer s H vs Q E hr h=>?_)
 ·obtain⟨p,m,n,lk,pl,c,N,T,rfl,_⟩:=h
  rfl
 ·obtain⟨p,m,n,lk,pl,c,N,T,rfl,tab,hp,hc,hm,hn,bd,hN,hb,k⟩:=h
  obtain⟨dx,la,oa,ha,las,h1,h2,h3,h4,h5,h6⟩:=id tab
  obtain⟨fI,fdI,tTableM,tTableG,tTableB⟩:=hT
  have tTableC:=tc.mgC
  have sc:=Bh
  have nd1:(["line","table","column","key_line"]:List Str).Nodup:=by decide +kernel
  refine⟨_,(Zb (Zk (i:=3) sc.nd rfl (Or.inr rfl) (Zj Y2 (Yg (pv 0) rfl) (pv 1) (fun _ _=>rfl)))
   (Zb (Wp (i:=4) (N:=["line","table","column","key_line"]) (k:=1) (fv:=[0,2,3]) sc.nd rfl (Or.inl rfl) rfl (Xd (Yg (pv 0) rfl))
   (fun _ _ _ _ _=>Zm (i:=0) nd1 rfl (Or.inl rfl)) (fun _ _ _ _ _=>Yb) (fun _ _ _ _ _=>(Zg jW hr (Z0 (pv 0) (Z0 (pv 3) (Z0 (pv 2) (Z0 (Nn (K:=K) (pv 1) rfl) Z9)))))) Zy)
   (Zd (Zi (Gm tTableM tTableG (hr.mono (by decide)) rfl tTableC tTableB .nil Go (Z0 (Zg eH hr (Z0 (pv 4) (Z0 (pv 1) (Z0 (Zg eH hr (Z0 (pv 3) (Z0 (pv 2) (Z0 (Yg (pv 0) rfl) Z9)))) Z9)))) (Z0 (Zg eH hr (Z0 (Yg (pv 0) rfl) (Z0 (pv 1) (Z0 (Zj Y2 (Yg (pv 0) rfl) (pv 2) (fun _ _=>rfl)) Z9)))) (Z0 (Zg eH hr (Z0 (Yg (pv 0) rfl) (Z0 (pv 2) (Z0 (Zj Y2 (Yg (pv 0) rfl) (pv 1) (fun _ _=>rfl)) Z9)))) (Z0 (Zj Y2 (pv 3) (pv 2) (fun _ _=>rfl)) (Z0 (Yg (pv 0) rfl) Z9)))))))))),?_⟩
  have ep:las[pl]?=some (las[pl]'(by omega)):=by simp
  have hkl:=h4 pl _ ep
  generalize las[pl]'(by omega)=kl at *
  refine⟨_,rfl,p,C,dx,_,_,rfl,h1,tc.cl,tc.nL,Xx,_,rfl,la,_,_,_,rfl,rfl,SqL.of h2,Zh (show (las.map V.ref)[pl]?=some (V.ref kl) by rw[YD,ep];rfl),?_⟩
  refine⟨_,rfl,p,C,dx,_,_,rfl,h1,tc.cl,tc.nL,Xx,la,rfl,⟨_,SqL.of h2⟩,fun d hd=>?_⟩
  refine⟨m,fun i ys H2=>Same H H2/\∃ ns:List Addr,ys=ns.map V.ref/\ns.length=i/\∀ (t:Nat) (a:Addr),ns[t]?=some a->a≠d/\H2 a=some (.lst ((freedI (lineI n T t) (lineI n T pl) c T.b).map V.int)),Zu (by omega),⟨Same.new hd,[],rfl,rfl,fun t a e=>by simp at e⟩,?_,?_⟩
  ·rintro i ys H2 hi ⟨S2,ns,rfl,l2,q2⟩ hd2
   have ei:las[i]?=some (las[i]'(by omega)):=by simp
   refine⟨⟨_,V.ref (las[i]'(by omega)),SqL.of (S2 _ _ h2),by simp⟩,?_⟩
   rintro x H3 ⟨rfl,fx⟩
   have ex:x=V.ref (las[i]'(by omega)):=by
    have:=fx _ (SqL.of (S2 _ _ h2))
    rw[YD,ei] at this
    exact (YK this).symm
   subst ex
   refine Yh ?_
   refine⟨_,rfl,_,rfl,_,rfl,_,rfl,p,C,dx,_,_,rfl,S2 _ _ h1,tc.cl,tc.nB,Va,?_⟩
   refine⟨_,kl,c,N,T.b,lineI n T i,lineI n T pl,rfl,S2 _ _ (h4 i _ ei),S2 _ _ hkl,by rw[Yp,Yp],by rw[Yp];omega,by rw[Yp];omega,Lj bd hi,Lj bd hp,bd.b,hb,hN,fun a4 H4 f4 S4 e4=>?_⟩
   have hd4:=S4 _ _ hd2
   refine⟨hd4,fun q o e=>?_,ns++[a4],by rw[XX];rfl,by rw[XD,l2];rfl,fun t a e=>?_⟩
   ·rw[Zf (Ze e hd)]
    exact S4 _ _ (S2 _ _ e)
   ·by_cases q:t<ns.length
    ·rw[JE q] at e
     have:=q2 t a e
     refine⟨this.1,?_⟩
     rw[Zf this.1]
     exact S4 _ _ this.2
    ·rw[XY (by omega)] at e
     have hk0:t - ns.length=0:=by
      have:=(YH.mp e).1
      simp at this
      omega
     rw[hk0] at e
     cases e
     have hti:t=i:=by omega
     subst hti
     have hne:a4≠d:=fun z=>by rw[z] at f4;rw[f4] at hd2;cases hd2
     refine⟨hne,?_⟩
     rw[Zf hne]
     exact e4
  ·rintro ys H2 ⟨S2,ns,rfl,l2,q2⟩ hd2
   refine⟨⟨_,SqL.of (S2 _ _ h2),by simp[h3]⟩,?_⟩
   refine⟨_,rfl,_,rfl,_,rfl,_,rfl,_,rfl,p,C,dx,_,_,rfl,S2 _ _ h1,tc.cl,tc.nB,Va,kl,c,_,_,rfl,S2 _ _ hkl,by rw[YC,Yp];omega,fun d1 H3 f3 S3 e3=>?_⟩
   refine⟨d,pl,_,_,rfl,S3 _ _ hd2,by rw[YC];omega,fun d2 H4 f4 S4 e4=>?_⟩
   have S04:=(S2.trans S3).trans S4
   refine⟨_,rfl,p,C,dx,_,_,rfl,S04 _ _ h1,tc.cl,tc.nO,X4,_,rfl,_,rfl,p,C,dx,_,_,rfl,S04 _ _ h1,tc.cl,tc.nH,V9,_,rfl,ha,_,_,_,rfl,rfl,SqL.of (S04 _ _ h6),Zh (X7 (Ur hc)),oa,pl,_,_,rfl,S04 _ _ h5,by rw[YC,U3];omega,fun d3 H5 f5 S5 e5=>?_⟩
   have S05:=S04.trans S5
   refine⟨_,rfl,p,C,dx,_,_,rfl,S05 _ _ h1,tc.cl,tc.nH,V9,_,rfl,_,rfl,p,C,dx,_,_,rfl,S05 _ _ h1,tc.cl,tc.nO,X4,_,rfl,oa,_,_,_,rfl,rfl,SqL.of (S05 _ _ h5),Zh (X7 (Vj hp)),ha,c,_,_,rfl,S05 _ _ h6,by rw[YC,Vo];omega,fun d6 H6 f6 S6 e6=>?_⟩
   have S06:=S05.trans S6
   refine⟨_,rfl,_,rfl,kl,_,_,_,rfl,rfl,SqL.of (S06 _ _ hkl),Zh (X7 (Xw (JK hc))),_,rfl,p,C,dx,_,_,rfl,S06 _ _ h1,tc.cl,tc.nK,M3,fun x dx2 hx hdx hne=>?_⟩
   have SU:Same H6 (upd (upd H6 dx2 (.own x)) x (.ins C dx2 [])):=fun q o e=>by
    rw[Zf (Ze e hx),Zf (Ze e hdx)]
    exact e
   refine⟨x,dx2,_,_,_,_,_,rfl,Zc,fun H7 e7 S7=>⟨rfl,?_⟩⟩
   have SV:Same H6 H7:=fun q o e=>S7 q o (SU q o e) (Ze e hx)
   refine k x H7 (S06.trans SV) ⟨dx2,d2,d3,d6,ns.set pl d1,e7,SV _ _ (S6 _ _ (S5 _ _ (by rw[e4,jd]))),by rw[qi];exact l2,fun i a e=>?_,SV _ _ (S6 _ _ (by rw[e5,← Z2o hp,jd])),SV _ _ (by rw[e6,← Z5p hc,jd])⟩
   by_cases q:i=pl
   ·subst q
    rw[JO (by omega)] at e
    cases e
    refine SV _ _ (S6 _ _ (S5 _ _ (S4 _ _ ?_)))
    rw[e3,← Z3n hc,jd]
   ·rw[JU (XO q)] at e
    refine SV _ _ (S6 _ _ (S5 _ _ (S4 _ _ (S3 _ _ ?_))))
    rw[(q2 i a e).2,Z14 hc q]
end
section
variable {P:Program}{w:World}{K:W.Frag}{mg:Str->Option Value}{base:Heap}{C:Addr}
def iF (C:Addr):Sp:=fun vs H Q _=>∃ (la:Addr) (m n:Nat) (las:List Addr) (T:Sv.Tab),vs=[.ref la]/\H la=some (.lst (las.map V.ref))/\las.length=m+2/\(∀ (i:Nat) (a:Addr),las[i]?=some a->H a=some (.lst ((lineI n T i).map V.int)))/\m<=900/\n<=900/\T.b=1/\(∀ i,T.own i=n+i)/\(∀ j,T.hd j=j) ∧
 ∀ (q:Addr) (H':Hp),Same H H'->TabAt C H' q (m+2) n (n+m) T->Q (.ref q) H'
theorem G9:FnScope ["lines","width","owners"] ["lines"] (defScope kF):=fsc
theorem Z3b (D:Def K mg "first_table" kF ["lines"])(T0:Blt mg)(tc:TabC K mg C)(hT:HasT P w K mg base C):Has P w K mg base 3 "first_table" ["lines"] (iF C):=by
 refine D.has fun f fd F=>F.ok G9 (fun vs H Q E h=>?_) (fun cdv A outer s H vs Q E hr h=>?_)
 ·obtain⟨la,m,n,las,T,rfl,_⟩:=h
  rfl
 ·obtain⟨la,m,n,las,Tb,rfl,h2,h3,h4,hm,hn,hb,ho,hh,k⟩:=h
  obtain⟨fI,fdI,tTableM,tTableG,tTableB⟩:=hT
  have tTableC:=tc.mgC
  have sc:=G9
  have T:=T0
  refine⟨_,(Zb (Zk (i:=1) sc.nd rfl (Or.inl rfl) (Zl U4 (Zx Y6 rfl T.len zf (Z0 (Zj Y2 (pv 0) Za (fun _ _=>rfl)) Z9)) Za))
   (Zb (Zk (i:=2) sc.nd rfl (Or.inl rfl) (D4 rfl rfl T.list rfl T.range (Z0 (pv 1) (Z0 (Zl Yz (pv 1) (Zx Y6 rfl T.len zf (Z0 (pv 0) Z9))) Z9))))
   (Zd (Zi (Gm tTableM tTableG (hr.mono (by decide)) rfl tTableC tTableB .nil Go (Z0 (pv 0) (Z0 (pv 2) (Z0 (D5 rfl rfl T.list rfl T.range (Z0 (pv 1) Z9)) (Z0 Za (Z0 (Zj Y2 (pv 2) (Vq Xz Za) (fun _ _=>rfl)) Z9)))))))))),?_⟩
  have e0:las[0]?=some (las[0]'(by omega)):=by simp
  have hl0:=h4 0 _ e0
  generalize las[0]'(by omega)=l0 at *
  have ew:((((lineI n Tb 0).map V.int).length:Nat):Int) - 1=(n:Int):=by rw[YC,Yp];omega
  refine⟨_,rfl,la,_,_,_,rfl,rfl,SqL.of h2,Zh (show (las.map V.ref)[0]?=some (V.ref l0) by rw[YD,e0];rfl),l0,_,rfl,.inl (SqL.of hl0),?_⟩
  refine⟨_,_,rfl,rfl,_,rfl,_,rfl,_,rfl,la,_,rfl,.inl (SqL.of h2),_,_,rfl,rfl,n,m+2,?_,by omega,by omega,fun o ho2=>?_⟩
  ·show [V.int _,V.int (_+_)]=_
   rw[ew,YC,h3]
   rfl
  refine⟨_,rfl,_,rfl,_,rfl,n,(by show [V.int _]=_;rw[ew]),by omega,fun e he=>?_⟩
  have hoe:o≠e:=fun z=>by rw[← z,Zc] at he;cases he
  have xl:(List.map (fun k=>V.int ((n+k:Nat):Int)) (List.range (m+2))).length=m+2:=by simp
  refine⟨_,rfl,_,rfl,o,_,_,_,rfl,rfl,SqL.of ((Zf hoe).trans Zc),(show atI _ (-2)=some (V.int ((n+m:Nat):Int)) from ?_),fun x dx2 hx hdx hne=>?_⟩
  ·unfold atI ixN
   rw[xl,YG (by decide),YM (by omega)]
   show (List.map (fun k=>V.int ((n+k:Nat):Int)) (List.range (m+2)))[(-2+((m+2:Nat):Int)).toNat]?=_
   have:(-2+((m+2:Nat):Int)).toNat=m:=by omega
   rw[this]
   simp
  ·have S2:Same H (upd (upd H o (.lst ((List.range (m+2)).map fun k=>V.int ((n+k:Nat):Int)))) e (.lst ((List.range n).map fun (k:Nat)=>V.int (k:Int)))):=fun q z y=>by
    rw[Zf (Ze (show upd H o _ q=some z by rw[Zf (Ze y ho2)];exact y) he),Zf (Ze y ho2)]
    exact y
   have ho3:upd (upd H o (.lst ((List.range (m+2)).map fun k=>V.int ((n+k:Nat):Int)))) e (.lst ((List.range n).map fun (k:Nat)=>V.int (k:Int))) o=some (.lst ((ownI (m+2) Tb).map V.int)):=by
    rw[Zf hoe,Zc]
    unfold ownI
    simp[ho,Function.comp_def]
   have he3:upd (upd H o (.lst ((List.range (m+2)).map fun k=>V.int ((n+k:Nat):Int)))) e (.lst ((List.range n).map fun (k:Nat)=>V.int (k:Int))) e=some (.lst ((hdI n Tb).map V.int)):=by
    rw[Zc]
    unfold hdI
    simp[hh,Function.comp_def]
   generalize upd (upd H o (.lst ((List.range (m+2)).map fun k=>V.int ((n+k:Nat):Int)))) e (.lst ((List.range n).map fun (k:Nat)=>V.int (k:Int)))=H6 at *
   have SU:Same H6 (upd (upd H6 dx2 (.own x)) x (.ins C dx2 [])):=fun q o e=>by
    rw[Zf (Ze e hx),Zf (Ze e hdx)]
    exact e
   refine⟨x,dx2,_,_,_,_,_,rfl,Zc,fun H7 e7 S7=>⟨rfl,?_⟩⟩
   have SV:Same H6 H7:=fun q o e=>S7 q o (SU q o e) (Ze e hx)
   have S7':=S2.trans SV
   exact k x H7 S7' ⟨dx2,la,o,e,las,by rw[hb];exact e7,S7' _ _ h2,h3,fun i a y=>S7' _ _ (h4 i a y),SV _ _ ho3,SV _ _ he3⟩
end
section
variable {P:Program}{w:World}{K:W.Frag}{mg:Str->Option Value}{base:Heap}{C:Addr}
def DrEnd (m n lk i0 v:Nat)(col:Nat->Sv.Vec)(rhs:Sv.Vec)(Ex:Sv.Tab->Prop)(T:Sv.Tab):Prop :=
 Sv.Inv m n col rhs T/\Sv.Feas m n lk T/\Ex T/\((T.own i0=v/\∀ j,j<n->T.hd j≠lk->T.L i0 j<=0) \/ ∃ T1 c,T1.own i0=v/\Sv.Inv m n col rhs T1/\Sv.Step m n lk i0 T1 i0 c/\T=Sv.piv T1 i0 c)
def gK (C:Addr):Sp:=fun vs H Q _=>∃ (p:Addr) (m n lk i0 N v:Nat) (col:Nat->Sv.Vec) (rhs:Sv.Vec) (Ex:Sv.Tab->Prop) (T:Sv.Tab),vs=[.ref p,.int (v:Int)]/\TabAt C H p m n lk T/\i0<m/\m<=900/\n<=900/\N<=8000/\Sv.Inv m n col rhs T/\Sv.Feas m n lk T/\Ex T/\T.own i0=v ∧
 (∀ T',Sv.Inv m n col rhs T'->TabBd N m n T') ∧
 (∀ T' c,Sv.Inv m n col rhs T'->Sv.Feas m n lk T'->Ex T'->T'.own i0=v->c<n->T'.hd c≠lk->0<T'.L i0 c->∃ k,k<m/\elig lk c T' k) ∧
 (∀ T' pl c,Sv.Inv m n col rhs T'->Ex T'->Sv.Step m n lk i0 T' pl c->Ex (Sv.piv T' pl c)) ∧
 ∀ (q:Addr) (H':Hp) (T':Sv.Tab),Same H H'->TabAt C H' q m n lk T'->DrEnd m n lk i0 v col rhs Ex T'->Q (.ref q) H'
theorem L3:FnScope ["table","owner","column"] ["table","owner"] (defScope lM):=fsc
set_option maxHeartbeats 800000 in
theorem Z0o (D:Def K mg "driven" lM ["table","owner"])(tc:TabC K mg C)(jB:Has P w K mg base 2 "helping" ["table","owner"] (fW C))(gX:Has P w K mg base 3 "exchanged" ["table","place","column"] (iZ C))(iQ:Has P w K mg base 2 "going_out" ["table","column"] (iC C)):Has P w K mg base 4 "driven" ["table","owner"] (gK C):=by
 refine D.has fun f fd F=>F.ok L3 (fun vs H Q E h=>?_) (fun cdv A outer s H vs Q E hr h=>?_)
 ·obtain⟨p,m,n,lk,i0,N,v,col,rhs,Ex,T,rfl,_⟩:=h
  rfl
 ·obtain⟨p,m,n,lk,i0,N,v,col,rhs,Ex,T,rfl,tab,hi0,hm,hn,hN,I0,F0,X0,hv,hbd,hle,hkp,kk⟩:=h
  have sc:=L3
  refine⟨_,(Zb (Qa JC (Zn Wf (pv 1) (Yg (pv 0) rfl) rfl)
    (Zb (Zk (i:=2) sc.nd rfl (Or.inl rfl) (Zg jB hr (Z0 (pv 0) (Z0 (pv 1) Z9))))
    (Zb (Yc (Zn Qf (pv 2) Yv (Zq _))
     (Zd (Zi (pv 0)))
     Zv)
    (Zd (Zk (i:=0) sc.nd rfl (Or.inl rfl) (Zg gX hr (Z0 (pv 0) (Z0 (Zg iQ hr (Z0 (pv 0) (Z0 (pv 2) Z9))) (Z0 (pv 2) Z9)))))))))
   (Zd (Zi (pv 0)))),?_⟩
  refine⟨fun mm σ H'=>Same H H'/\∃ (q:Addr) (T':Sv.Tab) (x:Option V),σ=[some (.ref q),some (.int (v:Int)),x]/\TabAt C H' q m n lk T'/\((∃ k S P Cc,Sv.Run m n lk i0 col rhs k S P Cc/\T'=S k/\T'.own i0=v/\Ex T'/\mm=(n+m) ^ m - k) \/ (mm=0/\T'.own i0≠v/\(∃ c,c<n/\T'.hd c=v)/\DrEnd m n lk i0 v col rhs Ex T')),⟨_,Same.refl _,p,T,none,rfl,tab,.inl ⟨0,_,_,_,Sv.Run.start hi0 I0 F0,rfl,hv,X0,rfl⟩⟩,?_⟩
  rintro mm σ H1 ⟨S1,q,T',x,rfl,tab1,inv⟩
  obtain⟨dx,la,oa,ha,las,h1,h2,h3,h4,h5,h6⟩:=id tab1
  refine⟨_,rfl,_,rfl,q,C,dx,_,_,rfl,h1,tc.cl,tc.nO,X4,Ny h5 ?_⟩
  refine⟨_,rfl,?_⟩
  rcases inv with ⟨k,S,PP,Cc,R,rfl,hv',X',hmm⟩ | ⟨hmm,hv',⟨c,hc,hcv⟩,hend⟩
  ·have hsh:=R.short
   obtain⟨I',F'⟩:=R.inv k (YE k)
   refine Xa (fun _=>?_) (fun h=>absurd (XF (mem_ownI.mpr ⟨i0,hi0,hv'⟩)) h)
   refine⟨fun σ' H'=>_,fun σ' H' h=>h,?_⟩
   refine⟨_,rfl,_,rfl,q,m,n,lk,i0,S k,by rw[hv'];rfl,tab1,TabOk.of I',hi0,by omega,by omega,fun H2 S2=>⟨fun c hc hh hf=>?_,fun hno=>?_⟩⟩
   ·have tab2:=tab1.same S2
    have hd:∀ j,helps lk (S k) i0 j=true ↔ 0<(S k).L i0 j/\(S k).hd j≠lk:=fun j=>by unfold helps;simp
    obtain⟨hpos,hnl⟩:=(hd c).mp hh
    refine⟨_,rfl,rfl,_,rfl,Qr (by intro z;cases z) ?_⟩
    refine⟨_,rfl,_,rfl,_,rfl,q,m,n,lk,c,N,S k,rfl,tab2,hc,by omega,hbd _ I',hN,hle _ c I' F' X' hv' hc hnl hpos,fun H3 b S3 hb hel hah=>?_⟩
    refine⟨_,rfl,q,m,n,lk,b,c,N,S k,rfl,tab2.same S3,hb,hc,hm,hn,hbd _ I',hN,I'.pos,fun q2 H4 S4 tab4=>?_⟩
    have st:Sv.Step m n lk i0 (S k) b c:=⟨hb,hc,hnl,hpos,fun j hj hjl hjp=>hf j hj ((hd j).mpr ⟨hjp,hjl⟩),hel.1,hel.2,fun i hi h1 h2=>hah i hi ⟨h1,h2⟩⟩
    have SS:=((S1.trans S2).trans S3).trans S4
    by_cases e:b=i0
    ·subst e
     refine⟨0,by omega,SS,q2,_,_,rfl,tab4,.inr ⟨rfl,fun z=>?_,⟨c,hc,?_⟩,I'.piv hb hc hel.2,st.feas I' F',hkp _ _ _ I' X' st,.inr ⟨S k,c,hv',I',st,rfl⟩⟩⟩
     ·rw[Sv.own_p] at z
      exact I'.ne hb hc (hv'.trans z.symm)
     ·show Sv.up (S k).hd c ((S k).own b) c=v
      unfold Sv.up
      rw[YM rfl]
      exact hv'
    ·obtain⟨S',P',C',R',e'⟩:=R.more st e
     have hsh':=R'.short
     refine⟨(n+m) ^ m - (k+1),by omega,SS,q2,_,_,rfl,tab4,.inl ⟨k+1,S',P',C',R',e'.symm,?_,hkp _ _ _ I' X' st,rfl⟩⟩
     rw[Sv.own_ne (XO e)]
     exact hv'
   ·refine⟨_,rfl,rfl,_,rfl,Lo rfl ⟨_,rfl,kk q H2 (S k) (S1.trans S2) (tab1.same S2) ⟨I',F',X',.inl ⟨hv',fun j hj hl=>?_⟩⟩⟩⟩
    have:=hno j hj
    unfold helps at this
    simp[hl] at this
    exact this
  ·refine Xa (fun h=>?_) (fun h=>?_)
   ·obtain⟨i,hi,e⟩:=mem_ownI.mp (XE h)
    exact absurd (e.trans hcv.symm) (hend.1.ne hi hc)
   ·exact⟨_,rfl,kk q H1 T' S1 tab1 hend⟩
end
section
variable {P:Program}{w:World}{K:W.Frag}{mg:Str->Option Value}{base:Heap}
def gR (K:W.Frag):Sp:=fun vs H Q _=>∃ (i c:Nat) (o:Option (Nat->Bool)) (v:V),vs=[.int i,v]/\EvAt K H c o v/\i<c/\Q (.bl (inE o i)) H
theorem Z6i {H:Hp}{c i:Nat}{o:Option (Nat->Bool)}{v:V}{Q:VK}(h:EvAt K H c o v)(hi:i<c)(q:Q (.bl (inE o i)) H) :
  if decide (v=V.non)=true then Q (.bl true) H else rIn K false (.int i) v H Q:=by
 cases o with
 | none =>
  have e:v=.non:=h
  exact Lo e q
 | some p =>
  obtain⟨a,rfl,h⟩:=h
  refine Qr (by intro z;cases z) ⟨a,_,rfl,.inr h,rfl,Sf _,?_⟩
  show Q (.bl (inV (.int (i:Int)) ((evI c p).map V.int))) H
  rw[Qv]
  have e:decide ((i:Int)∈evI c p)=p i:=by
   rw[GI,zD,mem_evI]
   simp[hi]
  rw[e]
  exact q
theorem Be:FnScope ["world","event"] ["world","event"] (defScope mI):=fsc
theorem Z5a (D:Def K mg "is_in" mI ["world","event"]):Has P w K mg base 1 "is_in" ["world","event"] (gR K):=by
 refine D.has fun f fd F=>F.ok Be (fun vs H Q E h=>?_) (fun cdv A outer s H vs Q E hr h=>?_)
 ·obtain⟨i,c,o,v,rfl,_⟩:=h
  rfl
 ·obtain⟨i,c,o,v,rfl,hv,hi,q⟩:=h
  have sc:=Be
  refine⟨_,(Zd (Zi (Z63 (Xn Qf (pv 1) Yv (Zq _)) (Tu (Xn Wf (pv 0) (pv 1) rfl))))),?_⟩
  refine⟨_,rfl,rfl,_,rfl,?_⟩
  have:=Z6i (Q:=Q) hv hi q
  refine Z3o (fun e=>?_) (fun e=>?_)
  ·rw[e] at this
   rw[YM rfl] at this
   exact this
  ·rw[e] at this
   rw[YG YT] at this
   exact⟨_,rfl,_,rfl,this⟩
def gM (K:W.Frag):Sp:=fun vs H Q _=>∃ (a:Addr) (v:V) (rs:List Rat) (o:Option (Nat->Bool)),vs=[.ref a,v]/\RowAt K H a rs/\EvAt K H rs.length o v/\rs.length<=1000 ∧
 ∀ p H',Same H H'->RowAt K H' p (cutR o rs)->Q (.ref p) H'
theorem Z46:FnScope ["row","event"] ["row","event"] (defScope mS):=fsc
theorem Z6b (D:Def K mg "cut" mS ["row","event"])(T:Blt mg)(jA:Has P w K mg base 1 "is_in" ["world","event"] (gR K))(eF:Con K mg "NOUGHT" (0,1)):Has P w K mg base 2 "cut" ["row","event"] (gM K):=by
 refine D.has fun f fd F=>F.ok Z46 (fun vs H Q E h=>?_) (fun cdv A outer s H vs Q E hr h=>?_)
 ·obtain⟨a,v,rs,o,rfl,_⟩:=h
  rfl
 ·obtain⟨a,v,rs,o,rfl,⟨xs,hA,hRs⟩,hv,hl,k⟩:=h
  obtain⟨c_NOUGHT,m_NOUGHT,s_NOUGHT⟩:=eF
  have sc:=Z46
  have nd1:(["world","worth","event"]:List Str).Nodup:=by decide +kernel
  refine⟨_,(Zd (Zi (Y8 Y3 rfl T.tuple YY (Z0 (Yl (N:=["world","worth","event"]) (k:=2) (fv:=[1]) rfl (Z2k rfl T.enumerate (Z0 (pv 0) Z9))
   (fun _ _ _ _ _=>Wl (n:=2) rfl (Y7 (Zm (i:=0) nd1 rfl (Or.inl rfl)) (Y7 (Zm (i:=1) nd1 rfl (Or.inl rfl)) Xm))) (fun _ _ _ _ _=>Yb) (fun _ _ _ _ _=>(V5 (Xk (Zg jA hr (Z0 (pv 0) (Z0 (pv 2) Z9)))) (pv 1) (X1 (v:=.ref c_NOUGHT) rfl m_NOUGHT rfl))) Wz) Z9)))),?_⟩
  refine⟨_,rfl,a,rfl,⟨_,hA⟩,fun d hd=>?_⟩
  have lx:=hRs.len
  refine⟨rs.length,fun i ys H2=>Same H H2/\Rs K H2 ((cutR o rs).take i) ys,Zu hl,⟨Same.new hd,.nil⟩,?_,?_⟩
  ·rintro i ys H2 hi ⟨S2,R2⟩ hd2
   refine⟨⟨xs,Zt S2 hA,by omega⟩,?_⟩
   rintro x H3 ⟨p,x0,rfl,hp,rfl,fx⟩
   obtain⟨r,er,ix⟩:=hRs.back (fx xs (Zt S2 hA))
   have S3:Same H2 (upd H2 p (.tup [.int (i:Int),x0])):=Same.new hp
   have ix3:=ix.ext ((Ext.same S2).trans (Ext.same S3))
   refine Rf (SqT.of Zc) ?_
   refine⟨_,rfl,_,rfl,i,rs.length,o,v,rfl,(hv.same S2).same S3,hi,_,rfl,?_⟩
   have hpd:d≠p:=Ze hd2 hp
   have hd3:upd H2 p (.tup [.int (i:Int),x0]) d=some (.lst ys):=S3 _ _ hd2
   have fin:∀ y,IsR K (upd H2 p (.tup [.int (i:Int),x0])) (if inE o i then r else (0,1)) y →
     upd H2 p (.tup [.int (i:Int),x0]) d=some (.lst ys)/\Same H (upd (upd H2 p (.tup [.int (i:Int),x0])) d (.lst (ys++[y])))/\Rs K (upd (upd H2 p (.tup [.int (i:Int),x0])) d (.lst (ys++[y]))) ((cutR o rs).take (i+1)) (ys++[y]):=fun y hy=>by
    refine⟨hd3,fun q o' e=>?_,?_⟩
    ·rw[Zf (Ze e hd)]
     exact S3 _ _ (S2 _ _ e)
    ·rw[Y5 (Wd er)]
     have E5:Ext (upd H2 p (.tup [.int (i:Int),x0])) (upd (upd H2 p (.tup [.int (i:Int),x0])) d (.lst (ys++[y]))):=Ext.upd hd3
     exact (R2.ext ((Ext.same S3).trans E5)).snoc (hy.ext E5)
   refine Z3o (fun e=>?_) (fun e=>?_)
   ·exact⟨_,rfl,fin _ (by rw[e,YM rfl];exact ix3)⟩
   ·exact fin _ (by rw[e,YG YT];exact⟨_,rfl,s_NOUGHT _⟩)
  ·rintro ys H2 ⟨S2,R2⟩ hd2
   refine⟨⟨xs,Zt S2 hA,by omega⟩,d,ys,rfl,.inl ⟨SqL.of hd2,fun l hl'=>?_⟩⟩
   rw[YN (by rw[Ye];omega)] at R2
   exact k l _ (S2.trans (Same.new hl')) ⟨ys,SqT.of Zc,R2.ext (Ext.new hl')⟩
def jQ (K:W.Frag):Sp:=fun vs H Q _=>∃ (a:Addr) (v:V) (xs:List V) (rs:List Rat) (o:Option (Nat->Bool)),vs=[.ref a,v]/\(SqL K H a xs \/ SqT K H a xs)/\Rs K H rs xs/\EvAt K H rs.length o v/\rs.length<=1000 ∧
 ∀ p H',Same H H'->RowAt K H' p (cutR o rs)->Q (.ref p) H'
theorem Bb:FnScope ["_law_row_here","_law_event_here"] ["_law_row_here","_law_event_here"] (defScope mH):=fsc
theorem Pa (rs:List Rat):cutR none rs=rs:=by
 apply je
 intro i
 cases e:rs[i]? with
 | none=>rw[jh (by rw[Ye];exact (List.getElem?_eq_none_iff.mp e))]
 | some r=>rw[Wd e];rfl
abbrev Z4 (P:Program)(w:World)(K:W.Frag)(mg:Str->Option Value)(base:Heap):Prop:=Has P w K mg base 2 "_law_cut" ["_law_row_here","_law_event_here"] (jQ K)
theorem Z58 (D:Def K mg "_law_cut" mH ["_law_row_here","_law_event_here"])(T:Blt mg):Z4 P w K mg base:=by
 refine D.has fun f fd F=>F.ok Bb (fun vs H Q E h=>?_) (fun cdv A outer s H vs Q E hr h=>?_)
 ·obtain⟨a,v,xs,rs,o,rfl,_⟩:=h
  rfl
 ·obtain⟨a,v,xs,rs,o,rfl,hA,hRs,hv,hl,k⟩:=h
  have sc:=Bb
  have nd1:(["_law_k","_law_row_here","_law_event_here"]:List Str).Nodup:=by decide +kernel
  refine⟨_,(Zb (Yc (Zn Qf (pv 1) Yv (Zq _))
    (Zd (Zi (Y8 Y3 rfl T.tuple YY (Z0 (pv 0) Z9))))
    Zv)
   (Zd (Zi (Y8 Y3 rfl T.tuple YY (Z0 (Yl (N:=["_law_k","_law_row_here","_law_event_here"]) (k:=1) (fv:=[0,1]) rfl (Yx rfl T.range (Z0 (Zx Y6 rfl T.len zf (Z0 (pv 0) Z9)) Z9))
   (fun _ _ _ _ _=>Zm (i:=0) nd1 rfl (Or.inl rfl)) (fun _ _ _ _ _=>Yb) (fun _ _ _ _ _=>(V5 (Zn (Z4y (K:=K)) (pv 0) (pv 2) rfl) (Zj (Z6h (K:=K)) (pv 1) (pv 0) (fun _ _=>rfl)) (Yk (Z0 Za (Z0 Za Z9))))) Zy) Z9))))),?_⟩
  have lx:=hRs.len
  refine⟨_,rfl,rfl,_,rfl,?_⟩
  cases o with
  | none =>
   have e:v=.non:=hv
   refine Lo e ?_
   refine⟨_,rfl,a,xs,rfl,?_⟩
   rcases hA with hA | hA
   ·exact .inl ⟨hA,fun l hl'=>k l _ (Same.new hl') ⟨xs,SqT.of Zc,by rw[Pa];exact hRs.ext (Ext.new hl')⟩⟩
   ·exact .inr ⟨hA,k a H (Same.refl _) ⟨xs,hA,by rw[Pa];exact hRs⟩⟩
  | some p =>
   obtain⟨e9,rfl,he9⟩:=hv
   refine Qr (by intro z;cases z) ?_
   refine⟨_,rfl,a,xs,rfl,hA,(xs.length:Int),rfl,(by omega),(by omega),fun d hd=>?_⟩
   have et:(xs.length:Int).toNat=xs.length:=by omega
   rw[et]
   refine⟨xs.length,fun i ys H2=>Same H H2/\Rs K H2 ((cutR (some p) rs).take i) ys,Zu (by omega),⟨Same.new hd,.nil⟩,?_,?_⟩
   ·rintro i ys H2 hi ⟨S2,R2⟩ hd2
    refine⟨hi,?_⟩
    rintro x H3 ⟨rfl,rfl⟩
    have e0:(0+(i:Int))=((i:Nat):Int):=by omega
    rw[e0]
    refine Yh ?_
    have hir:i<rs.length:=by omega
    have er:rs[i]?=some rs[i]:=by simp[hir]
    obtain⟨x0,ex,ix⟩:=hRs.at er
    have hA2:SqL K H3 a xs \/ SqT K H3 a xs:=hA.elim (fun z=>.inl (V2 S2 z)) fun z=>.inr (Zt S2 z)
    refine⟨_,rfl,_,rfl,e9,_,rfl,.inr (Zt S2 he9),rfl,Sf _,_,rfl,?_⟩
    have ev:inV (.int (i:Int)) ((evI rs.length p).map V.int)=inE (some p) i:=by
     rw[Qv,GI,zD,mem_evI]
     show _ ↔ p i=true
     simp[hir]
    show if inV (.int (i:Int)) ((evI rs.length p).map V.int)=true then _ else _
    rw[ev]
    refine Z3o (fun e=>?_) (fun e=>?_)
    ·refine⟨_,rfl,_,rfl,a,xs,_,_,rfl,rfl,hA2,Zh ex,hd2,fun q o' e=>?_,?_⟩
     ·rw[Zf (Ze e hd)]
      exact S2 _ _ e
     ·rw[Y5 (Wd er),e,YM rfl]
      exact (R2.ext (Ext.upd hd2)).snoc ((ix.ext (Ext.same S2)).ext (Ext.upd hd2))
    ·refine⟨sz2,fun p hp=>?_⟩
     have S3:Same H3 (upd H3 p (.tup [.int 0,.int 1])):=Same.new hp
     have hd3:=S3 _ _ hd2
     refine⟨hd3,fun q o' e=>?_,?_⟩
     ·rw[Zf (Ze e hd)]
      exact S3 _ _ (S2 _ _ e)
     ·rw[Y5 (Wd er),e,YG YT]
      exact (R2.ext ((Ext.same S3).trans (Ext.upd hd3))).snoc ⟨p,rfl,(Ext.upd hd3).sq (SqT.of Zc)⟩
   ·rintro ys H2 ⟨S2,R2⟩ hd2
    refine⟨YE _,d,ys,rfl,.inl ⟨SqL.of hd2,fun l hl'=>?_⟩⟩
    rw[YN (by rw[Ye];omega)] at R2
    exact k l _ (S2.trans (Same.new hl')) ⟨ys,SqT.of Zc,R2.ext (Ext.new hl')⟩
def hZ (K:W.Frag):Sp:=fun vs H Q _=>∃ (c:Nat) (v:V) (o:Option (Nat->Bool)),vs=[.int c,v]/\EvAt K H c o v/\1<=c/\c<=1000/\∀ p H',Same H H'->RowAt K H' p (cutR o (List.replicate c (1,1)))->Q (.ref p) H'
theorem Jz:FnScope ["count","event"] ["count","event"] (defScope k4):=fsc
theorem Rs.rep {H:Hp}{r:Rat}{v:V}(h:IsR K H r v):∀ n:Nat,Rs K H (List.replicate n r) (List.replicate n v)
 | 0=>.nil
 | n+1=>.cons h (Rs.rep h n)
theorem Z32 (D:Def K mg "paper_of" k4 ["count","event"])(gY:Has P w K mg base 2 "cut" ["row","event"] (gM K))(jV:Con K mg "ONE" (1,1)):Has P w K mg base 3 "paper_of" ["count","event"] (hZ K):=by
 refine D.has fun f fd F=>F.ok Jz (fun vs H Q E h=>?_) (fun cdv A outer s H vs Q E hr h=>?_)
 ·obtain⟨c,v,o,rfl,_⟩:=h
  rfl
 ·obtain⟨c,v,o,rfl,hv,h2,hl,k⟩:=h
  obtain⟨c_ONE,m_ONE,s_ONE⟩:=jV
  have sc:=Jz
  refine⟨_,(Zd (Zi (Zg gY hr (Z0 (Zl Gp (Yk (Z0 (X1 (v:=.ref c_ONE) rfl m_ONE rfl) Z9)) (pv 0)) (Z0 (pv 1) Z9))))),?_⟩
  refine⟨sz1,fun t ht=>⟨_,rfl,t,c,[.ref c_ONE],rfl,rfl,SqT.of Zc,by omega,by simp,by simpa using hl,fun p H1 S1' sq=>?_⟩⟩
  have S1:Same H (upd H t (.tup [.ref c_ONE])):=Same.new ht
  have et:(c:Int).toNat=c:=by omega
  have ef:(List.replicate (c:Int).toNat [V.ref c_ONE]).flatten=List.replicate c (V.ref c_ONE):=by rw[et];simp
  rw[ef] at sq
  have S2:=S1.trans S1'
  refine⟨_,rfl,p,v,List.replicate c (1,1),o,rfl,⟨_,sq,Rs.rep ⟨c_ONE,rfl,s_ONE _⟩ c⟩,?_,by simpa using hl,fun p' H' S' R'=>k p' H' (S2.trans S') R'⟩
  rw[JS]
  exact hv.same S2
def i3 (K:W.Frag):Sp:=fun vs H Q _=>∃ (a:Addr) (xs:List V) (rs:List Rat) (n:Nat) (D:Int) (Ws:List Int),vs=[.ref a]/\(SqL K H a xs \/ SqT K H a xs)/\Rs K H rs xs/\RepL n D Ws rs/\n<=4000/\Q (.int (lcmB rs)) H
theorem L4:FnScope ["several","least","one"] ["several"] (defScope kB):=fsc
abbrev Z6 (P:Program)(w:World)(K:W.Frag)(mg:Str->Option Value)(base:Heap):Prop:=Has P w K mg base 2 "common_bottom" ["several"] (i3 K)
theorem Z0p (D:Def K mg "common_bottom" kB ["several"])(eI:Has P w K mg base 1 "common_divisor" ["one","other"] iX):Z6 P w K mg base:=by
 refine D.has fun f fd F=>F.ok L4 (fun vs H Q E h=>?_) (fun cdv A outer s H vs Q E hr h=>?_)
 ·obtain⟨a,xs,rs,n,D,Ws,rfl,_⟩:=h
  rfl
 ·obtain⟨a,xs,rs,n,D,Ws,rfl,hA,hRs,rep,hn,q⟩:=h
  have sc:=L4
  refine⟨_,(Zb (Zk (i:=1) sc.nd rfl (Or.inl rfl) Za)
   (Zb (Xs JC rfl (Bz (pv 0)) (Zm (i:=2) sc.nd rfl (Or.inl rfl))
    (Zd (Zk (i:=1) sc.nd rfl (Or.inl rfl) (Zl W9 (Zl Zw (pv 1) (Zj Yn (pv 2) Za (fun _ _=>rfl))) (Zg eI hr (Z0 (pv 1) (Z0 (Zj Yn (pv 2) Za (fun _ _=>rfl)) Z9)))))))
   (Zd (Zi (pv 1))))),?_⟩
  have lx:=hRs.len
  refine⟨_,rfl,F9 (K:=K) (a:=a) (xs:=xs) (fun i σ H'=>H'=H/\∃ x:Option V,σ=[some (.ref a),some (.int (lcmB (rs.take i))),x]) hA ⟨rfl,none,rfl⟩ (fun i σ H' _ h=>by rw[h.1];exact Same.refl _) ?_ ?_⟩
  ·rintro i x σ H1 hi ⟨rfl,x0,rfl⟩
   obtain⟨r,er,b,rfl,hb⟩:=hRs.back hi
   have g:=rep.good r (YI er)
   have lo:=(rep.take i).least
   have hg:((Int.gcd (lcmB (rs.take i)) r.2:Nat):Int)≠0:=by
    have:=Y05 r.2 (show lcmB (rs.take i)≠0 by have:=lo.pos;omega)
    omega
   have hgb:Bd n ((Int.gcd (lcmB (rs.take i)) r.2:Nat):Int):=g.b2.of_le' (X9 g.pos (ja _ _))
   refine⟨_,rfl,_,rfl,b,_,_,rfl,rfl,hb,_,_,rfl,rfl,lo.bD.mulOk g.b2 (by omega) (by omega),_,rfl,_,rfl,b,_,_,rfl,rfl,hb,_,_,rfl,_,_,rfl,rfl,⟨hg,hgb.log (by omega)⟩,?_⟩
   refine⟨rfl,some (.ref b),?_⟩
   rw[Dw er]
   rfl
  ·rintro σ H1 ⟨rfl,x0,rfl⟩
   rw[← lx,YN (YE _)]
   exact⟨_,rfl,q⟩
def fG (K:W.Frag):Sp:=fun vs H Q _=>∃ (a:Addr) (D:Int) (xs:List V) (rs:List Rat) (n:Nat),vs=[.ref a,.int D]/\(SqL K H a xs \/ SqT K H a xs)/\Rs K H rs xs/\(∀ r∈rs,Good n r)/\Bd n D/\0<D/\n<=4000/\rs.length<=1000 ∧
 ∀ (d:Addr) (H':Hp),H d=none->Same H H'->H' d=some (.lst ((wholeB rs D).map V.int))->Q (.ref d) H'
theorem Pm:FnScope ["several","bottom"] ["several","bottom"] (defScope kX):=fsc
theorem D8 (D:Def K mg "whole_by" kX ["several","bottom"]):Has P w K mg base 1 "whole_by" ["several","bottom"] (fG K):=by
 refine D.has fun f fd F=>F.ok Pm (fun vs H Q E h=>?_) (fun cdv A outer s H vs Q E hr h=>?_)
 ·obtain⟨a,D,xs,rs,n,rfl,_⟩:=h
  rfl
 ·obtain⟨a,D,xs,rs,n,rfl,hA,hRs,g,bD,hD,hn,hl,k⟩:=h
  have sc:=Pm
  have nd1:(["one","bottom"]:List Str).Nodup:=by decide +kernel
  refine⟨_,(Zd (Zi (Yl (N:=["one","bottom"]) (k:=1) (fv:=[1]) rfl (Z4u (pv 0))
   (fun _ _ _ _ _=>Zm (i:=0) nd1 rfl (Or.inl rfl)) (fun _ _ _ _ _=>Yb) (fun _ _ _ _ _=>(Zl Zw (Zj (Z5o (K:=K)) (pv 0) Za (fun _ _=>rfl)) (Zl W9 (pv 1) (Zj (Z5n (K:=K)) (pv 0) Za (fun _ _=>rfl))))) Zy))),?_⟩
  have lx:=hRs.len
  refine⟨_,rfl,a,xs,rfl,hA,fun J G d hd=>?_⟩
  refine⟨xs.length,fun i ys H2=>Same H H2/\ys=((wholeB rs D).take i).map V.int,Zu (by omega),⟨Same.new hd,rfl⟩,?_,?_⟩
  ·rintro i ys H2 hi ⟨S2,rfl⟩ hd2
   refine⟨G.go i H2 S2 hi,?_⟩
   intro x H3 hy
   obtain⟨rfl,ex⟩:=G.yld i H2 x H3 S2 hy
   obtain⟨r,er,ix⟩:=hRs.back ex
   obtain⟨b,rfl,hb⟩:=ix.ext (Ext.same S2)
   have gr:=g r (YI er)
   refine Yh ?_
   refine⟨_,rfl,b,_,_,rfl,rfl,hb,_,rfl,_,rfl,b,_,_,rfl,rfl,hb,_,_,rfl,rfl,⟨by have:=gr.pos;omega,gr.b2.log (by omega)⟩,_,_,rfl,rfl,gr.b1.mulOk (bD.of_le' (M2 hD gr.pos)) (by omega) (by omega),hd2,fun q o' e=>?_,?_⟩
   ·rw[Zf (Ze e hd)]
    exact S2 _ _ e
   ·have:(wholeB rs D)[i]?=some (r.1*D.fdiv r.2):=by unfold wholeB;rw[YD,er];rfl
    rw[Y5 this,XX]
    rfl
  ·rintro ys H2 ⟨S2,rfl⟩ hd2
   refine⟨G.stop H2 S2,?_⟩
   rw[YN (by unfold wholeB;rw[YC];omega)] at hd2
   exact k d H2 hd S2 hd2
end
section
variable {P:Program}{w:World}{K:W.Frag}{mg:Str->Option Value}{base:Heap}{C:Addr}
def rowZ (rs:List Rat):List Int:=wholeB rs (lcmB rs)
theorem V3 (rs:List Rat):(rowZ rs).length=rs.length:=by unfold rowZ wholeB;rw[YC]
def fL (K:W.Frag):Sp:=fun vs H Q _=>∃ (a:Addr) (e:Int) (xs:List V) (rs:List Rat) (n:Nat) (D:Int) (Ws:List Int),vs=[.ref a,.int e]/\(SqL K H a xs \/ SqT K H a xs)/\Rs K H rs xs/\RepL n D Ws rs/\n<=4000/\rs.length<=900 ∧
 ∀ (d:Addr) (H':Hp),H d=none->Same H H'->H' d=some (.lst ((rowZ rs++[e]).map V.int))->Q (.ref d) H'
theorem Sl:FnScope ["row","end"] ["row","end"] (defScope kG):=fsc
theorem Ld (D:Def K mg "whole_line" kG ["row","end"])(eB:Z6 P w K mg base)(fD:Has P w K mg base 1 "whole_by" ["several","bottom"] (fG K)):Has P w K mg base 3 "whole_line" ["row","end"] (fL K):=by
 refine D.has fun f fd F=>F.ok Sl (fun vs H Q E h=>?_) (fun cdv A outer s H vs Q E hr h=>?_)
 ·obtain⟨a,e,xs,rs,n,D,Ws,rfl,_⟩:=h
  rfl
 ·obtain⟨a,e,xs,rs,n,D,Ws,rfl,hA,hRs,rep,hn,hl,k⟩:=h
  have sc:=Sl
  refine⟨_,(Zd (Zi (Zl Z50 (Zg fD hr (Z0 (pv 0) (Z0 (Zg eB hr (Z0 (pv 0) Z9)) Z9))) (W0 (Z0 (pv 1) Z9))))),?_⟩
  have le:=rep.least
  refine⟨_,rfl,_,rfl,a,xs,rs,n,D,Ws,rfl,hA,hRs,rep,hn,a,lcmB rs,xs,rs,n,rfl,hA,hRs,rep.good,le.bD,le.pos,hn,by omega,fun d H1 fd1 S1 e1=>?_⟩
  refine⟨_,rfl,sz1,fun p hp=>?_⟩
  have e1':upd H1 p (.lst [.int e]) d=some (.lst ((rowZ rs).map V.int)):=by rw[Zf (Ze e1 hp)];exact e1
  refine⟨d,p,_,_,rfl,rfl,e1',Zc,?_,fun q hq=>?_⟩
  ·rw[YC,V3]
   exact Zu (show rs.length+1<=1000 by omega)
  have hqH:H q=none:=by
   cases z:H q with
   | none=>rfl
   | some o =>
    have z2:=S1 _ _ z
    rw[Zf (Ze z2 hp)] at hq
    rw[z2] at hq
    cases hq
  refine k q _ hqH (fun x o z=>?_) ?_
  ·have z2:=S1 _ _ z
   rw[Zf (Ze (show upd H1 p (.lst [.int e]) x=some o by rw[Zf (Ze z2 hp)];exact z2) hq),Zf (Ze z2 hp)]
   exact z2
  ·rw[Zc,XX]
   rfl
end
section
variable {P:Program}{w:World}{K:W.Frag}{mg:Str->Option Value}{base:Heap}{C:Addr}
def AOf (rss:List (List Rat))(k v:Nat):Int:=(rowZ (rss.getD k [])).getD v 0
def rowF (rs:List Rat)(v:Nat):Int:=(rowZ rs).getD v 0
def papR (c:Nat)(o:Option (Nat->Bool)):List Rat:=cutR o (List.replicate c (1,1))
def T0S (c:Nat)(rss:List (List Rat))(o:Option (Nat->Bool))(gs:List Rat):Sv.Tab:=Sv.T0 c rss.length (AOf rss) (rowF (papR c o)) (rowF gs)
def g6 (K:W.Frag)(C:Addr):Sp:=fun vs H Q _=>∃ (l g:Addr) (ve:V) (c n:Nat) (rss:List (List Rat)) (o:Option (Nat->Bool)) (gs:List Rat),vs=[.int (c:Int),.ref l,ve,.ref g]/\RowsAt K H l rss/\EvAt K H c o ve/\RowAt K H g gs/\gs.length=c/\(∀ rs∈rss,rs.length=c/\∃ D Ws,RepL n D Ws rs)/\(∃ D Ws,RepL n D Ws gs)/\1<=n/\n<=4000/\1<=c/\c<=800/\rss.length<=800 ∧
 ∀ (q:Addr) (H':Hp),Same H H'->TabAt C H' q (rss.length+2) c (c+rss.length) (T0S c rss o gs)->Q (.ref q) H'
theorem U6 {c:Nat}{rs:List Rat}{e:Int}{F:Nat->Int}(hl:rs.length=c)(h:∀ j,j<c->F j=(rowZ rs).getD j 0)(he:F c=e):rowZ rs++[e]=(List.range (c+1)).map F:=by
 refine Vb (by simp[V3,hl]) fun i hi=>?_
 by_cases q:i<c
 ·rw[JE (by rw[V3];omega),h i q]
  simp[List.getD,show i<(rowZ rs).length by rw[V3];omega]
 ·have:i=c:=by omega
  subst this
  rw[XY (by rw[V3];omega),he]
  simp[V3,hl]
theorem Jv:FnScope ["count","rows","event","goal","lines"] ["count","rows","event","goal"] (defScope lS):=fsc
theorem Z2y (D:Def K mg "start" lS ["count","rows","event","goal"])(fA:Has P w K mg base 3 "whole_line" ["row","end"] (fL K))(i5:Has P w K mg base 3 "paper_of" ["count","event"] (hZ K))(gQ:Has P w K mg base 3 "first_table" ["lines"] (iF C)):Has P w K mg base 4 "start" ["count","rows","event","goal"] (g6 K C):=by
 refine D.has fun f fd F=>F.ok Jv (fun vs H Q E h=>?_) (fun cdv A outer s H vs Q E hr h=>?_)
 ·obtain⟨l,g,ve,c,n,rss,o,gs,rfl,_⟩:=h
  rfl
 ·obtain⟨l,g,ve,c,n,rss,o,gs,rfl,⟨as,hl,hp⟩,hv,hg,gl,hrs,⟨Dg,Wg,rg⟩,hn1,hn,hc2,hc,hm,k⟩:=h
  have sc:=Jv
  have nd1:(["row"]:List Str).Nodup:=by decide +kernel
  refine⟨_,(Zb (Wp (i:=4) (N:=["row"]) (k:=1) (fv:=[]) sc.nd rfl (Or.inl rfl) rfl (Xd (pv 1))
   (fun _ _ _ _ _=>Zm (i:=0) nd1 rfl (Or.inl rfl)) (fun _ _ _ _ _=>Yb) (fun _ _ _ _ _=>(Zg fA hr (Z0 (pv 0) (Z0 Za Z9)))) Zy)
   (Zb (Xl (Vr XR JQ JR Yy (pv 4) (Z0 (Zg fA hr (Z0 (Zg i5 hr (Z0 (pv 0) (Z0 (pv 2) Z9))) (Z0 Za Z9))) Z9)))
   (Zb (Xl (Vr XR JQ JR Yy (pv 4) (Z0 (Zg fA hr (Z0 (pv 3) (Z0 Za Z9))) Z9)))
   (Zd (Zi (Zg gQ hr (Z0 (pv 4) Z9))))))),?_⟩
  have lx:=XW hp
  refine⟨_,rfl,l,rfl,⟨_,SqL.of hl⟩,fun d hd=>?_⟩
  refine⟨as.length,fun i ys H2=>Same H H2/\∃ ns:List Addr,ys=ns.map V.ref/\ns.length=i/\∀ (t:Nat) (a:Addr),ns[t]?=some a->a≠d/\H2 a=some (.lst ((rowZ (rss.getD t [])++[0]).map V.int)),Zu (by omega),⟨Same.new hd,[],rfl,rfl,fun t a e=>by simp at e⟩,?_,?_⟩
  ·rintro i ys H2 hi ⟨S2,ns,rfl,l2,q2⟩ hd2
   have ei:as[i]?=some (as[i]'hi):=by simp
   have er:rss[i]?=some (rss[i]'(by omega)):=by simp
   refine⟨⟨_,V.ref (as[i]'hi),SqL.of (S2 _ _ hl),by simp⟩,?_⟩
   rintro x H3 ⟨rfl,fx⟩
   have ex:x=V.ref (as[i]'hi):=by
    have:=fx _ (SqL.of (S2 _ _ hl))
    rw[YD,ei] at this
    exact (YK this).symm
   subst ex
   refine Yh ?_
   obtain⟨xs,h1,h2⟩:=(Paired.getB hp ei er).same S2
   obtain⟨hrl,Dr,Wr,rr⟩:=hrs _ (YI er)
   refine⟨_,rfl,_,_,xs,_,n,Dr,Wr,rfl,.inr h1,h2,rr,hn,by omega,fun a4 H4 f4 S4 e4=>?_⟩
   have hd4:=S4 _ _ hd2
   have hne:a4≠d:=fun z=>by rw[z] at f4;rw[f4] at hd2;cases hd2
   refine⟨hd4,fun q o e=>?_,ns++[a4],by rw[XX];rfl,by rw[XD,l2];rfl,fun t a e=>?_⟩
   ·rw[Zf (Ze e hd)]
    exact S4 _ _ (S2 _ _ e)
   ·by_cases q:t<ns.length
    ·rw[JE q] at e
     have:=q2 t a e
     refine⟨this.1,?_⟩
     rw[Zf this.1]
     exact S4 _ _ this.2
    ·rw[XY (by omega)] at e
     have hk0:t - ns.length=0:=by
      have:=(YH.mp e).1
      simp at this
      omega
     rw[hk0] at e
     cases e
     have hti:t=i:=by omega
     subst hti
     refine⟨hne,?_⟩
     rw[Zf hne]
     have eg:rss.getD t []=rss[t]'(by omega):=by simp[List.getD,show t<rss.length by omega]
     rw[eg]
     exact e4
  ·rintro ys H2 ⟨S2,ns,rfl,l2,q2⟩ hd2
   refine⟨⟨_,SqL.of (S2 _ _ hl),by simp⟩,?_⟩
   have rpap:RepL n 1 (cutZ o (List.replicate c 1)) (papR c o):=((RepL.ones c).cut o).mono hn1
   have lpap:(papR c o).length=c:=by
    have:=rpap.len
    rw[Xy] at this
    simpa using this.symm
   refine⟨_,rfl,.inl ⟨rfl,_,SqL.of hd2⟩,_,rfl,_,rfl,c,ve,o,rfl,hv.same S2,hc2,by omega,fun p H3 S3 rp=>?_⟩
   obtain⟨xp,rp1,rp2⟩:=rp
   refine⟨p,1,xp,papR c o,n,_,_,rfl,.inr rp1,rp2,rpap,hn,by omega,fun a4 H4 f4 S4 e4=>?_⟩
   have hd4:=S4 _ _ (S3 _ _ hd2)
   have hne4:a4≠d:=fun z=>by rw[z] at f4;rw[S3 _ _ hd2] at f4;cases f4
   refine⟨d,_,_,rfl,rfl,hd4,?_,?_⟩
   ·rw[YC]
    exact Zu (show ns.length+1<=1000 by omega)
   have S14:Same H (upd H4 d (.lst (ns.map V.ref++[.ref a4]))):=fun q z y=>by
    rw[Zf (Ze y hd)]
    exact S4 _ _ (S3 _ _ (S2 _ _ y))
   have q4:∀ (t:Nat) (a:Addr),(ns++[a4])[t]?=some a->a≠d/\upd H4 d (.lst (ns.map V.ref++[.ref a4])) a=some (.lst ((if t<as.length then rowZ (rss.getD t [])++[0] else rowZ (papR c o)++[1]).map V.int)):=fun t a e=>by
    by_cases q:t<ns.length
    ·rw[JE q] at e
     have:=q2 t a e
     refine⟨this.1,?_⟩
     rw[Zf this.1,YM (by omega)]
     exact S4 _ _ (S3 _ _ this.2)
    ·rw[XY (by omega)] at e
     have hk0:t - ns.length=0:=by
      have:=(YH.mp e).1
      simp at this
      omega
     rw[hk0] at e
     cases e
     refine⟨hne4,?_⟩
     rw[Zf hne4,YG (by omega)]
     exact e4
   have hd5:upd H4 d (.lst (ns.map V.ref++[.ref a4])) d=some (.lst ((ns++[a4]).map V.ref)):=by rw[Zc,XX];rfl
   generalize upd H4 d (.lst (ns.map V.ref++[.ref a4]))=H5 at *
   obtain⟨xg,hg1,hg2⟩:=hg.same S14
   refine⟨_,rfl,.inl ⟨rfl,_,SqL.of hd5⟩,_,rfl,g,0,xg,gs,n,_,_,rfl,.inr hg1,hg2,rg,hn,by omega,fun a6 H6 f6 S6 e6=>?_⟩
   have hd6:=S6 _ _ hd5
   have hne6:a6≠d:=fun z=>by rw[z] at f6;rw[hd5] at f6;cases f6
   refine⟨d,_,_,rfl,rfl,hd6,?_,?_⟩
   ·rw[YC,XD]
    exact Zu (show ns.length+1+1<=1000 by omega)
   have S17:Same H (upd H6 d (.lst ((ns++[a4]).map V.ref++[.ref a6]))):=fun q z y=>by
    rw[Zf (Ze y hd)]
    exact S6 _ _ (S14 _ _ y)
   have hd7:upd H6 d (.lst ((ns++[a4]).map V.ref++[.ref a6])) d=some (.lst ((ns++[a4]++[a6]).map V.ref)):=by rw[Zc,XX (l₁:=ns++[a4])];rfl
   refine⟨_,rfl,d,rss.length,c,ns++[a4]++[a6],T0S c rss o gs,rfl,hd7,by simp;omega,fun t a e=>?_,by omega,by omega,rfl,fun _=>rfl,fun _=>rfl,fun q H8 S8 tab=>k q H8 (S17.trans S8) tab⟩
   have key:∀ (t:Nat) (a:Addr),(ns++[a4]++[a6])[t]?=some a->a≠d/\upd H6 d (.lst ((ns++[a4]).map V.ref++[.ref a6])) a=some (.lst ((if t<rss.length then rowZ (rss.getD t [])++[0] else if t=rss.length then rowZ (papR c o)++[1] else rowZ gs++[0]).map V.int))/\t<rss.length+2:=fun t a e=>by
    by_cases q:t<(ns++[a4]).length
    ·rw[JE q] at e
     have:=q4 t a e
     rw[XD] at q
     simp at q
     refine⟨this.1,?_,by omega⟩
     rw[Zf this.1,S6 _ _ this.2]
     by_cases q':t<rss.length
     ·rw[YM q',YM (by omega)]
     ·rw[YG q',YG (by omega),YM (by omega)]
    ·rw[XY (by omega)] at e
     have hk0:t - (ns++[a4]).length=0:=by
      have:=(YH.mp e).1
      simp at this
      simp
      omega
     rw[hk0] at e
     cases e
     simp at q hk0
     refine⟨hne6,?_,by omega⟩
     rw[Zf hne6,YG (by omega),YG (by omega)]
     exact e6
   obtain⟨_,e7,ht⟩:=key t a e
   rw[e7]
   congr 2
   unfold lineI
   by_cases q:t<rss.length
   ·rw[YM q]
    have er:rss[t]?=some (rss[t]'q):=by simp
    have eg:rss.getD t []=rss[t]'q:=by simp[List.getD,q]
    refine congrArg _ (U6 ?_ (fun j hj=>?_) ?_)
    ·rw[eg]
     exact (hrs _ (YI er)).1
    ·show (if j<c then Sv.colS c rss.length (AOf rss) (rowF (papR c o)) (rowF gs) j t else _)=_
     rw[YM hj]
     unfold Sv.colS
     rw[YM hj,YM q]
     rfl
    ·show (if c<c then _ else Sv.rhsS rss.length t)=_
     rw[YG (by omega)]
     unfold Sv.rhsS
     rw[YG (by omega)]
   ·rw[YG q]
    by_cases q':t=rss.length
    ·rw[YM q']
     refine congrArg _ (U6 lpap (fun j hj=>?_) ?_)
     ·show (if j<c then Sv.colS c rss.length (AOf rss) (rowF (papR c o)) (rowF gs) j t else _)=_
      rw[YM hj]
      unfold Sv.colS
      rw[YM hj,YG q,YM q']
      rfl
     ·show (if c<c then _ else Sv.rhsS rss.length t)=_
      rw[YG (by omega)]
      unfold Sv.rhsS
      rw[YM q']
    ·rw[YG q']
     refine congrArg _ (U6 gl (fun j hj=>?_) ?_)
     ·show (if j<c then Sv.colS c rss.length (AOf rss) (rowF (papR c o)) (rowF gs) j t else _)=_
      rw[YM hj]
      unfold Sv.colS
      rw[YM hj,YG q,YG q']
      rfl
     ·show (if c<c then _ else Sv.rhsS rss.length t)=_
      rw[YG (by omega)]
      unfold Sv.rhsS
      rw[YG q']
end
section
variable {P:Program}{w:World}{K:W.Frag}{mg:Str->Option Value}{base:Heap}{C:Addr}
def multR (c:Nat)(rss:List (List Rat))(T:Sv.Tab)(i:Nat)(b:Int):List Rat:=(List.range rss.length).map fun k=>nrm (-(Sv.numAt c T i (c+k))*lcmB (rss.getD k [])) (b*T.b)
theorem Bd.zero (n:Nat):Bd n 0:=jz n
theorem TabOk.numBd {m n N i:Nat}{T:Sv.Tab}(h:TabOk m n T)(bd:TabBd N m n T)(hi:i<m)(v:Nat):Bd N (Sv.numAt n T i v):=by
 by_cases q:∃ j,j<n/\T.hd j=v
 ·obtain⟨j,hj,rfl⟩:=q
  rw[h.numH hj]
  exact bd.l i j hi (by omega)
 ·have:Sv.numAt n T i v=0:=Sv.sm_zero fun j hj=>YG fun z=>q ⟨j,hj,z⟩
  rw[this]
  exact Bd.zero N
def hG (K:W.Frag)(C:Addr):Sp:=fun vs H Q _=>∃ (l p:Addr) (c m lk i n N:Nat) (b:Int) (rss:List (List Rat)) (T:Sv.Tab),vs=[.int (c:Int),.ref l,.ref p,.int (T.own i:Int),.int b]/\RowsAt K H l rss/\TabAt C H p m c lk T/\TabOk m c T/\TabBd N m c T/\0<T.b/\i<m/\m<=900/\c<=900/\rss.length<=900/\(∀ rs∈rss,∃ D Ws,RepL n D Ws rs)/\0<b/\Bd n b/\n<=4000/\n+N<=8800 ∧
 ∀ (q:Addr) (xs:List V) (H':Hp),H q=none->Same H H'->H' q=some (.lst xs)->Rs K H' (multR c rss T i b) xs->Q (.ref q) H'
theorem Jy:FnScope ["count","rows","table","owner","bottom","told","number","row","top"] ["count","rows","table","owner","bottom"] (defScope j6):=fsc
theorem Z30 (D:Def K mg "shown_multiples" j6 ["count","rows","table","owner","bottom"])(T0:Blt mg)(tc:TabC K mg C)(iK:Has P w K mg base 2 "number_at" ["table","owner","thing"] (h9 C))(eB:Z6 P w K mg base)(fJ:Has P w K mg base 3 "ratio" ["top","bottom"] eQ):Has P w K mg base 4 "shown_multiples" ["count","rows","table","owner","bottom"] (hG K C):=by
 refine D.has fun f fd F=>F.ok Jy (fun vs H Q E h=>?_) (fun cdv A outer s H vs Q E hr h=>?_)
 ·obtain⟨l,p,c,m,lk,i,n,N,b,rss,T,rfl,_⟩:=h
  rfl
 ·obtain⟨l,p,c,m,lk,i0,n,N,b,rss,Tb,rfl,⟨as,hl,hp⟩,tab,ok,bd,hb,hi0,hm,hc,hrl,hrs,hb0,bb,hn,hN,kk⟩:=h
  obtain⟨dx,la,oa,ha,las,h1,h2,h3,h4,h5,h6⟩:=id tab
  have sc:=Jy
  have T:=T0
  have lx:=XW hp
  refine⟨_,(Zb (Zk (i:=5) sc.nd rfl (Or.inl rfl) (W0 Z9))
   (Zb (Xs JC rfl (Qc rfl T.enumerate (Z0 (pv 1) Z9)) (Wl (n:=2) rfl (Y7 (Zm (i:=6) sc.nd rfl (Or.inl rfl)) (Y7 (Zm (i:=7) sc.nd rfl (Or.inl rfl)) Xm)))
    (Zb (Zk (i:=8) sc.nd rfl (Or.inl rfl) (Zl Zw (Vq Xz (Zg iK hr (Z0 (pv 2) (Z0 (pv 3) (Z0 (Zl Yz (pv 0) (pv 6)) Z9))))) (Zg eB hr (Z0 (pv 7) Z9))))
    (Zd (Xl (Vr XR JQ JR Yy (pv 5) (Z0 (Zg fJ hr (Z0 (pv 8) (Z0 (Zl Zw (pv 4) (Yg (pv 2) rfl)) Z9))) Z9))))))
   (Zd (Zi (pv 5))))),?_⟩
  refine⟨sz0,fun d hd=>?_⟩
  refine⟨_,rfl,l,rfl,⟨_,SqL.of ((Same.new hd) _ _ hl)⟩,Se (K:=K) (a:=l) (xs:=as.map V.ref) (fun i σ H'=>Same H H'/\∃ (xs:List V) (x y z:Option V),H' d=some (.lst xs)/\Rs K H' ((multR c rss Tb i0 b).take i) xs/\σ=[some (.int (c:Int)),some (.ref l),some (.ref p),some (.int (Tb.own i0:Int)),some (.int b),some (.ref d),x,y,z]) ⟨Same.new hd,[],none,none,none,Zc,.nil,rfl⟩ (fun i σ H' _ h=>SqL.of (h.1 _ _ hl)) ?_ ?_⟩
  ·rintro i v σ H1 pp hi ⟨S1,xs,x,y,z,hd1,rs1,rfl⟩ hpp
   have him:i<as.length:=by
    have:=(YH.mp hi).1
    rw[YC] at this
    exact this
   have ei:as[i]?=some (as[i]'him):=by simp
   have er:rss[i]?=some (rss[i]'(by omega)):=by simp
   have eg:rss.getD i []=rss[i]'(by omega):=by simp[List.getD,show i<rss.length by omega]
   rw[YD,ei] at hi
   cases hi
   refine⟨pp,_,rfl,SqT.of Zc,rfl,_,_,rfl,_,_,rfl,rfl,?_⟩
   have S2:Same H1 (upd H1 pp (.tup [.int (i:Int),.ref (as[i]'him)])):=Same.new hpp
   generalize upd H1 pp (.tup [.int (i:Int),.ref (as[i]'him)])=H2 at *
   have S02:=S1.trans S2
   obtain⟨us,hu1,hu2⟩:=(Paired.getB hp ei er).same S02
   obtain⟨Dr,Wr,rr⟩:=hrs _ (YI er)
   have lcb:=rr.least
   refine⟨_,rfl,_,rfl,_,rfl,_,rfl,_,_,rfl,rfl,p,m,c,lk,i0,c+i,Tb,rfl,tab.same S02,ok,hi0,by omega,by omega,_,rfl,_,rfl,_,us,_,n,Dr,Wr,rfl,.inr hu1,hu2,rr,by omega,_,_,rfl,rfl,((ok.numBd bd hi0 (c+i)).neg).mulOk lcb.bD (by omega) (by omega),?_⟩
   refine⟨_,rfl,.inl ⟨rfl,_,SqL.of (S2 _ _ hd1)⟩,_,rfl,_,rfl,_,rfl,p,C,dx,_,_,rfl,S02 _ _ h1,tc.cl,tc.nB,Va,_,_,rfl,rfl,bb.mulOk bd.b (by omega) (by omega),?_⟩
   have hq0:b*Tb.b≠0:=by
    have:=YZ hb0 hb
    omega
   refine⟨_,_,rfl,hq0,(bb.mul bd.b).log (by omega),fun a H3 f3 S3 e3=>?_⟩
   have hd3:=S3 _ _ (S2 _ _ hd1)
   refine⟨d,xs,_,rfl,rfl,hd3,?_,?_⟩
   ·have:=rs1.len
    rw[GC] at this
    exact Zu (show xs.length+1<=1000 by omega)
   refine⟨fun q o e=>?_,xs++[.ref a],_,_,_,Zc,?_,rfl⟩
   ·rw[Zf (Ze e hd)]
    exact S3 _ _ (S02 _ _ e)
   ·have e4:(multR c rss Tb i0 b)[i]?=some (nrm (-(Sv.numAt c Tb i0 (c+i))*lcmB (rss.getD i [])) (b*Tb.b)):=by
     unfold multR
     rw[YD,qm (show i<rss.length by omega)]
     rfl
    rw[Y5 e4]
    refine Paired.appP ((rs1.ext (Ext.same (S2.trans S3))).ext (Ext.upd hd3)) (.cons ⟨a,rfl,?_⟩ .nil)
    refine SqT.of ?_
    rw[Zf (fun z=>by rw[z] at e3;rw[e3] at hd3;cases hd3),eg]
    exact e3
  ·rintro σ H1 ⟨S1,xs,x,y,z,hd1,rs1,rfl⟩
   rw[YN (by unfold multR;simp[lx])] at rs1
   exact⟨_,rfl,kk d xs H1 hd S1 hd1 rs1⟩
end
end Sb
namespace Sv
def sN:Nat->(Nat->Nat)->Nat
 | 0,_=>0
 | n+1,f=>sN n f+f n
def pN:Nat->(Nat->Nat)->Nat
 | 0,_=>1
 | n+1,f=>pN n f*f n
theorem Z49 {f g:Nat->Nat}:∀ {n:Nat},(∀ k,k<n->f k<=g k)->sN n f<=sN n g
 | 0,_=>YE _
 | n+1,h=>Nat.add_le_add (Z49 fun k hk=>h k (by omega)) (h n (by omega))
theorem pN_le {f g:Nat->Nat}:∀ {n:Nat},(∀ k,k<n->f k<=g k)->pN n f<=pN n g
 | 0,_=>YE _
 | n+1,h=>Nat.mul_le_mul (pN_le fun k hk=>h k (by omega)) (h n (by omega))
theorem sN_congr {f g:Nat->Nat}:∀ {n:Nat},(∀ k,k<n->f k=g k)->sN n f=sN n g
 | 0,_=>rfl
 | n+1,h=>by
  show sN n f+f n=sN n g+g n
  rw[sN_congr (n:=n) fun k hk=>h k (by omega),h n (by omega)]
theorem Bk (f:Nat->Nat)(b:Nat):∀ n,sN n (fun k=>f k*b)=sN n f*b
 | 0=>by show 0=0*b;rw[Nat.zero_mul]
 | n+1=>by
  show sN n (fun k=>f k*b)+f n*b=(sN n f+f n)*b
  rw[Bk f b n,Nat.add_mul]
theorem Jp {f:Nat->Int}:∀ {n:Nat},(sm n f).natAbs<=sN n (fun k=>(f k).natAbs)
 | 0=>by show (0:Int).natAbs<=0;decide
 | n+1=>by
  show (sm n f+f n).natAbs<=sN n (fun k=>(f k).natAbs)+(f n).natAbs
  have:=Jp (f:=f) (n:=n)
  have:=Int.natAbs_add_le (sm n f) (f n)
  omega
theorem sN_const {f:Nat->Nat}{M:Nat}:∀ {n:Nat},(∀ k,k<n->f k<=M)->sN n f<=n*M
 | 0,_=>JZ _
 | n+1,h=>by
  have h1:=sN_const (n:=n) (f:=f) (M:=M) fun k hk=>h k (by omega)
  have h2:=h n (by omega)
  show sN n f+f n<=(n+1)*M
  rw[Y0I]
  omega
section
variable {m n:Nat}{col:Nat->Vec}{rhs:Vec}{T:Tab}
def isW (n v:Nat):Nat:=if v<n then 1 else 0
end
end Sv
namespace Sb
open PySem L2
theorem Nh {rs:List Rat}{v:Nat}{r:Rat}(h:rs[v]?=some r):rowF rs v=r.1*(lcmB rs).fdiv r.2:=by
 unfold rowF rowZ wholeB
 simp[List.getD,h]
theorem Ng {n:Nat}{D:Int}{Ws:List Int}{rs:List Rat}(h:RepL n D Ws rs)(v:Nat):Bd n (rowF rs v):=by
 unfold rowF
 exact Nz (fun z hz=>(h.least).bdW z hz) v
theorem U2 (c:Nat)(o:Option (Nat->Bool)):(papR c o).length=c:=by unfold papR;rw[Ye];simp
theorem U1 (c:Nat)(o:Option (Nat->Bool)):RepL 1 1 (cutZ o (List.replicate c 1)) (papR c o):=(RepL.ones c).cut o
theorem Z4w {c v:Nat}{o:Option (Nat->Bool)}(hv:v<c):rowF (papR c o) v=if inE o v then lcmB (papR c o) else 0:=by
 rw[Nh (show (papR c o)[v]?=some (if inE o v then (1,1) else (0,1)) from Wd (by simp[hv]))]
 cases inE o v <;> simp
theorem Z2n {c v:Nat}{o:Option (Nat->Bool)}(hv:v<c):0<=rowF (papR c o) v:=by
 rw[Z4w hv]
 have:=(U1 c o).least.pos
 split <;> omega
theorem D6 {c v:Nat}{o:Option (Nat->Bool)}{rs:List Rat}(hv:v<c)(hl:rs.length=c)(h:rowF (papR c o) v=0):rowF (cutR o rs) v=0:=by
 rw[Z4w hv] at h
 have:=(U1 c o).least.pos
 have e:inE o v=false:=by
  cases q:inE o v with
  | false=>rfl
  | true=>rw[q,YM rfl] at h;omega
 rw[Nh (Wd (show rs[v]?=some (rs[v]'(by omega)) by simp)),e]
 simp
abbrev InvR (c:Nat)(rss:List (List Rat))(o:Option (Nat->Bool))(gs:List Rat)(T:Sv.Tab):Prop:=Sv.InvS c rss.length (AOf rss) (rowF (papR c o)) (rowF gs) T
def bitsOf (n c g:Nat):Nat:=(n+5)*min c (g+2)+1
end Sb
namespace Sv
theorem La (f:Nat->Nat):∀ n,pN (n+1) f=f 0*pN n (fun r=>f (r+1))
 | 0=>by show 1*f 0=f 0*1;omega
 | n+1=>by
  show pN (n+1) f*f (n+1)=f 0*(pN n (fun r=>f (r+1))*f (n+1))
  rw[La f n,Nat.mul_assoc]
theorem Gf (f:Nat->Nat)(k:Nat):∀ m,sN m (fun i=>f (skip k i))<=sN (m+1) f
 | 0=>JZ _
 | m+1=>by
  show sN m (fun i=>f (skip k i))+f (skip k m)<=sN (m+1) f+f (m+1)
  by_cases h:m<k
  ·have e:skip k m=m:=by unfold skip;split <;> omega
   have e2:sN m (fun i=>f (skip k i))=sN m f:=sN_congr fun i hi=>by
    have:skip k i=i:=by unfold skip;split <;> omega
    rw[this]
   rw[e,e2]
   show sN m f+f m<=sN m f+f m+f (m+1)
   omega
  ·have e:skip k m=m+1:=by unfold skip;split <;> omega
   have:=Gf f k m
   rw[e]
   omega
theorem Z1s:∀ {m:Nat} {v:Mat} {w:Nat->Nat},(∀ r,r<m->sN m (fun k=>(v k r).natAbs)<=w r)->(det m v).natAbs<=pN m w
 | 0,_,_,_=>by show (1:Int).natAbs<=1;decide
 | m+1,v,w,h=>by
  have key:(sm (m+1) (fun k=>sgn k*v k 0*det m (minor v k))).natAbs<=sN (m+1) (fun k=>(v k 0).natAbs*pN m (fun r=>w (r+1))):=by
   refine XU Jp (Z49 fun k hk=>?_)
   show (sgn k*v k 0*det m (minor v k)).natAbs<=_
   rw[qg,qg,Jq,Nat.one_mul]
   refine Y0V _ (Z1s (m:=m) fun r hr=>?_)
   exact XU (Gf (fun i=>(v i (r+1)).natAbs) k m) (h (r+1) (by omega))
  refine XU key ?_
  rw[Bk,La]
  exact GM _ (h 0 (by omega))
section
variable {m n:Nat}{col:Nat->Vec}{rhs:Vec}{T:Tab}
theorem Inv.sizeR (I:Inv m n col rhs T){B:Nat->Nat}(hc:∀ v r,v<n+m->r<m->(col v r).natAbs<=B r)(hr:∀ r,r<m->(rhs r).natAbs<=B r){i j:Nat}(hi:i<m)(hj:j<=n):(T.L i j).natAbs<=pN m (fun r=>m*B r):=by
 rw[← I.phi hi hj]
 refine Z1s fun r hr'=>sN_const fun k hk=>?_
 by_cases e:k=i
 ·subst e
  rw[Yf]
  by_cases hjn:j<n
  ·rw[Wo hjn]
   exact hc _ _ (I.hdLt hjn) hr'
  ·unfold colOf
   rw[YG hjn]
   exact hr r hr'
 ·rw[Ya e]
  exact hc _ _ (I.ownLt hk) hr'
theorem Inv.sizeBR (I:Inv m n col rhs T){B:Nat->Nat}(hc:∀ v r,v<n+m->r<m->(col v r).natAbs<=B r):T.b.natAbs<=pN m (fun r=>m*B r):=by
 rw[← I.dt]
 exact Z1s fun r hr'=>sN_const fun k hk=>hc _ _ (I.ownLt hk) hr'
theorem pN_two (x:Nat->Nat):∀ m,pN m (fun r=>2 ^ x r)=2 ^ sN m x
 | 0=>rfl
 | m+1=>by
  show pN m (fun r=>2 ^ x r)*2 ^ x m=2 ^ (sN m x+x m)
  rw[pN_two x m,Y0Q]
end
end Sv
namespace Sb
open PySem L2
theorem Z28 {c ng:Nat}{nb:Nat->Nat}{rss:List (List Rat)}{o:Option (Nat->Bool)}{gs:List Rat}{T:Sv.Tab}(hrs:∀ (r:Nat) (rs:List Rat),rss[r]?=some rs->∃ D Ws,RepL (nb r) D Ws rs)(hgs:∃ D Ws,RepL ng D Ws gs)(hm:rss.length+2<=32)(I:InvR c rss o gs T):TabBd (Sv.sN rss.length (fun r=>nb r+5)+ng+12) (rss.length+2) c T:=by
 have hcol:∀ v r,v<c+(rss.length+2)->r<rss.length+2->(Sv.colS c rss.length (AOf rss) (rowF (papR c o)) (rowF gs) v r).natAbs<=2 ^ (if r<rss.length then nb r else if r=rss.length then 1 else ng):=fun v r _ _=>by
  have p1:1<=2 ^ (if r<rss.length then nb r else if r=rss.length then 1 else ng):=jz _
  unfold Sv.colS
  split
  ·split
   ·rename_i h
    have er:rss[r]?=some (rss[r]'h):=by simp
    have eg:rss.getD r []=rss[r]'h:=by simp[List.getD,h]
    obtain⟨D,Ws,rp⟩:=hrs r _ er
    have:=Ng rp v
    unfold AOf
    rw[eg]
    exact JK this
   ·split
    ·exact JK (Ng (U1 c o) v)
    ·obtain⟨D,Ws,rp⟩:=hgs
     exact JK (Ng rp v)
  ·split
   ·exact p1
   ·exact JZ _
 have hrhs:∀ r,r<rss.length+2->(Sv.rhsS rss.length r).natAbs<=2 ^ (if r<rss.length then nb r else if r=rss.length then 1 else ng):=fun r _=>by
  have p1:1<=2 ^ (if r<rss.length then nb r else if r=rss.length then 1 else ng):=jz _
  unfold Sv.rhsS
  split
  ·exact jz _
  ·exact JZ _
 have fin:∀ x,x<=Sv.pN (rss.length+2) (fun r=>(rss.length+2)*2 ^ (if r<rss.length then nb r else if r=rss.length then 1 else ng))->x<2 ^ (Sv.sN rss.length (fun r=>nb r+5)+ng+12):=fun x h=>by
  have h2:Sv.pN (rss.length+2) (fun r=>(rss.length+2)*2 ^ (if r<rss.length then nb r else if r=rss.length then 1 else ng))<=Sv.pN (rss.length+2) (fun r=>2 ^ ((if r<rss.length then nb r else if r=rss.length then 1 else ng)+5)):=Sv.pN_le fun r _=>by
   show (rss.length+2)*2 ^ _<=2 ^ (_+5)
   rw[Y0Q,Y04]
   exact Y0V _ (show rss.length+2<=2 ^ 5 by omega)
  rw[Sv.pN_two] at h2
  refine GA (XU h h2) (Nat.pow_lt_pow_right (by decide) ?_)
  show Sv.sN rss.length (fun r=>(if r<rss.length then nb r else if r=rss.length then 1 else ng)+5)+((if rss.length<rss.length then nb rss.length else if rss.length=rss.length then 1 else ng)+5)+((if rss.length+1<rss.length then nb (rss.length+1) else if rss.length+1=rss.length then 1 else ng)+5)<_
  have e:Sv.sN rss.length (fun r=>(if r<rss.length then nb r else if r=rss.length then 1 else ng)+5)=Sv.sN rss.length (fun r=>nb r+5):=Sv.sN_congr fun k hk=>by rw[YM hk]
  rw[e,YG (XQ _),YM rfl,YG (by omega),YG (by omega)]
  omega
 exact⟨fun i j hi hj=>fin _ (I.sizeR hcol hrhs hi hj),fin _ (I.sizeBR hcol)⟩
section
variable {P:Program}{w:World}{K:W.Frag}{mg:Str->Option Value}{base:Heap}{C:Addr}
structure NoneT (c:Nat)(rss:List (List Rat))(o:Option (Nat->Bool))(gs:List Rat)(T:Sv.Tab):Prop where
 inv:InvR c rss o gs T
 lk:T.own rss.length=c+rss.length
 aim:T.own (rss.length+1)=c+rss.length+1
 no:∀ j,j<c->T.hd j≠c+rss.length->T.L rss.length j<=0
structure MostT (c:Nat)(rss:List (List Rat))(o:Option (Nat->Bool))(gs:List Rat)(T:Sv.Tab):Prop where
 inv:InvR c rss o gs T
 feas:Sv.Feas (rss.length+2) c (c+rss.length) T
 aim:T.own (rss.length+1)=c+rss.length+1
 lk:∃ jl,jl<c/\T.hd jl=c+rss.length
 no:∀ j,j<c->T.hd j≠c+rss.length->T.L (rss.length+1) j<=0
def loadsR (c g:Nat)(T:Sv.Tab):List Rat:=(List.range c).map fun v=>nrm (Sv.endOf (g+2) c T v) T.b
def valueR (c g:Nat)(gs:List Rat)(T:Sv.Tab):Rat:=nrm (-Sv.endOf (g+2) c T (c+g+1)) (lcmB gs*T.b)
theorem Tv {H H':Hp}{q:Addr}(S:Same H H')(h:H' q=none):H q=none:=by
 cases z:H q with
 | none=>rfl
 | some o =>
  have:=S _ _ z
  rw[h] at this
  cases this
def iR (K:W.Frag):Sp:=fun vs H Q _=>∃ (l g:Addr) (ve:V) (c n N:Nat) (rss:List (List Rat)) (o:Option (Nat->Bool)) (as:List Rat),vs=[.int (c:Int),.ref l,ve,.ref g]/\RowsAt K H l rss/\EvAt K H c o ve/\RowAt K H g as/\as.length=c/\(∀ rs∈rss,rs.length=c/\∃ D Ws,RepL n D Ws rs)/\(∃ D Ws,RepL n D Ws as)/\1<=n/\n<=4000/\N<=8000/\n+N<=8800/\(∀ T':Sv.Tab,InvR c rss o (cutR o as) T'->TabBd N (rss.length+2) c T')/\1<=c/\c<=800/\rss.length+2<=32 ∧
 (∀ (T:Sv.Tab) (q t:Addr) (xs:List V) (H':Hp),H q=none->Same H H'->NoneT c rss o (cutR o as) T->H' q=some (.lst xs)->Rs K H' (multR c rss T rss.length 1) xs->SqT K H' t [.str "none",.ref q]->Q (.ref t) H') ∧
 (∀ (T:Sv.Tab) (q t va lo:Addr) (xs:List V) (H':Hp),H q=none->Same H H'->MostT c rss o (cutR o as) T->H' q=some (.lst xs)->Rs K H' (multR c rss T (rss.length+1) (lcmB (cutR o as))) xs->IsR K H' (valueR c rss.length (cutR o as) T) (.ref va)->RowAt K H' lo (loadsR c rss.length T)->SqT K H' t [.str "most",.ref va,.ref lo,.ref q]->Q (.ref t) H')
theorem Jw:FnScope ["count","rows","event","aim","goal","lack","table","bottom","value","loads"] ["count","rows","event","aim"] (defScope lT):=fsc
abbrev Z8 (P:Program)(w:World)(K:W.Frag)(mg:Str->Option Value)(base:Heap):Prop:=Has P w K mg base 5 "solve" ["count","rows","event","aim"] (iR K)
set_option maxHeartbeats 1600000 in
theorem Z0b (D:Def K mg "solve" lT ["count","rows","event","aim"])(T0:Blt mg)(tc:TabC K mg C)(gY:Has P w K mg base 2 "cut" ["row","event"] (gM K))(jT:Has P w K mg base 4 "start" ["count","rows","event","goal"] (g6 K C))(iI:Has P w K mg base 4 "driven" ["table","owner"] (gK C))(eP:Has P w K mg base 4 "shown_multiples" ["count","rows","table","owner","bottom"] (hG K C))(eB:Z6 P w K mg base)(fJ:Has P w K mg base 3 "ratio" ["top","bottom"] eQ)(jC:Has P w K mg base 2 "end_of" ["table","thing"] (iH C)):Z8 P w K mg base:=by
 refine D.has fun f fd F=>F.ok Jw (fun vs H Q E h=>?_) (fun cdv A outer s H vs Q E hr h=>?_)
 ·obtain⟨l,g,ve,c,n,N,rss,o,as,rfl,_⟩:=h
  rfl
 ·obtain⟨l,g,ve,c,n,N,rss,o,as,rfl,hR,hv,hg,gl,hrs,⟨Da,Wa,ra⟩,hn1,hn,hbits,hnN,hbd,hc2,hc,hm,kN,kM⟩:=h
  have sc:=Jw
  have T:=T0
  have nd1:(["world","table"]:List Str).Nodup:=by decide +kernel
  refine⟨_,(Zb (Zk (i:=4) sc.nd rfl (Or.inl rfl) (Zg gY hr (Z0 (pv 3) (Z0 (pv 2) Z9))))
   (Zb (Zk (i:=5) sc.nd rfl (Or.inl rfl) (Zl Yz (pv 0) (Zx Y6 rfl T.len zf (Z0 (pv 1) Z9))))
   (Zb (Zk (i:=6) sc.nd rfl (Or.inr rfl) (Zg iI hr (Z0 (Zg jT hr (Z0 (pv 0) (Z0 (pv 1) (Z0 (pv 2) (Z0 (pv 4) Z9))))) (Z0 (pv 5) Z9))))
   (Zb (Yc (Zn Wf (pv 5) (Yg (pv 6) rfl) rfl)
    (Zd (Zi (Yk (Z0 Xe (Z0 (Zg eP hr (Z0 (pv 0) (Z0 (pv 1) (Z0 (pv 6) (Z0 (pv 5) (Z0 Za Z9)))))) Z9)))))
    Zv)
   (Zb (Zk (i:=6) sc.nd rfl (Or.inr rfl) (Zg iI hr (Z0 (pv 6) (Z0 (Zl Yz (pv 5) Za) Z9))))
   (Zb (Zk (i:=7) sc.nd rfl (Or.inl rfl) (Zg eB hr (Z0 (pv 4) Z9)))
   (Zb (Zk (i:=8) sc.nd rfl (Or.inl rfl) (Zg fJ hr (Z0 (Vq Xz (Zg jC hr (Z0 (pv 6) (Z0 (Zl Yz (pv 5) Za) Z9)))) (Z0 (Zl Zw (pv 7) (Yg (pv 6) rfl)) Z9))))
   (Zb (Zk (i:=9) sc.nd rfl (Or.inl rfl) (Y8 Y3 rfl T.tuple YY (Z0 (Yl (N:=["world","table"]) (k:=1) (fv:=[6]) rfl (Yx rfl T.range (Z0 (pv 0) Z9))
   (fun _ _ _ _ _=>Zm (i:=0) nd1 rfl (Or.inl rfl)) (fun _ _ _ _ _=>Yb) (fun _ _ _ _ _=>(Zg fJ hr (Z0 (Zg jC hr (Z0 (pv 1) (Z0 (pv 0) Z9))) (Z0 (Nn (K:=K) (pv 1) rfl) Z9)))) Zy) Z9)))
   (Zd (Zi (Yk (Z0 Xe (Z0 (pv 8) (Z0 (pv 9) (Z0 (Zg eP hr (Z0 (pv 0) (Z0 (pv 1) (Z0 (pv 6) (Z0 (Zl Yz (pv 5) Za) (Z0 (pv 7) Z9)))))) Z9))))))))))))))),?_⟩
  have ev':EvAt K H as.length o ve:=by rw[gl];exact hv
  refine⟨_,rfl,_,rfl,g,ve,as,o,rfl,hg,ev',by omega,fun pg H1 S1 rg=>?_⟩
  obtain⟨ads,hl,hp⟩:=id hR
  have elen:(ads.map V.ref).length=rss.length:=by rw[YC];exact XW hp
  have gl':(cutR o as).length=c:=by rw[Ye];exact gl
  refine⟨_,rfl,_,rfl,l,_,rfl,.inl (SqL.of (S1 _ _ hl)),?_⟩
  rw[elen]
  refine⟨_,_,rfl,rfl,?_⟩
  refine⟨_,rfl,_,rfl,_,rfl,_,rfl,l,pg,ve,c,n,rss,o,cutR o as,rfl,⟨ads,S1 _ _ hl,Yq hp (Ext.same S1)⟩,hv.same S1,rg,gl',hrs,⟨_,_,ra.cut o⟩,hn1,by omega,hc2,hc,by omega,fun q2 H2 S2 tab2=>?_⟩
  refine⟨_,rfl,q2,rss.length+2,c,c+rss.length,rss.length,N,c+rss.length,Sv.colS c rss.length (AOf rss) (rowF (papR c o)) (rowF (cutR o as)),Sv.rhsS rss.length,(fun T'=>T'.own (rss.length+1)=c+rss.length+1),_,rfl,tab2,by omega,by omega,by omega,hbits,Sv.inv0,Sv.feas0,rfl,rfl,hbd,fun T' c' I' F' X' ho hc' hnl hpos=>⟨rss.length,by omega,by rw[ho];exact YE _,hpos⟩,fun T' pl c' I' X' st=>?_,fun q3 H3 T3 S3 tab3 ⟨I3,F3,X3,alt⟩=>?_⟩
  ·have:pl≠rss.length+1:=fun z=>by
    have:=st.el
    rw[z,X'] at this
    omega
   show (Sv.piv T' pl c').own (rss.length+1)=_
   rw[Sv.own_ne (XO this)]
   exact X'
  have S03:=(S1.trans S2).trans S3
  obtain⟨dx,la,oa,ha,las,h1,h2,h3,h4,h5,h6⟩:=id tab3
  refine⟨_,rfl,_,rfl,q3,C,dx,_,_,rfl,h1,tc.cl,tc.nO,X4,Ny h5 ⟨_,rfl,?_⟩⟩
  rcases alt with ⟨ho,hno⟩ | ⟨T1,c1,ho,I1,st,e3⟩
  ·refine Xa (fun _=>?_) (fun h=>absurd (XF (mem_ownI.mpr ⟨rss.length,by omega,ho⟩)) h)
   refine⟨_,rfl,_,rfl,_,rfl,_,rfl,l,q3,c,rss.length+2,c+rss.length,rss.length,n,N,1,rss,T3,by rw[ho];rfl,⟨ads,S03 _ _ hl,Yq hp (Ext.same S03)⟩,tab3,TabOk.of I3,hbd _ I3,I3.pos,by omega,by omega,by omega,by omega,fun rs hr=>(hrs rs hr).2,by decide,(show Bd n 1 from YW (show (1:Int).natAbs<2 ^ 1 by decide) (qf (by decide) hn1)),hn,hnN,fun q4 xs H4 f4 S4 e4 r4=>?_⟩
   refine⟨sz2,fun t ht=>?_⟩
   have S5:=Same.new (o:=.tup [.str "none",.ref q4]) ht
   exact kN T3 q4 t xs _ (Tv S03 f4) ((S03.trans S4).trans S5) ⟨I3,ho,X3,hno⟩ (S5 _ _ e4) (r4.ext (Ext.same S5)) (SqT.of Zc)
  ·subst e3
   have hlk:∃ jl,jl<c/\(Sv.piv T1 rss.length c1).hd jl=c+rss.length:=⟨c1,st.hc,by
    show Sv.up T1.hd c1 (T1.own rss.length) c1=_
    unfold Sv.up
    rw[YM rfl]
    exact ho⟩
   generalize Sv.piv T1 rss.length c1=T3 at *
   refine Xa (fun h=>?_) (fun _=>?_)
   ·obtain⟨i,hi,e⟩:=mem_ownI.mp (XE h)
    obtain⟨jl,hjl,ej⟩:=hlk
    exact absurd (e.trans ej.symm) (I3.ne hi hjl)
   ·have ok3:=TabOk.of I3
    refine⟨_,rfl,_,rfl,_,_,rfl,rfl,q3,rss.length+2,c,c+rss.length,rss.length+1,N,c+rss.length+1,Sv.colS c rss.length (AOf rss) (rowF (papR c o)) (rowF (cutR o as)),Sv.rhsS rss.length,(fun T'=>∃ jl,jl<c/\T'.hd jl=c+rss.length),T3,rfl,tab3,by omega,by omega,by omega,hbits,I3,F3,hlk,X3,hbd,fun T' c' I' F' X' ho' hc' hnl hpos=>?_,fun T' pl c' I' X' st'=>?_,fun q5 H5 T5 S5 tab5 ⟨I5,F5,X5,alt⟩=>?_⟩
    ·obtain⟨jl,hjl,ej⟩:=X'
     obtain⟨k,hk,h7,h8⟩:=Sv.InvS.bounded I' (fun v hv=>Z2n hv) (fun v hv z=>D6 hv gl z) (i:=rss.length+1) (by omega) ho' hjl ej hc' hnl hpos
     exact⟨k,hk,h7,h8⟩
    ·obtain⟨jl,hjl,ej⟩:=X'
     refine⟨jl,hjl,?_⟩
     show Sv.up T'.hd c' (T'.own pl) jl=_
     unfold Sv.up
     rw[YG (fun z=>st'.nl (by rw[← z];exact ej))]
     exact ej
    have ho5:T5.own (rss.length+1)=c+rss.length+1/\∀ j,j<c->T5.hd j≠c+rss.length->T5.L (rss.length+1) j<=0:=by
     rcases alt with h | ⟨T6,c6,h7,_,st6,_⟩
     ·exact h
     ·have:=st6.el
      omega
    have S05:=S03.trans S5
    have bd5:=hbd _ I5
    have ok5:=TabOk.of I5
    have gr:=(ra.cut o).least
    obtain⟨xg,hg1,hg2⟩:=rg.same ((S2.trans S3).trans S5)
    obtain⟨dx5,la5,oa5,ha5,las5,t1,t2,t3,t4,t5,t6⟩:=id tab5
    refine⟨_,rfl,pg,xg,cutR o as,n,_,_,rfl,.inr hg1,hg2,ra.cut o,by omega,?_⟩
    have hq0:lcmB (cutR o as)*T5.b≠0:=by
     have:=YZ gr.pos I5.pos
     omega
    refine⟨_,rfl,_,rfl,_,_,rfl,rfl,q5,rss.length+2,c,c+rss.length,c+rss.length+1,T5,rfl,tab5,ok5,by omega,by omega,_,rfl,_,rfl,_,rfl,q5,C,dx5,_,_,rfl,t1,tc.cl,tc.nB,Va,_,_,rfl,rfl,gr.bD.mulOk bd5.b (by omega) (by omega),_,_,rfl,hq0,(gr.bD.mul bd5.b).log (by omega),fun va H6 f6 S6 e6=>?_⟩
    have S06:=S05.trans S6
    have t1':=S6 _ _ t1
    refine⟨_,rfl,(c:Int),rfl,(by omega),(by omega),fun d hd=>?_⟩
    have et:(c:Int).toNat=c:=by omega
    rw[et]
    refine⟨c,fun i ys H2=>Same H6 H2/\Rs K H2 ((loadsR c rss.length T5).take i) ys,Zu (by omega),⟨Same.new hd,.nil⟩,?_,?_⟩
    ·rintro i ys H7 hi ⟨S7,r7⟩ hd7
     refine⟨hi,?_⟩
     rintro x H8 ⟨rfl,rfl⟩
     refine Yh ?_
     have S57:=S6.trans S7
     refine⟨_,rfl,_,rfl,q5,rss.length+2,c,c+rss.length,i,T5,by rw[Int.zero_add];rfl,tab5.same S57,ok5,by omega,by omega,_,rfl,q5,C,dx5,_,_,rfl,S57 _ _ t1,tc.cl,tc.nB,Va,_,_,rfl,by have:=I5.pos;omega,bd5.b.log (by omega),fun a8 H8 f8 S8 e8=>?_⟩
     have hd8:=S8 _ _ hd7
     refine⟨hd8,fun q z e=>?_,?_⟩
     ·rw[Zf (Ze e hd)]
      exact S8 _ _ (S7 _ _ e)
     ·have e4:(loadsR c rss.length T5)[i]?=some (nrm (Sv.endOf (rss.length+2) c T5 i) T5.b):=by
       unfold loadsR
       rw[YD,qm hi]
       rfl
      rw[Y5 e4]
      refine ((r7.ext (Ext.same S8)).ext (Ext.upd hd8)).snoc ⟨a8,rfl,SqT.of ?_⟩
      rw[Zf (fun z=>by rw[z] at e8;rw[e8] at hd8;cases hd8)]
      exact e8
    ·rintro ys H7 ⟨S7,r7⟩ hd7
     rw[YN (by unfold loadsR;simp)] at r7
     refine⟨YE _,d,ys,rfl,.inl ⟨SqL.of hd7,fun lo hlo=>?_⟩⟩
     have S8:=S7.trans (Same.new (o:=.tup ys) hlo)
     have row8:RowAt K (upd H7 lo (.tup ys)) lo (loadsR c rss.length T5):=⟨ys,SqT.of Zc,r7.ext (Ext.new hlo)⟩
     generalize upd H7 lo (.tup ys)=H8 at *
     have S08:=S06.trans S8
     have S58:=S6.trans S8
     refine⟨_,rfl,_,rfl,_,rfl,_,rfl,_,rfl,_,rfl,_,_,rfl,rfl,_,rfl,l,q5,c,rss.length+2,c+rss.length,rss.length+1,n,N,lcmB (cutR o as),rss,T5,by rw[ho5.1];rfl,⟨ads,S08 _ _ hl,Yq hp (Ext.same S08)⟩,tab5.same S58,ok5,bd5,I5.pos,by omega,by omega,by omega,by omega,fun rs hr=>(hrs rs hr).2,gr.pos,gr.bD,hn,hnN,fun q9 xs H9 f9 S9 e9 r9=>?_⟩
     refine⟨sz4,fun t ht=>?_⟩
     have SX:=Same.new (o:=.tup [.str "most",.ref va,.ref lo,.ref q9]) ht
     refine kM T5 q9 t va lo xs _ (Tv S08 f9) ((S08.trans S9).trans SX) ⟨I5,F5,ho5.1,X5,ho5.2⟩ (SX _ _ e9) (r9.ext (Ext.same SX)) ⟨va,rfl,SqT.of (SX _ _ (S9 _ _ (S8 _ _ e6)))⟩ ((row8.same S9).same SX) (SqT.of Zc)
end
open Sv (sm Y1 Xr Yt sm_zero Y0 Zz Vu)
theorem Z15 {c:Nat}{o:Option (Nat->Bool)}:lcmB (papR c o)=1:=by
 have h:∀ r∈papR c o,0<r.2:=fun r hr=>((U1 c o).good r hr).pos
 obtain⟨h1,_,h3⟩:=Tz h
 have h4:=h3 1 fun r hr=>by
  obtain⟨i,hi⟩:=XB hr
  have hc:i<c:=by
   have:=(YH.mp hi).1
   rw[U2] at this
   exact this
  have e:(papR c o)[i]?=some (if inE o i then (1,1) else (0,1)):=Wd (by simp[hc])
  rw[e] at hi
  cases hi
  cases inE o i <;> exact Int.one_dvd 1
 have:=X9 (by decide) h4
 omega
theorem TabOk.endBd {m n N:Nat}{T:Sv.Tab}(h:TabOk m n T)(bd:TabBd N m n T)(v:Nat):Bd N (Sv.endOf m n T v):=by
 by_cases q:∃ i,i<m/\T.own i=v
 ·obtain⟨i,hi,rfl⟩:=q
  rw[h.endO hi]
  exact bd.l i n hi (YE _)
 ·have:Sv.endOf m n T v=0:=Sv.sm_zero fun i hi=>YG fun z=>q ⟨i,hi,z⟩
  rw[this]
  exact Bd.zero N
def endZ (c g:Nat)(T:Sv.Tab):List Int:=(List.range c).map fun v=>Sv.endOf (g+2) c T v
theorem Dv {c g N:Nat}{T:Sv.Tab}(pos:0<T.b)(ok:TabOk (g+2) c T)(bd:TabBd N (g+2) c T):RepL N T.b (endZ c g T) (loadsR c g T) :=
 RepL.of_map pos bd.b (List.range c) _ _ fun v _=>⟨X2 _ _,ok.endBd bd v,Yr (by omega)⟩
theorem Ue {r:Rat}{D W:Int}(hD:0<D)(hr:0<r.2)(h:r.1*D=W*r.2):(0<=r.1 ↔ 0<=W)/\(r.1<=0 ↔ W<=0)/\(r.1=0 ↔ W=0):=by
 have a1:0<r.1->0<W:=fun z=>by
  have h1:=YZ z hD
  rw[h] at h1
  apply YU
  intro q
  have:=GJ (show W<=0 by omega) (show 0<=r.2 by omega)
  omega
 have a2:r.1<0->W<0:=fun z=>by
  have h1:=YZ (show 0 < -r.1 by omega) hD
  rw[Y0u,h] at h1
  apply YU
  intro q
  have:=qq (show 0<=W by omega) (show 0<=r.2 by omega)
  omega
 have a3:r.1=0->W=0:=fun z=>by
  rw[z,zo] at h
  rcases Int.mul_eq_zero.mp h.symm with q | q <;> omega
 omega
structure LoadsOk (c:Nat)(rss:List (List Rat))(o:Option (Nat->Bool))(as:List Rat)(N:Nat)(ls:List Rat)(va:Rat):Prop where
 len:ls.length=c
 rep:∃ D Ls,RepL N D Ls ls
 nn:∀ r∈ls,0<=r.1
 fit:∀ rs∈rss,(sumR (List.zipWith mulR' ls rs)).1<=0
 lie:sumR (List.zipWith mulR' ls (papR c o))=(1,1)
 val:va=sumR (List.zipWith mulR' ls (cutR o as))
theorem MostT.sv {c:Nat}{rss:List (List Rat)}{o:Option (Nat->Bool)}{gs:List Rat}{T:Sv.Tab}(h:MostT c rss o gs T):Sv.Most c rss.length (AOf rss) (rowF (papR c o)) (rowF gs) T (rss.length+1):=by
 obtain⟨jl,hjl,ej⟩:=h.lk
 exact Sv.InvS.most h.inv h.feas (by omega) h.aim hjl ej h.no
theorem NoneT.sv {c:Nat}{rss:List (List Rat)}{o:Option (Nat->Bool)}{gs:List Rat}{T:Sv.Tab}(h:NoneT c rss o gs T):(∀ k,k<rss.length->Sv.numAt c T rss.length (c+k)<=0)/\∀ w,w<c->rowF (papR c o) w*T.b<=sm rss.length (fun k=>AOf rss k w * -Sv.numAt c T rss.length (c+k)) :=
 Sv.InvS.none h.inv (by omega) h.lk (ia:=rss.length+1) (by omega) h.aim h.no
end Sb
namespace Sb
open PySem L2
def TabHere (K:W.Frag)(mg:Str->Option Value):Prop:=∃ (C f:Addr) (fd:FuncData),TabC K mg C/\Mk K C f/\Fun K "__init__" "Table.__init__" j5 f fd/\Binds K fd ["self","lines","owners","heads","bottom","lack"] []
theorem Z4i {K:W.Frag}{h:Heap}{mg:Str->Option Value}{C f:Addr}{oc:Value}{od an:Option Addr}{sl:Array (Option Value)}{kV dc pm cd ct:Value}(X:K.In h)(G:h.Ns mainGlobals mg)
  (aC:W.nsIn K mainGlobals "Table"=some (some (.ref C)))
  (a1:W.findIn K (.ref C) "__init__"=some (some (.ref f))) (i1:W.isFn K (.ref f)=true) (l1:K.lookup f=some ⟨oc,od,.func (W.fnOf "__init__" "Table.__init__" (defArgs j5) (defBody j5) (defScope j5) .none kV dc pm an cd ct),sl⟩) (c1:W.codeIn K cd "Table.__init__"=true) (k1:W.keepIn K (.ref f)=true)
  (pg:W.plainGet K C Str.empty=true) (hd:W.hasDictIn K C=true) (po:W.plainOver K C=true) (sa:W.findIn K (.ref C) "__setattr__"=some (some (.builtin "object.__setattr__"))) (mk:W.makesIn K C=true) (kc:W.keepIn K (.ref C)=true)
  (nL:W.findIn K (.ref C) "lines"=some none) (nO:W.findIn K (.ref C) "owners"=some none) (nH:W.findIn K (.ref C) "heads"=some none) (nB:W.findIn K (.ref C) "bottom"=some none) (nK:W.findIn K (.ref C) "lack"=some none):TabHere K mg :=
 ⟨C,f,_,⟨⟨pg,hd,po,sa⟩,nL,nO,nH,nB,nK,Y0s X G aC⟩,⟨mk,a1,i1,kc⟩,Sd l1 c1 k1,(Sd l1 c1 k1).binds fun _ _ _ _ _ _ us hl=>match us,hl with | [_,_,_,_,_,_],_=>rfl⟩
def jE (K:W.Frag):Sp:=fun vs H Q _=>∃ (a b:Addr) (xs us:List V) (ws rs:List Rat) (n n':Nat) (D D':Int) (Ws Zs:List Int),vs=[.ref a,.ref b]/\(SqL K H a xs \/ SqT K H a xs)/\Rs K H ws xs/\(SqL K H b us \/ SqT K H b us)/\Rs K H rs us/\ws.length=rs.length/\rs.length<=1000/\RepL n D Ws ws/\RepL n' D' Zs rs/\n+n'+10<=4000 ∧
 ∀ c H',Same H H'->SqT K H' c [.int (sumR (List.zipWith mulR' ws rs)).1,.int (sumR (List.zipWith mulR' ws rs)).2]->Q (.ref c) H'
section
variable {P:Program}{w:World}{K:W.Frag}{mg:Str->Option Value}{base:Heap}
theorem Mv:FnScope ["_law_weights_here","_law_row_here","_law_come_here","_law_k"] ["_law_weights_here","_law_row_here"] (defScope l5):=fsc
abbrev Z2 (P:Program)(w:World)(K:W.Frag)(mg:Str->Option Value)(base:Heap):Prop:=Has P w K mg base 4 "_law_mean" ["_law_weights_here","_law_row_here"] (jE K)
theorem Z0k (D:Def K mg "_law_mean" l5 ["_law_weights_here","_law_row_here"])(T:Blt mg)(eT:Z7 P w K mg base)(iL:Has P w K mg base 3 "_law_times" ["_law_one","_law_other"] (eK K mulR')) :
  Z2 P w K mg base:=by
 refine D.has fun f fd F=>F.ok Mv (fun vs H Q E h=>?_) (fun cdv A outer s H vs Q E hr h=>?_)
 ·obtain⟨a,b,xs,us,ws,rs,n,n',D,D',Ws,Zs,rfl,_⟩:=h
  rfl
 ·obtain⟨a,b,xs,us,ws,rs,n,n',D,D',Ws,Zs,rfl,hA,hWs,hB,hRs,hl,hl2,rw_,rr,hnn,k⟩:=h
  have sc:=Mv
  refine⟨_,(Zb (Zk (i:=2) sc.nd rfl (Or.inl rfl) (Yk (Z0 Za (Z0 Za Z9))))
   (Zb (Xs JC rfl (Yx rfl T.range (Z0 (Zx Y6 rfl T.len zf (Z0 (pv 1) Z9)) Z9)) (Zm (i:=3) sc.nd rfl (Or.inl rfl))
    (Zd (Zk (i:=2) sc.nd rfl (Or.inl rfl) (Zg eT hr (Z0 (pv 2) (Z0 (Zg iL hr (Z0 (Zj Ja (pv 0) (pv 3) (fun _ _=>rfl)) (Z0 (Zj Ja (pv 1) (pv 3) (fun _ _=>rfl)) Z9))) Z9))))))
   (Zd (Zi (pv 2))))),?_⟩
  refine⟨sz2,fun p hp=>?_⟩
  have lx:=hWs.len
  have lu:=hRs.len
  have S0:Same H (upd H p (.tup [.int 0,.int 1])):=Same.new hp
  have rm:=rw_.mul rr hl
  have lz:(List.zipWith mulR' ws rs).length=rs.length:=by rw[JG];omega
  have anyS:∀ {c:Addr} {ys:List V} {H1:Hp},Same H H1->(SqL K H c ys \/ SqT K H c ys)->(SqL K H1 c ys \/ SqT K H1 c ys):=fun S h=>h.elim (fun z=>.inl (V2 S z)) fun z=>.inr (Zt S z)
  refine⟨_,rfl,b,us,rfl,anyS S0 hB,(us.length:Int),rfl,(by omega),(by omega),?_⟩
  have et:(us.length:Int).toNat=us.length:=by omega
  rw[et]
  refine N0 (lo:=0) (n:=us.length) (fun i σ H'=>Same H H'/\∃ (c:Addr) (x:Option V),σ=[some (.ref a),some (.ref b),some (.ref c),x]/\SqT K H' c [.int (sumR ((List.zipWith mulR' ws rs).take i)).1,.int (sumR ((List.zipWith mulR' ws rs).take i)).2]) ⟨S0,p,none,rfl,SqT.of Zc⟩ ?_ ?_
  ·rintro i σ H1 hi ⟨S1,c,x0,rfl,hc⟩
   have e0:(0+(i:Int))=((i:Nat):Int):=by omega
   rw[e0]
   have hir:i<ws.length:=by omega
   have his:i<rs.length:=by omega
   have er:ws[i]?=some ws[i]:=by simp[hir]
   have es:rs[i]?=some rs[i]:=by simp[his]
   obtain⟨x1,ex,ix⟩:=hWs.at er
   obtain⟨y1,ey,iy⟩:=hRs.at es
   obtain⟨a1,rfl,sq1⟩:=ix.ext (Ext.same S1)
   obtain⟨b1,rfl,sq2⟩:=iy.ext (Ext.same S1)
   refine⟨_,rfl,_,rfl,_,rfl,a,xs,_,_,rfl,rfl,anyS S1 hA,Zh ex,_,rfl,_,rfl,b,us,_,_,rfl,rfl,anyS S1 hB,Zh ey,?_⟩
   refine⟨a1,b1,ws[i],rs[i],n+n'+10,rfl,sq1,sq2,(rw_.good _ (YX hir)).mono (by omega),(rr.good _ (YX his)).mono (by omega),by omega,fun c2 H2 f2 S2 e2=>?_⟩
   have ez:(List.zipWith mulR' ws rs)[i]?=some (mulR' ws[i] rs[i]):=by rw[GG,er,es]
   refine⟨c,c2,_,mulR' ws[i] rs[i],n+n'+10,rfl,Zt S2 hc,SqT.of e2,(rm.take i).sumGood (k:=10) (by rw[GC];omega),(rm.good _ (YI ez)).mono (by omega),hnn,fun c3 H3 f3 S3 e3=>?_⟩
   refine⟨(S1.trans S2).trans S3,c3,_,rfl,?_⟩
   rw[Tq ez]
   exact SqT.of e3
  ·rintro σ H1 ⟨S1,c,x0,rfl,hc⟩
   rw[YN (by omega)] at hc
   exact⟨_,rfl,k c H1 S1 hc⟩
def fZ (K:W.Frag):Sp:=fun vs H Q _=>∃ (b:Addr) (c n:Nat),vs=[.ref b,.int c]/\BagAt H b n/\n<=100000/\c<=1000 ∧
 ∀ (v:V) (H':Hp) (o:Option (Nat->Bool)),BagAt H' b (n+c+1)->SameX b H H'->EvAt K H' c o v->Q v H'
theorem Gb:FnScope ["_law_bag_here","_law_count"] ["_law_bag_here","_law_count"] (defScope mB):=fsc
theorem Z3d (D:Def K mg "_law_event" mB ["_law_bag_here","_law_count"])(T:Blt mg)(eA:Z3 P w K mg base):Has P w K mg base 2 "_law_event" ["_law_bag_here","_law_count"] (fZ K):=by
 refine D.has fun f fd F=>F.ok Gb (fun vs H Q E h=>?_) (fun cdv A outer s H vs Q E hr h=>?_)
 ·obtain⟨b,c,n,rfl,_⟩:=h
  rfl
 ·obtain⟨b,c,n,rfl,hB,hn,hl,k⟩:=h
  have sc:=Gb
  have nd1:(["_law_k","_law_bag_here"]:List Str).Nodup:=by decide +kernel
  refine⟨_,(Zb (Yc (Zn Xo (Zg eA hr (Z0 (pv 0) (Z0 Za Z9))) Za (Zq _))
    (Zd (Zi Yv))
    Zv)
   (Zd (Zi (Y8 Y3 rfl T.tuple YY (Z0 (Yl (N:=["_law_k","_law_bag_here"]) (k:=1) (fv:=[0]) rfl (Yx rfl T.range (Z0 (pv 1) Z9))
   (fun _ _ _ _ _=>Zm (i:=0) nd1 rfl (Or.inl rfl)) (fun _ _ _ _ _=>Nk (Zn Xo (Zg eA hr (Z0 (pv 1) (Z0 Za Z9))) Za (Zq _))) (fun _ _ _ _ _=>(pv 0)) Zy) Z9))))),?_⟩
  refine⟨_,rfl,b,_,_,rfl,hB,by omega,by decide,by decide +kernel,fun z H1 z0 z1 B1 S1=>⟨rfl,_,rfl,?_⟩⟩
  refine Xa (fun h=>?_) (fun h=>?_)
  ·exact k _ _ none (B1.mono (by omega)) S1 rfl
  have hBl:=B1.lst
  refine⟨_,rfl,(c:Int),rfl,(by omega),(by omega),fun d hd=>?_⟩
  have hdb:d≠b:=by
   obtain⟨ys,e⟩:=hBl
   exact (Ze e hd).symm
  have et:(c:Int).toNat=c:=by omega
  rw[et]
  refine⟨c,fun i ys H2=>∃ p:Nat->Bool,ys=(evI i p).map V.int/\BagAt H2 b (n+1+i)/\SameX b H H2,Zu hl,?_,?_,?_⟩
  ·exact⟨fun _=>true,rfl,B1.upd (XO hdb),S1.trans (SameX.of (Same.new hd))⟩
  ·rintro i ys H2 hi ⟨p,rfl,B2,S2⟩ hd2
   refine⟨hi,?_⟩
   rintro x H3 ⟨rfl,rfl⟩
   have e0:(0+(i:Int))=((i:Nat):Int):=by omega
   rw[e0]
   refine Lf ?_
   refine⟨_,rfl,b,_,_,rfl,B2,by omega,by decide,by decide +kernel,fun r H4 r0 r1 B4 S4=>⟨rfl,_,rfl,?_⟩⟩
   have hd4:H4 d=some (.lst ((evI i p).map V.int)):=S4 _ _ hd2 hdb
   have ep:evI i p=evI i (fun j=>if j=i then decide (r=1) else p j):=N3 fun j hj=>by rw[YG (by omega)]
   refine Xa (fun h=>?_) (fun h=>?_)
   ·have h0:r=1:=by
     have:=XE h
     injection this
    refine⟨_,rfl,hd4,fun j=>if j=i then decide (r=1) else p j,?_,(B4.upd (XO hdb)).mono (by omega),?_⟩
    ·rw[P6,YM (by simp[h0]),XX,← ep]
     rfl
    ·exact fun q o e ne=>by
      have e2:=S4 q o (S2 q o e ne) ne
      rw[Zf (Ze (S1 q o e ne) hd)]
      exact e2
   ·have h0:¬ r=1:=fun z=>h (XF (by rw[z]))
    refine⟨hd4,fun j=>if j=i then decide (r=1) else p j,?_,B4.mono (by omega),S2.trans S4⟩
    rw[P6,YG (by simp[h0]),qh,← ep]
  ·rintro ys H2 ⟨p,rfl,B2,S2⟩ hd2
   refine⟨YE _,d,_,rfl,.inl ⟨SqL.of hd2,fun l hl'=>?_⟩⟩
   have S3:Same H2 (upd H2 l (.tup ((evI c p).map V.int))):=Same.new hl'
   exact k _ _ (some p) ((B2.same S3).mono (by omega)) (S2.trans (SameX.of S3)) ⟨l,rfl,SqT.of Zc⟩
end
open Sv (sm Y1 Xr Yt sm_zero Y0 Zz Vu)
end Sb
namespace Sb
open PySem L2
open Sv (sm Y1 Xr Yt sm_zero Y0 Zz Vu)
theorem Z3j {c:Nat}{rss:List (List Rat)}{T:Sv.Tab}{i j:Nat}{b:Int}(hj:j<rss.length):(multR c rss T i b)[j]?=some (nrm (-(Sv.numAt c T i (c+j))*lcmB rss[j]) (b*T.b)):=by
 unfold multR
 simp[List.getD,hj]
theorem Lg {c:Nat}{rss:List (List Rat)}{T:Sv.Tab}{i:Nat}{b:Int}:(multR c rss T i b).length=rss.length:=by unfold multR;simp
theorem Z3i {c i n:Nat}{rss:List (List Rat)}{T:Sv.Tab}{b:Int}(hrs:∀ rs∈rss,rs.length=c/\∃ D Ws,RepL n D Ws rs)(pos:0<T.b)(hb:0<b)(h:∀ k,k<rss.length->Sv.numAt c T i (c+k)<=0):∀ m∈multR c rss T i b,0<=m.1:=fun m hm=>by
 have p2:=YZ hb pos
 obtain⟨j,hj⟩:=XB hm
 have hjl:j<rss.length:=by have:=(YH.mp hj).1;rw[Lg] at this;exact this
 rw[Z3j hjl] at hj
 cases hj
 obtain⟨_,D,Ws,rp⟩:=hrs _ (YX hjl)
 have lp:=rp.least.pos
 have y:=h j hjl
 refine ((Ue p2 (Yr (by omega)).pos (X2 (-(Sv.numAt c T i (c+j))*lcmB rss[j]) (b*T.b))).1).mpr ?_
 exact qq (by omega) (by omega)
end Sb
namespace Sb
open PySem L2
open Sv (sm Y1 Xr Yt sm_zero Y0 Zz Vu)
def multY (c:Nat)(rss:List (List Rat))(T:Sv.Tab)(i:Nat):List Int:=(List.range rss.length).map fun k=>-(Sv.numAt c T i (c+k))*lcmB (rss.getD k [])
theorem Z0y {c n N i:Nat}{rss:List (List Rat)}{T:Sv.Tab}{b:Int}(hrs:∀ rs∈rss,rs.length=c/\∃ D Ws,RepL n D Ws rs)(pos:0<T.b)(ok:TabOk (rss.length+2) c T)(bd:TabBd N (rss.length+2) c T)(hi:i<rss.length+2)(hb:0<b)(bb:Bd n b):RepL (n+N) (b*T.b) (multY c rss T i) (multR c rss T i b):=by
 have p2:=YZ hb pos
 refine RepL.of_map p2 (bb.mul bd.b) (List.range rss.length) _ _ fun k hk=>⟨X2 _ _,?_,Yr (by omega)⟩
 have hk':k<rss.length:=by simpa using hk
 have eg:rss.getD k []=rss[k]:=by simp[List.getD,hk']
 obtain⟨_,D,Ws,rp⟩:=hrs _ (YX hk')
 have b1:=((ok.numBd bd hi (c+k)).neg).mul rp.least.bD
 rw[zZ] at b1
 rw[eg]
 exact b1
theorem LoadsOk.total {c N:Nat}{rss:List (List Rat)}{as ls:List Rat}{va:Rat}(h:LoadsOk c rss none as N ls va):sumR ls=(1,1):=by
 have e:=h.lie
 have e2:List.zipWith mulR' ls (papR c none)=ls:=by
  obtain⟨D,Ls,rL⟩:=h.rep
  apply je
  intro i
  rw[GG]
  by_cases hi:i<ls.length
  ·have h1:ls[i]?=some ls[i]:=by simp[hi]
   have h2:(papR c none)[i]?=some (1,1):=by
    have:(papR c none)[i]?=some (if inE none i then (1,1) else (0,1)):=Wd (by rw[zQ,YM (by have:=h.len;omega)])
    rw[this]
    rfl
   rw[h1,h2]
   have lo:=(rL.good _ (YX hi)).low
   have e:=X2 (ls[i].1*1) (ls[i].2*1)
   have l:Low (mulR' ls[i] (1,1)):=Tg lo Gs
   show some (mulR' ls[i] (1,1))=some ls[i]
   congr 1
   refine Wi l.pos lo.pos l.cop lo.cop ?_
   have:(mulR' ls[i] (1,1)).1*(ls[i].2*1)=(ls[i].1*1)*(mulR' ls[i] (1,1)).2:=e
   rw[GL,GL] at this
   exact this
  ·have h1:ls[i]?=none:=by simp;omega
   rw[h1]
 rw[e2] at e
 exact e
end Sb
namespace Sb
open PySem PySem.Spec PyProof.Rows L2
section
variable {X:Cx}{K:W.Frag}
end
end Sb
namespace Sb
open PySem L2
section
variable {P:Program}{w:World}{K:W.Frag}{mg:Str->Option Value}{base:Heap}
theorem G2:FnScope ["one","other"] ["one","other"] (defScope lY):=fsc
theorem Z34 (D:Def K mg "minus" lY ["one","other"])(eG:Z5 P w K mg base):Has P w K mg base 3 "minus" ["one","other"] (eK K subR):=by
 refine D.has fun f fd F=>F.ok G2 (fun vs H Q E h=>?_) (fun cdv A outer s H vs Q E hr h=>?_)
 ·obtain⟨a,b,r,s,n,rfl,_⟩:=h
  rfl
 ·obtain⟨a,b,r,s,n,rfl,hA,hB,gr,gs,hn,k⟩:=h
  have sc:=G2
  refine⟨_,(Zd (Zi (Zg eG hr (Z0 (Zl U4 (Zl Zw (Zj Yu (pv 0) Za (fun _ _=>rfl)) (Zj Yn (pv 1) Za (fun _ _=>rfl))) (Zl Zw (Zj Yu (pv 1) Za (fun _ _=>rfl)) (Zj Yn (pv 0) Za (fun _ _=>rfl)))) (Z0 (Zl Zw (Zj Yn (pv 0) Za (fun _ _=>rfl)) (Zj Yn (pv 1) Za (fun _ _=>rfl))) Z9))))),?_⟩
  exact⟨_,rfl,_,_,_,rfl,rfl,hA,_,rfl,_,_,_,rfl,rfl,hB,_,_,rfl,rfl,gr.b1.mulOk gs.b2 (by omega) (by omega),_,rfl,_,_,_,rfl,rfl,hB,_,rfl,_,_,_,rfl,rfl,hA,_,_,rfl,rfl,gs.b1.mulOk gr.b2 (by omega) (by omega),_,_,rfl,rfl,_,rfl,_,_,_,rfl,rfl,hA,_,rfl,_,_,_,rfl,rfl,hB,_,_,rfl,rfl,gr.b2.mulOk gs.b2 (by omega) (by omega),_,_,rfl,W4 gr.pos gs.pos,Wq gr.b2 gs.b2 hn,k⟩
end
def ConI (mg:Str->Option Value)(x:Str)(i:Int):Prop:=∃ t,mg x=some (Value.int i t)
theorem Rl {K:W.Frag}{h:Heap}{mg:Str->Option Value}{x:Str}{i:Int}{t:Tok}(X:K.In h)(G:h.Ns mainGlobals mg)(e:W.nsIn K mainGlobals x=some (some (.int i t))):ConI mg x i:=⟨t,Y0s X G e⟩
structure Offr where
 row:List Rat
 ask:Option Rat
 bid:Option Rat
 ev:Option (Nat->Bool)
def MayAt (K:W.Frag)(H:Hp)(o:Option Rat)(v:V):Prop:=match o with
 | none=>v=.non
 | some r=>IsR K H r v
theorem MayAt.ext {K:W.Frag}{H H':Hp}{o:Option Rat}{v:V}(h:MayAt K H o v)(e:Ext H H'):MayAt K H' o v:=by
 cases o with
 | none=>exact h
 | some r=>exact IsR.ext h e
def OffAt (K:W.Frag)(H:Hp)(c:Nat)(o:Offr)(v:V):Prop:=∃ (p a:Addr) (va vb ve:V),v=.ref p/\SqT K H p [.ref a,va,vb,ve]/\RowAt K H a o.row/\o.row.length=c/\MayAt K H o.ask va/\MayAt K H o.bid vb/\EvAt K H c o.ev ve
theorem OffAt.ext {K:W.Frag}{H H':Hp}{c:Nat}{o:Offr}{v:V}(h:OffAt K H c o v)(e:Ext H H'):OffAt K H' c o v:=by
 obtain⟨p,a,va,vb,ve,h0,h1,h2,h3,h4,h5,h6⟩:=h
 exact⟨p,a,va,vb,ve,h0,e.sq h1,h2.ext e,h3,h4.ext e,h5.ext e,h6.ext e⟩
theorem OffAt.same {K:W.Frag}{H H':Hp}{c:Nat}{o:Offr}{v:V}(h:OffAt K H c o v)(e:Same H H'):OffAt K H' c o v:=h.ext (Ext.same e)
structure GoodO (n:Nat)(o:Offr):Prop where
 row:∀ r∈o.row,Good n r
 ask:∀ r,o.ask=some r->Good n r
 bid:∀ r,o.bid=some r->Good n r
def gainR (o:Offr)(buy:Bool):List Rat:=cutR o.ev (o.row.map fun r=>if buy then subR r (o.ask.getD (0,1)) else subR (o.bid.getD (0,1)) r)
def priceO (o:Offr)(buy:Bool):Option Rat:=if buy then o.ask else o.bid
def wordO (buy:Bool):Str:=if buy then "buy" else "sell"
theorem Pz (o:Offr)(buy:Bool):(gainR o buy).length=o.row.length:=by unfold gainR;rw[Ye,YC]
section
variable {P:Program}{w:World}{K:W.Frag}{mg:Str->Option Value}{base:Heap}
def iY (K:W.Frag):Sp:=fun vs H Q _=>∃ (v:V) (c n:Nat) (o:Offr) (buy:Bool) (pr:Rat),vs=[v,.str (wordO buy)]/\OffAt K H c o v/\c<=1000/\GoodO n o/\n<=4000/\priceO o buy=some pr ∧
 ∀ p H',Same H H'->RowAt K H' p (gainR o buy)->Q (.ref p) H'
theorem Bg:FnScope ["offer","word","worths"] ["offer","word"] (defScope mK):=fsc
theorem Z5c (D:Def K mg "gain" mK ["offer","word"])(T:Blt mg)(f7:Has P w K mg base 3 "minus" ["one","other"] (eK K subR))(gY:Has P w K mg base 2 "cut" ["row","event"] (gM K))(j4:ConI mg "ROW" 0)(jZ:ConI mg "ASK" 1)(jY:ConI mg "BID" 2)(jX:ConI mg "EVENT" 3) :
  Has P w K mg base 4 "gain" ["offer","word"] (iY K):=by
 refine D.has fun f fd F=>F.ok Bg (fun vs H Q E h=>?_) (fun cdv A outer s H vs Q E hr h=>?_)
 ·obtain⟨v,c,n,o,buy,pr,rfl,_⟩:=h
  rfl
 ·obtain⟨v,c,n,o,buy,pr,rfl,⟨p,a,va,vb,ve,rfl,hp,hR,hl,hA,hB,hE⟩,hc,g,hn,hpr,k⟩:=h
  obtain⟨t0,m_ROW⟩:=j4
  obtain⟨t1,m_ASK⟩:=jZ
  obtain⟨t2,m_BID⟩:=jY
  obtain⟨t3,m_EVENT⟩:=jX
  obtain⟨xs,hxs,hrs⟩:=hR
  have lx:=hrs.len
  have sc:=Bg
  have nd1:(["worth","offer"]:List Str).Nodup:=by decide +kernel
  have nd2:(["worth","offer"]:List Str).Nodup:=by decide +kernel
  refine⟨_,(Zb (Yc (Zn Xo (pv 1) Xe (Zq _))
    (Zd (Wp (i:=2) (N:=["worth","offer"]) (k:=1) (fv:=[0]) sc.nd rfl (Or.inl rfl) rfl (Ww (Zj Yj (pv 0) (X1 (v:=.int 0) rfl m_ROW ⟨_,rfl⟩) (fun _ _=>rfl)))
   (fun _ _ _ _ _=>Zm (i:=0) nd1 rfl (Or.inl rfl)) (fun _ _ _ _ _=>Yb) (fun _ _ _ _ _=>(Zg f7 hr (Z0 (pv 0) (Z0 (Zj (Gw (K:=K)) (pv 1) (X1 (v:=.int 1) rfl m_ASK ⟨_,rfl⟩) (fun _ _=>rfl)) Z9)))) Zy))
    (Zd (Wp (i:=2) (N:=["worth","offer"]) (k:=1) (fv:=[0]) sc.nd rfl (Or.inl rfl) rfl (Ww (Zj Yj (pv 0) (X1 (v:=.int 0) rfl m_ROW ⟨_,rfl⟩) (fun _ _=>rfl)))
   (fun _ _ _ _ _=>Zm (i:=0) nd2 rfl (Or.inl rfl)) (fun _ _ _ _ _=>Yb) (fun _ _ _ _ _=>(Zg f7 hr (Z0 (Zj (Gw (K:=K)) (pv 1) (X1 (v:=.int 2) rfl m_BID ⟨_,rfl⟩) (fun _ _=>rfl)) (Z0 (pv 0) Z9)))) Zy)))
   (Zd (Zi (Zg gY hr (Z0 (Y8 Y3 rfl T.tuple YY (Z0 (pv 2) Z9)) (Z0 (Zj Yj (pv 0) (X1 (v:=.int 3) rfl m_EVENT ⟨_,rfl⟩) (fun _ _=>rfl)) Z9)))))),?_⟩
  cases buy with
  | true =>
   replace hpr:o.ask=some pr:=hpr
   have kk:=k
   unfold gainR at kk
   rw[hpr] at hA kk
   obtain⟨b,rfl,hb⟩:=hA
   refine⟨_,rfl,rfl,_,rfl,Lo rfl ?_⟩
   refine⟨_,rfl,p,_,_,_,rfl,rfl,hp,Zh (j:=0) rfl,a,rfl,⟨_,hxs⟩,fun d hd=>?_⟩
   refine⟨o.row.length,fun i ys H2=>Same H H2/\Rs K H2 ((o.row.map fun r=>subR r pr).take i) ys,Zu (by omega),⟨Same.new hd,.nil⟩,?_,?_⟩
   ·rintro i ys H2 hi ⟨S2,R2⟩ hd2
    refine⟨⟨xs,xs[i]'(by omega),Zt S2 hxs,by simp⟩,?_⟩
    rintro x H3 ⟨rfl,fx⟩
    obtain⟨r,er,ix⟩:=hrs.back (fx xs (Zt S2 hxs))
    obtain⟨a1,rfl,sq1⟩:=ix.ext (Ext.same S2)
    refine Yh ?_
    refine⟨_,rfl,_,rfl,p,_,_,_,rfl,rfl,Zt S2 hp,Zh (j:=1) rfl,a1,b,r,pr,n,rfl,sq1,Zt S2 hb,g.row r (YI er),g.ask pr hpr,hn,fun c4 H4 f4 S4 e4=>?_⟩
    have hd4:=S4 _ _ hd2
    refine⟨hd4,fun q o' e=>?_,?_⟩
    ·rw[Zf (Ze e hd)]
     exact S4 _ _ (S2 _ _ e)
    ·rw[V0 _ er]
     exact (R2.ext ((Ext.same S4).trans (Ext.upd hd4))).snoc ⟨c4,rfl,(Ext.upd hd4).sq (SqT.of e4)⟩
   ·rintro ys H2 ⟨S2,R2⟩ hd2
    rw[YN (by rw[YC];omega)] at R2
    refine⟨⟨xs,Zt S2 hxs,by omega⟩,_,rfl,d,ys,rfl,.inl ⟨SqL.of hd2,fun l hl'=>?_⟩⟩
    have S3:Same H2 (upd H2 l (.tup ys)):=Same.new hl'
    refine⟨_,rfl,p,_,_,_,rfl,rfl,Zt (S2.trans S3) hp,Zh (j:=3) rfl,l,ve,_,o.ev,rfl,⟨ys,SqT.of Zc,R2.ext (Ext.same S3)⟩,?_,by rw[YC];omega,fun p' H' S' R'=>kk p' H' ((S2.trans S3).trans S') R'⟩
    rw[YC,hl]
    exact hE.same (S2.trans S3)
  | false =>
   replace hpr:o.bid=some pr:=hpr
   have kk:=k
   unfold gainR at kk
   rw[hpr] at hB kk
   obtain⟨b,rfl,hb⟩:=hB
   refine⟨_,rfl,rfl,_,rfl,Qr (by decide) ?_⟩
   refine⟨_,rfl,p,_,_,_,rfl,rfl,hp,Zh (j:=0) rfl,a,rfl,⟨_,hxs⟩,fun d hd=>?_⟩
   refine⟨o.row.length,fun i ys H2=>Same H H2/\Rs K H2 ((o.row.map fun r=>subR pr r).take i) ys,Zu (by omega),⟨Same.new hd,.nil⟩,?_,?_⟩
   ·rintro i ys H2 hi ⟨S2,R2⟩ hd2
    refine⟨⟨xs,xs[i]'(by omega),Zt S2 hxs,by simp⟩,?_⟩
    rintro x H3 ⟨rfl,fx⟩
    obtain⟨r,er,ix⟩:=hrs.back (fx xs (Zt S2 hxs))
    obtain⟨a1,rfl,sq1⟩:=ix.ext (Ext.same S2)
    refine Yh ?_
    refine⟨_,rfl,p,_,_,_,rfl,rfl,Zt S2 hp,Zh (j:=2) rfl,_,rfl,b,a1,pr,r,n,rfl,Zt S2 hb,sq1,g.bid pr hpr,g.row r (YI er),hn,fun c4 H4 f4 S4 e4=>?_⟩
    have hd4:=S4 _ _ hd2
    refine⟨hd4,fun q o' e=>?_,?_⟩
    ·rw[Zf (Ze e hd)]
     exact S4 _ _ (S2 _ _ e)
    ·rw[V0 _ er]
     exact (R2.ext ((Ext.same S4).trans (Ext.upd hd4))).snoc ⟨c4,rfl,(Ext.upd hd4).sq (SqT.of e4)⟩
   ·rintro ys H2 ⟨S2,R2⟩ hd2
    rw[YN (by rw[YC];omega)] at R2
    refine⟨⟨xs,Zt S2 hxs,by omega⟩,_,rfl,d,ys,rfl,.inl ⟨SqL.of hd2,fun l hl'=>?_⟩⟩
    have S3:Same H2 (upd H2 l (.tup ys)):=Same.new hl'
    refine⟨_,rfl,p,_,_,_,rfl,rfl,Zt (S2.trans S3) hp,Zh (j:=3) rfl,l,ve,_,o.ev,rfl,⟨ys,SqT.of Zc,R2.ext (Ext.same S3)⟩,?_,by rw[YC];omega,fun p' H' S' R'=>kk p' H' ((S2.trans S3).trans S') R'⟩
    rw[YC,hl]
    exact hE.same (S2.trans S3)
end
def wordsO (o:Offr):List Bool:=(if o.ask.isSome then [true] else [])++if o.bid.isSome then [false] else []
def offD:Offr:=⟨[],none,none,none⟩
def sidesP (os:List Offr)(n:Nat):List (Nat × Bool):=(List.range n).flatMap fun i=>(wordsO (os.getD i offD)).map fun b=>(i,b)
def gainsP (os:List Offr)(n:Nat):List (List Rat):=(List.range n).flatMap fun i=>(wordsO (os.getD i offD)).map fun b=>gainR (os.getD i offD) b
theorem Sk (os:List Offr)(n:Nat):sidesP os (n+1)=sidesP os n++(wordsO (os.getD n offD)).map fun b=>(n,b):=by
 unfold sidesP
 rw[zv,Y03]
 simp
theorem Su (os:List Offr)(n:Nat):gainsP os (n+1)=gainsP os n++(wordsO (os.getD n offD)).map fun b=>gainR (os.getD n offD) b:=by
 unfold gainsP
 rw[zv,Y03]
 simp
theorem U8 (os:List Offr)(n:Nat):(sidesP os n).map (fun s=>gainR (os.getD s.1 offD) s.2)=gainsP os n:=by
 unfold sidesP gainsP
 rw[List.map_flatMap]
 congr 1
 funext i
 rw[List.map_map]
 rfl
theorem Rz {os:List Offr}{n i:Nat}{b:Bool}(h:(i,b)∈sidesP os n):i<n/\∃ r,priceO (os.getD i offD) b=some r:=by
 unfold sidesP at h
 rw[Y0F] at h
 obtain⟨j,hj,hm⟩:=h
 rw[XG] at hm
 obtain⟨b',hb,e⟩:=hm
 cases e
 refine⟨GN.mp hj,?_⟩
 unfold wordsO at hb
 rcases JV.mp hb with z | z
 ·split at z
  ·rename_i hs
   rw[JP.mp z]
   exact zG.mp hs
  ·cases z
 ·split at z
  ·rename_i hs
   rw[JP.mp z]
   exact zG.mp hs
  ·cases z
theorem Ul (o:Offr):(wordsO o).length<=2:=by
 unfold wordsO
 split <;> split <;> decide
theorem Vf (os:List Offr):∀ n,(sidesP os n).length<=2*n
 | 0=>by unfold sidesP;simp
 | n+1=>by
  rw[Sk,XD,YC]
  have:=Vf os n
  have:=Ul (os.getD n offD)
  omega
section
variable {P:Program}{w:World}{K:W.Frag}{mg:Str->Option Value}{base:Heap}
def OffsAt (K:W.Frag)(H:Hp)(l:Addr)(c:Nat)(os:List Offr):Prop:=∃ vs:List V,H l=some (.lst vs)/\Paired (fun v o=>OffAt K H c o v) vs os
theorem Ym {H H':Hp}{c:Nat}{vs:List V}{os:List Offr}(h:Paired (fun v o=>OffAt K H c o v) vs os)(x:Ext H H'):Paired (fun v o=>OffAt K H' c o v) vs os:=Paired.mapP h fun _ _ q=>q.ext x
theorem OffAt.asks {H:Hp}{c:Nat}{o:Offr}{v:V}(h:OffAt K H c o v):∃ (p a:Addr) (va vb ve:V),v=.ref p/\SqT K H p [.ref a,va,vb,ve]/\(va=.non ↔ o.ask=none)/\(vb=.non ↔ o.bid=none):=by
 obtain⟨p,a,va,vb,ve,rfl,hp,_,_,hA,hB,_⟩:=h
 refine⟨p,a,va,vb,ve,rfl,hp,?_,?_⟩
 ·cases e:o.ask with
  | none=>rw[e] at hA;exact⟨fun _=>rfl,fun _=>hA⟩
  | some r=>rw[e] at hA;obtain⟨b,rfl,_⟩:=hA;exact⟨(fun z=>nomatch z),fun z=>nomatch z⟩
 ·cases e:o.bid with
  | none=>rw[e] at hB;exact⟨fun _=>rfl,fun _=>hB⟩
  | some r=>rw[e] at hB;obtain⟨b,rfl,_⟩:=hB;exact⟨(fun z=>nomatch z),fun z=>nomatch z⟩
def gZ (K:W.Frag):Sp:=fun vs H Q _=>∃ (v:V) (c:Nat) (o:Offr),vs=[v]/\OffAt K H c o v/\∀ l H',H l=none->Same H H'->H' l=some (.lst ((wordsO o).map fun b=>V.str (wordO b)))->Q (.ref l) H'
theorem Jr:FnScope ["offer","told"] ["offer"] (defScope kW):=fsc
theorem Z2t (D:Def K mg "words_of" kW ["offer"])(jZ:ConI mg "ASK" 1)(jY:ConI mg "BID" 2):Has P w K mg base 1 "words_of" ["offer"] (gZ K):=by
 refine D.has fun f fd F=>F.ok Jr (fun vs H Q E h=>?_) (fun cdv A outer s H vs Q E hr h=>?_)
 ·obtain⟨v,c,o,rfl,_⟩:=h
  rfl
 ·obtain⟨v,c,o,rfl,hO,k⟩:=h
  obtain⟨t1,m_ASK⟩:=jZ
  obtain⟨t2,m_BID⟩:=jY
  obtain⟨p,a,va,vb,ve,rfl,hp,ha,hb⟩:=hO.asks
  have sc:=Jr
  refine⟨_,(Zb (Zk (i:=1) sc.nd rfl (Or.inl rfl) (W0 Z9))
   (Zb (Xc (Yc (Zn Vk (Zj Yj (pv 0) (X1 (v:=.int 1) rfl m_ASK ⟨_,rfl⟩) (fun _ _=>rfl)) Yv (Zq _))
    (Zd (Xl (Vr XR JQ JR Yy (pv 1) (Z0 Xe Z9))))
    Zv))
   (Zb (Yc (Zn Vk (Zj Yj (pv 0) (X1 (v:=.int 2) rfl m_BID ⟨_,rfl⟩) (fun _ _=>rfl)) Yv (Zq _))
    (Zd (Xl (Vr XR JQ JR Yy (pv 1) (Z0 Xe Z9))))
    Zv)
   (Zd (Zi (pv 1)))))),?_⟩
  refine⟨sz0,fun l hl=>?_⟩
  have S0:Same H (upd H l (.lst [])):=Same.new hl
  have up:∀ (zs:List V) (H1:Hp),Same H H1->Same H (upd H1 l (.lst zs)):=fun zs H1 S1 q o e=>by
   rw[Zf (Ze e hl)]
   exact S1 _ _ e
  refine⟨fun σ H'=>Same H H'/\σ=[some (.ref p),some (.ref l)]/\H' l=some (.lst ((if o.ask.isSome then [true] else []).map fun b=>V.str (wordO b))),?_,?_⟩
  ·refine⟨_,rfl,p,_,_,_,rfl,rfl,Zt S0 hp,Zh (j:=1) rfl,rfl,_,rfl,?_⟩
   cases e:o.ask with
   | none =>
    have:=ha.mpr e
    subst this
    exact Yw ⟨S0,rfl,Zc⟩
   | some r =>
    have hne:va≠V.non:=fun z=>by rw[ha.mp z] at e;cases e
    refine Lm hne ?_
    exact⟨_,rfl,.inl ⟨rfl,_,SqL.of Zc⟩,l,_,_,rfl,rfl,Zc,(by show 0<sizeLine;decide),up _ _ S0,rfl,Zc⟩
  ·rintro σ H1 ⟨S1,rfl,h1⟩
   refine⟨_,rfl,p,_,_,_,rfl,rfl,Zt S1 hp,Zh (j:=2) rfl,rfl,_,rfl,?_⟩
   cases e:o.bid with
   | none =>
    have:=hb.mpr e
    subst this
    refine Yw ⟨_,rfl,k l H1 hl S1 ?_⟩
    rw[h1]
    unfold wordsO
    rw[e]
    simp
   | some r =>
    have hne:vb≠V.non:=fun z=>by rw[hb.mp z] at e;cases e
    refine Lm hne ⟨_,rfl,.inl ⟨rfl,_,SqL.of h1⟩,l,_,_,rfl,rfl,h1,?_,_,rfl,k l _ hl (up _ _ S1) ?_⟩
    ·refine Ub ?_
     rw[YC]
     split <;> decide
    ·rw[Zc]
     unfold wordsO
     rw[e]
     simp
     rfl
def SideV (K:W.Frag)(H:Hp)(v:V)(s:Nat × Bool):Prop:=∃ t:Addr,v=.ref t/\SqT K H t [.int (s.1:Int),.str (wordO s.2)]
theorem SideV.ext {H H':Hp}{v:V}{s:Nat × Bool}(h:SideV K H v s)(x:Ext H H'):SideV K H' v s:=by
 obtain⟨t,e,q⟩:=h
 exact⟨t,e,x.sq q⟩
def g9 (K:W.Frag):Sp:=fun vs H Q _=>∃ (l:Addr) (c:Nat) (os:List Offr),vs=[.ref l]/\OffsAt K H l c os/\os.length<=100/\∀ (d:Addr) (ws:List V) (H':Hp),H d=none->Same H H'->H' d=some (.lst ws)->Paired (SideV K H') ws (sidesP os os.length)->Q (.ref d) H'
theorem Jx:FnScope ["offers","told","number","offer"] ["offers"] (defScope lV):=fsc
theorem Z2z (D:Def K mg "sides" lV ["offers"])(T:Blt mg)(i4:Has P w K mg base 1 "words_of" ["offer"] (gZ K)):Has P w K mg base 2 "sides" ["offers"] (g9 K):=by
 refine D.has fun f fd F=>F.ok Jx (fun vs H Q E h=>?_) (fun cdv A outer s H vs Q E hr h=>?_)
 ·obtain⟨l,c,os,rfl,_⟩:=h
  rfl
 ·obtain⟨l,c,os,rfl,⟨vs,hl,hO⟩,hlen,k⟩:=h
  have sc:=Jx
  have nd1:(["word","number"]:List Str).Nodup:=by decide +kernel
  refine⟨_,(Zb (Zk (i:=1) sc.nd rfl (Or.inl rfl) (W0 Z9))
   (Zb (Xs JC rfl (Qc rfl T.enumerate (Z0 (pv 0) Z9)) (Wl (n:=2) rfl (Y7 (Zm (i:=2) sc.nd rfl (Or.inr rfl)) (Y7 (Zm (i:=3) sc.nd rfl (Or.inl rfl)) Xm)))
    (Zd (Xl (Vr XR PySem.F.slot_list_extend PySem.F.type_list_extend Dp (pv 1) (Z0 (Yl (N:=["word","number"]) (k:=1) (fv:=[2]) rfl (Xd (Zg i4 hr (Z0 (pv 3) Z9)))
   (fun _ _ _ _ _=>Zm (i:=0) nd1 rfl (Or.inl rfl)) (fun _ _ _ _ _=>Yb) (fun _ _ _ _ _=>(Yk (Z0 (pv 1) (Z0 (pv 0) Z9)))) Zy) Z9)))))
   (Zd (Zi (pv 1))))),?_⟩
  have lo:=XW hO
  refine⟨sz0,fun d hd=>?_⟩
  have S0:Same H (upd H d (.lst [])):=Same.new hd
  have up:∀ (zs:List V) (H1:Hp),Same H H1->Same H (upd H1 d (.lst zs)):=fun zs H1 S1 q o e=>by
   rw[Zf (Ze e hd)]
   exact S1 _ _ e
  refine⟨_,rfl,l,rfl,⟨_,SqL.of (S0 _ _ hl)⟩,Se (K:=K) (a:=l) (xs:=vs) (fun i σ H'=>Same H H'/\∃ (ws:List V) (x y:Option V),σ=[some (.ref l),some (.ref d),x,y]/\H' d=some (.lst ws)/\Paired (SideV K H') ws (sidesP os i)) ⟨S0,[],none,none,rfl,Zc,.nil⟩ (fun i σ H' _ h=>SqL.of (h.1 _ _ hl)) ?_ ?_⟩
  ·rintro i v σ H1 p hi ⟨S1,ws,x,y,rfl,hd1,P1⟩ hp
   have S2:Same H1 (upd H1 p (.tup [.int (i:Int),v])):=Same.new hp
   have hd2:=S2 _ _ hd1
   have hiv:i<vs.length:=(YH.mp hi).1
   have hio:i<os.length:=by omega
   have eo:os[i]?=some (os.getD i offD):=by simp[List.getD,hio]
   have hv:=((Paired.getB hO hi eo).same S1).same S2
   refine⟨p,_,rfl,SqT.of Zc,rfl,_,_,rfl,_,_,rfl,rfl,?_⟩
   refine⟨_,rfl,.inl ⟨rfl,_,SqL.of hd2⟩,_,rfl,v,c,os.getD i offD,rfl,hv,fun lw H3 f3 S3 e3=>?_⟩
   generalize hw:wordsO (os.getD i offD)=wo at *
   have lwo:wo.length<=2:=by rw[← hw];exact Ul _
   refine⟨lw,rfl,⟨_,SqL.of e3⟩,fun dc hdc=>?_⟩
   refine⟨wo.length,fun j ys H4=>Same H3 H4/\Paired (SideV K H4) ys ((wo.map fun b=>(i,b)).take j),Zu (by omega),⟨Same.new hdc,.nil⟩,?_,?_⟩
   ·rintro j ys H4 hj ⟨S4,P4⟩ hd4
    have ew:wo[j]?=some wo[j]:=by simp[hj]
    refine⟨⟨_,V.str (wordO wo[j]),SqL.of (S4 _ _ e3),by simp[hj]⟩,?_⟩
    rintro x' H5 ⟨rfl,fx⟩
    have ex:x'=V.str (wordO wo[j]):=by
     have:=fx _ (SqL.of (S4 _ _ e3))
     rw[YD,ew] at this
     exact (YK this).symm
    subst ex
    refine Yh ?_
    refine⟨_,rfl,_,rfl,sz2,fun t ht=>?_⟩
    have S6:Same H5 (upd H5 t (.tup [.int (i:Int),.str (wordO wo[j])])):=Same.new ht
    have hd6:=S6 _ _ hd4
    refine⟨hd6,fun q o' e=>?_,?_⟩
    ·rw[Zf (Ze e hdc)]
     exact S6 _ _ (S4 _ _ e)
    ·rw[V0 _ ew]
     have x7:=(Ext.same S6).trans (Ext.upd (o:=.lst (ys++[.ref t])) hd6)
     exact zT (Paired.mapP P4 fun _ _ q=>q.ext x7) ⟨t,rfl,(Ext.upd hd6).sq (SqT.of Zc)⟩
   ·rintro ys H4 ⟨S4,P4⟩ hd4
    rw[YN (by rw[YC];omega)] at P4
    refine⟨⟨_,SqL.of (S4 _ _ e3),by rw[YC];omega⟩,?_⟩
    have hd5:=S4 _ _ (S3 _ _ hd2)
    have lw1:=XW P1
    have lw4:=XW P4
    have sl:=Vf os i
    rw[YC] at lw4
    refine⟨d,dc,ws,ys,rfl,rfl,hd5,hd4,Zu (by omega),?_⟩
    have S15:Same H1 H4:=(S2.trans S3).trans S4
    refine⟨up _ _ (S1.trans S15),ws++ys,_,_,rfl,Zc,?_⟩
    rw[Sk,hw]
    have xx:=Ext.upd (o:=.lst (ws++ys)) hd5
    exact Paired.appP (Paired.mapP P1 fun _ _ q=>q.ext ((Ext.same S15).trans xx)) (Paired.mapP P4 fun _ _ q=>q.ext xx)
  ·rintro σ H1 ⟨S1,ws,x,y,rfl,hd1,P1⟩
   rw[lo] at P1
   exact⟨_,rfl,k d ws H1 hd S1 hd1 P1⟩
def eL (K:W.Frag):Sp:=fun vs H Q _=>∃ (l:Addr) (c n:Nat) (os:List Offr),vs=[.ref l]/\OffsAt K H l c os/\os.length<=100/\c<=1000/\n<=4000/\(∀ o∈os,GoodO n o)/\∀ (d:Addr) (H':Hp),H d=none->Same H H'->RowsAt K H' d (gainsP os os.length)->Q (.ref d) H'
theorem My:FnScope ["offers"] ["offers"] (defScope l8):=fsc
theorem Z0m (D:Def K mg "gains" l8 ["offers"])(jU:Has P w K mg base 2 "sides" ["offers"] (g9 K))(j3:Has P w K mg base 4 "gain" ["offer","word"] (iY K)):Has P w K mg base 5 "gains" ["offers"] (eL K):=by
 refine D.has fun f fd F=>F.ok My (fun vs H Q E h=>?_) (fun cdv A outer s H vs Q E hr h=>?_)
 ·obtain⟨l,c,n,os,rfl,_⟩:=h
  rfl
 ·obtain⟨l,c,n,os,rfl,⟨vs,hl,hO⟩,hlen,hc,hn,g,k⟩:=h
  have sc:=My
  have nd1:(["number","word","offers"]:List Str).Nodup:=by decide +kernel
  refine⟨_,(Zd (Zi (Yl (N:=["number","word","offers"]) (k:=2) (fv:=[0]) rfl (Xd (Zg jU hr (Z0 (pv 0) Z9)))
   (fun _ _ _ _ _=>Wl (n:=2) rfl (Y7 (Zm (i:=0) nd1 rfl (Or.inl rfl)) (Y7 (Zm (i:=1) nd1 rfl (Or.inl rfl)) Xm))) (fun _ _ _ _ _=>Yb) (fun _ _ _ _ _=>(Zg j3 hr (Z0 (Zj (Z6g (K:=K)) (pv 2) (pv 0) (fun _ _=>rfl)) (Z0 (pv 1) Z9)))) Wz))),?_⟩
  have lo:=XW hO
  refine⟨_,rfl,l,c,os,rfl,⟨vs,hl,hO⟩,hlen,fun ds ws H1 f1 S1 e1 P1=>?_⟩
  have lp:=XW P1
  have sl:=Vf os os.length
  refine⟨ds,rfl,⟨_,SqL.of e1⟩,fun d hd=>?_⟩
  have hd0:H d=none:=by
   cases q:H d with
   | none=>rfl
   | some o=>rw[S1 _ _ q] at hd;cases hd
  refine⟨ws.length,fun i ys H2=>Same H1 H2/\∃ as:List Addr,ys=as.map V.ref/\Paired (RowAt K H2) as ((gainsP os os.length).take i),Zu (by omega),⟨Same.new hd,[],rfl,.nil⟩,?_,?_⟩
  ·rintro i ys H2 hi ⟨S2,as,rfl,P2⟩ hd2
   have ew:ws[i]?=some ws[i]:=by simp[hi]
   refine⟨⟨_,ws[i],SqL.of (S2 _ _ e1),by simp⟩,?_⟩
   rintro x' H3 ⟨rfl,fx⟩
   have ex:x'=ws[i]:=by
    have:=fx _ (SqL.of (S2 _ _ e1))
    rw[ew] at this
    exact (YK this).symm
   subst ex
   have his:i<(sidesP os os.length).length:=by omega
   have es:(sidesP os os.length)[i]?=some ((sidesP os os.length)[i]):=by simp[his]
   obtain⟨t,et,sqt⟩:=(Paired.getB P1 ew es).ext (Ext.same S2)
   have hmem:=YX his
   generalize hsd:(sidesP os os.length)[i]=sd at *
   obtain⟨j,b⟩:=sd
   obtain⟨hj,r,hr'⟩:=Rz hmem
   rw[et]
   refine Rf sqt ?_
   have ej:os[j]?=some (os.getD j offD):=by simp[List.getD,hj]
   have hjv:j<vs.length:=by omega
   have ev:vs[j]?=some vs[j]:=by simp[hjv]
   have hov:=((Paired.getB hO ev ej).same S1).same S2
   refine⟨_,rfl,_,rfl,l,vs,_,_,rfl,rfl,SqL.of (S2 _ _ (S1 _ _ hl)),Zh ev,_,rfl,?_⟩
   refine⟨vs[j],c,n,os.getD j offD,b,r,rfl,hov,hc,g _ (YI ej),hn,hr',fun p H4 S4 R4=>?_⟩
   have hd4:=S4 _ _ hd2
   refine⟨hd4,fun q o' e=>?_,as++[p],by rw[XX];rfl,?_⟩
   ·rw[Zf (Ze e hd)]
    exact S4 _ _ (S2 _ _ e)
   ·have eg:(gainsP os os.length)[i]?=some (gainR (os.getD j offD) b):=by rw[← U8,YD,es];rfl
    rw[Y5 eg]
    exact zT (Yq P2 ((Ext.same S4).trans (Ext.upd hd4))) (R4.ext (Ext.upd hd4))
  ·rintro ys H2 ⟨S2,as,rfl,P2⟩ hd2
   have lg:(gainsP os os.length).length=ws.length:=by rw[← U8,YC,lp]
   rw[YN (by omega)] at P2
   exact⟨⟨_,SqL.of (S2 _ _ e1),YE _⟩,k d H2 hd0 (S1.trans S2) ⟨as,hd2,P2⟩⟩
end
open Sv (sm Y1 Xr Yt sm_zero Y0 Zz Vu)
end Sb
namespace Sb
open PySem L2
open Sv (sm Y1 Xr Yt sm_zero Y0 Zz Vu)
structure Wts (c:Nat)(rss:List (List Rat))(ls:List Rat):Prop where
 len:ls.length=c
 rep:∃ N D Ls,RepL N D Ls ls
 nn:∀ r∈ls,0<=r.1
 fit:∀ rs∈rss,(sumR (List.zipWith mulR' ls rs)).1<=0
 lie:sumR (List.zipWith mulR' ls (papR c none))=(1,1)
def mn (ls as:List Rat):Rat:=sumR (List.zipWith mulR' ls as)
def leR (r s:Rat):Prop:=r.1*s.2<=s.1*r.2
def negR (r:Rat):Rat:=(-r.1,r.2)
theorem negR.low {r:Rat}(h:Low r):Low (negR r):=⟨h.pos,by show Int.gcd (-r.1) r.2=1;rw[Int.neg_gcd];exact h.cop⟩
theorem negR.neg (r:Rat):negR (negR r)=r:=by
 unfold negR
 simp
theorem mul_neg {r:Rat}(h:Low r):mulR' r (-1,1)=negR r:=by
 show nrm (r.1 * -1) (r.2*1)=negR r
 rw[GL,Int.mul_neg,GL]
 exact T9 (r:=negR r) h.pos (negR.low h).cop
theorem Kf {r:Rat}(h:Low r):subR (0,1) r=negR r:=by
 show nrm (0*r.2 - r.1*1) (1*r.2)=negR r
 rw[zo,GL,GU,Int.zero_sub]
 exact T9 (r:=negR r) h.pos (negR.low h).cop
def RowR (c:Nat)(as:List Rat):Prop:=as.length=c/\∃ n D Zs,RepL n D Zs as
section
variable {c:Nat}{rss:List (List Rat)}{ls as bs:List Rat}
end
structure MostV (c:Nat)(rss:List (List Rat))(as:List Rat)(va:Rat):Prop where
 low:Low va
 hit:∃ ls,Wts c rss ls/\mn ls as=va
 top:∀ ls,Wts c rss ls->leR (mn ls as) va
structure LeastV (c:Nat)(rss:List (List Rat))(as:List Rat)(va:Rat):Prop where
 low:Low va
 hit:∃ ls,Wts c rss ls/\mn ls as=va
 bot:∀ ls,Wts c rss ls->leR va (mn ls as)
section
variable {c:Nat}{rss:List (List Rat)}{as bs cs:List Rat}{u v x y z:Rat}
def IsNeg (as bs:List Rat):Prop:=∀ (k:Nat) (x y:Rat),as[k]?=some x->bs[k]?=some y->y=negR x
end
end Sb
namespace Sb
open PySem L2
section
variable {P:Program}{w:World}{K:W.Frag}{mg:Str->Option Value}{base:Heap}
theorem Ju:FnScope ["one","other"] ["one","other"] (defScope lQ):=fsc
theorem Z2w (D:Def K mg "times" lQ ["one","other"])(eG:Z5 P w K mg base):Has P w K mg base 3 "times" ["one","other"] (eK K mulR'):=by
 refine D.has fun f fd F=>F.ok Ju (fun vs H Q E h=>?_) (fun cdv A outer s H vs Q E hr h=>?_)
 ·obtain⟨a,b,r,s,n,rfl,_⟩:=h
  rfl
 ·obtain⟨a,b,r,s,n,rfl,hA,hB,gr,gs,hn,k⟩:=h
  have sc:=Ju
  refine⟨_,(Zd (Zi (Zg eG hr (Z0 (Zl Zw (Zj Yu (pv 0) Za (fun _ _=>rfl)) (Zj Yu (pv 1) Za (fun _ _=>rfl))) (Z0 (Zl Zw (Zj Yn (pv 0) Za (fun _ _=>rfl)) (Zj Yn (pv 1) Za (fun _ _=>rfl))) Z9))))),?_⟩
  exact⟨_,rfl,_,_,_,rfl,rfl,hA,_,rfl,_,_,_,rfl,rfl,hB,_,_,rfl,rfl,gr.b1.mulOk gs.b1 (by omega) (by omega),_,rfl,_,_,_,rfl,rfl,hA,_,rfl,_,_,_,rfl,rfl,hB,_,_,rfl,rfl,gr.b2.mulOk gs.b2 (by omega) (by omega),_,_,rfl,W4 gr.pos gs.pos,Wq gr.b2 gs.b2 hn,k⟩
def eN (K:W.Frag):Sp:=fun vs H Q _=>∃ (a b:Addr) (rs:List Rat) (s:Rat) (n:Nat),vs=[.ref a,.ref b]/\RowAt K H a rs/\SqT K H b [.int s.1,.int s.2]/\rs.length<=1000/\(∀ r∈rs,Good n r)/\Good n s/\n<=4000 ∧
 ∀ c H' ys,Same H H'->H' c=some (.tup ys)->Rs K H' (rs.map fun r=>mulR' r s) ys->Q (.ref c) H'
theorem Uy:FnScope ["row","by"] ["row","by"] (defScope kC):=fsc
theorem Nq (D:Def K mg "multiplied" kC ["row","by"])(T:Blt mg)(jS:Has P w K mg base 3 "times" ["one","other"] (eK K mulR')):Has P w K mg base 4 "multiplied" ["row","by"] (eN K):=by
 refine D.has fun f fd F=>F.ok Uy (fun vs H Q E h=>?_) (fun cdv A outer s H vs Q E hr h=>?_)
 ·obtain⟨a,b,rs,s,n,rfl,_⟩:=h
  rfl
 ·obtain⟨a,b,rs,s,n,rfl,⟨xs,hA,hRs⟩,hB,hl2,gr,gs,hn,k⟩:=h
  have sc:=Uy
  have nd:(["worth","by"]:List Str).Nodup:=by decide +kernel
  refine⟨_,(Zd (Zi (Y8 Y3 rfl T.tuple YY (Z0 (Yl (N:=["worth","by"]) (k:=1) (fv:=[1]) rfl (Ww (pv 0))
   (fun _ _ _ _ _=>Zm (i:=0) nd rfl (Or.inl rfl)) (fun _ _ _ _ _=>Yb) (fun _ _ _ _ _=>Z01 jS (hr.mono (by decide)) rfl (Z0 (pv 0) (Z0 (pv 1) Z9))) Zy) Z9)))),?_⟩
  refine⟨_,rfl,a,rfl,⟨_,hA⟩,fun d hd=>?_⟩
  have lx:=hRs.len
  refine⟨rs.length,fun i ys H2=>Same H H2/\Rs K H2 (mapR (fun r=>mulR' r s) rs i) ys,Zu hl2,⟨Same.new hd,.nil⟩,?_,?_⟩
  ·rintro i ys H2 hi ⟨S2,R2⟩ hd2
   refine⟨⟨xs,xs[i]'(by omega),Zt S2 hA,by simp⟩,?_⟩
   rintro x H3 ⟨rfl,fx⟩
   obtain⟨r,er,ix⟩:=hRs.back (fx xs (Zt S2 hA))
   obtain⟨a1,rfl,sq1⟩:=ix.ext (Ext.same S2)
   refine Yh ?_
   refine⟨_,rfl,_,rfl,a1,b,r,s,n,rfl,sq1,Zt S2 hB,gr r (YI er),gs,hn,fun c H4 fc S4 e4=>?_⟩
   have hd4:H4 d=some (.lst ys):=S4 _ _ hd2
   have E5:Ext H4 (upd H4 d (.lst (ys++[.ref c]))):=Ext.upd hd4
   refine⟨hd4,fun q o e=>?_,?_⟩
   ·rw[Zf (Ze e hd)]
    exact S4 _ _ (S2 _ _ e)
   ·rw[Dq _ er]
    exact (R2.ext ((Ext.same S4).trans E5)).snoc ⟨c,rfl,E5.sq (SqT.of e4)⟩
  ·rintro ys H2 ⟨S2,R2⟩ hd2
   refine⟨⟨xs,Zt S2 hA,by omega⟩,d,ys,rfl,.inl ⟨SqL.of hd2,fun l hl'=>?_⟩⟩
   rw[Z11 _ rfl] at R2
   exact k l _ ys (S2.trans (Same.new hl')) Zc (R2.ext (Ext.new hl'))
end
structure BookU (c n:Nat)(os:List Offr):Prop where
 few:os.length<=100
 good:∀ o∈os,GoodO n o
 rep:∀ rs∈gainsP os os.length,rs.length=c/\∃ D Zs,RepL n D Zs rs
 sides:(gainsP os os.length).length<=30
 n1:1<=n
 n8:n<=800
 bits:bitsOf n c (gainsP os os.length).length<=3000
theorem Wts.ok {c:Nat}{rss:List (List Rat)}{ls:List Rat}(w:Wts c rss ls)(as:List Rat):∃ N,LoadsOk c rss none as N ls (sumR (List.zipWith mulR' ls (cutR none as))):=by
 obtain⟨N,D,L,r⟩:=w.rep
 exact⟨N,w.len,⟨D,L,r⟩,w.nn,w.fit,w.lie,rfl⟩
theorem Z3g {n:Nat}{D:Int}{Zs:List Int}{as:List Rat}(h:RepL n D Zs as):RepL n D (Zs.map fun z=>-z) (as.map fun r=>mulR' r (-1,1)):=by
 refine⟨h.pos,h.bD,by rw[YC,YC,h.len],fun i W r hW hr=>?_⟩
 rw[YD] at hW hr
 cases e1:Zs[i]? with
 | none=>rw[e1] at hW;cases hW
 | some z =>
  cases e2:as[i]? with
  | none=>rw[e2] at hr;cases hr
  | some x =>
   rw[e1] at hW
   rw[e2] at hr
   cases hW
   cases hr
   obtain⟨a1,a2,a3⟩:=h.at_ i z x e1 e2
   show (mulR' x (-1,1)).1*D=-z*(mulR' x (-1,1)).2/\Bd n (-z)/\Low (mulR' x (-1,1))
   rw[mul_neg a3]
   refine⟨?_,?_,negR.low a3⟩
   ·show -x.1*D=-z*x.2
    rw[Y0u,Y0u,a1]
   ·show (-z).natAbs<2 ^ n
    rw[Y0S]
    exact a2
section
variable {P:Program}{w:World}{K:W.Frag}{mg:Str->Option Value}{base:Heap}
def gD (K:W.Frag):Sp:=fun vs H Q _=>∃ (a:Addr) (rs:List Rat) (n:Nat),vs=[.ref a]/\RowAt K H a rs/\rs.length<=1000/\(∀ r∈rs,Good n r)/\1<=n/\n<=4000/\∀ c H',Same H H'->RowAt K H' c (rs.map fun r=>mulR' r (-1,1))->Q (.ref c) H'
theorem Mm:FnScope ["row"] ["row"] (defScope lA):=fsc
theorem Z0a (D:Def K mg "turned" lA ["row"])(eR:Has P w K mg base 4 "multiplied" ["row","by"] (eN K)):Has P w K mg base 5 "turned" ["row"] (gD K):=by
 refine D.has fun f fd F=>F.ok Mm (fun vs H Q E h=>?_) (fun cdv A outer s H vs Q E hr h=>?_)
 ·obtain⟨a,rs,n,rfl,_⟩:=h
  rfl
 ·obtain⟨a,rs,n,rfl,hA,hl,gr,n1,hn,k⟩:=h
  have sc:=Mm
  refine⟨_,(Zd (Zi (Zg eR hr (Z0 (pv 0) (Z0 (Yk (Z0 (Vq Xz Za) (Z0 Za Z9))) Z9))))),?_⟩
  refine⟨_,rfl,_,rfl,sz2,fun p hp=>?_⟩
  have S1:Same H (upd H p (.tup [.int (-1),.int 1])):=Same.new hp
  have g1:Good n (-1,1):=⟨Xf 1 (by decide) n1,Xf 1 (by decide) n1,by decide,by decide⟩
  exact⟨a,p,rs,(-1,1),n,rfl,hA.same S1,SqT.of Zc,hl,gr,g1,hn,fun c H' ys S e R=>k c H' (S1.trans S) ⟨ys,SqT.of e,R⟩⟩
end
def gainsO (o:Offr):List (List Rat):=(wordsO o).map fun b=>gainR o b
theorem Ss (os:List Offr):∀ n,n<=os.length->gainsP os n=(os.take n).flatMap gainsO
 | 0,_=>rfl
 | n+1,h=>by
  have e:os[n]?=some (os.getD n offD):=by simp[List.getD,show n<os.length by omega]
  rw[Su,Ss os n (by omega),Y5 e,Y03]
  simp[gainsO]
theorem Uu (os:List Offr):gainsP os os.length=os.flatMap gainsO:=by rw[Ss os _ (YE _),YN (YE _)]
theorem Qw {o:Offr}{rs:List Rat}(h:rs∈gainsO o):∃ b r,priceO o b=some r/\rs=gainR o b:=by
 unfold gainsO at h
 obtain⟨b,hb,e⟩:=XG.mp h
 have:(0,b)∈sidesP [o] 1:=by
  unfold sidesP
  simp
  exact hb
 obtain⟨_,r,hr⟩:=Rz this
 exact⟨b,r,hr,e.symm⟩
theorem Jf (o:Offr):(gainsO o).length<=2:=by unfold gainsO;rw[YC];exact Ul o
theorem Qy:∀ os:List Offr,(os.flatMap gainsO).length<=2*os.length
 | []=>by simp
 | o::t=>by
  rw[List.flatMap_cons,XD,XZ]
  have:=Qy t
  have:=Jf o
  omega
structure OffRep (c:Nat)(o:Offr):Prop where
 len:o.row.length=c
 rep:∃ (D A B:Int) (Zs:List Int),RepL 90 D Zs o.row/\(∀ r,o.ask=some r->Low r/\r.1*D=A*r.2/\Bd 90 A)/\∀ r,o.bid=some r->Low r/\r.1*D=B*r.2/\Bd 90 B
theorem OffRep.good {c:Nat}{o:Offr}(h:OffRep c o):GoodO 90 o:=by
 obtain⟨D,A,B,Zs,h1,h2,h3⟩:=h.rep
 exact⟨h1.good,fun r e=>Wt h1.pos (h2 r e).1.pos (h2 r e).1.cop (h2 r e).2.1 h1.bD (h2 r e).2.2,fun r e=>Wt h1.pos (h3 r e).1.pos (h3 r e).1.cop (h3 r e).2.1 h1.bD (h3 r e).2.2⟩
theorem OffRep.gain {c:Nat}{o:Offr}(h:OffRep c o){b:Bool}{r:Rat}(hr:priceO o b=some r):(gainR o b).length=c/\∃ D Zs,RepL 91 D Zs (gainR o b):=by
 refine⟨by rw[Pz];exact h.len,?_⟩
 obtain⟨D,A,B,Zs,h1,h2,h3⟩:=h.rep
 have key:∀ (f:Rat->Rat) (g:Int->Int),(∀ i W x,Zs[i]?=some W->o.row[i]?=some x->(f x).1*D=g W*(f x).2/\Bd 91 (g W)/\Low (f x))->RepL 91 D (Zs.map g) (o.row.map f):=fun f g hf=>by
  refine⟨h1.pos,h1.bD.mono (by decide),by rw[YC,YC,h1.len],fun i W x hW hx=>?_⟩
  rw[YD] at hW hx
  cases e1:Zs[i]? with
  | none=>rw[e1] at hW;cases hW
  | some W' =>
   cases e2:o.row[i]? with
   | none=>rw[e2] at hx;cases hx
   | some x' =>
    rw[e1] at hW
    rw[e2] at hx
    cases hW
    cases hx
    exact hf i W' x' e1 e2
 unfold gainR
 cases b with
 | true =>
  have hr:o.ask=some r:=hr
  obtain⟨lr,er,br⟩:=h2 r hr
  rw[hr]
  refine⟨D,_,RepL.cut (key _ (fun W=>W - A) fun i W x e1 e2=>?_) o.ev⟩
  obtain⟨a1,a2,a3⟩:=h1.at_ i W x e1 e2
  exact⟨Rc a3.pos lr.pos a1 er,a2.sub br,Tf a3 lr⟩
 | false =>
  have hr:o.bid=some r:=hr
  obtain⟨lr,er,br⟩:=h3 r hr
  rw[hr]
  refine⟨D,_,RepL.cut (key _ (fun W=>B - W) fun i W x e1 e2=>?_) o.ev⟩
  obtain⟨a1,a2,a3⟩:=h1.at_ i W x e1 e2
  exact⟨Rc lr.pos a3.pos er a1,br.sub a2,Tf lr a3⟩
def FitO (Ws:List Int)(o:Offr):Prop:=∀ (b:Bool) (r:Rat),priceO o b=some r->FitR 61 Ws (gainR o b)
def PriceR (t:Int)(mid:Rat)(o:Option Rat):Prop:=∀ r,o=some r->∃ (sl:Rat) (s:Int),r=addR mid sl/\Low sl/\0<=s/\s<=18/\sl.1*6=(t*s)*sl.2
section
variable {c:Nat}{rs:List Rat}{ask bid:Option Rat}{ev:Option (Nat->Bool)}{mid:Rat}{k C:Int}
theorem Uc {t:Int}{o:Option Rat}{r:Rat}(hp:PriceR t mid o)(lm:Low mid)(hm:mid.1*(6*k)=C*mid.2)(bk:Bd 21 k)(bC:Bd 46 C)(ht:t=1 \/ t=-1)(hr:o=some r):∃ s,0<=s/\s<=18/\Low r/\r.1*(6*k)=(C+t*s*k)*r.2/\Bd 50 (C+t*s*k):=by
 obtain⟨sl,s,e,ls,s0,s1,es⟩:=hp r hr
 refine⟨s,s0,s1,by rw[e];exact Nu lm ls,?_,?_⟩
 ·rw[e]
  exact Gh lm.pos ls.pos hm (V4 k es)
 ·have b1:Bd 6 (t*s):=Xf 6 (show (t*s).natAbs<64 by rcases ht with rfl | rfl <;> omega) (by decide)
  exact ((bC.mono (show 46<=49 by decide)).add ((b1.mul bk).mono (by decide))).mono (by decide)
theorem Dh (six:∀ r∈rs,Six r)(lr:rs.length=c)(lm:Low mid)(hk:0<k)(hm:mid.1*(6*k)=C*mid.2)(bk:Bd 21 k)(bC:Bd 46 C)(ha:PriceR 1 mid ask)(hb:PriceR (-1) mid bid):OffRep c ⟨rs,ask,bid,ev⟩:=by
 refine⟨lr,?_⟩
 have r6:=(RepL.six six).scale hk bk
 have A:∃ A:Int,∀ r,ask=some r->Low r/\r.1*(6*k)=A*r.2/\Bd 90 A:=by
  cases ask with
  | none=>exact⟨0,fun r e=>nomatch e⟩
  | some x =>
   obtain⟨s,_,_,l,e,b⟩:=Uc ha lm hm bk bC (.inl rfl) rfl
   exact⟨_,fun r er=>by cases er;exact⟨l,e,b.mono (by decide)⟩⟩
 have B:∃ A:Int,∀ r,bid=some r->Low r/\r.1*(6*k)=A*r.2/\Bd 90 A:=by
  cases bid with
  | none=>exact⟨0,fun r e=>nomatch e⟩
  | some x =>
   obtain⟨s,_,_,l,e,b⟩:=Uc hb lm hm bk bC (.inr rfl) rfl
   exact⟨_,fun r er=>by cases er;exact⟨l,e,b.mono (by decide)⟩⟩
 obtain⟨A,hA⟩:=A
 obtain⟨B,hB⟩:=B
 exact⟨6*k,A,B,_,r6.mono (by decide),hA,hB⟩
theorem C6 (six:∀ r∈rs,Six r)(lm:Low mid)(hk:0<k)(hm:mid.1*(6*k)=C*mid.2)(bk:Bd 21 k)(bC:Bd 46 C)(ha:PriceR 1 mid ask)(hb:PriceR (-1) mid bid)(b:Bool)(r:Rat)(hr:priceO ⟨rs,ask,bid,ev⟩ b=some r) :
  ∃ (t s:Int),(t=1 \/ t=-1)/\0<=s/\s<=18/\RepL 61 (6*k) (cutZ ev ((wholeB rs 6).map fun z=>t*(z*k - (C+t*s*k)))) (gainR ⟨rs,ask,bid,ev⟩ b):=by
 have em:∀ t s:Int,(wholeB rs 6).map (fun z=>t*(z*k - (C+t*s*k)))=rs.map fun x=>t*(x.1*(6:Int).fdiv x.2*k - (C+t*s*k)):=fun t s=>by
  unfold wholeB
  rw[List.map_map]
  rfl
 have b6:Bd 61 (6*k):=((Xf (x:=6) 3 (by decide) (by decide):Bd 3 6).mul bk).mono (by decide)
 cases b with
 | true =>
  have hr:ask=some r:=hr
  obtain⟨s,s0,s1,l,e,bb⟩:=Uc ha lm hm bk bC (.inl rfl) hr
  refine⟨1,s,.inl rfl,s0,s1,?_⟩
  unfold gainR
  simp only [jr]
  rw[hr,em]
  refine RepL.cut (RepL.of_map (by omega) b6 rs _ _ fun x hx=>?_) ev
  have sx:=six x hx
  have e1:=V4 k sx.rep.1
  refine⟨?_,?_,Tf sx.g.low l⟩
  ·rw[GU]
   exact Rc sx.g.pos l.pos e1 e
  ·rw[GU]
   exact (((sx.rep.2.mul bk).mono (show 24+21<=50 by decide)).sub bb).mono (by decide)
 | false =>
  have hr:bid=some r:=hr
  obtain⟨s,s0,s1,l,e,bb⟩:=Uc hb lm hm bk bC (.inr rfl) hr
  refine⟨-1,s,.inr rfl,s0,s1,?_⟩
  unfold gainR
  simp only [GY,Y08]
  rw[hr,em]
  refine RepL.cut (RepL.of_map (by omega) b6 rs _ _ fun x hx=>?_) ev
  have sx:=six x hx
  have e1:=V4 k sx.rep.1
  have e2:=Rc l.pos sx.g.pos e e1
  refine⟨?_,?_,Tf l sx.g.low⟩
  ·have:-1*(x.1*(6:Int).fdiv x.2*k - (C + -1*s*k))=(C + -1*s*k) - x.1*(6:Int).fdiv x.2*k:=by omega
   rw[this]
   exact e2
  ·have:-1*(x.1*(6:Int).fdiv x.2*k - (C + -1*s*k))=(C + -1*s*k) - x.1*(6:Int).fdiv x.2*k:=by omega
   rw[this]
   exact (bb.sub ((sx.rep.2.mul bk).mono (show 24+21<=50 by decide))).mono (by decide)
theorem Qz {Ws:List Int}{S M:Int}(lW:Ws.length=c)(nn:∀ W∈Ws,0<=W)(six:∀ r∈rs,Six r)(lr:rs.length=c)(hS:S=(List.zipWith (·*·) Ws (cutZ ev (List.replicate c 1))).sum)(hM:M=(List.zipWith (·*·) Ws (cutZ ev (wholeB rs 6))).sum)
  (lm:Low mid) (hk:0<k) (hm:mid.1*(6*k)=C*mid.2) (bk:Bd 21 k) (bC:Bd 46 C) (h1:0<S->k=S/\C=M) (ha:PriceR 1 mid ask) (hb:PriceR (-1) mid bid):FitO Ws ⟨rs,ask,bid,ev⟩:=fun b r hr=>by
 obtain⟨t,s,ht,s0,s1,rep⟩:=C6 (ev:=ev) six lm hk hm bk bC ha hb b r hr
 have lR:(wholeB rs 6).length=c:=by rw[(RepL.six six).len,lr]
 refine⟨_,_,rep,?_⟩
 rw[Z3t lW lR,← hS,← hM]
 have S0:0<=S:=by rw[hS];exact (Q0 lW nn).1
 by_cases q:0<S
 ·obtain⟨rfl,rfl⟩:=h1 q
  have e:t*(k*C - (C+t*s*k)*k)=- (s*(k*k)):=by
   rcases ht with rfl | rfl <;> grind
  rw[e]
  have:0<=s*(k*k):=qq s0 (qq S0 S0)
  omega
 ·have e0:S=0:=by omega
  have eM:M=0:=by
   rw[hM]
   exact Ki lW lR nn (by rw[← hS];exact e0)
  rw[e0,eM]
  simp
end
theorem Z3z (r s:Rat):subR r s=addR r (negR s):=by
 show nrm (r.1*s.2 - s.1*r.2) (r.2*s.2)=nrm (r.1*s.2 + -s.1*r.2) (r.2*s.2)
 rw[Y0u,Int.sub_eq_add_neg]
theorem Lq {z:Int}:(nrm z 2).1*6=z*3*(nrm z 2).2:=by
 have:=Ni (p:=z) (show (2:Int)≠0 by decide)
 have e:=V4 3 this
 exact e
theorem Bw {z:Int}{mid:Rat}(h0:0<=z)(h1:z<=6):PriceR 1 mid (some (addR mid (nrm z 2))):=fun r e=>by
 cases e
 refine⟨nrm z 2,z*3,rfl,Yr (by decide),by omega,by omega,?_⟩
 rw[GU]
 exact Lq
theorem Kr {z:Int}{mid:Rat}(h0:0<=z)(h1:z<=6):PriceR (-1) mid (some (subR mid (nrm z 2))):=fun r e=>by
 cases e
 refine⟨negR (nrm z 2),z*3,Z3z _ _,negR.low (Yr (by decide)),by omega,by omega,?_⟩
 show -(nrm z 2).1*6=-1*(z*3)*(nrm z 2).2
 rw[Y0u,Lq]
 grind
theorem PriceR.non {t:Int}{mid:Rat}:PriceR t mid none:=fun r e=>nomatch e
structure MidR (c:Nat)(Ws:List Int)(rs:List Rat)(o:Option (Nat->Bool))(mid:Rat)(k C:Int):Prop where
 len:rs.length=c
 six:∀ r∈rs,Six r
 g:Good 100 mid
 pos:0<k
 eq:mid.1*(6*k)=C*mid.2
 bk:Bd 21 k
 bC:Bd 46 C
 at_:0<(List.zipWith (·*·) Ws (cutZ o (List.replicate c 1))).sum->k=(List.zipWith (·*·) Ws (cutZ o (List.replicate c 1))).sum/\C=(List.zipWith (·*·) Ws (cutZ o (wholeB rs 6))).sum
theorem Same.viaX {b:Addr}{H H1 H2:Hp}(fb:H b=none)(S:Same H H1)(X:SameX b H1 H2):Same H H2:=fun q o e=>X q o (S q o e) (Ze e fb)
section
variable {P:Program}{w:World}{K:W.Frag}{mg:Str->Option Value}{base:Heap}
def jM (K:W.Frag):Sp:=fun vs H Q _=>∃ (a g:Addr) (ve:V) (c:Nat) (Ws:List Int) (ws rs:List Rat) (o:Option (Nat->Bool)),vs=[.ref a,.ref g,ve]/\RowAt K H a ws/\WtsR c Ws ws/\RowAt K H g rs/\rs.length=c/\(∀ r∈rs,Six r)/\EvAt K H c o ve/\1<=c/\c<=100 ∧
 ∀ (am:Addr) (H':Hp) (mid:Rat) (k C:Int),Same H H'->SqT K H' am [.int mid.1,.int mid.2]->MidR c Ws rs o mid k C->Q (.ref am) H'
theorem Z41:FnScope ["_law_weights_here","_law_row_here","_law_event_here","_law_share"] ["_law_weights_here","_law_row_here","_law_event_here"] (defScope mP):=fsc
set_option maxHeartbeats 1600000 in
theorem Z66 (D:Def K mg "_law_mid" mP ["_law_weights_here","_law_row_here","_law_event_here"])(T:Blt mg)(eD:Z2 P w K mg base)(eE:Z4 P w K mg base)(fB:Has P w K mg base 3 "_law_parted" ["_law_one","_law_other"] (fO K)) :
  Has P w K mg base 5 "_law_mid" ["_law_weights_here","_law_row_here","_law_event_here"] (jM K):=by
 refine D.has fun f fd F=>F.ok Z41 (fun vs H Q E h=>?_) (fun cdv A outer s H vs Q E hr h=>?_)
 ·obtain⟨a,g,ve,c,Ws,ws,rs,o,rfl,_⟩:=h
  rfl
 ·obtain⟨a,g,ve,c,Ws,ws,rs,o,rfl,⟨xs,hxs,hws⟩,wt,⟨us,hus,hrs⟩,l1,six,E0,hc1,hc,k⟩:=h
  have sc:=Z41
  have nd1:(["_law_one"]:List Str).Nodup:=by decide +kernel
  refine⟨_,(Zb (Zk (i:=3) sc.nd rfl (Or.inl rfl) (Zg eD hr (Z0 (pv 0) (Z0 (Zg eE hr (Z0 (Yl (N:=["_law_one"]) (k:=1) (fv:=[]) rfl (Ww (pv 1))
   (fun _ _ _ _ _=>Zm (i:=0) nd1 rfl (Or.inl rfl)) (fun _ _ _ _ _=>Yb) (fun _ _ _ _ _=>(Yk (Z0 Za (Z0 Za Z9)))) Zy) (Z0 (pv 2) Z9))) Z9))))
   (Zb (Yc (Zn Xo (Zj Yu (pv 3) Za (fun _ _=>rfl)) Za (Zq _))
    (Zd (Zi (Yk (Z0 Za (Z0 Za Z9)))))
    Zv)
   (Zd (Zi (Zg fB hr (Z0 (Zg eD hr (Z0 (pv 0) (Z0 (Zg eE hr (Z0 (pv 1) (Z0 (pv 2) Z9))) Z9))) (Z0 (pv 3) Z9))))))),?_⟩
  have lus:=hrs.len
  refine⟨_,rfl,_,rfl,g,rfl,⟨_,hus⟩,fun d hd=>?_⟩
  refine⟨c,fun j ys H'=>Same H H'/\Rs K H' (List.replicate j (1,1)) ys,Zu (by omega),⟨Same.new hd,.nil⟩,?_,?_⟩
  ·rintro j ys H10 hj ⟨S10,R10⟩ hd10
   refine⟨⟨us,us[j]'(by omega),Zt S10 hus,by simp⟩,?_⟩
   rintro x' H3 ⟨rfl,fx⟩
   refine Yh ?_
   refine⟨sz2,fun p hp=>?_⟩
   have S11:Same H3 (upd H3 p (.tup [.int 1,.int 1])):=Same.new hp
   have hd11:=S11 _ _ hd10
   refine⟨hd11,fun q o' e=>?_,?_⟩
   ·rw[Zf (Ze e hd)]
    exact S11 _ _ (S10 _ _ e)
   ·rw[Y0T]
    exact (R10.ext ((Ext.same S11).trans (Ext.upd hd11))).snoc ⟨p,rfl,(Ext.upd hd11).sq (SqT.of Zc)⟩
  rintro ys H10 ⟨S10,R10⟩ hd10
  refine⟨⟨us,Zt S10 hus,by omega⟩,_,rfl,d,ve,ys,List.replicate c (1,1),o,rfl,.inl (SqL.of hd10),R10,by rw[JS];exact E0.same S10,by rw[JS];omega,fun p11 H11 S11 R11=>?_⟩
  obtain⟨ys11,h11,r11⟩:=R11
  have S011:=S10.trans S11
  have ro:=(RepL.ones c).cut o
  have lo:(cutR o (List.replicate c (1,1))).length=c:=by rw[Ye,JS]
  refine⟨a,p11,xs,ys11,ws,_,10,1,_,_,_,_,rfl,.inr (Zt S011 hxs),hws.ext (Ext.same S011),.inr h11,r11,by rw[lo];exact wt.len,by rw[lo];omega,wt.rep,ro,by decide,fun ash H12 S12 e12=>?_⟩
  have S012:=S011.trans S12
  have lWs:Ws.length=c:=by rw[wt.rep.len];exact wt.len
  obtain⟨shE,shL⟩:=(wt.rep.mul ro (by rw[lo];exact wt.len)).sum
  have shG:=(wt.rep.mul ro (by rw[lo];exact wt.len)).sumGood (k:=10) (by rw[JG,lo];omega)
  replace shE:(sumR (List.zipWith mulR' ws (cutR o (List.replicate c (1,1))))).1*(Ws.sum*1)=(List.zipWith (·*·) Ws (cutZ o (List.replicate c 1))).sum*(sumR (List.zipWith mulR' ws (cutR o (List.replicate c (1,1))))).2:=shE
  replace shL:Low (sumR (List.zipWith mulR' ws (cutR o (List.replicate c (1,1))))):=shL
  replace shG:Good (10+1+10) (sumR (List.zipWith mulR' ws (cutR o (List.replicate c (1,1))))):=shG
  generalize sumR (List.zipWith mulR' ws (cutR o (List.replicate c (1,1))))=sh at *
  have bS:Bd 21 (List.zipWith (·*·) Ws (cutZ o (List.replicate c 1))).sum:=Z1q (m:=10) (n:=1) (k:=10) (fun W hW=>wt.rep.bdW W hW) (fun z hz=>ro.bdW z hz) (by rw[lWs];omega)
  have r6:=RepL.six six
  have bM:Bd 44 (List.zipWith (·*·) Ws (cutZ o (wholeB rs 6))).sum:=Z1q (m:=10) (n:=24) (k:=10) (fun W hW=>wt.rep.bdW W hW) (fun z hz=>(r6.cut o).bdW z hz) (by rw[lWs];omega)
  have Snn:0<=(List.zipWith (·*·) Ws (cutZ o (List.replicate c 1))).sum:=(Q0 lWs wt.nn).1
  have wp:=wt.pos
  refine⟨_,rfl,ash,_,_,rfl,rfl,e12,rfl,_,rfl,?_⟩
  refine Xa (fun h=>?_) (fun h=>?_)
  ·have h0:sh.1=0:=by
    have:=XE h
    injection this
   have S0:¬ 0<(List.zipWith (·*·) Ws (cutZ o (List.replicate c 1))).sum:=fun z=>by
    have h1:=YZ z shL.pos
    rw[h0,zo] at shE
    omega
   refine⟨sz2,fun p hp=>?_⟩
   exact k p _ (0,1) 1 0 (S012.trans (Same.new hp)) (SqT.of Zc) ⟨l1,six,⟨bd0 _,Xf 1 (by decide) (by decide),by decide,by decide⟩,by decide,by decide,Xf 1 (by decide) (by decide),bd0 _,fun z=>absurd z S0⟩
  ·have h0:sh.1≠0:=fun z=>h (XF (by rw[z]))
   have hpos:0<sh.1:=by
    have:0<=sh.1:=((Ue (show 0<Ws.sum*1 by omega) shL.pos shE).1).mpr Snn
    omega
   have Spos:0<(List.zipWith (·*·) Ws (cutZ o (List.replicate c 1))).sum:=by
    apply YU
    intro z
    have:(List.zipWith (·*·) Ws (cutZ o (List.replicate c 1))).sum=0:=by omega
    rw[this,zo] at shE
    have:=YZ hpos (show 0<Ws.sum*1 by omega)
    omega
   refine⟨_,rfl,_,rfl,_,rfl,g,ve,us,rs,o,rfl,.inr (Zt S012 hus),hrs.ext (Ext.same S012),by rw[l1];exact E0.same S012,by omega,fun p13 H13 S13 R13=>?_⟩
   obtain⟨ys13,h13,r13⟩:=R13
   have rc:=r6.cut o
   have lc:(cutR o rs).length=c:=by rw[Ye];exact l1
   refine⟨a,p13,xs,ys13,ws,_,10,24,_,_,_,_,rfl,.inr (Zt (S012.trans S13) hxs),hws.ext (Ext.same (S012.trans S13)),.inr h13,r13,by rw[lc];exact wt.len,by rw[lc];omega,wt.rep,rc,by decide,fun am2 H14 S14 e14=>?_⟩
   obtain⟨miE,miL⟩:=(wt.rep.mul rc (by rw[lc];exact wt.len)).sum
   have miG:=(wt.rep.mul rc (by rw[lc];exact wt.len)).sumGood (k:=10) (by rw[JG,lc];omega)
   replace miE:(sumR (List.zipWith mulR' ws (cutR o rs))).1*(Ws.sum*6)=(List.zipWith (·*·) Ws (cutZ o (wholeB rs 6))).sum*(sumR (List.zipWith mulR' ws (cutR o rs))).2:=miE
   replace miL:Low (sumR (List.zipWith mulR' ws (cutR o rs))):=miL
   replace miG:Good (10+24+10) (sumR (List.zipWith mulR' ws (cutR o rs))):=miG
   generalize sumR (List.zipWith mulR' ws (cutR o rs))=mi at *
   have S1214:=S13.trans S14
   replace e12:=Zt S1214 e12
   refine⟨_,rfl,am2,ash,mi,sh,44,rfl,e14,e12,miG,shG.mono (by decide),hpos,by decide,fun aq H15 f15 S15 e15=>?_⟩
   have qE:=Bn (q:=nrm (mi.1*sh.2) (mi.2*sh.1)) miL.pos shL.pos miE shE (X2 (mi.1*sh.2) (mi.2*sh.1))
   have hne:mi.2*sh.1≠0:=W4 miL.pos hpos
   have qG:Good 65 (nrm (mi.1*sh.2) (mi.2*sh.1)):=Ta (miG.b1.mul shG.b2) (miG.b2.mul shG.b1) hne
   exact k aq H15 _ _ _ ((S012.trans S1214).trans S15) (SqT.of e15) ⟨l1,six,qG.mono (by decide),Spos,qE,bS,bM.mono (by decide),fun _=>⟨rfl,rfl⟩⟩
def gG (K:W.Frag):Sp:=fun vs H Q _=>∃ (b a:Addr) (c n:Nat) (Ws:List Int) (ws:List Rat),vs=[.ref b,.ref a,.int 0]/\BagAt H b n/\n<=50000/\RowAt K H a ws/\WtsR c Ws ws/\1<=c/\c<=100 ∧
 ∀ (v:V) (H':Hp) (o:Offr),SameX b H H'->OffAt K H' c o v->OffRep c o->FitO Ws o->Q v H'
theorem Mq:FnScope ["_law_bag_here","_law_weights_here","_law_loose","_law_event_here","_law_row_here","_law_mid_here","_law_ask","_law_bid","_law_way"] ["_law_bag_here","_law_weights_here","_law_loose"] (defScope lX):=fsc
set_option maxHeartbeats 1600000 in
theorem Z0f (D:Def K mg "_law_offer" lX ["_law_bag_here","_law_weights_here","_law_loose"])(T:Blt mg)(eA:Z3 P w K mg base)(fK:Has P w K mg base 2 "_law_event" ["_law_bag_here","_law_count"] (fZ K))(jH:Has P w K mg base 4 "_law_row" ["_law_bag_here","_law_count"] (iS K))(jI:Has P w K mg base 5 "_law_mid" ["_law_weights_here","_law_row_here","_law_event_here"] (jM K))
  (eC:Z1 P w K mg base) (eT:Z7 P w K mg base) (eU:Has P w K mg base 3 "_law_minus" ["_law_one","_law_other"] (eK K subR)) :
  Has P w K mg base 6 "_law_offer" ["_law_bag_here","_law_weights_here","_law_loose"] (gG K):=by
 refine D.has fun f fd F=>F.ok Mq (fun vs H Q E h=>?_) (fun cdv A outer s H vs Q E hr h=>?_)
 ·obtain⟨b,a,c,n,Ws,ws,rfl,_⟩:=h
  rfl
 ·obtain⟨b,a,c,n,Ws,ws,rfl,hB,hn,⟨xs,hxs,hws⟩,wt,hc1,hc,k⟩:=h
  have sc:=Mq
  refine⟨_,(Zb (Zk (i:=3) sc.nd rfl (Or.inl rfl) (Zg fK hr (Z0 (pv 0) (Z0 (Zx Y6 rfl T.len zf (Z0 (pv 1) Z9)) Z9))))
   (Zb (Zk (i:=4) sc.nd rfl (Or.inl rfl) (Zg jH hr (Z0 (pv 0) (Z0 (Zx Y6 rfl T.len zf (Z0 (pv 1) Z9)) Z9))))
   (Zb (Zk (i:=5) sc.nd rfl (Or.inl rfl) (Zg jI hr (Z0 (pv 1) (Z0 (pv 4) (Z0 (pv 3) Z9)))))
   (Zb (Zk (i:=6) sc.nd rfl (Or.inl rfl) (Zg eT hr (Z0 (pv 5) (Z0 (Zg eC hr (Z0 (Zl U4 (Zg eA hr (Z0 (pv 0) (Z0 Za Z9))) (pv 2)) (Z0 Za Z9))) Z9))))
   (Zb (Zk (i:=7) sc.nd rfl (Or.inl rfl) (Zg eU hr (Z0 (pv 5) (Z0 (Zg eC hr (Z0 (Zl U4 (Zg eA hr (Z0 (pv 0) (Z0 Za Z9))) (pv 2)) (Z0 Za Z9))) Z9))))
   (Zb (Zk (i:=8) sc.nd rfl (Or.inl rfl) (Zg eA hr (Z0 (pv 0) (Z0 Za Z9))))
   (Zb (Xc (Yc (Zn Xo (pv 8) Za (Zq _))
    (Zd (Zk (i:=6) sc.nd rfl (Or.inl rfl) Yv))
    Zv))
   (Zb (Xc (Yc (Zn Xo (pv 8) Za (Zq _))
    (Zd (Zk (i:=7) sc.nd rfl (Or.inl rfl) Yv))
    Zv))
   (Zd (Zi (Yk (Z0 (pv 4) (Z0 (pv 6) (Z0 (pv 7) (Z0 (pv 3) Z9))))))))))))))),?_⟩
  have lx:=hws.len
  obtain rfl:c=xs.length:=by have:=wt.len;omega
  generalize hcc:xs.length=c at *
  refine⟨_,rfl,_,rfl,a,xs,rfl,.inr hxs,?_⟩
  rw[hcc]
  refine⟨b,c,n,rfl,hB,by omega,by omega,fun ve H1 o B1 S1 E1=>?_⟩
  have hxs1:SqT K H1 a xs:=(Ext.bag S1 hB).sq hxs
  have hws1:=hws.ext (Ext.bag S1 hB)
  refine⟨_,rfl,_,rfl,a,xs,rfl,.inr hxs1,?_⟩
  rw[hcc]
  refine⟨b,c,_,rfl,B1,by omega,by omega,fun a1 H2 rs B2 S2 R2 l1 six=>?_⟩
  have x12:=Ext.bag S2 B1
  refine⟨_,rfl,_,rfl,_,rfl,a,a1,ve,c,Ws,ws,rs,o,rfl,⟨xs,x12.sq hxs1,hws1.ext x12⟩,wt,R2,l1,six,E1.ext x12,hc1,hc,fun am H3 mid kk C S3 sqm mr=>?_⟩
  have B3:=B2.same S3
  have E3:=(E1.ext x12).same S3
  have R3:=R2.same S3
  have S03:SameX b H H3:=(S1.trans S2).trans (SameX.of S3)
  clear S1 S2 S3 B1 B2 hxs1 hws1 x12 E1 R2
  refine⟨_,rfl,_,rfl,b,_,_,rfl,B3,by omega,by decide,by decide +kernel,fun z H4 z0 z1 B4 S4=>⟨_,rfl,_,_,rfl,rfl,?_⟩⟩
  refine⟨_,_,rfl,by decide,by decide,fun asl H5 f5 S5 e5=>?_⟩
  have e0:z - 0=z:=by omega
  rw[e0] at e5
  have g5:Good 100 (nrm z 2):=(R0 (by omega) (by omega) (.inr (.inl rfl))).g.mono (by decide)
  have x35:=(Ext.bag S4 B3).trans (Ext.same S5)
  refine⟨am,asl,mid,nrm z 2,100,rfl,x35.sq sqm,SqT.of e5,mr.g,g5,by decide,fun aA H6 f6 S6 e6=>?_⟩
  have S36:SameX b H3 H6:=(S4.trans (SameX.of S5)).trans (SameX.of S6)
  have B6:=(B4.same S5).same S6
  have x36:=Ext.bag S36 B3
  clear S4 S5 S6 e5 x35 f5 f6 B4
  refine⟨_,rfl,_,rfl,b,_,_,rfl,B6,by omega,by decide,by decide +kernel,fun y H7 y0 y1 B7 S7=>⟨_,rfl,_,_,rfl,rfl,?_⟩⟩
  refine⟨_,_,rfl,by decide,by decide,fun asl H8 f8 S8 e8=>?_⟩
  have e0:y - 0=y:=by omega
  rw[e0] at e8
  have g8:Good 100 (nrm y 2):=(R0 (by omega) (by omega) (.inr (.inl rfl))).g.mono (by decide)
  have x68:=(Ext.bag S7 B6).trans (Ext.same S8)
  refine⟨am,asl,mid,nrm y 2,100,rfl,x68.sq (x36.sq sqm),SqT.of e8,mr.g,g8,by decide,fun aB H9 f9 S9 e9=>?_⟩
  have S69:SameX b H6 H9:=(S7.trans (SameX.of S8)).trans (SameX.of S9)
  have B9:=(B7.same S8).same S9
  have x69:=Ext.bag S69 B6
  have sqA:=x69.sq (SqT.of (K:=K) e6)
  have sqB:=SqT.of (K:=K) e9
  have x39:=x36.trans x69
  have S09:=(S03.trans S36).trans S69
  clear S7 S8 S9 e8 x68 f8 f9 B7 e6 e9
  refine⟨_,rfl,b,_,_,rfl,B9,by omega,by decide,by decide +kernel,fun wy H10 w0 w1 B10 S10=>?_⟩
  have x910:=Ext.bag S10 B9
  have pu:=Bw (mid:=mid) z0 (show z<=6 by omega)
  have pd:=Kr (mid:=mid) y0 (show y<=6 by omega)
  have fin:∀ (oa ob:Option Rat) (va vb:V),MayAt K H10 oa va->MayAt K H10 ob vb->PriceR 1 mid oa->PriceR (-1) mid ob->∀ p,H10 p=none->Q (.ref p) (upd H10 p (.tup [.ref a1,va,vb,ve])):=fun oa ob va vb Ma Mb pa pb p hp=>by
   have S11:Same H10 (upd H10 p (.tup [.ref a1,va,vb,ve])):=Same.new hp
   have x11:=Ext.same S11
   have x311:=(x39.trans x910).trans x11
   have lWs:Ws.length=c:=by rw[wt.rep.len];exact wt.len
   exact k _ _ ⟨rs,oa,ob,o⟩ ((S09.trans S10).trans (SameX.of S11)) ⟨p,a1,va,vb,ve,rfl,SqT.of Zc,R3.ext x311,l1,Ma.ext x11,Mb.ext x11,E3.ext x311⟩ (Dh six l1 mr.g.low mr.pos mr.eq mr.bk mr.bC pa pb) (Qz lWs wt.nn six l1 rfl rfl mr.g.low mr.pos mr.eq mr.bk mr.bC mr.at_ pa pb)
  refine⟨fun σ H'=>H'=H10/\∃ (oa:Option Rat) (va:V),σ=[some (.ref b),some (.ref a),some (.int 0),some ve,some (.ref a1),some (.ref am),some va,some (.ref aB),some (.int wy)]/\MayAt K H10 oa va/\PriceR 1 mid oa,?_,?_⟩
  ·refine⟨_,rfl,rfl,_,rfl,?_⟩
   refine Xa (fun h=>?_) (fun h=>?_)
   ·exact⟨rfl,none,.non,rfl,rfl,PriceR.non⟩
   ·exact⟨rfl,some _,.ref aA,rfl,⟨aA,rfl,x910.sq sqA⟩,pu⟩
  rintro σ H11 ⟨rfl,oa,va,rfl,Ma,pa⟩
  refine⟨fun σ H'=>H'=H11/\∃ (ob:Option Rat) (vb:V),σ=[some (.ref b),some (.ref a),some (.int 0),some ve,some (.ref a1),some (.ref am),some va,some vb,some (.int wy)]/\MayAt K H11 ob vb/\PriceR (-1) mid ob,?_,?_⟩
  ·refine⟨_,rfl,rfl,_,rfl,?_⟩
   refine Xa (fun h=>?_) (fun h=>?_)
   ·exact⟨rfl,none,.non,rfl,rfl,PriceR.non⟩
   ·exact⟨rfl,some _,.ref aB,rfl,⟨aB,rfl,x910.sq sqB⟩,pd⟩
  rintro σ H12 ⟨rfl,ob,vb,rfl,Mb,pb⟩
  exact⟨_,rfl,_,rfl,_,rfl,_,rfl,sz4,fun p hp=>fin oa ob va vb Ma Mb pa pb p hp⟩
structure FairB (c:Nat)(Ws:List Int)(os:List Offr):Prop where
 rep:∀ o∈os,OffRep c o
 fit:∀ o∈os,FitO Ws o
 few:os.length<=3
def iG (K:W.Frag):Sp:=fun vs H Q _=>∃ (a:Addr) (c:Nat) (ns:List Int),vs=[.ref a,.int (c:Int)]/\SqL K H a (ns.map V.int)/\1<=c/\c<=100 ∧
 ∀ (t aw l:Addr) (H':Hp) (Ws:List Int) (ws:List Rat) (os:List Offr),Same H H'->SqT K H' t [.ref aw,.ref l]->RowAt K H' aw ws->WtsR c Ws ws->OffsAt K H' l c os->FairB c Ws os->Q (.ref t) H'
theorem Ga:FnScope ["_law_script","_law_count","_law_weights_here","_law_many","_law_offers","_law_k"] ["_law_script","_law_count"] (defScope kU):=fsc
set_option maxHeartbeats 1600000 in
theorem Z3c (D:Def K mg "_law_fair_book" kU ["_law_script","_law_count"])(T:Blt mg)(eO:Has P w K mg base 2 "_law_bag" ["_law_script","_law_at"] (gU K))(eA:Z3 P w K mg base)(eS:Has P w K mg base 3 "_law_weights" ["_law_bag_here","_law_count"] (eX K))(iN:Has P w K mg base 6 "_law_offer" ["_law_bag_here","_law_weights_here","_law_loose"] (gG K)) :
  Has P w K mg base 7 "_law_fair_book" ["_law_script","_law_count"] (iG K):=by
 refine D.has fun f fd F=>F.ok Ga (fun vs H Q E h=>?_) (fun cdv A outer s H vs Q E hr h=>?_)
 ·obtain⟨a,c,ns,rfl,_⟩:=h
  rfl
 ·obtain⟨a,c,ns,rfl,hS,hc1,hc,k⟩:=h
  have sc:=Ga
  refine⟨_,(Zb (Zk (i:=2) sc.nd rfl (Or.inl rfl) (Zg eS hr (Z0 (Zg eO hr (Z0 (pv 0) (Z0 Za Z9))) (Z0 (pv 1) Z9))))
   (Zb (Zk (i:=3) sc.nd rfl (Or.inl rfl) (Zj Y2 (W0 (Z0 Za (Z0 Za (Z0 Za (Z0 Za (Z0 Za (Z0 Za (Z0 Za (Z0 Za Z9))))))))) (Zg eA hr (Z0 (Zg eO hr (Z0 (pv 0) (Z0 Za Z9))) (Z0 Za Z9))) (fun _ _=>rfl)))
   (Zb (Zk (i:=4) sc.nd rfl (Or.inl rfl) (W0 Z9))
   (Zb (Xs JC rfl (Yx rfl T.range (Z0 (pv 3) Z9)) (Zm (i:=5) sc.nd rfl (Or.inl rfl))
    (Zd (Xl (Vr XR JQ JR Yy (pv 4) (Z0 (Zg iN hr (Z0 (Zg eO hr (Z0 (pv 0) (Z0 (Zl Yz Za (pv 5)) Z9))) (Z0 (pv 2) (Z0 Za Z9)))) Z9)))))
   (Zd (Zi (Yk (Z0 (pv 2) (Z0 (pv 4) Z9))))))))),?_⟩
  refine⟨_,rfl,a,2,ns,rfl,hS,by decide,fun b H1 fb S1 B1=>?_⟩
  refine⟨_,rfl,b,c,_,rfl,B1,by omega,hc1,hc,fun aw H2 Ws ws B2 S2 R2 wt=>?_⟩
  have S02:=Same.viaX fb S1 S2
  refine⟨sz8,fun l0 hl0=>?_⟩
  have S3:Same H2 (upd H2 l0 (.lst [.int 0,.int 1,.int 2,.int 3,.int 1,.int 2,.int 3,.int 2])):=Same.new hl0
  have e3:upd H2 l0 (.lst [.int 0,.int 1,.int 2,.int 3,.int 1,.int 2,.int 3,.int 2]) l0=some (.lst [.int 0,.int 1,.int 2,.int 3,.int 1,.int 2,.int 3,.int 2]):=Zc
  generalize upd H2 l0 (.lst [.int 0,.int 1,.int 2,.int 3,.int 1,.int 2,.int 3,.int 2])=H3 at *
  have S03:=S02.trans S3
  refine⟨_,rfl,a,3,ns,rfl,V2 S03 hS,by decide,fun b4 H4 fb4 S4 B4=>?_⟩
  refine⟨b4,_,_,rfl,B4,by omega,by decide,by decide +kernel,fun z H5 z0 z1 B5 S5=>?_⟩
  have S35:=Same.viaX fb4 S4 S5
  obtain⟨m,em,hm⟩:∃ m:Nat,atI [V.int 0,.int 1,.int 2,.int 3,.int 1,.int 2,.int 3,.int 2] z=some (.int m)/\m<=3:=by
   have h:z=0 \/ z=1 \/ z=2 \/ z=3 \/ z=4 \/ z=5 \/ z=6 \/ z=7:=by omega
   rcases h with rfl | rfl | rfl | rfl | rfl | rfl | rfl | rfl
   ·exact⟨0,Zh (j:=0) rfl,by decide⟩
   ·exact⟨1,Zh (j:=1) rfl,by decide⟩
   ·exact⟨2,Zh (j:=2) rfl,by decide⟩
   ·exact⟨3,Zh (j:=3) rfl,by decide⟩
   ·exact⟨1,Zh (j:=4) rfl,by decide⟩
   ·exact⟨2,Zh (j:=5) rfl,by decide⟩
   ·exact⟨3,Zh (j:=6) rfl,by decide⟩
   ·exact⟨2,Zh (j:=7) rfl,by decide⟩
  refine⟨l0,_,_,_,rfl,rfl,SqL.of (S35 _ _ e3),em,?_⟩
  refine⟨sz0,fun l hl=>?_⟩
  have S6:Same H5 (upd H5 l (.lst [])):=Same.new hl
  have e6:upd H5 l (.lst []) l=some (.lst []):=Zc
  have S06:=(S03.trans S35).trans S6
  have W6:=R2.same ((S3.trans S35).trans S6)
  have hl0':H l=none:=Tv (S03.trans S35) hl
  generalize upd H5 l (.lst [])=H6 at *
  clear S1 S2 S3 S4 S5 S6 S35 S03 S02 B1 B2 B4 B5 R2 e3 hl0 hl fb4 em z0 z1
  refine⟨_,rfl,(m:Int),rfl,(by omega),(by omega),?_⟩
  have et:(m:Int).toNat=m:=by omega
  rw[et]
  refine N0 (lo:=0) (n:=m) (fun i σ H'=>Same H H'/\RowAt K H' aw ws/\∃ (vs:List V) (os:List Offr) (x:Option V),σ=[some (.ref a),some (.int c),some (.ref aw),some (.int m),some (.ref l),x]/\H' l=some (.lst vs)/\Paired (fun v o=>OffAt K H' c o v) vs os/\os.length=i/\(∀ o∈os,OffRep c o)/\(∀ o∈os,FitO Ws o)) ⟨S06,W6,[],[],none,rfl,e6,.nil,rfl,(fun _ h=>nomatch h),fun _ h=>nomatch h⟩ ?_ ?_
  ·rintro i σ H7 hi ⟨S7,W7,vs,os,x,rfl,hl7,P7,l7,rep7,fit7⟩
   have lp:=XW P7
   refine⟨_,rfl,.inl ⟨rfl,_,SqL.of hl7⟩,_,rfl,_,rfl,_,_,rfl,rfl,a,4+i,ns,(by show [V.ref a,V.int (4+(0+(i:Int)))]=_;rw[show (4+(0+(i:Int)))=((4+i:Nat):Int) by omega]),V2 S7 hS,by omega,fun b8 H8 fb8 S8 B8=>?_⟩
   refine⟨_,rfl,b8,aw,c,_,Ws,ws,rfl,B8,by omega,W7.same S8,wt,hc1,hc,fun v H9 o S9 O9 r9 f9=>?_⟩
   have S79:=Same.viaX fb8 S8 S9
   have hl9:=S79 _ _ hl7
   refine⟨l,_,_,rfl,rfl,hl9,Ub (by omega),fun q o' e=>?_,(W7.same S79).ext (Ext.upd hl9),vs++[v],os++[o],_,rfl,Zc,zT (Ym P7 ((Ext.same S79).trans (Ext.upd hl9))) (O9.ext (Ext.upd hl9)),by rw[XD,l7];rfl,fun o' ho=>?_,fun o' ho=>?_⟩
   ·rw[Zf (Ze e hl0')]
    exact S79 _ _ (S7 q o' e)
   ·rcases JV.mp ho with z | z
    ·exact rep7 o' z
    ·rw[JP.mp z];exact r9
   ·rcases JV.mp ho with z | z
    ·exact fit7 o' z
    ·rw[JP.mp z];exact f9
  ·rintro σ H7 ⟨S7,W7,vs,os,x,rfl,hl7,P7,l7,rep7,fit7⟩
   refine⟨_,rfl,_,rfl,sz2,fun t ht=>?_⟩
   have S8:Same H7 (upd H7 t (.tup [.ref aw,.ref l])):=Same.new ht
   exact k t aw l _ Ws ws os (S7.trans S8) (SqT.of Zc) (W7.same S8) wt ⟨vs,S8 _ _ hl7,Ym P7 (Ext.same S8)⟩ ⟨rep7,fit7,by omega⟩
end
theorem RowR.of {c n:Nat}{as:List Rat}(la:as.length=c)(ra:∃ D Ws,RepL n D Ws as):RowR c as:=⟨la,ra.elim fun D z=>z.elim fun W r=>⟨n,D,W,r⟩⟩
theorem FairB.wts {c:Nat}{Ws:List Int}{ws:List Rat}{os:List Offr}(wt:WtsR c Ws ws)(fb:FairB c Ws os):Wts c (gainsP os os.length) ws:=by
 have lW:Ws.length=c:=by rw[wt.rep.len];exact wt.len
 have wp:=wt.pos
 refine⟨wt.len,⟨_,_,_,wt.rep⟩,fun r hr=>?_,fun rs hr=>?_,?_⟩
 ·obtain⟨i,hi⟩:=XB hr
  have hl:i<Ws.length:=by have:=(YH.mp hi).1;have:=wt.rep.len;omega
  obtain⟨e,_,lo⟩:=wt.rep.at_ i Ws[i] r (by simp[hl]) hi
  exact ((Ue wt.pos lo.pos e).1).mpr (wt.nn _ (YX hl))
 ·rw[Uu] at hr
  obtain⟨o,ho,hm⟩:=Y0F.mp hr
  obtain⟨b,r,hp,e⟩:=Qw hm
  obtain⟨D,Zs,rp,hd⟩:=fb.fit o ho b r hp
  rw[e]
  have ll:(gainR o b).length=c:=by rw[Pz];exact (fb.rep o ho).len
  obtain⟨e1,lo⟩:=(wt.rep.mul rp (by rw[wt.len,ll])).sum
  exact ((Ue (YZ wt.pos rp.pos) lo.pos e1).2.1).mpr hd
 ·have lp:=U2 c none
  obtain⟨e1,lo⟩:=(wt.rep.mul (U1 c none) (by rw[wt.len,lp])).sum
  have e2:(List.zipWith (·*·) Ws (cutZ none (List.replicate c 1))).sum=Ws.sum:=by
   have:cutZ none (List.replicate c (1:Int))=List.replicate c 1:=by
    apply je
    intro i
    rw[M9]
    cases (List.replicate c (1:Int))[i]? <;> rfl
   rw[this,← lW]
   exact (show ∀ l:List Int,(List.zipWith (·*·) l (List.replicate l.length 1)).sum=l.sum from fun l=>by
    induction l with
    | nil=>rfl
    | cons a t ih=>rw[XZ,qk,List.zipWith_cons_cons,zy,zy,ih,GL]) Ws
  rw[e2] at e1
  refine Wi lo.pos (by decide) lo.cop (by decide) ?_
  show (sumR (List.zipWith mulR' ws (papR c none))).1*1=1*(sumR (List.zipWith mulR' ws (papR c none))).2
  have e1:(sumR (List.zipWith mulR' ws (papR c none))).1*(Ws.sum*1)=Ws.sum*(sumR (List.zipWith mulR' ws (papR c none))).2:=e1
  generalize sumR (List.zipWith mulR' ws (papR c none))=x at *
  rw[GL] at e1 ⊢
  rw[GU]
  rw[XH x.1] at e1
  exact JN (by omega) e1
theorem FairB.book {c:Nat}{Ws:List Int}{os:List Offr}(fb:FairB c Ws os):BookU c 91 os:=by
 have few:=fb.few
 have fl:=Qy os
 have ga:=Uu os
 refine⟨by omega,fun o ho=>?_,fun rs hr=>?_,by rw[ga];omega,by decide,by decide,?_⟩
 ·have g:=(fb.rep o ho).good
  exact⟨fun r hr=>(g.row r hr).mono (by decide),fun r e=>(g.ask r e).mono (by decide),fun r e=>(g.bid r e).mono (by decide)⟩
 ·rw[ga] at hr
  obtain⟨o,ho,hm⟩:=Y0F.mp hr
  obtain⟨b,r,hp,e⟩:=Qw hm
  rw[e]
  exact (fb.rep o ho).gain hp
 ·rw[ga]
  unfold bitsOf
  omega
end Sb
namespace Sb
open PySem L2 Sv
structure NewO (c:Nat)(o:Offr)(as:List Rat):Prop where
 row:o.row=as
 len:as.length=c
 rep:RepL 24 6 (wholeB as 6) as
 ask:∀ r,o.ask=some r->Good 530 r
 bid:∀ r,o.bid=some r->Good 530 r
 ev:o.ev=none
end Sb
namespace Sb
open PySem L2
section
variable {c:Nat}{rss:List (List Rat)}{ls:List Rat}{o:Option (Nat->Bool)}{u v:Rat}
end
open Sv (sm Y1 Xr Yt sm_zero Y0 Zz Vu)
end Sb
namespace Sb
open PySem L2
def shR (c:Nat)(ev:Option (Nat->Bool))(ws:List Rat):Rat:=mn ws (cutR ev (List.replicate c (1,1)))
theorem RowR.low8 {c:Nat}{as:List Rat}(ra:RowR c as){x:Rat}(h:x∈as):Low x:=by
 obtain⟨_,n,D,Z,r⟩:=ra
 exact (r.good x h).low
theorem RowR.cut {c:Nat}{as:List Rat}(ra:RowR c as)(ev:Option (Nat->Bool)):RowR c (cutR ev as):=by
 obtain⟨l,n,D,Z,r⟩:=ra
 exact⟨by rw[Ye];exact l,n,_,_,r.cut ev⟩
section
variable {c:Nat}{ls rs:List Rat}{ev:Option (Nat->Bool)}{p:Rat}
end
open Sv (sm Y1 Xr Yt sm_zero Y0 Zz Vu)
def gP (o:Option (Nat->Bool))(as:List Rat)(p:Rat):List Rat:=cutR o (as.map fun x=>subR x p)
structure ConV (c:Nat)(rss:List (List Rat))(o:Option (Nat->Bool))(as:List Rat)(v:Rat):Prop where
 low:Low v
 hit:∃ W,Wts c rss W/\(mn W (gP o as v)).1=0/\0<(shR c o W).1
 top:∀ W,Wts c rss W->(mn W (gP o as v)).1<=0
end Sb
namespace Sb
open PySem L2
open Sv (sm)
theorem To (c:Nat){n:Nat}(hn:1<=n):RepL n 1 (List.replicate c 0) (List.replicate c (0,1)):=by
 refine⟨by decide,YW (show (1:Int).natAbs<2 ^ 1 by decide) (qf (by decide) hn),by simp,fun i W r hW hr=>?_⟩
 have h1:=qd (YI hW)
 have h2:=qd (YI hr)
 subst h1
 subst h2
 exact⟨rfl,bd0 n,Sq⟩
theorem Z13 {r:Rat}(l:Low r):∃ m,Good m r:=⟨r.1.natAbs+r.2.natAbs,YW Y0W (qf (by decide) (by omega)),YW Y0W (qf (by decide) (by omega)),l.pos,l.cop⟩
abbrev ngR (as:List Rat):List Rat:=as.map fun r=>mulR' r (-1,1)
def NoZ (c:Nat)(rss:List (List Rat))(o:Option (Nat->Bool)):Prop:=∀ W,Wts c rss W->0<(shR c o W).1
def CalM (c:Nat)(rss:List (List Rat))(o:Option (Nat->Bool))(as:List Rat)(z:Str)(rs:List Rat):Prop :=
 (z="any"/\rs=[]/\LeastV c rss (papR c o) (0,1)) ∨
 ∃ u v,NoZ c rss o/\ConV c rss o as v/\ConV c rss o (ngR as) (negR u)/\Good 520 u/\Good 520 v/\((u=v/\z="one"/\rs=[v]) \/ (u≠v/\z="span"/\rs=[u,v]))
theorem Z0v {n:Nat}{r:Rat}(g:Good n r):Good n (negR r):=⟨by show (-r.1).natAbs<2 ^ n;rw[Y0S];exact g.b1,g.b2,g.pos,(negR.low g.low).cop⟩
end Sb
namespace Sb
open PySem L2
structure BookM (c n N M:Nat)(os:List Offr):Prop where
 few:os.length<=100
 good:∀ o∈os,GoodO n o
 rep:∀ rs∈gainsP os os.length,rs.length=c/\∃ D Zs,RepL M D Zs rs
 sides:(gainsP os os.length).length<=30
 m1:1<=M
 n4:n<=4000
 nN:N+M<=3900
 bd:∀ (o:Option (Nat->Bool)) (gs:List Rat) (T':Sv.Tab),(∃ D Ws,RepL M D Ws gs)->InvR c (gainsP os os.length) o gs T'->TabBd N ((gainsP os os.length).length+2) c T'
theorem BookM.rows {c n N M:Nat}{os:List Offr}(b:BookM c n N M os):∀ rs∈gainsP os os.length,RowR c rs:=fun rs hr=>RowR.of (b.rep rs hr).1 (b.rep rs hr).2
theorem Jn {c n M N:Nat}{rss:List (List Rat)}{o:Option (Nat->Bool)}{gs:List Rat}{T:Sv.Tab}(hrs:∀ rs∈rss,∃ D Ws,RepL n D Ws rs)(hgs:∃ D Ws,RepL M D Ws gs)(six:rss.length<=6)(h:6*(n+5)+M+12<=N)(I:InvR c rss o gs T):TabBd N (rss.length+2) c T:=by
 have key:=Z28 (nb:=fun _=>n) (fun r rs e=>hrs rs (YI e)) hgs (by omega) I
 have hN:Sv.sN rss.length (fun _=>n+5)+M+12<=N:=by
  have:=Sv.sN_const (f:=fun _=>n+5) (M:=n+5) (n:=rss.length) fun k hk=>YE _
  have:=GM (n+5) six
  omega
 exact⟨fun i j hi hj=>(key.l i j hi hj).mono hN,key.b.mono hN⟩
theorem BookU.toM {c M:Nat}{os:List Offr}(bu:BookU c 91 os)(six:(gainsP os os.length).length<=6)(h:91<=M)(h2:2*M+588<=3900):BookM c 91 (M+588) M os :=
 ⟨bu.few,bu.good,fun rs hr=>⟨(bu.rep rs hr).1,(bu.rep rs hr).2.elim fun D z=>z.elim fun Z r=>⟨D,Z,r.mono h⟩⟩,bu.sides,by omega,by decide,by omega,fun o gs T' rg I=>Jn (fun rs hr=>(bu.rep rs hr).2) rg six (by omega) I⟩
theorem MostT.goodM {c N M:Nat}{rss:List (List Rat)}{o:Option (Nat->Bool)}{as:List Rat}{T:Sv.Tab}{D:Int}{Z:List Int}(h:MostT c rss o (cutR o as) T)(ha:RepL M D Z as)(bd:TabBd N (rss.length+2) c T):Good (N+M) (valueR c rss.length (cutR o as) T):=by
 have b1:=(TabOk.of h.inv).endBd bd (c+rss.length+1)
 have b2:=(ha.cut o).least.bD.mul bd.b
 rw[zZ] at b2
 have:=YZ (ha.cut o).least.pos h.inv.pos
 exact Ta (b1.neg.mono (by omega)) b2 (by omega)
section
variable {P:Program}{w:World}{K:W.Frag}{mg:Str->Option Value}{base:Heap}{C:Addr}
theorem Q5:FnScope ["self","multiples"] ["self","multiples"] (defScope j9):=fsc
theorem Qh {f fI D:Addr}{fd:FuncData}{xn:Str}(F:Fun K "__init__" "NoChance.__init__" j9 f fd)(T:Blt mg)(O:ExcI K mg xn C fI)(B:BaseI K mg "SureError" D)(S:StoI K C "multiples"):FnOk P w K mg base CX0 1 f fd ["self","multiples"] (fH K C):=by
 refine F.ok Q5 (fun vs H Q E h=>?_) (fun cdv A outer s H vs Q E hr h=>?_)
 ·obtain⟨e,l,xs,rfl,_⟩:=h
  rfl
 ·obtain⟨e,l,xs,rfl,he,hl,k⟩:=h
  refine⟨_,Zb (Xl (Z04 B rfl (Z0 (pv 0) (Z0 Xe Z9)))) (Zd (Z2g (pv 0) (Y8 Xp rfl T.list GE (Z0 (pv 1) Z9)) rfl)),?_⟩
  refine⟨_,rfl,e,C,fI,none,xn,_,rfl,sz1,he,O,?_⟩
  refine⟨_,rfl,l,xs,rfl,.inl hl,fun l' hl'=>?_⟩
  have ne:e≠l':=fun z=>by rw[← z,he] at hl';cases hl'
  refine⟨_,rfl,e,C,fI,xn,rfl,?_,O,S,fun d hd hde=>Z1l he hl' hd hde k⟩
  rw[Zf ne]
  exact he
end
abbrev QQ:=_root_.Rat
def qv (r:Rat):QQ:=(r.1:QQ) / (r.2:QQ)
theorem Wj {z:Int}(h:0<z):(z:QQ)≠0:=fun e=>by
 have:z=0:=_root_.Rat.intCast_inj.mp (e.trans _root_.Rat.intCast_zero.symm)
 omega
theorem Wv {z:Int}(h:0<z):0<(z:QQ):=_root_.Rat.intCast_pos.mpr h
theorem Fz {a b:QQ}(h:0<=a*b)(p:0<b):0<=a:=by
 by_cases q:0<=a
 ·exact q
 ·have:=_root_.Rat.mul_pos (show 0 < -a by grind) p
  grind
theorem Z4b {r:Rat}{p q:Int}(hr:0<r.2)(hq:0<q)(e:r.1*q=p*r.2):qv r=(p:QQ) / q:=by
 unfold qv
 have h1:=Wj hr
 have h2:=Wj hq
 have e':(r.1:QQ)*q=p*r.2:=by rw[← _root_.Rat.intCast_mul,← _root_.Rat.intCast_mul,e]
 grind
theorem Vv {p q:Int}(h:0<q):qv (nrm p q)=(p:QQ) / q:=Z4b (Yr (by omega)).pos h (X2 p q)
theorem Z4p {r s:Rat}(lr:Low r)(ls:Low s):qv (addR r s)=qv r+qv s:=by
 have h1:=Wj lr.pos
 have h2:=Wj ls.pos
 rw[show addR r s=nrm (r.1*s.2+s.1*r.2) (r.2*s.2) from rfl,Vv (YZ lr.pos ls.pos)]
 unfold qv
 rw[_root_.Rat.intCast_add,_root_.Rat.intCast_mul,_root_.Rat.intCast_mul,_root_.Rat.intCast_mul]
 grind
theorem Z4m {r s:Rat}(lr:Low r)(ls:Low s):qv (subR r s)=qv r - qv s:=by
 have h1:=Wj lr.pos
 have h2:=Wj ls.pos
 rw[show subR r s=nrm (r.1*s.2 - s.1*r.2) (r.2*s.2) from rfl,Vv (YZ lr.pos ls.pos)]
 unfold qv
 rw[_root_.Rat.intCast_sub,_root_.Rat.intCast_mul,_root_.Rat.intCast_mul,_root_.Rat.intCast_mul]
 grind
theorem Bq {r s:Rat}(lr:Low r)(ls:Low s):qv (mulR' r s)=qv r*qv s:=by
 have h1:=Wj lr.pos
 have h2:=Wj ls.pos
 rw[show mulR' r s=nrm (r.1*s.1) (r.2*s.2) from rfl,Vv (YZ lr.pos ls.pos)]
 unfold qv
 rw[_root_.Rat.intCast_mul,_root_.Rat.intCast_mul]
 grind
theorem Kn {r:Rat}(h:0<r.2):qv r*(r.2:QQ)=r.1:=by
 have:=Wj h
 unfold qv
 grind
theorem Sn {r:Rat}(h:0<r.2):0<=r.1 ↔ 0<=qv r:=by
 have e:=Kn h
 have p:=Wv h
 constructor
 ·intro q
  have:(0:QQ)<=(r.1:QQ):=_root_.Rat.intCast_nonneg.mpr q
  rw[← e] at this
  exact Fz this p
 ·intro q
  have:=_root_.Rat.mul_nonneg q (_root_.Rat.le_of_lt p)
  rw[e] at this
  exact _root_.Rat.intCast_nonneg.mp this
theorem Ui {r:Rat}(h:0<r.2):r.1<=0 ↔ qv r<=0:=by
 have a:=Sn (r:=(-r.1,r.2)) h
 have e:qv (-r.1,r.2)=- qv r:=by
  unfold qv
  rw[show ((-r.1,r.2):Rat).1=-r.1 from rfl,_root_.Rat.intCast_neg]
  grind
 rw[e] at a
 constructor
 ·intro q
  have:=a.mp (show 0<=-r.1 by omega)
  grind
 ·intro q
  have:0<=-r.1:=a.mpr (by grind)
  omega
theorem Vh {r:Rat}(h:0<r.2):0<r.1 ↔ 0<qv r:=by
 have:=Ui h
 constructor
 ·intro q
  by_cases z:qv r<=0
  ·have:=this.mpr z;omega
  ·grind
 ·intro q
  by_cases z:r.1<=0
  ·have:=this.mp z;grind
  ·omega
theorem Kp {r s:Rat}(lr:Low r)(ls:Low s)(h:qv r=qv s):r=s:=by
 refine Wi lr.pos ls.pos lr.cop ls.cop ?_
 have h1:=Kn lr.pos
 have h2:=Kn ls.pos
 have:(r.1:QQ)*s.2=s.1*r.2:=by rw[← h1,← h2,h];grind
 rw[← _root_.Rat.intCast_mul,← _root_.Rat.intCast_mul] at this
 exact _root_.Rat.intCast_inj.mp this
theorem Z2d:qv (0,1)=0:=by
 show ((0:Int):QQ) / ((1:Int):QQ)=0
 rw[_root_.Rat.intCast_zero,_root_.Rat.intCast_one]
 grind
theorem Z2c:qv (1,1)=1:=by
 show ((1:Int):QQ) / ((1:Int):QQ)=1
 rw[_root_.Rat.intCast_one]
 grind
def sQ:Nat->(Nat->QQ)->QQ
 | 0,_=>0
 | n+1,f=>sQ n f+f n
theorem Zp {f g:Nat->QQ}:∀ {n:Nat},(∀ k,k<n->f k=g k)->sQ n f=sQ n g
 | 0,_=>rfl
 | n+1,h=>by
  show sQ n f+f n=sQ n g+g n
  rw[Zp fun k hk=>h k (by omega),h n (by omega)]
theorem Ts (f g:Nat->QQ):∀ (n:Nat),sQ n (fun k=>f k+g k)=sQ n f+sQ n g
 | 0=>by show (0:QQ)=0+0;grind
 | n+1=>by
  show sQ n (fun k=>f k+g k)+(f n+g n)=(sQ n f+f n)+(sQ n g+g n)
  rw[Ts f g n]
  grind
theorem Yo (a:QQ)(f:Nat->QQ):∀ (n:Nat),sQ n (fun k=>a*f k)=a*sQ n f
 | 0=>by show 0=a*0;grind
 | n+1=>by
  show sQ n (fun k=>a*f k)+a*f n=a*(sQ n f+f n)
  rw[Yo a f n]
  grind
theorem Rb {f:Nat->QQ}{n:Nat}(h:∀ k,k<n->f k=0):sQ n f=0:=by
 rw[Zp h]
 have:∀ n,sQ n (fun _=>0)=0:=fun n=>by
  induction n with
  | zero=>rfl
  | succ n ih=>show sQ n _+0=0;rw[ih];grind
 exact this n
theorem L6 {f:Nat->QQ}:∀ {n:Nat},(∀ k,k<n->0<=f k)->0<=sQ n f
 | 0,_=>by show (0:QQ)<=0;grind
 | n+1,h=>by
  show 0<=sQ n f+f n
  have h1:=L6 (f:=f) fun k (hk:k<n)=>h k (by omega)
  have h2:=h n (by omega)
  grind
theorem Ge {f g:Nat->QQ}{n:Nat}(h:∀ k,k<n->f k<=g k):sQ n f<=sQ n g:=by
 have:=L6 (f:=fun k=>g k + -1*f k) fun k (hk:k<n)=>by have:=h k hk;grind
 rw[Ts,Yo] at this
 grind
theorem Nf (f:Nat->Nat->QQ)(m:Nat):∀ (n:Nat),sQ n (fun i=>sQ m (fun j=>f i j))=sQ m (fun j=>sQ n (fun i=>f i j))
 | 0=>(Rb fun _ _=>rfl).symm
 | n+1=>by
  show sQ n (fun i=>sQ m (fun j=>f i j))+sQ m (fun j=>f n j)=sQ m (fun j=>sQ n (fun i=>f i j)+f n j)
  rw[Nf f m n,Ts]
theorem Uz (f:Nat->QQ):∀ (n:Nat),sQ (n+1) f=f 0+sQ n (fun k=>f (k+1))
 | 0=>by show 0+f 0=f 0+0;grind
 | n+1=>by
  show sQ (n+1) f+f (n+1)=f 0+(sQ n (fun k=>f (k+1))+f (n+1))
  rw[Uz f n]
  grind
theorem Pr (p:Nat->Bool)(f:Nat->QQ):∀ (n:Nat),sQ n (fun k=>if p k then f k else 0)=sQ ((List.range n).filter p).length (fun i=>f (((List.range n).filter p).getD i 0))
 | 0=>rfl
 | n+1=>by
  show sQ n (fun k=>if p k then f k else 0)+(if p n then f n else 0)=_
  rw[Pr p f n,zv,zP]
  cases hp:p n with
  | false =>
   have:List.filter p [n]=[]:=by simp[hp]
   rw[this,qh]
   show _+0=_
   grind
  | true =>
   have:List.filter p [n]=[n]:=by simp[hp]
   rw[this,XD]
   show _+f n=sQ (_+1) _
   show _=sQ _ _+_
   congr 1
   ·refine Zp fun k hk=>?_
    congr 1
    rw[YF,YF,JE hk]
   ·congr 1
    rw[YF,XY (YE _),Nat.sub_self]
    rfl
def qr (l:List Rat)(k:Nat):QQ:=qv (l.getD k (0,1))
def Lows (l:List Rat):Prop:=∀ r∈l,Low r
theorem RowR.lows {c:Nat}{l:List Rat}(h:RowR c l):Lows l:=fun r hr=>h.low8 hr
theorem Lows.row {l:List Rat}(h:Lows l):RowR l.length l:=by
 have:∃ n,∀ r∈l,Good n r:=by
  induction l with
  | nil=>exact⟨0,fun r hr=>nomatch hr⟩
  | cons a t ih =>
   obtain⟨n,hn⟩:=ih fun r hr=>h r (YV _ hr)
   obtain⟨m,hm⟩:=Z13 (h a XC)
   refine⟨n+m,fun r hr=>?_⟩
   rcases YS.mp hr with rfl | hr
   ·exact hm.mono (by omega)
   ·exact (hn r hr).mono (by omega)
 obtain⟨n,hn⟩:=this
 exact⟨rfl,_,_,_,RepL.of_good hn⟩
theorem Rv:∀ {l:List Rat} {x:Rat},Low x->Lows l->Low (l.foldl addR x)/\qv (l.foldl addR x)=qv x+sQ l.length (qr l)
 | [],x,lx,_=>⟨lx,by show qv x=qv x+0;grind⟩
 | a::t,x,lx,h=>by
  have la:=h a XC
  obtain⟨h1,h2⟩:=Rv (x:=addR x a) (Nu lx la) fun r hr=>h r (YV _ hr)
  refine⟨h1,?_⟩
  show qv (t.foldl addR (addR x a))=qv x+sQ (t.length+1) (qr (a::t))
  rw[h2,Uz,Z4p lx la]
  have e:sQ t.length (fun k=>qr (a::t) (k+1))=sQ t.length (qr t):=Zp fun k _=>rfl
  rw[e]
  show qv x+qv a+_=qv x+(qv a+_)
  grind
theorem Xu {l:List Rat}(h:Lows l):Low (sumR l):=(Rv Sq h).1
theorem Ko {l:List Rat}(h:Lows l):qv (sumR l)=sQ l.length (qr l):=by
 have:=(Rv Sq h).2
 rw[Z2d] at this
 show qv (l.foldl addR (0,1))=_
 rw[this]
 grind
theorem Vl {l:List Rat}(h:Lows l)(k:Nat):Low (l.getD k (0,1)):=by
 rw[YF]
 cases e:l[k]? with
 | none=>exact Sq
 | some x=>exact h x (YI e)
theorem Qn {l m:List Rat}(h:Lows l)(h':Lows m):Lows (List.zipWith mulR' l m):=fun r hr=>by
 obtain⟨i,hi⟩:=XB hr
 rw[GG] at hi
 cases e1:l[i]? with
 | none=>rw[e1] at hi;simp at hi
 | some x =>
  cases e2:m[i]? with
  | none=>rw[e1,e2] at hi;simp at hi
  | some y =>
   rw[e1,e2] at hi
   cases hi
   exact Tg (h x (YI e1)) (h' y (YI e2))
theorem Z4q {l m:List Rat}(h:Lows l)(h':Lows m){k:Nat}(h1:k<l.length)(h2:k<m.length):qr (List.zipWith mulR' l m) k=qr l k*qr m k:=by
 unfold qr
 have e:(List.zipWith mulR' l m).getD k (0,1)=mulR' (l.getD k (0,1)) (m.getD k (0,1)):=by
  rw[YF,GG,YF,YF,XN h1,XN h2]
  rfl
 rw[e,Bq (Vl h k) (Vl h' k)]
theorem X6 {l m:List Rat}(h:Lows l)(h':Lows m):Low (mn l m):=Xu (Qn h h')
theorem Vw {l m:List Rat}{c:Nat}(h:Lows l)(h':Lows m)(h1:l.length=c)(h2:m.length=c):qv (mn l m)=sQ c (fun k=>qr l k*qr m k):=by
 show qv (sumR _)=_
 rw[Ko (Qn h h')]
 have:(List.zipWith mulR' l m).length=c:=by rw[JG,h1,h2];omega
 rw[this]
 exact Zp fun k hk=>Z4q h h' (by omega) (by omega)
theorem Yi {o:Option (Nat->Bool)}{l:List Rat}(h:Lows l):Lows (cutR o l):=(h.row.cut o).lows
theorem Vi {o:Option (Nat->Bool)}{l:List Rat}{k:Nat}:qr (cutR o l) k=if inE o k then qr l k else 0:=by
 unfold qr cutR
 rw[YF,js,YF]
 cases l[k]? with
 | none=>show qv (0,1)=if inE o k then qv (0,1) else 0;rw[Z2d];cases inE o k <;> rfl
 | some x =>
  show qv (if inE o k then x else (0,1))=if inE o k then qv x else 0
  cases inE o k
  ·exact Z2d
  ·rfl
theorem Z2e {c k:Nat}(h:k<c):qr (List.replicate c (1,1)) k=1:=by
 unfold qr
 rw[YF,zQ,YM h]
 exact Z2c
theorem Xg (c:Nat):Lows (List.replicate c (1,1)):=fun r hr=>by rw[qd hr];exact Gs
theorem Kq {c k:Nat}{o:Option (Nat->Bool)}(h:k<c):qr (papR c o) k=if inE o k then 1 else 0:=by
 unfold papR
 rw[Vi,Z2e h]
theorem Td (c:Nat)(o:Option (Nat->Bool)):Lows (papR c o):=Yi (Xg c)
structure WtsQ (c:Nat)(rss:List (List Rat))(l:List Rat):Prop where
 len:l.length=c
 low:Lows l
 nn:∀ k,k<c->0<=qr l k
 fit:∀ rs∈rss,sQ c (fun k=>qr l k*qr rs k)<=0
 lie:sQ c (qr l)=1
theorem Wts.toQ {c:Nat}{rss:List (List Rat)}{l:List Rat}(w:Wts c rss l)(hrs:∀ rs∈rss,RowR c rs):WtsQ c rss l:=by
 have lw:Lows l:=w.rep.elim fun n z=>z.elim fun D z=>z.elim fun L r=>fun x hx=>(r.good x hx).low
 refine⟨w.len,lw,fun k hk=>?_,fun rs hr=>?_,?_⟩
 ·refine (Sn (Vl lw k).pos).mp ?_
  rw[YF,XN (by rw[w.len];exact hk)]
  exact w.nn _ (YX _)
 ·have h2:=(hrs rs hr).lows
  rw[← Vw lw h2 w.len (hrs rs hr).1]
  exact (Ui (X6 lw h2).pos).mp (w.fit rs hr)
 ·have h:=congrArg qv w.lie
  have e:qv (mn l (papR c none))=1:=by rw[← Z2c];exact h
  rw[Vw lw (Td c none) w.len (U2 c none)] at e
  rw[← e]
  exact Zp fun k hk=>by rw[Kq hk];show _=_*1;grind
theorem WtsQ.wts {c:Nat}{rss:List (List Rat)}{l:List Rat}(w:WtsQ c rss l)(hrs:∀ rs∈rss,RowR c rs):Wts c rss l:=by
 have rr:=w.low.row
 rw[w.len] at rr
 refine⟨w.len,rr.2,fun r hr=>?_,fun rs hr=>?_,?_⟩
 ·obtain⟨k,hk⟩:=XB hr
  have lk:k<c:=by have:=(YH.mp hk).1;rw[w.len] at this;exact this
  have:=w.nn k lk
  unfold qr at this
  rw[YF,hk] at this
  exact (Sn (w.low r hr).pos).mpr this
 ·have h2:=(hrs rs hr).lows
  refine (Ui (X6 w.low h2).pos).mpr ?_
  rw[Vw w.low h2 w.len (hrs rs hr).1]
  exact w.fit rs hr
 ·refine Kp (X6 w.low (Td c none)) Gs ?_
  show qv (mn l (papR c none))=_
  rw[Vw w.low (Td c none) w.len (U2 c none),Z2c,← w.lie]
  exact Zp fun k hk=>by rw[Kq hk];show _*1=_;grind
theorem Xj {c:Nat}{o:Option (Nat->Bool)}{l:List Rat}(h:Lows l)(hl:l.length=c):qv (shR c o l)=sQ c (fun k=>if inE o k then qr l k else 0):=by
 show qv (mn l (papR c o))=_
 rw[Vw h (Td c o) hl (U2 c o)]
 exact Zp fun k hk=>by rw[Kq hk];cases inE o k <;> simp <;> grind
open Sv (sm)
theorem Y9 {α:Type}{l:List α}{k:Nat}{x d:α}(h:l[k]?=some x):l.getD k d=x:=by rw[YF,h];rfl
theorem Bt {a l:QQ}(hl:0<l)(h:l*a<=0):a<=0:=by
 have:=Fz (a:=-a) (b:=l) (by grind) hl
 grind
theorem Bu {a b:QQ}(h:b≠0):a / b*b=a:=by grind
theorem Qj {a b:QQ}(ha:0<=a)(hb:b<=0):a*b<=0:=by
 have:=_root_.Rat.mul_nonneg ha (show 0<=-b by grind)
 grind
theorem Z48 {f:Nat->QQ}{n:Nat}(h:∀ k,k<n->f k<=0):sQ n f<=0:=by
 have:=Ge (f:=f) (g:=fun _=>0) h
 rw[Rb (f:=fun _=>0) fun _ _=>rfl] at this
 exact this
theorem Nc (f:Nat->Int):∀ (n:Nat),((sm n f:Int):QQ)=sQ n (fun j=>(f j:QQ))
 | 0=>_root_.Rat.intCast_zero
 | n+1=>by
  show ((sm n f+f n:Int):QQ)=sQ n (fun j=>(f j:QQ))+(f n:QQ)
  rw[_root_.Rat.intCast_add,Nc f n]
theorem Z4r {l:List Rat}{f:Rat->Rat}{k:Nat}(hk:k<l.length):qr (l.map f) k=qv (f (l.getD k (0,1))):=by
 have e1:l[k]?=some l[k]:=by simp[hk]
 unfold qr
 rw[YF,YD,e1,Y9 e1]
 rfl
theorem Br {c k:Nat}{f:Nat->Rat}(hk:k<c):qr ((List.range c).map f) k=qv (f k):=by
 unfold qr
 rw[YF,YD,qm hk]
 rfl
theorem Z4a {c:Nat}{rs:List Rat}(h:RowR c rs):0<lcmB rs/\∀ v,v<c->(rowF rs v:QQ)=(lcmB rs:QQ)*qr rs v:=by
 obtain⟨hl,n,D,Z,r⟩:=h
 refine⟨r.least.pos,fun v hv=>?_⟩
 have er:rs[v]?=some (rs[v]'(by omega)):=by simp
 obtain⟨e2,_,lo⟩:=r.least.at_ v ((rs[v]'(by omega)).1*(lcmB rs).fdiv (rs[v]'(by omega)).2) (rs[v]'(by omega)) (by unfold wholeB;simp[show v<rs.length by omega]) er
 have p:=Wj r.least.pos
 rw[Nh er]
 unfold qr
 rw[Y9 er,Z4b lo.pos r.least.pos e2]
 grind
section
variable {c:Nat}{rss:List (List Rat)}{o:Option (Nat->Bool)}{as W:List Rat}{T:Sv.Tab}{v:Rat}
theorem Fk (rows:∀ rs∈rss,RowR c rs){j:Nat}(hj:j<rss.length):0<lcmB (rss.getD j [])/\∀ i,i<c->(AOf rss j i:QQ)=(lcmB (rss.getD j []):QQ)*qr (rss.getD j []) i:=by
 refine Z4a ?_
 rw[Y9 (l:=rss) (x:=rss[j]) (by simp[hj])]
 exact rows _ (YX hj)
theorem L9 {i:Nat}(hi:i<c):(rowF (papR c o) i:QQ)=if inE o i then 1 else 0:=by
 rw[Z4w hi,Z15]
 cases inE o i <;> rfl
theorem Z1p {y α β:Nat->Int}(rows:∀ rs∈rss,RowR c rs)(w:WtsQ c rss W)(y0:∀ j,j<rss.length->0<=y j)(h:∀ i,i<c->α i<=sm rss.length (fun j=>AOf rss j i*y j)+β i):sQ c (fun i=>qr W i*(α i:QQ))<=sQ c (fun i=>qr W i*(β i:QQ)):=by
 have a:sQ c (fun i=>qr W i*(α i:QQ))<=sQ c (fun i=>sQ rss.length (fun j=>qr W i*((AOf rss j i:QQ)*(y j:QQ)))+qr W i*(β i:QQ)):=Ge fun i hi=>by
  have:=_root_.Rat.intCast_le_intCast.mpr (h i hi)
  rw[_root_.Rat.intCast_add,Nc] at this
  rw[Zp (f:=fun j=>((AOf rss j i*y j:Int):QQ)) (g:=fun j=>(AOf rss j i:QQ)*(y j:QQ)) fun j _=>_root_.Rat.intCast_mul _ _] at this
  rw[Yo]
  have:=_root_.Rat.mul_nonneg (w.nn i hi) (show 0<=sQ rss.length (fun j=>(AOf rss j i:QQ)*(y j:QQ))+(β i:QQ) - (α i:QQ) by grind)
  grind
 rw[Ts,Nf] at a
 have b:sQ rss.length (fun j=>sQ c (fun i=>qr W i*((AOf rss j i:QQ)*(y j:QQ))))<=0:=Z48 fun j hj=>by
  obtain⟨lp,e⟩:=Fk rows hj
  rw[Zp (g:=fun i=>(y j:QQ)*(lcmB (rss.getD j []):QQ)*(qr W i*qr (rss.getD j []) i)) fun i hi=>by rw[e i hi];grind,Yo]
  refine Qj (_root_.Rat.mul_nonneg (_root_.Rat.intCast_nonneg.mpr (y0 j hj)) (_root_.Rat.le_of_lt (Wv lp))) (w.fit _ ?_)
  rw[Y9 (l:=rss) (x:=rss[j]) (by simp[hj])]
  exact YX hj
 grind
theorem NoneT.noshareq {gs:List Rat}(h:NoneT c rss o gs T)(rows:∀ rs∈rss,RowR c rs)(w:WtsQ c rss W):(shR c o W).1=0:=by
 obtain⟨h1,h2⟩:=h.sv
 have d:=Z1p (y:=fun k=>-Sv.numAt c T rss.length (c+k)) (α:=fun i=>rowF (papR c o) i*T.b) (β:=fun _=>0) rows w (fun j hj=>by have:=h1 j hj;omega) fun i hi=>by have:=h2 i hi;omega
 have ls:=X6 w.low (Yi (o:=o) (Xg c))
 have e:sQ c (fun i=>qr W i*((rowF (papR c o) i*T.b:Int):QQ))=(T.b:QQ)*qv (shR c o W):=by
  rw[Xj w.low w.len,← Yo]
  refine Zp fun i hi=>?_
  rw[_root_.Rat.intCast_mul,L9 hi]
  cases inE o i <;> simp <;> grind
 rw[e,Rb fun i _=>by rw[_root_.Rat.intCast_zero];grind] at d
 have a:=(Ui ls.pos).mpr (Bt (Wv h.inv.pos) d)
 have b:0<=qv (shR c o W):=by
  rw[Xj w.low w.len]
  exact L6 fun k hk=>by cases inE o k <;> simp <;> exact w.nn k hk
 have b:=(Sn ls.pos).mpr b
 have a:(shR c o W).1<=0:=a
 have b:0<=(shR c o W).1:=b
 omega
theorem NoneT.noloadsq {gs:List Rat}(h:NoneT c rss none gs T)(rows:∀ rs∈rss,RowR c rs)(w:WtsQ c rss W):False:=by
 have e:=h.noshareq rows w
 have ls:=X6 w.low (Yi (o:=none) (Xg c))
 have a:=(Ui ls.pos).mp (show (shR c none W).1<=0 by omega)
 have b:qv (shR c none W)=1:=(Xj w.low w.len).trans w.lie
 have a:qv (shR c none W)<=0:=a
 rw[b] at a
 exact absurd a (by decide)
theorem NoneT.q {gs:List Rat}(h:NoneT c rss o gs T)(rows:∀ rs∈rss,RowR c rs){i:Nat}(hi:i<c):(if inE o i then (1:QQ) else 0)<=sQ rss.length (fun j=>qr (multR c rss T rss.length 1) j*qr (rss.getD j []) i):=by
 have bp:=h.inv.pos
 have pb:=Wv bp
 have s:=_root_.Rat.intCast_le_intCast.mpr (h.sv.2 i hi)
 rw[_root_.Rat.intCast_mul,L9 hi,Nc] at s
 have e:sQ rss.length (fun j=>((AOf rss j i * -Sv.numAt c T rss.length (c+j):Int):QQ))=(T.b:QQ)*sQ rss.length (fun j=>qr (multR c rss T rss.length 1) j*qr (rss.getD j []) i):=by
  rw[← Yo]
  refine Zp fun j hj=>?_
  have:qr (multR c rss T rss.length 1) j=((-Sv.numAt c T rss.length (c+j)*lcmB (rss.getD j []):Int):QQ) / ((1*T.b:Int):QQ):=(Br hj).trans (Vv (by omega))
  rw[this,_root_.Rat.intCast_mul,_root_.Rat.intCast_mul,(Fk rows hj).2 i hi,GU]
  grind
 rw[e] at s
 have:=Fz (a:=sQ rss.length (fun j=>qr (multR c rss T rss.length 1) j*qr (rss.getD j []) i) - if inE o i then (1:QQ) else 0) (b:=(T.b:QQ)) (by grind) pb
 grind
theorem M0 (hl:Lows as)(lv:Low v):Lows (gP o as v):=by
 unfold gP
 refine Yi fun r hr=>?_
 obtain⟨x,hx,rfl⟩:=XG.mp hr
 exact Tf (hl x hx) lv
theorem Z5r:(gP o as v).length=as.length:=by unfold gP;rw[Ye,YC]
theorem Z62 {k:Nat}(hl:Lows as)(lv:Low v)(hk:k<as.length):qr (gP o as v) k=if inE o k then qr as k - qv v else 0:=by
 unfold gP
 rw[Vi,Z4r hk,Z4m (Vl hl k) lv]
 rfl
theorem Jg (lw:Lows W)(len:W.length=c)(hl:Lows as)(la:as.length=c)(lv:Low v):qv (mn W (gP o as v))=sQ c (fun k=>qr W k*qr (cutR o as) k) + -qv v*qv (shR c o W):=by
 rw[Vw lw (M0 hl lv) len (by rw[Z5r,la]),Xj lw len,← Yo,← Ts]
 refine Zp fun k hk=>?_
 rw[Z62 hl lv (by omega),Vi]
 cases inE o k <;> simp <;> grind
theorem Z3k {r:Rat}(l:Low r)(e:qv r=0):r.1=0:=by
 have a:=(Ui l.pos).mpr (by grind)
 have b:=(Sn l.pos).mpr (by grind)
 omega
theorem MostT.conq (h:MostT c rss o (cutR o as) T)(rows:∀ rs∈rss,RowR c rs)(ra:RowR c as):ConV c rss o as (valueR c rss.length (cutR o as) T):=by
 have M:=h.sv
 have bp:=h.inv.pos
 have pb:=Wv bp
 obtain⟨gp,ge⟩:=Z4a (ra.cut o)
 have pg:=Wv gp
 have la:=ra.1
 have low:=ra.lows
 have p2:=YZ gp bp
 have lv:Low (valueR c rss.length (cutR o as) T):=Yr (by omega)
 have ev:qv (valueR c rss.length (cutR o as) T)*((lcmB (cutR o as):QQ)*(T.b:QQ))=((-T.L (rss.length+1) c:Int):QQ):=by
  have e:qv (valueR c rss.length (cutR o as) T)=((-Sv.endOf (rss.length+2) c T (c+rss.length+1):Int):QQ) / ((lcmB (cutR o as)*T.b:Int):QQ):=Vv p2
  rw[← h.aim,(TabOk.of h.inv).endO (by omega),_root_.Rat.intCast_mul] at e
  rw[e]
  exact Bu (by have:=_root_.Rat.mul_pos pg pb;grind)
 generalize valueR c rss.length (cutR o as) T=v at *
 generalize hV:-T.L (rss.length+1) c=V at *
 refine⟨lv,?_,fun W w=>?_⟩
 ·have x0:=M.x0
  have fit:=M.fit
  have lie:=congrArg (fun z:Int=>(z:QQ)) M.lie
  have val:=congrArg (fun z:Int=>(z:QQ)) M.val
  simp only [Nc,_root_.Rat.intCast_mul] at lie val
  generalize Sv.endOf (rss.length+2) c T=e at *
  rw[Zp fun i hi=>by rw[L9 hi]] at lie
  rw[Zp fun i hi=>by rw[ge i hi],hV] at val
  have en:∀ i,i<c->0<=(e i:QQ):=fun i hi=>_root_.Rat.intCast_nonneg.mpr (x0 i hi)
  have Sp:0<sm c e:=by
   refine _root_.Rat.intCast_pos.mp ?_
   rw[Nc]
   have:=Ge (n:=c) (f:=fun i=>(if inE o i then (1:QQ) else 0)*(e i:QQ)) (g:=fun i=>(e i:QQ)) fun i hi=>by have:=en i hi;cases inE o i <;> simp <;> grind
   grind
  have ps:=Wv Sp
  have se:=Nc e c
  generalize sm c e=S at *
  have rp:0<(1:QQ) / (S:QQ):=by
   rcases Classical.em (0<(1:QQ) / (S:QQ)) with z | z
   ·exact z
   ·have:=Qj (_root_.Rat.le_of_lt ps) (show (1:QQ) / (S:QQ)<=0 by grind)
    have e1:(S:QQ)*(1 / (S:QQ))=1:=by grind
    rw[e1] at this
    exact absurd this (by decide)
  have qw:∀ i,i<c->qr ((List.range c).map fun i=>nrm (e i) S) i=1 / (S:QQ)*(e i:QQ):=fun i hi=>by rw[Br hi,Vv Sp];grind
  have lw:Lows ((List.range c).map fun i=>nrm (e i) S):=fun r hr=>by
   obtain⟨i,_,rfl⟩:=XG.mp hr
   exact Yr (by omega)
  have len:((List.range c).map fun i=>nrm (e i) S).length=c:=by simp
  generalize (List.range c).map (fun i=>nrm (e i) S)=W at *
  have wq:WtsQ c rss W:=by
   refine⟨len,lw,fun i hi=>?_,fun rs hr=>?_,?_⟩
   ·rw[qw i hi]
    exact _root_.Rat.mul_nonneg (_root_.Rat.le_of_lt rp) (en i hi)
   ·obtain⟨j,hj,rfl⟩:=Y0X hr
    have f:=_root_.Rat.intCast_le_intCast.mpr (fit j hj)
    rw[Nc] at f
    obtain⟨lp,ea⟩:=Fk rows hj
    rw[Y9 (l:=rss) (x:=rss[j]) (by simp[hj])] at lp ea
    rw[Zp (g:=fun i=>(lcmB rss[j]:QQ)*((e i:QQ)*qr rss[j] i)) fun i hi=>by rw[_root_.Rat.intCast_mul,ea i hi];grind,Yo] at f
    rw[Zp (g:=fun i=>1 / (S:QQ)*((e i:QQ)*qr rss[j] i)) fun i hi=>by rw[qw i hi];grind,Yo]
    exact Qj (_root_.Rat.le_of_lt rp) (Bt (Wv lp) f)
   ·rw[Zp qw,Yo,← se]
    grind
  have es:qv (shR c o W)=1 / (S:QQ)*(T.b:QQ):=by
   rw[Xj lw len,← lie,← Yo]
   exact Zp fun i hi=>by rw[qw i hi];cases inE o i <;> simp <;> grind
  refine⟨W,wq.wts rows,Z3k (X6 lw (M0 low lv)) ?_,(Vh (X6 lw (Yi (Xg c))).pos).mpr ?_⟩
  ·rw[Jg lw len low la lv,es]
   have e1:(lcmB (cutR o as):QQ)*sQ c (fun k=>qr W k*qr (cutR o as) k)=1 / (S:QQ)*(V:QQ):=by
    rw[← val,← Yo,← Yo]
    exact Zp fun i hi=>by rw[qw i hi];grind
   have e2:(lcmB (cutR o as):QQ)*(sQ c (fun k=>qr W k*qr (cutR o as) k) + -qv v*(1 / (S:QQ)*(T.b:QQ)))=0:=by
    rw[← ev] at e1
    grind
   have a:=Bt pg (show _<=(0:QQ) by rw[e2];exact _root_.Rat.le_refl)
   have b:=Fz (a:=sQ c (fun k=>qr W k*qr (cutR o as) k) + -qv v*(1 / (S:QQ)*(T.b:QQ))) (b:=(lcmB (cutR o as):QQ)) (by grind) pg
   grind
  ·show 0<qv (shR c o W)
   rw[es]
   exact _root_.Rat.mul_pos rp pb
 ·have wq:=w.toQ rows
  refine (Ui (X6 wq.low (M0 low lv)).pos).mpr ?_
  rw[Jg wq.low wq.len low la lv]
  have d:=Z1p (y:=fun k=>-Sv.numAt c T (rss.length+1) (c+k)) (α:=fun i=>rowF (cutR o as) i*T.b) (β:=fun i=>rowF (papR c o) i*V) rows wq (fun j hj=>by have:=M.y0 j hj;omega) fun i hi=>by have:=M.show_ i hi;rw[hV] at this;exact this
  have e1:sQ c (fun i=>qr W i*((rowF (cutR o as) i*T.b:Int):QQ))=(lcmB (cutR o as):QQ)*(T.b:QQ)*sQ c (fun k=>qr W k*qr (cutR o as) k):=by
   rw[← Yo]
   exact Zp fun i hi=>by rw[_root_.Rat.intCast_mul,ge i hi];grind
  have e2:sQ c (fun i=>qr W i*((rowF (papR c o) i*V:Int):QQ))=(V:QQ)*qv (shR c o W):=by
   rw[Xj wq.low wq.len,← Yo]
   exact Zp fun i hi=>by rw[_root_.Rat.intCast_mul,L9 hi];cases inE o i <;> simp <;> grind
  rw[e1,e2,← ev] at d
  exact Bt (_root_.Rat.mul_pos pg pb) (by grind)
end
end Sb
namespace Sb
open PySem PySem.Spec PyProof.Rows L2
section
variable {X:Cx}{K:W.Frag}
theorem Z1m {X:Cx}{pins:List (Addr × Obj)}{σ:L2.St}{H:Hp}{s:Shared}(I:Inv X pins σ H s){A:Around}{a b:Addr}{r t:Rat}(ha:SqT X.K H a [.int r.1,.int r.2])(hb:SqT X.K H b [.int t.1,.int t.2])(hu:A.units<cLine):SeqAt.EqAt A s (.ref a) (.ref b) (decide (r=t)):=by
 obtain⟨i1,r1,p1,_⟩:=I.tuple ha
 obtain⟨i2,r2,p2,_⟩:=I.tuple hb
 by_cases hab:a=b
 ·subst hab
  have:=I.tuple_inj ha hb
  simp at this
  have e:r=t:=Prod.ext this.1 this.2
  rw[XF e]
  exact zu _
 ·refine SeqAt.EqAt.of_refs hab ?_
  have r1':Vals ([r.1,r.2].map V.int) i1:=r1
  have r2':Vals ([t.1,t.2].map V.int) i2:=r2
  have l1:=r1.length
  have l2:=r2.length
  have:=Y0t (A:=A) (e:=fun j=>[r.1,r.2].getD j 0 == [t.1,t.2].getD j 0) p1 p2 hu fun j h1 h2=>by
   obtain⟨k1,e1⟩:=Rh r1' (j:=j) (by simpa using h1)
   obtain⟨k2,e2⟩:=Rh r2' (j:=j) (by simpa using h2)
   have e1':i1.toArray[j]=Value.int ([r.1,r.2].getD j 0) k1:=by rw[← e1];simp
   have e2':i2.toArray[j]=Value.int ([t.1,t.2].getD j 0) k2:=by rw[← e2];simp
   rw[e1',e2']
   exact zk _ _ _ _
  rw[YQ,YQ,← l1,← l2] at this
  have q:=Z20 [r.1,r.2] [t.1,t.2]
  have e:decide ([r.1,r.2]=[t.1,t.2])=decide (r=t):=by
   rw[GI]
   simp[Prod.ext_iff]
  rw[e] at q
  rw[← q]
  exact this
def rEqR (K:W.Frag):R2:=fun x y H Q=>∃ (a:Addr) (rs:List Rat),x=.ref a/\RowAt K H a rs/\((y=.non/\Q (.bl false) H) \/ ∃ (b:Addr) (ss:List Rat),y=.ref b/\RowAt K H b ss/\Q (.bl (decide (rs=ss))) H)
theorem Z08 (hu:X.A.units+64<cLine)(hK:X.K=K:=by rfl):OpR X (compareOp .Eq) (rEqR K):=by
 subst hK
 intro pins s σ H x y v u Q I rx ry h
 obtain⟨a,rs,rfl,⟨xs,ha,hxs⟩,⟨rfl,q⟩ | ⟨b,ss,rfl,⟨ys,hb,hys⟩,q⟩⟩:=h
 ·cases rx
  cases ry
  obtain⟨its,r1,p1,_⟩:=I.tuple ha
  exact SeqAt.RcAt.tuple_none p1 (by omega) _ _ _ _ ⟨.bl false,H,I,rfl,q⟩
 ·cases rx
  cases ry
  obtain⟨i1,r1,p1,_⟩:=I.tuple ha
  obtain⟨i2,r2,p2,_⟩:=I.tuple hb
  have l1:=r1.length
  have l2:=r2.length
  have m1:=hxs.len
  have m2:=hys.len
  refine Y0t (A:=X.A) (e:=fun j=>decide (rs.getD j (0,1)=ss.getD j (0,1))) p1 p2 (by omega) (fun j h1 h2=>?_) _ _ _ _ ?_
  ·have h1':j<i1.length:=by simpa using h1
   have h2':j<i2.length:=by simpa using h2
   obtain⟨w1,e1,q1⟩:=r1.get (i:=j) (x:=xs[j]'(by omega)) (by simp)
   obtain⟨w2,e2,q2⟩:=r2.get (i:=j) (x:=ys[j]'(by omega)) (by simp)
   have g1:i1.toArray[j]=w1:=by
    have:i1[j]?=some i1[j]:=by simp[h1']
    rw[this] at e1
    simpa using YK e1
   have g2:i2.toArray[j]=w2:=by
    have:i2[j]?=some i2[j]:=by simp[h2']
    rw[this] at e2
    simpa using YK e2
   rw[g1,g2]
   obtain⟨r,er,a1,ea,sa⟩:=hxs.back (i:=j) (show xs[j]?=some (xs[j]'(by omega)) by simp)
   obtain⟨t,et,b1,eb,sb⟩:=hys.back (i:=j) (show ys[j]?=some (ys[j]'(by omega)) by simp)
   rw[ea] at q1
   rw[eb] at q2
   cases q1
   cases q2
   have f1:rs.getD j (0,1)=r:=by rw[YF,er];rfl
   have f2:ss.getD j (0,1)=t:=by rw[YF,et];rfl
   rw[f1,f2]
   exact Z1m I sa sb (by show X.A.units+1<cLine;omega)
  ·have e:((List.range (min i1.toArray.size i2.toArray.size)).all (fun j=>decide (rs.getD j (0,1)=ss.getD j (0,1))) && i1.toArray.size == i2.toArray.size)=decide (rs=ss):=by
    rw[YQ,YQ,← l1,← l2,← m1,← m2,GI]
    simp only [JH,Y0C,GN,qa,zD]
    constructor
    ·rintro ⟨h,hl⟩
     refine jo hl fun i h1 h2=>?_
     have:=h i (by omega)
     simpa [List.getD,h1,h2] using this
    ·rintro rfl
     exact⟨fun _ _=>rfl,rfl⟩
   rw[e]
   exact⟨.bl _,H,I,rfl,q⟩
end
end Sb
namespace Sb
open PySem L2
section
variable {P:Program}{w:World}{K:W.Frag}{mg:Str->Option Value}{base:Heap}
theorem B0:FnScope ["one","other"] ["one","other"] (defScope mE):=fsc
theorem Z56 (D:Def K mg "plus" mE ["one","other"])(eG:Z5 P w K mg base):Has P w K mg base 3 "plus" ["one","other"] (eK K addR):=by
 refine D.has fun f fd F=>F.ok B0 (fun vs H Q E h=>?_) (fun cdv A outer s H vs Q E hr h=>?_)
 ·obtain⟨a,b,r,s,n,rfl,_⟩:=h
  rfl
 ·obtain⟨a,b,r,s,n,rfl,hA,hB,gr,gs,hn,k⟩:=h
  have sc:=B0
  refine⟨_,(Zd (Zi (Zg eG hr (Z0 (Zl Yz (Zl Zw (Zj Yu (pv 0) Za (fun _ _=>rfl)) (Zj Yn (pv 1) Za (fun _ _=>rfl))) (Zl Zw (Zj Yu (pv 1) Za (fun _ _=>rfl)) (Zj Yn (pv 0) Za (fun _ _=>rfl)))) (Z0 (Zl Zw (Zj Yn (pv 0) Za (fun _ _=>rfl)) (Zj Yn (pv 1) Za (fun _ _=>rfl))) Z9))))),?_⟩
  exact⟨_,rfl,_,_,_,rfl,rfl,hA,_,rfl,_,_,_,rfl,rfl,hB,_,_,rfl,rfl,gr.b1.mulOk gs.b2 (by omega) (by omega),_,rfl,_,_,_,rfl,rfl,hB,_,rfl,_,_,_,rfl,rfl,hA,_,_,rfl,rfl,gs.b1.mulOk gr.b2 (by omega) (by omega),_,_,rfl,rfl,_,rfl,_,_,_,rfl,rfl,hA,_,rfl,_,_,_,rfl,rfl,hB,_,_,rfl,rfl,gr.b2.mulOk gs.b2 (by omega) (by omega),_,_,rfl,W4 gr.pos gs.pos,Wq gr.b2 gs.b2 hn,k⟩
def fY (K:W.Frag):Sp:=fun vs H Q _=>∃ (a b:Addr) (xs us:List V) (ws rs:List Rat) (n n':Nat) (D D':Int) (Ws Zs:List Int),vs=[.ref a,.ref b]/\(SqL K H a xs \/ SqT K H a xs)/\Rs K H ws xs/\(SqL K H b us \/ SqT K H b us)/\Rs K H rs us/\ws.length=rs.length/\rs.length<=1000/\RepL n D Ws ws/\RepL n' D' Zs rs/\n<=4000/\n'<=4000/\n+n'+10<=8000 ∧
 ∀ c H',Same H H'->SqT K H' c [.int (sumR (List.zipWith mulR' ws rs)).1,.int (sumR (List.zipWith mulR' ws rs)).2]->Q (.ref c) H'
theorem G3:FnScope ["weights","row","mine","theirs","products"] ["weights","row"] (defScope mF):=fsc
theorem Z35 (D:Def K mg "mean" mF ["weights","row"])(T:Blt mg)(eB:Z6 P w K mg base)(fD:Has P w K mg base 1 "whole_by" ["several","bottom"] (fG K))(fJ:Has P w K mg base 3 "ratio" ["top","bottom"] eQ):Has P w K mg base 4 "mean" ["weights","row"] (fY K):=by
 refine D.has fun f fd F=>F.ok G3 (fun vs H Q E h=>?_) (fun cdv A outer s H vs Q E hr h=>?_)
 ·obtain⟨a,b,xs,us,ws,rs,n,n',D,D',Ws,Zs,rfl,_⟩:=h
  rfl
 ·obtain⟨a,b,xs,us,ws,rs,n,n',D,D',Ws,Zs,rfl,hA,hWs,hB,hRs,hl,hl2,rw_,rr,hn,hn',hnn,k⟩:=h
  have sc:=G3
  have nd1:(["one","other"]:List Str).Nodup:=by decide +kernel
  refine⟨_,(Zb (Zk (i:=2) sc.nd rfl (Or.inl rfl) (Zg eB hr (Z0 (pv 0) Z9)))
   (Zb (Zk (i:=3) sc.nd rfl (Or.inl rfl) (Zg eB hr (Z0 (pv 1) Z9)))
   (Zb (Wp (i:=4) (N:=["one","other"]) (k:=2) (fv:=[]) sc.nd rfl (Or.inl rfl) rfl (Nl rfl T.zip (Z0 (Zg fD hr (Z0 (pv 0) (Z0 (pv 2) Z9))) (Z0 (Zg fD hr (Z0 (pv 1) (Z0 (pv 3) Z9))) Z9)))
   (fun _ _ _ _ _=>Wl (n:=2) rfl (Y7 (Zm (i:=0) nd1 rfl (Or.inl rfl)) (Y7 (Zm (i:=1) nd1 rfl (Or.inl rfl)) Xm))) (fun _ _ _ _ _=>Yb) (fun _ _ _ _ _=>(Zl Zw (pv 0) (pv 1))) Wz)
   (Zd (Zi (Zg fJ hr (Z0 (Zx (Sh (K:=K) rfl) rfl T.sum jg (Z0 (pv 4) Z9)) (Z0 (Zl Zw (pv 2) (pv 3)) Z9)))))))),?_⟩
  have lw:=rw_.least
  have lr:=rr.least
  refine⟨_,rfl,a,xs,ws,n,D,Ws,rfl,hA,hWs,rw_,hn,?_⟩
  refine⟨_,rfl,b,us,rs,n',D',Zs,rfl,hB,hRs,rr,hn',?_⟩
  refine⟨_,rfl,_,rfl,a,_,xs,ws,n,rfl,hA,hWs,lw.good,lw.bD,lw.pos,hn,by omega,fun d1 H1 f1 S1 e1=>?_⟩
  have hB1:SqL K H1 b us \/ SqT K H1 b us:=hB.elim (fun z=>.inl (V2 S1 z)) fun z=>.inr (Zt S1 z)
  refine⟨_,rfl,_,rfl,b,_,us,rs,n',rfl,hB1,hRs.ext (Ext.same S1),lr.good,lr.bD,lr.pos,hn',hl2,fun d2 H2 f2 S2 e2=>?_⟩
  replace e1:=S2 _ _ e1
  refine⟨d1,d2,rfl,⟨_,SqL.of e1⟩,⟨_,SqL.of e2⟩,fun d hd=>?_⟩
  have ll:(wholeB ws (lcmB ws)).length=rs.length:=by rw[lw.len,hl]
  have ll2:(wholeB rs (lcmB rs)).length=rs.length:=lr.len
  generalize hX:wholeB ws (lcmB ws)=As at *
  generalize hY:wholeB rs (lcmB rs)=Bs at *
  have bA:∀ z∈As,Bd n z:=fun z hz=>by
   obtain⟨i,hi⟩:=XB hz
   have hl':i<As.length:=(YH.mp hi).1
   exact (lw.at_ i z (ws[i]'(by omega)) hi (by simp)).2.1
  have bB:∀ z∈Bs,Bd n' z:=fun z hz=>by
   obtain⟨i,hi⟩:=XB hz
   have hl':i<Bs.length:=(YH.mp hi).1
   exact (lr.at_ i z (rs[i]'(by omega)) hi (by simp)).2.1
  refine⟨rs.length,fun i ys H3=>Same H2 H3/\ys=((List.zipWith (·*·) As Bs).take i).map V.int,Zu hl2,⟨Same.new hd,rfl⟩,?_,?_⟩
  ·rintro i ys H3 hi ⟨S3,rfl⟩ hd3
   refine⟨⟨_,_,SqL.of (S3 _ _ e1),SqL.of (S3 _ _ e2),by rw[YC];omega,by rw[YC];omega⟩,?_⟩
   rintro x H4 ⟨p,x0,y0,rfl,hp,rfl,fx,fy⟩
   have ea:As[i]?=some (As[i]'(by omega)):=by simp
   have eb:Bs[i]?=some (Bs[i]'(by omega)):=by simp
   have ex0:x0=V.int (As[i]'(by omega)):=by
    have:=fx _ (SqL.of (S3 _ _ e1))
    rw[YD,ea] at this
    exact (YK this).symm
   have ey0:y0=V.int (Bs[i]'(by omega)):=by
    have:=fy _ (SqL.of (S3 _ _ e2))
    rw[YD,eb] at this
    exact (YK this).symm
   subst ex0 ey0
   refine Rf (SqT.of Zc) ?_
   have hpd:d≠p:=Ze hd3 hp
   refine⟨_,rfl,_,rfl,_,_,rfl,rfl,(bA _ (YX _)).mulOk (bB _ (YX _)) (by omega) (by omega),by rw[Zf hpd];exact hd3,fun q o e=>?_,?_⟩
   ·have:=S3 _ _ e
    rw[Zf (Ze e hd),Zf (Ze this hp)]
    exact this
   ·have:(List.zipWith (·*·) As Bs)[i]?=some (As[i]'(by omega)*Bs[i]'(by omega)):=by rw[GG,ea,eb]
    rw[Y5 this,XX]
    rfl
  ·rintro ys H3 ⟨S3,rfl⟩ hd3
   rw[YN (by rw[JG];omega)] at hd3
   refine⟨⟨_,_,SqL.of (S3 _ _ e1),SqL.of (S3 _ _ e2),by rw[YC];omega⟩,?_⟩
   refine⟨_,rfl,d,_,rfl,SqL.of hd3,_,rfl,_,rfl,_,_,rfl,rfl,lw.bD.mulOk lr.bD (by omega) (by omega),_,_,rfl,by have:=YZ lw.pos lr.pos;omega,(lw.bD.mul lr.bD).log (by omega),fun c H4 f4 S4 e4=>?_⟩
   have me:=Z3l lw lr hl
   have e5:sumR (List.zipWith mulR' ws rs)=nrm (List.zipWith (·*·) As Bs).sum (lcmB ws*lcmB rs):=me.symm
   refine k c H4 (((S1.trans S2).trans S3).trans S4) ?_
   rw[e5]
   exact SqT.of e4
end
theorem Ll {K:W.Frag}:W.kitOne K (.type "tuple") (.type "int")=some false:=by
 show (if (Value.type "tuple" == Value.type "int")=true then some true else (if W.kitMeta "int"=true then (fastBuiltinMro "tuple").map (·.contains (Value.type "int")) else none))=some false
 decide +kernel
theorem RepL.crude {n:Nat}:∀ {rs:List Rat},(∀ r∈rs,Good n r)->∃ D Ws,RepL (n*rs.length+1) D Ws rs
 | [],_=>⟨1,[],by decide,by show (1:Int).natAbs<2 ^ (n*0+1);rw[Nat.mul_zero];decide,rfl,fun i W r e=>by simp at e⟩
 | r::rs,h=>by
  obtain⟨D,Ws,rp⟩:=RepL.crude (n:=n) (rs:=rs) fun x hx=>h x (YV _ hx)
  have g:=h r XC
  have el:n*(r::rs).length+1=n+(n*rs.length+1):=by rw[XZ,Nat.mul_add,Nat.mul_one];omega
  rw[el]
  refine⟨r.2*D,r.1*D::Ws.map (r.2*·),YZ g.pos rp.pos,g.b2.mul rp.bD,by simp[rp.len],fun i W x eW ex=>?_⟩
  cases i with
  | zero =>
   simp at eW ex
   subst eW
   subst ex
   exact⟨by rw[JM,XH D,← JM],g.b1.mul rp.bD,g.low⟩
  | succ i =>
   simp at eW ex
   obtain⟨z,ez,rfl⟩:=eW
   obtain⟨e1,b1,l1⟩:=rp.at_ i z x ez ex
   refine⟨?_,g.b2.mul b1,l1⟩
   rw[Int.mul_left_comm,e1,JM]
def colR (rss:List (List Rat))(k:Nat):List Rat:=rss.map fun rs=>rs.getD k (0,1)
def comeW (c:Nat)(rss:List (List Rat))(ms:List Rat):List Rat:=(List.range c).map fun k=>sumR (List.zipWith mulR' (colR rss k) ms)
theorem Dl (r s:Rat):mulR' r s=mulR' s r:=by
 unfold mulR'
 rw[XH r.1,XH r.2]
theorem Fl (xs ys:List Rat):List.zipWith mulR' xs ys=List.zipWith mulR' ys xs:=List.zipWith_comm_of_comm Dl
theorem Ca {n c k:Nat}{rss:List (List Rat)}(hk:k<c)(h:∀ rs∈rss,rs.length=c/\∀ r∈rs,Good n r):∀ r∈colR rss k,Good n r:=fun r hr=>by
 obtain⟨rs,hm,rfl⟩:=XG.mp hr
 obtain⟨l,g⟩:=h rs hm
 have:rs.getD k (0,1)=rs[k]'(by omega):=by simp[List.getD,show k<rs.length by omega]
 rw[this]
 exact g _ (YX _)
section
variable {P:Program}{w:World}{K:W.Frag}{mg:Str->Option Value}{base:Heap}
def gC (K:W.Frag):Sp:=fun vs H Q _=>∃ (a:Addr) (xs:List V),vs=[.ref a]/\SqT K H a xs/\Q (.bl false) H
theorem Q8:FnScope ["value"] ["value"] (defScope kD):=fsc
theorem J1 (D:Def K mg "is_whole" kD ["value"])(T:Blt mg):Has P w K mg base 1 "is_whole" ["value"] (gC K):=by
 refine D.has fun f fd F=>F.ok Q8 (fun vs H Q E h=>?_) (fun cdv A outer s H vs Q E hr h=>?_)
 ·obtain⟨a,xs,rfl,_⟩:=h
  rfl
 ·obtain⟨a,xs,rfl,hA,q⟩:=h
  have sc:=Q8
  refine⟨_,(Zd (Zi (Qd (Zx Xq rfl T.isinstance XV (Z0 (pv 0) (Z0 (T7 T.int zA) Z9))) (Tu (Kt (Zx Xq rfl T.isinstance XV (Z0 (pv 0) (Z0 (T7 T.bool jc) Z9)))))))),?_⟩
  exact⟨_,rfl,_,_,_,_,rfl,hA,Ll,_,rfl,Yw q⟩
def jO (K:W.Frag):Sp:=fun vs H Q _=>∃ (a:Addr) (xs:List V),vs=[.ref a]/\SqT K H a xs/\Q (.ref a) H
theorem Z47:FnScope ["multiple"] ["multiple"] (defScope k9):=fsc
theorem Z6c (D:Def K mg "as_ratio" k9 ["multiple"])(fF:Has P w K mg base 1 "is_whole" ["value"] (gC K)):Has P w K mg base 2 "as_ratio" ["multiple"] (jO K):=by
 refine D.has fun f fd F=>F.ok Z47 (fun vs H Q E h=>?_) (fun cdv A outer s H vs Q E hr h=>?_)
 ·obtain⟨a,xs,rfl,_⟩:=h
  rfl
 ·obtain⟨a,xs,rfl,hA,q⟩:=h
  have sc:=Z47
  refine⟨_,(Zd (Zi (V5 (Xk (Zg fF hr (Z0 (pv 0) Z9))) (Yk (Z0 (pv 0) (Z0 Za Z9))) (pv 0)))),?_⟩
  exact⟨_,rfl,a,xs,rfl,hA,_,rfl,Yw ⟨_,rfl,q⟩⟩
def LstAt (K:W.Frag)(H:Hp)(a:Addr)(ms:List Rat):Prop:=∃ xs,H a=some (.lst xs)/\Rs K H ms xs
def gN (K:W.Frag):Sp:=fun vs H Q _=>∃ (l q:Addr) (c:Nat) (rss:List (List Rat)) (ms:List Rat),vs=[.int (c:Int),.ref l,.ref q]/\RowsAt K H l rss/\LstAt K H q ms/\ms.length=rss.length/\rss.length<=24/\c<=100/\(∀ rs∈rss,rs.length=c/\∀ r∈rs,Good 126 r)/\(∃ n D W,n<=4000/\RepL n D W ms) ∧
 ∀ (a:Addr) (H':Hp),Same H H'->RowAt K H' a (comeW c rss ms)->Q (.ref a) H'
theorem L5:FnScope ["count","rows","multiples","taken"] ["count","rows","multiples"] (defScope lN):=fsc
set_option maxHeartbeats 800000 in
theorem Z0q (D:Def K mg "come_to" lN ["count","rows","multiples"])(T:Blt mg)(jD:Has P w K mg base 2 "as_ratio" ["multiple"] (jO K))(i6:Has P w K mg base 4 "mean" ["weights","row"] (fY K)):Has P w K mg base 5 "come_to" ["count","rows","multiples"] (gN K):=by
 refine D.has fun f fd F=>F.ok L5 (fun vs H Q E h=>?_) (fun cdv A outer s H vs Q E hr h=>?_)
 ·obtain⟨l,q,c,rss,ms,rfl,_⟩:=h
  rfl
 ·obtain⟨l,q,c,rss,ms,rfl,⟨ads,hl,hA⟩,⟨xs,hq,hms⟩,lm,few,hc,hrs,⟨nm,Dm,Wm,hnm,rm⟩,k⟩:=h
  have sc:=L5
  have nd1:(["multiple"]:List Str).Nodup:=by decide +kernel
  have nd2:(["world","rows","taken"]:List Str).Nodup:=by decide +kernel
  have nd3:(["row","world"]:List Str).Nodup:=by decide +kernel
  refine⟨_,(Zb (Zk (i:=3) sc.nd rfl (Or.inr rfl) (Yl (N:=["multiple"]) (k:=1) (fv:=[]) rfl (Xd (pv 2))
   (fun _ _ _ _ _=>Zm (i:=0) nd1 rfl (Or.inl rfl)) (fun _ _ _ _ _=>Yb) (fun _ _ _ _ _=>(Zg jD hr (Z0 (pv 0) Z9))) Zy))
   (Zd (Zi (Y8 Y3 rfl T.tuple YY (Z0 (Z03 (x0:="world") (N:=["world","rows","taken"]) (k:=1) (fv:=[1,3]) rfl (Yx rfl T.range (Z0 (pv 0) Z9))
   (fun _ _ _ _ _=>Zm (i:=0) nd2 rfl (Or.inr rfl)) (fun _ _ _ _ _=>Yb) (fun _ _ _ _ _=>(Zg i6 hr (Z0 (pv 2) (Z0 (Yl (N:=["row","world"]) (k:=1) (fv:=[0]) rfl (Z00 (K:=K) (pv 1))
   (fun _ _ _ _ _=>Zm (i:=0) nd3 rfl (Or.inl rfl)) (fun _ _ _ _ _=>Yb) (fun _ _ _ _ _=>(Zj (Gw (K:=K)) (pv 0) (pv 1) (fun _ _=>rfl))) Zy) Z9)))) Zy) Z9))))),?_⟩
  have lads:=XW hA
  have lx:=hms.len
  refine⟨_,rfl,q,rfl,⟨_,SqL.of hq⟩,fun d hd=>?_⟩
  refine⟨ms.length,fun i ys H2=>Same H H2/\Rs K H2 (ms.take i) ys,Zu (by omega),⟨Same.new hd,.nil⟩,?_,?_⟩
  ·rintro i ys H2 hi ⟨S2,R2⟩ hd2
   refine⟨⟨xs,xs[i]'(by omega),SqL.of (S2 _ _ hq),by simp⟩,?_⟩
   rintro x H3 ⟨rfl,fx⟩
   obtain⟨r,er,ix⟩:=hms.back (fx xs (SqL.of (S2 _ _ hq)))
   obtain⟨a1,rfl,sq1⟩:=ix.ext (Ext.same S2)
   refine Yh ?_
   refine⟨_,rfl,a1,_,rfl,sq1,hd2,fun q' o' e=>?_,?_⟩
   ·rw[Zf (Ze e hd)]
    exact S2 _ _ e
   ·rw[Y5 er]
    exact (R2.ext (Ext.upd hd2)).snoc ⟨a1,rfl,(Ext.upd hd2).sq sq1⟩
  rintro ys H1 ⟨S1,R1⟩ hd1
  rw[YN (YE _)] at R1
  refine⟨⟨xs,SqL.of (S1 _ _ hq),by omega⟩,?_⟩
  replace hl:=S1 _ _ hl
  replace hA:=Yq hA (Ext.same S1)
  refine⟨_,rfl,(c:Int),rfl,(by omega),(by omega),fun d0 hd0=>?_⟩
  have et:(c:Int).toNat=c:=by omega
  rw[et]
  refine⟨c,fun j ys H'=>Same H1 H'/\Rs K H' ((comeW c rss ms).take j) ys,Zu (by omega),⟨Same.new hd0,.nil⟩,?_,?_⟩
  ·rintro j zs H2 hj ⟨S2,R2⟩ hd2
   refine⟨hj,?_⟩
   rintro x H3 ⟨rfl,rfl⟩
   have e0:(0+(j:Int))=((j:Nat):Int):=by omega
   rw[e0]
   refine Yh ?_
   have hl3:=S2 _ _ hl
   have A3:=Yq hA (Ext.same S2)
   refine⟨_,rfl,_,rfl,l,rfl,⟨_,SqL.of hl3⟩,fun d2 hd2'=>?_⟩
   refine⟨rss.length,fun i us H'=>Same H3 H'/\Rs K H' ((colR rss j).take i) us,Zu (by omega),⟨Same.new hd2',.nil⟩,?_,?_⟩
   ·rintro i us H4 hi ⟨S4,R4⟩ hd4
    have hia:i<ads.length:=by omega
    refine⟨⟨_,V.ref (ads[i]'hia),SqL.of (S4 _ _ hl3),by simp[hia]⟩,?_⟩
    rintro x H5 ⟨rfl,fx⟩
    have ex:x=V.ref (ads[i]'hia):=by
     have:=fx _ (SqL.of (S4 _ _ hl3))
     rw[YD,XN hia] at this
     exact (YK this).symm
    subst ex
    have er:rss[i]?=some rss[i]:=by simp[hi]
    obtain⟨lr,gr⟩:=hrs rss[i] (YX hi)
    obtain⟨vs,hvs,rvs⟩:=(Paired.getB A3 (show ads[i]?=some ads[i] by simp[hia]) er).same S4
    have lv:=rvs.len
    have ew:rss[i][j]?=some (rss[i][j]'(by omega)):=by simp
    obtain⟨x1,ex1,b1,rfl,sq1⟩:=rvs.at ew
    refine Yh ?_
    refine⟨_,rfl,_,rfl,ads[i],_,_,_,rfl,rfl,hvs,Zh ex1,hd4,fun q' o' e=>?_,?_⟩
    ·rw[Zf (Ze e hd2')]
     exact S4 _ _ e
    ·have ec:(colR rss j)[i]?=some (rss[i][j]'(by omega)):=by
      unfold colR
      rw[YD,er]
      simp[List.getD,show j<rss[i].length by omega]
     rw[Y5 ec]
     exact (R4.ext (Ext.upd hd4)).snoc ⟨b1,rfl,(Ext.upd hd4).sq sq1⟩
   rintro us H4 ⟨S4,R4⟩ hd4
   have lcol:(colR rss j).length=rss.length:=by unfold colR;rw[YC]
   rw[YN (by omega)] at R4
   refine⟨⟨_,SqL.of (S4 _ _ hl3),by rw[YC];omega⟩,?_⟩
   have S14:=S2.trans S4
   obtain⟨Dc,Wc,rc⟩:=RepL.crude (Ca hj hrs)
   have bc:126*(colR rss j).length+1<=126*24+1:=by omega
   refine⟨d,d2,ys,us,ms,colR rss j,_,_,Dm,Dc,Wm,Wc,rfl,.inl (SqL.of (S14 _ _ hd1)),R1.ext (Ext.same S14),.inl (SqL.of hd4),R4,by omega,by omega,rm,rc,hnm,by omega,by omega,fun cm H5 S5 e5=>?_⟩
   have S15:=S4.trans S5
   have hd5:=S15 _ _ hd2
   refine⟨hd5,fun q' o' e=>?_,?_⟩
   ·rw[Zf (Ze e hd0)]
    exact S15 _ _ (S2 _ _ e)
   ·have ec:(comeW c rss ms)[j]?=some (sumR (List.zipWith mulR' ms (colR rss j))):=by
     unfold comeW
     rw[YD,Fl ms]
     simp[hj]
    rw[Y5 ec]
    exact (R2.ext ((Ext.same S15).trans (Ext.upd hd5))).snoc ⟨cm,rfl,(Ext.upd hd5).sq e5⟩
  rintro zs H2 ⟨S2,R2⟩ hd2
  have lcw:(comeW c rss ms).length=c:=by unfold comeW;simp
  rw[YN (by omega)] at R2
  refine⟨YE _,d0,zs,rfl,.inl ⟨SqL.of hd2,fun ar har=>?_⟩⟩
  exact k ar _ ((S1.trans S2).trans (Same.new har)) ⟨zs,SqT.of Zc,R2.ext (Ext.new har)⟩
end
open Sv (sm)
theorem Dk {c i:Nat}{rss:List (List Rat)}{T:Sv.Tab}(h:0<T.b):Lows (multR c rss T i 1):=fun m hm=>by
 unfold multR at hm
 obtain⟨j,_,rfl⟩:=XG.mp hm
 exact Yr (by omega)
theorem K5 {c k:Nat}{rss:List (List Rat)}(hrs:∀ rs∈rss,RowR c rs):Lows (colR rss k):=fun r hr=>by
 unfold colR at hr
 obtain⟨rs,h,rfl⟩:=XG.mp hr
 exact Vl (hrs rs h).lows k
theorem Z4t {k j:Nat}{rss:List (List Rat)}(hj:j<rss.length):qr (colR rss k) j=qr (rss.getD j []) k:=by
 unfold qr colR
 rw[YF,YD,XN hj,Y9 (l:=rss) (x:=rss[j]) (by simp[hj])]
 rfl
theorem C9 {c:Nat}{rss:List (List Rat)}{ms:List Rat}(hrs:∀ rs∈rss,RowR c rs)(hm:Lows ms):Lows (comeW c rss ms):=fun r hr=>by
 unfold comeW at hr
 obtain⟨k,_,rfl⟩:=XG.mp hr
 exact Xu (Qn (K5 hrs) hm)
theorem Pc {c:Nat}{rss:List (List Rat)}{ms:List Rat}:(comeW c rss ms).length=c:=by unfold comeW;simp
theorem Gj {c k:Nat}{rss:List (List Rat)}{ms:List Rat}(hrs:∀ rs∈rss,RowR c rs)(hm:Lows ms)(lm:ms.length=rss.length)(hk:k<c):qr (comeW c rss ms) k=sQ rss.length (fun j=>qr ms j*qr (rss.getD j []) k):=by
 have e:(comeW c rss ms).getD k (0,1)=mn (colR rss k) ms:=by
  unfold comeW
  rw[YF,YD,qm hk]
  rfl
 show qv ((comeW c rss ms).getD k (0,1))=_
 rw[e,Vw (K5 hrs) hm (by unfold colR;simp) lm]
 exact Zp fun j hj=>by rw[Z4t hj];grind
theorem Lz {c:Nat}{rss:List (List Rat)}{ms:List Rat}(hrs:∀ rs∈rss,RowR c rs)(hm:Lows ms)(lm:ms.length=rss.length)(f:Nat->QQ):sQ c (fun k=>f k*qr (comeW c rss ms) k)=sQ rss.length (fun j=>qr ms j*sQ c (fun k=>f k*qr (rss.getD j []) k)):=by
 have e1:sQ c (fun k=>f k*qr (comeW c rss ms) k)=sQ c (fun k=>sQ rss.length (fun j=>qr ms j*(f k*qr (rss.getD j []) k))):=Zp fun k hk=>by
  rw[Gj hrs hm lm hk,← Yo]
  exact Zp fun j _=>by grind
 rw[e1,Nf]
 exact Zp fun j _=>Yo _ _ _
def outsW (c:Nat)(o:Option (Nat->Bool)):List Nat:=(List.range c).filter fun k=>!inE o k
def foldR (q rs:List Rat)(us:List Nat):List Rat:=mn q rs::us.map fun k=>rs.getD k (0,1)
structure OnE (c:Nat)(o:Option (Nat->Bool))(q:List Rat):Prop where
 len:q.length=c
 low:Lows q
 nn:∀ k,k<c->0<=qr q k
 out:∀ k,k<c->inE o k=false->qr q k=0
 lie:sQ c (qr q)=1
theorem Z1i {q rs:List Rat}{us:List Nat}(h1:Lows q)(h2:Lows rs):Lows (foldR q rs us):=fun r hr=>by
 rcases YS.mp hr with rfl | hr
 ·exact X6 h1 h2
 ·obtain⟨k,_,rfl⟩:=XG.mp hr
  exact Vl h2 k
theorem Lu {q rs:List Rat}{us:List Nat}:(foldR q rs us).length=us.length+1:=by unfold foldR;simp
theorem Gi {q rs:List Rat}{us:List Nat}{i:Nat}(hi:i<us.length):qr (foldR q rs us) (i+1)=qr rs (us.getD i 0):=by
 unfold qr foldR
 rw[List.getD_cons_succ,YF,YD,Y9 (l:=us) (x:=us[i]) (by simp[hi]),XN hi]
 rfl
theorem Z1j {q rs:List Rat}{us:List Nat}(f:Nat->QQ):sQ (us.length+1) (fun i=>f i*qr (foldR q rs us) i)=f 0*qv (mn q rs)+sQ us.length (fun i=>f (i+1)*qr rs (us.getD i 0)):=by
 rw[Uz]
 congr 1
 exact Zp fun i hi=>by rw[Gi hi]
theorem D7 {c:Nat}{o:Option (Nat->Bool)}{q F:List Rat}(hq:OnE c o q)(hF:∀ k,k<c->inE o k=true->qr F k=qr q k)(g:Nat->QQ):sQ c (fun k=>qr F k*g k)=sQ c (fun k=>qr q k*g k)+sQ (outsW c o).length (fun i=>qr F ((outsW c o).getD i 0)*g ((outsW c o).getD i 0)):=by
 have e:=Pr (fun k=>!inE o k) (fun k=>qr F k*g k) c
 show _=_+sQ ((List.range c).filter fun k=>!inE o k).length _
 rw[show sQ ((List.range c).filter fun k=>!inE o k).length (fun i=>qr F ((outsW c o).getD i 0)*g ((outsW c o).getD i 0))=_ from e.symm,← Ts]
 refine Zp fun k hk=>?_
 cases z:inE o k with
 | true=>rw[hF k hk z];simp;grind
 | false=>rw[hq.out k hk z];simp;grind
theorem Lb {c k:Nat}{o:Option (Nat->Bool)}(hk:k<c)(h:inE o k=false):∃ i,i<(outsW c o).length/\(outsW c o).getD i 0=k:=by
 have:k∈outsW c o:=by unfold outsW;simp[hk,h]
 obtain⟨i,hi⟩:=XB this
 exact⟨i,(YH.mp hi).1,Y9 hi⟩
def narrow (c:Nat)(o:Option (Nat->Bool))(q:List Rat)(rss:List (List Rat)):List (List Rat):=rss.map fun rs=>foldR q rs (outsW c o)
def oneW:Option (Nat->Bool):=some fun k=>k == 0
theorem Qi {c:Nat}{o:Option (Nat->Bool)}{q:List Rat}{rss:List (List Rat)}(h1:Lows q)(hrs:∀ rs∈rss,RowR c rs):∀ ns∈narrow c o q rss,RowR ((outsW c o).length+1) ns:=fun ns hn=>by
 obtain⟨rs,h,rfl⟩:=XG.mp hn
 have:=(Z1i h1 (hrs rs h).lows (us:=outsW c o)).row
 rw[Lu] at this
 exact this
structure NotL (c:Nat)(o:Option (Nat->Bool))(rss:List (List Rat))(q R:List Rat):Prop where
 len:R.length=c
 low:Lows R
 up:0<sQ c (fun k=>qr q k*qr R k)
 out:∀ k,k<c->inE o k=false->0<=qr R k
 top:∀ W,WtsQ c rss W->sQ c (fun k=>qr W k*qr R k)<=0
theorem NotL.of {c:Nat}{o:Option (Nat->Bool)}{rss:List (List Rat)}{q ms:List Rat}(hq:OnE c o q)(hrs:∀ rs∈rss,RowR c rs)(hm:Lows ms)(lm:ms.length=rss.length)(nn:∀ j,j<rss.length->0<=qr ms j)
  (h:∀ i,i<(outsW c o).length+1->(if inE oneW i then (1:QQ) else 0)<=sQ rss.length (fun j=>qr ms j*qr ((narrow c o q rss).getD j []) i)):NotL c o rss q (comeW c rss ms):=by
 have en:∀ j,j<rss.length->(narrow c o q rss).getD j []=foldR q (rss.getD j []) (outsW c o):=fun j hj=>by
  unfold narrow
  rw[YF,YD,XN hj,Y9 (l:=rss) (x:=rss[j]) (by simp[hj])]
  rfl
 have hr:∀ j,j<rss.length->RowR c (rss.getD j []):=fun j hj=>by
  rw[Y9 (l:=rss) (x:=rss[j]) (by simp[hj])]
  exact hrs _ (YX hj)
 refine⟨Pc,C9 hrs hm,?_,fun k hk z=>?_,fun W w=>?_⟩
 ·have h0:=h 0 (by omega)
  have e:sQ rss.length (fun j=>qr ms j*qr ((narrow c o q rss).getD j []) 0)=sQ c (fun k=>qr q k*qr (comeW c rss ms) k):=by
   rw[Lz hrs hm lm]
   refine Zp fun j hj=>?_
   rw[en j hj]
   congr 1
   show qv (mn q (rss.getD j []))=_
   exact Vw hq.low (hr j hj).lows hq.len (hr j hj).1
  rw[e] at h0
  have:(if inE oneW 0 then (1:QQ) else 0)=1:=rfl
  rw[this] at h0
  grind
 ·obtain⟨i,hi,rfl⟩:=Lb hk z
  have h1:=h (i+1) (by omega)
  have:(if inE oneW (i+1) then (1:QQ) else 0)=0:=rfl
  rw[this] at h1
  rw[Gj hrs hm lm hk]
  rw[Zp fun j hj=>by rw[en j hj,Gi hi]] at h1
  exact h1
 ·rw[Lz hrs hm lm]
  refine Z48 fun j hj=>Qj (nn j hj) ?_
  exact w.fit _ (by rw[Y9 (l:=rss) (x:=rss[j]) (by simp[hj])];exact YX hj)
theorem NotL.in_ {c:Nat}{o:Option (Nat->Bool)}{rss:List (List Rat)}{q R W:List Rat}(h:NotL c o rss q R)(w:WtsQ c rss W):sQ c (fun k=>if inE o k then qr W k*qr R k else 0)<=0:=by
 have t:=h.top W w
 have:sQ c (fun k=>if inE o k then qr W k*qr R k else 0)<=sQ c (fun k=>qr W k*qr R k):=Ge fun k hk=>by
  cases z:inE o k with
  | true=>simp
  | false=>simpa using _root_.Rat.mul_nonneg (w.nn k hk) (h.out k hk z)
 grind
structure ToldQ (c:Nat)(o:Option (Nat->Bool))(W t:List Rat):Prop where
 len:t.length=c
 low:Lows t
 s0:0<qv (shR c o W)
 at_:∀ k,k<c->qr t k*qv (shR c o W)=if inE o k then qr W k else 0
theorem Mj {c:Nat}{o:Option (Nat->Bool)}{W t:List Rat}(h:ToldQ c o W t)(g:Nat->QQ):sQ c (fun k=>qr t k*g k)*qv (shR c o W)=sQ c (fun k=>if inE o k then qr W k*g k else 0):=by
 rw[show sQ c (fun k=>qr t k*g k)*qv (shR c o W)=qv (shR c o W)*sQ c (fun k=>qr t k*g k) by grind,← Yo]
 refine Zp fun k hk=>?_
 have:=h.at_ k hk
 cases z:inE o k with
 | true=>rw[z] at this;simp at this;simp;rw[← this];grind
 | false=>rw[z] at this;simp at this;simp;grind
theorem ToldQ.on {c:Nat}{o:Option (Nat->Bool)}{rss:List (List Rat)}{W t:List Rat}(h:ToldQ c o W t)(w:WtsQ c rss W):OnE c o t:=by
 have s0:=h.s0
 refine⟨h.len,h.low,fun k hk=>?_,fun k hk z=>?_,?_⟩
 ·refine Fz (b:=qv (shR c o W)) ?_ s0
  rw[h.at_ k hk]
  cases inE o k
  ·simp
  ·simpa using w.nn k hk
 ·have:=h.at_ k hk
  rw[z] at this
  simp at this
  grind
 ·have e:=Mj h fun _=>1
  have e1:sQ c (fun k=>qr t k*1)=sQ c (qr t):=Zp fun k _=>by grind
  have e2:sQ c (fun k=>if inE o k then qr W k*1 else 0)=qv (shR c o W):=by
   rw[Xj w.low w.len]
   exact Zp fun k _=>by cases inE o k <;> simp <;> grind
  rw[e1,e2] at e
  have z:qv (shR c o W)≠0:=by grind
  have:sQ c (qr t)*qv (shR c o W) / qv (shR c o W)=1:=by rw[e];grind
  grind
theorem NotL.told {c:Nat}{o:Option (Nat->Bool)}{rss:List (List Rat)}{q R W t:List Rat}(h:NotL c o rss q R)(w:WtsQ c rss W)(ht:ToldQ c o W t):sQ c (fun k=>qr t k*qr R k)<=0:=by
 have e:=Mj ht (qr R)
 have i:=h.in_ w
 rw[← e] at i
 have s0:=ht.s0
 by_cases z:sQ c (fun k=>qr t k*qr R k)<=0
 ·exact z
 ·have:=_root_.Rat.mul_pos (show 0<sQ c (fun k=>qr t k*qr R k) by grind) s0
  grind
theorem NotL.ne {c:Nat}{o:Option (Nat->Bool)}{rss:List (List Rat)}{q R W t:List Rat}(h:NotL c o rss q R)(w:WtsQ c rss W)(ht:ToldQ c o W t):q≠t:=fun e=>by
 have a:=h.told w ht
 have b:=h.up
 rw[e] at b
 grind
theorem NotL.con {c:Nat}{o:Option (Nat->Bool)}{rss:List (List Rat)}{q R:List Rat}{v:Rat}(h:NotL c o rss q R)(hrs:∀ rs∈rss,RowR c rs)(cv:ConV c rss o (cutR o R) v):v.1<=0:=by
 obtain⟨W,w,e,s0⟩:=cv.hit
 have wq:=w.toQ hrs
 have lg:=X6 wq.low (M0 (o:=o) (Yi (o:=o) h.low) cv.low)
 have a:=(Ui lg.pos).mp (by omega)
 have b:=(Sn lg.pos).mp (by omega)
 rw[Jg wq.low wq.len (Yi h.low) (by rw[Ye];exact h.len) cv.low] at a b
 have i:=h.in_ wq
 rw[Zp (g:=fun k=>qr W k*qr (cutR o (cutR o R)) k) fun k _=>by rw[Vi,Vi];cases inE o k <;> simp] at i
 have s2:=(Vh (X6 wq.low (Yi (Xg c))).pos).mp s0
 have s2:0<qv (shR c o W):=s2
 refine (Ui cv.low.pos).mpr ?_
 by_cases z:qv v<=0
 ·exact z
 ·have:=_root_.Rat.mul_pos (show 0<qv v by grind) s2
  grind
end Sb
namespace Sb
open PySem L2
section
variable {P:Program}{w:World}{K:W.Frag}{mg:Str->Option Value}{base:Heap}
def g0 (K:W.Frag):Sp:=fun vs H Q _=>∃ (a:Addr) (xs:List V) (rs:List Rat) (n:Nat),vs=[.ref a]/\(SqL K H a xs \/ SqT K H a xs)/\Rs K H rs xs/\(∀ r∈rs,Good n r)/\1+rs.length*(n+1)<=4000 ∧
 ∀ c H',Same H H'->SqT K H' c [.int (sumR rs).1,.int (sumR rs).2]->Q (.ref c) H'
theorem Jt:FnScope ["worths","so_far","worth"] ["worths"] (defScope lP):=fsc
theorem Z2v (D:Def K mg "total" lP ["worths"])(j1:Has P w K mg base 3 "plus" ["one","other"] (eK K addR))(eF:Con K mg "NOUGHT" (0,1)):Has P w K mg base 4 "total" ["worths"] (g0 K):=by
 refine D.has fun f fd F=>F.ok Jt (fun vs H Q E h=>?_) (fun cdv A outer s H vs Q E hr h=>?_)
 ·obtain⟨a,xs,rs,n,rfl,_⟩:=h
  rfl
 ·obtain⟨a,xs,rs,n,rfl,hA,hRs,g,hb,k⟩:=h
  obtain⟨c_NOUGHT,m_NOUGHT,s_NOUGHT⟩:=eF
  have sc:=Jt
  refine⟨_,(Zb (Zk (i:=1) sc.nd rfl (Or.inl rfl) (X1 (v:=.ref c_NOUGHT) rfl m_NOUGHT rfl))
   (Zb (Xs JC rfl (Bz (pv 0)) (Zm (i:=2) sc.nd rfl (Or.inl rfl))
    (Zd (Zk (i:=1) sc.nd rfl (Or.inl rfl) (Zg j1 hr (Z0 (pv 1) (Z0 (pv 2) Z9))))))
   (Zd (Zi (pv 1))))),?_⟩
  have lx:=hRs.len
  refine⟨_,rfl,F9 (K:=K) (a:=a) (xs:=xs) (fun i σ H'=>Same H H'/\∃ (c:Addr) (x:Option V),σ=[some (.ref a),some (.ref c),x]/\SqT K H' c [.int (sumR (rs.take i)).1,.int (sumR (rs.take i)).2]) hA ⟨Same.refl _,c_NOUGHT,none,rfl,s_NOUGHT _⟩ (fun i σ H' _ h=>h.1) ?_ ?_⟩
  ·rintro i x σ H1 hi ⟨S1,c,x0,rfl,hc⟩
   obtain⟨r,er,ix⟩:=hRs.back hi
   obtain⟨b,rfl,hb'⟩:=ix.ext (Ext.same S1)
   have hil:i<rs.length:=(YH.mp er).1
   refine⟨_,rfl,_,rfl,c,b,_,r,1+rs.length*(n+1),rfl,hc,hb',Rw g (by omega),(g r (YI er)).mono (Np hil),hb,fun c2 H2 f2 S2 e2=>?_⟩
   refine⟨S1.trans S2,c2,_,rfl,?_⟩
   rw[Tq er]
   exact SqT.of e2
  ·rintro σ H1 ⟨S1,c,x0,rfl,hc⟩
   rw[← lx,YN (YE _)] at hc
   exact⟨_,rfl,k c H1 S1 hc⟩
def parR (r s:Rat):Rat:=nrm (r.1*s.2) (r.2*s.1)
theorem Z2m {r s:Rat}(h:0<r.2)(hs:s.1≠0):r.2*s.1≠0:=Int.mul_ne_zero (by omega) hs
def hI (K:W.Frag):Sp:=fun vs H Q _=>∃ (a b:Addr) (r s:Rat) (n:Nat),vs=[.ref a,.ref b]/\SqT K H a [.int r.1,.int r.2]/\SqT K H b [.int s.1,.int s.2]/\Good n r/\Good n s/\n<=4000/\s.1≠0 ∧
 ∀ c H',H c=none->Same H H'->H' c=some (.tup [.int (parR r s).1,.int (parR r s).2])->Q (.ref c) H'
theorem Pn:FnScope ["one","other"] ["one","other"] (defScope kZ):=fsc
theorem Z31 (D:Def K mg "parted" kZ ["one","other"])(eG:Z5 P w K mg base):Has P w K mg base 3 "parted" ["one","other"] (hI K):=by
 refine D.has fun f fd F=>F.ok Pn (fun vs H Q E h=>?_) (fun cdv A outer s H vs Q E hr h=>?_)
 ·obtain⟨a,b,r,s,n,rfl,_⟩:=h
  rfl
 ·obtain⟨a,b,r,s,n,rfl,hA,hB,gr,gs,hn,h0,k⟩:=h
  have sc:=Pn
  refine⟨_,(Zb (Yc (Zn Xo (Zj Yu (pv 1) Za (fun _ _=>rfl)) Za (Zq _))
    (Zd U0)
    Zv)
   (Zd (Zi (Zg eG hr (Z0 (Zl Zw (Zj Yu (pv 0) Za (fun _ _=>rfl)) (Zj Yn (pv 1) Za (fun _ _=>rfl))) (Z0 (Zl Zw (Zj Yn (pv 0) Za (fun _ _=>rfl)) (Zj Yu (pv 1) Za (fun _ _=>rfl))) Z9)))))),?_⟩
  refine⟨_,rfl,b,_,_,rfl,rfl,hB,rfl,_,rfl,Qr (fun z=>h0 (V.int.inj z)) ?_⟩
  exact⟨_,rfl,_,_,_,rfl,rfl,hA,_,rfl,_,_,_,rfl,rfl,hB,_,_,rfl,rfl,gr.b1.mulOk gs.b2 (by omega) (by omega),_,rfl,_,_,_,rfl,rfl,hA,_,rfl,_,_,_,rfl,rfl,hB,_,_,rfl,rfl,gr.b2.mulOk gs.b1 (by omega) (by omega),_,_,rfl,Z2m gr.pos h0,Wq gr.b2 gs.b1 hn,k⟩
def natV (us:List Nat):List V:=us.map fun (k:Nat)=>V.int (k:Int)
def gJ (K:W.Frag):Sp:=fun vs H Q _=>∃ (r a l:Addr) (rs q:List Rat) (us:List Nat) (c n n':Nat) (D D':Int) (Z Z':List Int),vs=[.ref r,.ref a,.ref l]/\RowAt K H r rs/\RowAt K H a q/\H l=some (.lst (natV us))/\rs.length=c/\q.length=c/\c<=100/\us.length<=100/\(∀ k∈us,k<c)/\RepL n D Z q/\RepL n' D' Z' rs/\n+n'+10<=4000 ∧
 ∀ (p:Addr) (H':Hp),Same H H'->RowAt K H' p (foldR q rs us)->Q (.ref p) H'
theorem Mz:FnScope ["row","weights","outside"] ["row","weights","outside"] (defScope lK):=fsc
theorem Z0n (D:Def K mg "folded" lK ["row","weights","outside"])(T:Blt mg)(i6:Has P w K mg base 4 "mean" ["weights","row"] (fY K)):Has P w K mg base 5 "folded" ["row","weights","outside"] (gJ K):=by
 refine D.has fun f fd F=>F.ok Mz (fun vs H Q E h=>?_) (fun cdv A outer s H vs Q E hr h=>?_)
 ·obtain⟨r,a,l,rs,q,us,c,n,n',D,D',Z,Z',rfl,_⟩:=h
  rfl
 ·obtain⟨r,a,l,rs,q,us,c,n,n',D,D',Z,Z',rfl,hr',ha,hl,lr,lq,hc,hu,hus,rq,rr,hn,k⟩:=h
  have sc:=Mz
  have nd1:(["world","row"]:List Str).Nodup:=by decide +kernel
  refine⟨_,(Zd (Zi (Zl Z2r (Yk (Z0 (Zg i6 hr (Z0 (pv 1) (Z0 (pv 0) Z9))) Z9)) (Y8 Y3 rfl T.tuple YY (Z0 (Yl (N:=["world","row"]) (k:=1) (fv:=[0]) rfl (Xd (pv 2))
   (fun _ _ _ _ _=>Zm (i:=0) nd1 rfl (Or.inl rfl)) (fun _ _ _ _ _=>Yb) (fun _ _ _ _ _=>(Zj (Gw (K:=K)) (pv 1) (pv 0) (fun _ _=>rfl))) Zy) Z9))))),?_⟩
  obtain⟨xr,sr,Rr⟩:=hr'
  obtain⟨xa,sa,Ra⟩:=ha
  have lx:=Rr.len
  refine⟨_,rfl,_,rfl,a,r,xa,xr,q,rs,n,n',D,D',Z,Z',rfl,.inr sa,Ra,.inr sr,Rr,by omega,by omega,rq,rr,by omega,by omega,by omega,fun m H1 S1 sm=>?_⟩
  refine⟨sz1,fun t ht=>?_⟩
  have S2:=S1.trans (Same.new (o:=.tup [.ref m]) ht)
  have sm2:=Zt (Same.new (o:=.tup [.ref m]) ht) sm
  have st:SqT K (upd H1 t (.tup [.ref m])) t [.ref m]:=SqT.of Zc
  generalize upd H1 t (.tup [.ref m])=H2 at *
  have hl2:=S2 _ _ hl
  have sr2:=Zt S2 sr
  have Rr2:=Rr.ext (Ext.same S2)
  refine⟨_,rfl,l,rfl,⟨_,SqL.of hl2⟩,fun d hd=>?_⟩
  refine⟨us.length,fun i ys H'=>Same H2 H'/\Rs K H' ((us.map fun k=>rs.getD k (0,1)).take i) ys,Zu (by omega),⟨Same.new hd,.nil⟩,?_,?_⟩
  ·rintro i ys H3 hi ⟨S3,R3⟩ hd3
   refine⟨⟨_,V.int (us[i]:Nat),SqL.of (S3 _ _ hl2),by unfold natV;simp[hi]⟩,?_⟩
   rintro x H4 ⟨rfl,fx⟩
   have hx:=fx _ (SqL.of (S3 _ _ hl2))
   have ex:x=V.int ((us[i]:Nat):Int):=by
    unfold natV at hx
    rw[YD,XN hi] at hx
    exact (YK hx).symm
   subst ex
   have hk:us[i]<xr.length:=by have:=hus us[i] (YX hi);omega
   refine Yh ?_
   have er:rs[us[i]]?=some (rs[us[i]]'(by omega)):=by simp
   obtain⟨x1,ex1,b1,rfl,sb⟩:=(Rr2.ext (Ext.same S3)).at er
   refine⟨_,rfl,_,rfl,r,_,_,_,rfl,rfl,Zt S3 sr2,Zh ex1,?_⟩
   refine⟨hd3,fun q' o' e=>?_,?_⟩
   ·rw[Zf (Ze e hd)]
    exact S3 _ _ e
   ·have ec:(us.map fun k=>rs.getD k (0,1))[i]?=some (rs[us[i]]'(by omega)):=by
     rw[YD,XN hi]
     simp only [GV]
     rw[Y9 er]
    rw[Y5 ec]
    exact (R3.ext (Ext.upd hd3)).snoc ⟨b1,rfl,(Ext.upd hd3).sq sb⟩
  ·rintro ys H3 ⟨S3,R3⟩ hd3
   rw[YN (by simp)] at R3
   refine⟨⟨_,SqL.of (S3 _ _ hl2),by unfold natV;simp⟩,?_⟩
   refine⟨d,ys,rfl,.inl ⟨SqL.of hd3,fun l2 hl3=>?_⟩⟩
   have S4:=Same.new (o:=.tup ys) hl3
   have S34:=S3.trans S4
   have ly:=R3.len
   rw[YC] at ly
   refine⟨t,l2,_,_,rfl,rfl,Zt S34 st,SqT.of Zc,by rw[← ly];simp;exact Zu (by omega),fun p H5 S5 sq=>?_⟩
   exact k p H5 ((S2.trans S34).trans S5) ⟨_,sq,.cons ⟨m,rfl,Zt (S34.trans S5) sm2⟩ ((R3.ext (Ext.same S4)).ext (Ext.same S5))⟩
end
theorem Z1g {K:W.Frag}{t u:Addr}{xs ys:List V}{g:TG}{tb:TS}{D:Ends}{σ:L2.St}{H:Hp}(Pv:Nat->L2.St->Hp->Prop)(le:xs.length=ys.length)(h0:Pv 0 σ H)(hl:∀ i σ H,i<=xs.length->Pv i σ H->SqT K H t xs/\SqL K H u ys)
  (hs:∀ i x y σ H p,xs[i]?=some x->ys[i]?=some y->Pv i σ H->H p=none->g (.ref p) σ (upd H p (.tup [x,y])) fun σ2 H2=>tb { D with nx:=Pv (i+1),ct:=Pv (i+1),bk:=D.nx } σ2 H2) (hd:∀ σ H,Pv xs.length σ H->D.nx σ H) :
  ∃ W:Nat->Nat->L2.St->Hp->Prop,(∃ m,W 0 m σ H)/\∀ i m σ H,W i m σ H →
   ((ItzM K t u).stop i H/\D.nx σ H) \/ ((ItzM K t u).go i H/\∃ N:L2.St->Hp->Prop,(∀ σ' H',N σ' H'->∃ m',m'<m/\W (i+1) m' σ' H')/\∀ x H',(ItzM K t u).yld i H x H'->g x σ H' fun σ2 H2=>tb { D with nx:=N,ct:=N,bk:=D.nx } σ2 H2):=by
 refine⟨fun i m σ H=>m=xs.length - i/\i<=xs.length/\Pv i σ H,⟨xs.length,by simp,JZ _,h0⟩,?_⟩
 rintro i m σ H ⟨rfl,hi,p⟩
 obtain⟨q1,q2⟩:=hl i σ H hi p
 by_cases hlt:i<xs.length
 ·refine .inr ⟨⟨xs,ys,q1,q2,hlt,by omega⟩,Pv (i+1),fun σ' H' p'=>⟨xs.length - (i+1),by omega,rfl,hlt,p'⟩,fun x H' y=>?_⟩
  obtain⟨pp,x0,y0,rfl,hp,rfl,fx,fy⟩:=y
  exact hs i x0 y0 σ H pp (fx xs q1) (fy ys q2) p hp
 ·have e:i=xs.length:=by omega
  subst e
  exact .inl ⟨⟨xs,ys,q1,q2,rfl⟩,hd σ H p⟩
def fillT (q ls:List Rat)(us:List Nat):Nat->List Rat
 | 0=>q
 | i+1=>(fillT q ls us i).set (us.getD i 0) (ls.getD i (0,1))
theorem U9 {q ls:List Rat}{us:List Nat}:∀ i,(fillT q ls us i).length=q.length
 | 0=>rfl
 | i+1=>by show ((fillT q ls us i).set _ _).length=_;rw[qi];exact U9 i
theorem Tk {q ls:List Rat}{us:List Nat}{C:Rat->Prop}(hq:∀ r∈q,C r)(h0:C (0,1))(hl:∀ r∈ls,C r):∀ i,∀ r∈fillT q ls us i,C r
 | 0=>hq
 | i+1=>fun r hr=>by
  rcases Y0o (show r∈(fillT q ls us i).set _ _ from hr) with h | h
  ·exact Tk hq h0 hl i r h
  ·rw[h,YF]
   cases e:ls[i]? with
   | none=>exact h0
   | some x=>exact hl x (YI e)
theorem Rs.set {K:W.Frag}{H:Hp}:∀ {rs:List Rat} {xs:List V} {k:Nat} {r:Rat} {v:V},Rs K H rs xs->IsR K H r v->Rs K H (rs.set k r) (xs.set k v)
 | [],[],_,_,_,.nil,_=>.nil
 | _::_,_::_,0,_,_,.cons _ t,h=>.cons h t
 | _::_,_::_,_+1,_,_,.cons a t,h=>.cons a (Rs.set t h)
theorem Ud {s:Rat}(h:Low s)(p:0<s.1):parR (1,1) s=(s.2,s.1):=by
 show nrm (1*s.2) (1*s.1)=_
 rw[GU,GU]
 exact T9 (r:=(s.2,s.1)) p (by rw[zl];exact h.cop)
section
variable {P:Program}{w:World}{K:W.Frag}{mg:Str->Option Value}{base:Heap}
def fN (K:W.Frag):Sp:=fun vs H Q _=>∃ (lo a l:Addr) (L q:List Rat) (us:List Nat) (c n:Nat),vs=[.ref lo,.ref a,.ref l]/\RowAt K H lo L/\RowAt K H a q/\H l=some (.lst (natV us))/\L.length=us.length+1/\q.length=c/\c<=100/\us.length<=100/\(∀ k∈us,k<c)/\(∀ r∈L,Good n r)/\(∀ r∈q,Good n r)/\1<=n/\1+c*(n+1)<=4000/\0<(sumR (fillT q (L.drop 1) us us.length)).1 ∧
 ∀ (p:Addr) (H':Hp),Same H H'->RowAt K H' p ((fillT q (L.drop 1) us us.length).map fun r=>mulR' r (parR (1,1) (sumR (fillT q (L.drop 1) us us.length))))->Q (.ref p) H'
theorem Q2:FnScope ["loads","weights","outside","filled","load","world"] ["loads","weights","outside"] (defScope kJ):=fsc
theorem Kw (D:Def K mg "unfolded" kJ ["loads","weights","outside"])(T:Blt mg)(jR:Has P w K mg base 4 "total" ["worths"] (g0 K))(jG:Has P w K mg base 3 "parted" ["one","other"] (hI K))(eR:Has P w K mg base 4 "multiplied" ["row","by"] (eN K))(jV:Con K mg "ONE" (1,1)):Has P w K mg base 5 "unfolded" ["loads","weights","outside"] (fN K):=by
 refine D.has fun f fd F=>F.ok Q2 (fun vs H Q E h=>?_) (fun cdv A outer s H vs Q E hr h=>?_)
 ·obtain⟨lo,a,l,L,q,us,c,n,rfl,_⟩:=h
  rfl
 ·obtain⟨lo,a,l,L,q,us,c,n,rfl,⟨xL,sL,RL⟩,⟨xq,sq,Rq⟩,hl,lL,lq,hc,hu,hus,gL,gq,n1,hn,pos,k⟩:=h
  obtain⟨c_ONE,m_ONE,s_ONE⟩:=jV
  have sc:=Q2
  refine⟨_,(Zb (Zk (i:=3) sc.nd rfl (Or.inl rfl) (Y8 Xp rfl T.list GE (Z0 (pv 1) Z9)))
   (Zb (Xs JC rfl (Z2j rfl T.zip (Z0 (Z02 Z4j (pv 0) (Z2h Za) Z2i) (Z0 (pv 2) Z9))) (Wl (n:=2) rfl (Y7 (Zm (i:=4) sc.nd rfl (Or.inl rfl)) (Y7 (Zm (i:=5) sc.nd rfl (Or.inl rfl)) Xm)))
    (Zd (Uo (pv 4) (Tt (pv 3) (pv 5) V1))))
   (Zd (Zi (Zg eR hr (Z0 (Y8 Y3 rfl T.tuple YY (Z0 (pv 3) Z9)) (Z0 (Zg jG hr (Z0 (X1 (v:=.ref c_ONE) rfl m_ONE rfl) (Z0 (Zg jR hr (Z0 (pv 3) Z9)) Z9))) Z9))))))),?_⟩
  have lxL:=RL.len
  have lxq:=Rq.len
  refine⟨_,rfl,a,_,rfl,.inr sq,fun d hd=>?_⟩
  have S1:=Same.new (o:=.lst xq) hd
  refine⟨_,rfl,_,rfl,?_⟩
  refine Z5g ?_
  cases RL with
  | nil=>simp at lL
  | @cons r0 x0 Lt xt i0 Rt =>
  have lLt:Lt.length=us.length:=by simpa using lL
  have lxt:xt.length=us.length:=by have:=Rs.len Rt;omega
  refine⟨lo,_,rfl,Zt S1 sL,?_,fun p hp=>?_⟩
  ·intro z
   have:=z.1
   simp[HT.sIx] at this
  have ec:cutV (x0::xt) (some 1) none=xt:=Z5w (i:=1) (by simp)
  rw[ec]
  have S2:Same (upd H d (.lst xq)) (upd (upd H d (.lst xq)) p (.tup xt)):=Same.new hp
  have e2:SqT K (upd (upd H d (.lst xq)) p (.tup xt)) p xt:=SqT.of Zc
  have hd2:upd (upd H d (.lst xq)) p (.tup xt) d=some (.lst xq):=S2 _ _ Zc
  have nd:∀ b o,H b=some o->b≠d:=fun b o e=>Ze e hd
  have npd:p≠d:=fun z=>by rw[z,Zc] at hp;cases hp
  have S02:=S1.trans S2
  generalize upd (upd H d (.lst xq)) p (.tup xt)=H2 at *
  have lnat:(natV us).length=us.length:=by unfold natV;simp
  refine⟨_,rfl,p,l,rfl,⟨_,e2⟩,⟨_,SqL.of (S02 _ _ hl)⟩,?_⟩
  refine Z1g (K:=K) (t:=p) (u:=l) (xs:=xt) (ys:=natV us) (fun i σ H'=>Same H H'/\SqT K H' p xt/\H' l=some (.lst (natV us))/\(∃ ys,H' d=some (.lst ys)/\Rs K H' (fillT q Lt us i) ys)/\∃ x y,σ=[some (.ref lo),some (.ref a),some (.ref l),some (.ref d),x,y]) (by omega) ⟨S02,e2,S02 _ _ hl,⟨xq,hd2,Rq.ext (Ext.same S02)⟩,none,none,rfl⟩ (fun i σ H' _ h=>⟨h.2.1,SqL.of h.2.2.1⟩) ?_ ?_
  ·rintro i x y σ H3 p2 hx hy ⟨S3,sp,hl3,⟨ys,hd3,R3⟩,x1,y1,rfl⟩ hp2
   have hi:i<us.length:=by have:=(YH.mp hx).1;omega
   have ey:y=V.int ((us[i]:Nat):Int):=by
    unfold natV at hy
    rw[YD,XN hi] at hy
    exact (YK hy).symm
   subst ey
   have S4:=Same.new (o:=.tup [x,V.int ((us[i]:Nat):Int)]) hp2
   have hd4:=S4 _ _ hd3
   have sp4:=Zt S4 sp
   have hl4:=S4 _ _ hl3
   have R4:=R3.ext (Ext.same S4)
   have t4:SqT K (upd H3 p2 (.tup [x,V.int ((us[i]:Nat):Int)])) p2 [x,V.int ((us[i]:Nat):Int)]:=SqT.of Zc
   have S34:=S3.trans S4
   generalize upd H3 p2 (.tup [x,V.int ((us[i]:Nat):Int)])=H4 at *
   have ly:=Rs.len R4
   rw[U9] at ly
   have hk:=hus us[i] (YX hi)
   obtain⟨r1,er1,b1,rfl,sb1⟩:=(Rs.ext Rt (Ext.same S34)).back hx
   refine⟨_,_,rfl,t4,rfl,_,_,rfl,_,_,rfl,rfl,?_⟩
   refine⟨_,rfl,_,rfl,_,rfl,d,_,_,us[i],rfl,rfl,hd4,Jb (by omega) (by omega),?_⟩
   have X5:=Ext.upd (o:=.lst (ys.set us[i] (.ref b1))) hd4
   refine⟨fun b o e=>?_,X5.sq sp4,?_,⟨_,Zc,?_⟩,_,_,rfl⟩
   ·rw[Zf (nd b o e)]
    exact S34 _ _ e
   ·rw[Zf (nd l _ hl)]
    exact hl4
   ·have e1:fillT q Lt us (i+1)=(fillT q Lt us i).set us[i] r1:=by
     show (fillT q Lt us i).set (us.getD i 0) (Lt.getD i (0,1))=_
     rw[Y9 er1,Y9 (l:=us) (x:=us[i]) (by simp[hi])]
    rw[e1]
    exact Rs.set (R4.ext X5) ⟨b1,rfl,X5.sq sb1⟩
  ·rintro σ H3 ⟨S3,sp,hl3,⟨ys,hd3,R3⟩,x1,y1,rfl⟩
   rw[lxt] at R3
   have gF:∀ r∈fillT q Lt us us.length,Good n r:=Tk gq ⟨bd0 _,Xf 1 (by decide) n1,by decide,by decide⟩ (fun r hr=>gL r (YV _ hr)) _
   have lF:(fillT q Lt us us.length).length=c:=by rw[U9];exact lq
   have pos':0<(sumR (fillT q Lt us us.length)).1:=pos
   have gS:Good (1+c*(n+1)) (sumR (fillT q Lt us us.length)):=by
    have:=Rw gF (YE _)
    rw[YN (YE _),lF] at this
    exact this
   refine⟨_,rfl,d,ys,rfl,.inl ⟨SqL.of hd3,fun p3 hp3=>?_⟩⟩
   have S4:=Same.new (o:=.tup ys) hp3
   have R4:=R3.ext (Ext.same S4)
   have s4:SqT K (upd H3 p3 (.tup ys)) p3 ys:=SqT.of Zc
   have hd4:=S4 _ _ hd3
   have S04:=S3.trans S4
   generalize upd H3 p3 (.tup ys)=H4 at *
   have n4:n<=1+c*(n+1):=by
    have:0<c:=by
     rcases Y0e c with z | z
     ·rw[z] at lF
      rw[jt lF] at pos'
      exact absurd pos' (by decide)
     ·exact z
    have:=GM (n+1) this
    omega
   have g1:Good (1+c*(n+1)) (1,1):=⟨Xf 1 (by decide) (by omega),Xf 1 (by decide) (by omega),by decide,by decide⟩
   have ep:=Ud gS.low pos'
   have gp:Good (1+c*(n+1)) (parR (1,1) (sumR (fillT q Lt us us.length))):=by
    rw[ep]
    exact⟨gS.b2,gS.b1,pos',by rw[zl];exact gS.low.cop⟩
   refine⟨_,rfl,d,ys,_,n,rfl,.inl (SqL.of hd4),R4,gF,by rw[lF];exact hn,fun m H5 S5 sm=>?_⟩
   refine⟨c_ONE,m,(1,1),_,_,rfl,s_ONE _,sm,g1,gS,hn,by omega,fun m2 H6 f6 S6 e6=>?_⟩
   have S56:=S5.trans S6
   refine⟨p3,m2,_,_,_,rfl,⟨_,Zt S56 s4,R4.ext (Ext.same S56)⟩,SqT.of e6,by omega,fun r hr=>(gF r hr).mono n4,gp,hn,fun p7 H7 x7 S7 e7 R7=>?_⟩
   exact k p7 H7 ((S04.trans S56).trans S7) ⟨_,SqT.of e7,R7⟩
end
theorem Lw {q ls:List Rat}{us:List Nat}{k:Nat}:∀ {i:Nat},(∀ j,j<i->us.getD j 0≠k)->(fillT q ls us i).getD k (0,1)=q.getD k (0,1)
 | 0,_=>rfl
 | i+1,h=>by
  show ((fillT q ls us i).set (us.getD i 0) (ls.getD i (0,1))).getD k (0,1)=_
  rw[YF,JU (h i (by omega)),← YF]
  exact Lw fun j hj=>h j (by omega)
theorem Fc {q ls:List Rat}{us:List Nat}(inj:∀ a b,a<us.length->b<us.length->us.getD a 0=us.getD b 0->a=b)(hk:∀ a,a<us.length->us.getD a 0<q.length){j:Nat}:∀ {i:Nat},i<=us.length->j<i->(fillT q ls us i).getD (us.getD j 0) (0,1)=ls.getD j (0,1)
 | 0,_,h=>absurd h (by omega)
 | i+1,hi,h=>by
  show ((fillT q ls us i).set (us.getD i 0) (ls.getD i (0,1))).getD (us.getD j 0) (0,1)=_
  by_cases e:j=i
  ·subst e
   rw[YF,JO (by rw[U9];exact hk j (by omega))]
   rfl
  ·rw[YF,JU (fun z=>e (inj i j (by omega) (by omega) z).symm),← YF]
   exact Fc inj hk (by omega) (by omega)
theorem Rg {c:Nat}{o:Option (Nat->Bool)}:∀ k∈outsW c o,k<c/\inE o k=false:=fun k hk=>by
 unfold outsW at hk
 simpa using hk
theorem Lc {c i:Nat}{o:Option (Nat->Bool)}(h:i<(outsW c o).length):(outsW c o).getD i 0<c/\inE o ((outsW c o).getD i 0)=false:=by
 rw[Y9 (l:=outsW c o) (x:=(outsW c o)[i]) (by simp[h])]
 exact Rg _ (YX h)
theorem Z06 {c:Nat}{o:Option (Nat->Bool)}:∀ a b,a<(outsW c o).length->b<(outsW c o).length->(outsW c o).getD a 0=(outsW c o).getD b 0->a=b:=fun a b ha hb e=>by
 have nd:(outsW c o).Nodup:=List.nodup_range.filter _
 rw[Y9 (l:=outsW c o) (x:=(outsW c o)[a]) (by simp[ha]),Y9 (l:=outsW c o) (x:=(outsW c o)[b]) (by simp[hb])] at e
 have pw:=List.pairwise_iff_getElem.mp nd
 rcases Nat.lt_trichotomy a b with z | z | z
 ·exact absurd e (pw a b ha hb z)
 ·exact z
 ·exact absurd e.symm (pw b a hb ha z)
structure NarL (c:Nat)(o:Option (Nat->Bool))(rss:List (List Rat))(q L:List Rat):Prop where
 len:L.length=(outsW c o).length+1
 low:Lows L
 nn:∀ i,i<(outsW c o).length+1->0<=qr L i
 one:qr L 0=1
 fit:∀ rs∈rss,qv (mn q rs)+sQ (outsW c o).length (fun i=>qr L (i+1)*qr rs ((outsW c o).getD i 0))<=0
theorem NarL.of {c:Nat}{o:Option (Nat->Bool)}{rss:List (List Rat)}{q gs:List Rat}{T:Sv.Tab}(lq:Lows q)(lenq:q.length=c)(hrs:∀ rs∈rss,RowR c rs)(h:MostT ((outsW c o).length+1) (narrow c o q rss) oneW gs T):NarL c o rss q (loadsR ((outsW c o).length+1) (narrow c o q rss).length T):=by
 have M:=h.sv
 have nrow:=Qi (c:=c) (o:=o) (q:=q) lq hrs
 have pb:=Wv h.inv.pos
 have x0:=M.x0
 have fit:=M.fit
 have lie:=congrArg (fun z:Int=>(z:QQ)) M.lie
 simp only [Nc,_root_.Rat.intCast_mul] at lie
 have ql:∀ i,i<(outsW c o).length+1->qr (loadsR ((outsW c o).length+1) (narrow c o q rss).length T) i=(Sv.endOf ((narrow c o q rss).length+2) ((outsW c o).length+1) T i:QQ) / (T.b:QQ):=fun i hi=>(Br hi).trans (Vv h.inv.pos)
 have low:Lows (loadsR ((outsW c o).length+1) (narrow c o q rss).length T):=fun r hr=>by
  unfold loadsR at hr
  obtain⟨i,_,rfl⟩:=XG.mp hr
  have:=h.inv.pos
  exact Yr (by omega)
 have len:(loadsR ((outsW c o).length+1) (narrow c o q rss).length T).length=(outsW c o).length+1:=by unfold loadsR;simp
 generalize loadsR ((outsW c o).length+1) (narrow c o q rss).length T=L at *
 generalize Sv.endOf ((narrow c o q rss).length+2) ((outsW c o).length+1) T=e at *
 have one:qr L 0=1:=by
  rw[Zp fun i hi=>by rw[L9 hi],Uz,Rb (n:=(outsW c o).length) fun k hk=>by show (0:QQ)*_=0;grind] at lie
  have:(1:QQ)*(e 0:QQ)+0=(T.b:QQ):=lie
  rw[ql 0 (by omega)]
  grind
 refine⟨len,low,fun i hi=>?_,one,fun rs hr=>?_⟩
 ·rw[ql i hi]
  exact Fz (b:=(T.b:QQ)) (by rw[Bu (by grind)];exact _root_.Rat.intCast_nonneg.mpr (x0 i hi)) pb
 ·have m:foldR q rs (outsW c o)∈narrow c o q rss:=XG.mpr ⟨rs,hr,rfl⟩
  obtain⟨j,hj,ej⟩:=Y0X m
  have f:=_root_.Rat.intCast_le_intCast.mpr (fit j hj)
  rw[Nc] at f
  obtain⟨lp,ea⟩:=Fk nrow hj
  rw[Y9 (l:=narrow c o q rss) (x:=(narrow c o q rss)[j]) (by simp[hj]),ej] at lp ea
  rw[Zp (g:=fun i=>(lcmB (foldR q rs (outsW c o)):QQ)*(T.b:QQ)*(qr L i*qr (foldR q rs (outsW c o)) i)) fun i hi=>by
   rw[_root_.Rat.intCast_mul,ea i hi,ql i hi]
   have:=Bu (a:=(e i:QQ)) (b:=(T.b:QQ)) (by grind)
   grind,Yo] at f
  have f2:=Bt (_root_.Rat.mul_pos (Wv lp) pb) f
  rw[Z1j,one] at f2
  grind
section
variable {c:Nat}{o:Option (Nat->Bool)}{rss:List (List Rat)}{q L:List Rat}
def fillQ (c:Nat)(o:Option (Nat->Bool))(q L:List Rat):List Rat:=fillT q (L.drop 1) (outsW c o) (outsW c o).length
theorem W8 (hq:OnE c o q)(h:NarL c o rss q L):Lows (fillQ c o q L):=Tk hq.low Sq (fun r hr=>h.low r (Y0U hr)) _
theorem Qx (hq:OnE c o q):(fillQ c o q L).length=c:=by
 unfold fillQ
 rw[U9]
 exact hq.len
theorem Z1e (hq:OnE c o q){i:Nat}(hi:i<(outsW c o).length):qr (fillQ c o q L) ((outsW c o).getD i 0)=qr L (i+1):=by
 unfold qr fillQ
 rw[Fc Z06 (fun a ha=>by rw[hq.len];exact (Lc ha).1) (YE _) hi]
 congr 1
 rw[YF,Y0g,zZ,← YF]
theorem F8 {k:Nat}(z:inE o k=true):qr (fillQ c o q L) k=qr q k:=by
 unfold qr fillQ
 rw[Lw fun j hj e=>by have:=(Lc hj).2;rw[e,z] at this;cases this]
theorem Z1f (hq:OnE c o q)(g:Nat->QQ):sQ c (fun k=>qr (fillQ c o q L) k*g k)=sQ c (fun k=>qr q k*g k)+sQ (outsW c o).length (fun i=>qr L (i+1)*g ((outsW c o).getD i 0)):=by
 rw[D7 hq (fun k _ z=>F8 z)]
 congr 1
 exact Zp fun i hi=>by rw[Z1e hq hi]
theorem Z6l (hq:OnE c o q)(h:NarL c o rss q L){k:Nat}(hk:k<c):0<=qr (fillQ c o q L) k:=by
 cases z:inE o k with
 | true=>rw[F8 z];exact hq.nn k hk
 | false =>
  obtain⟨i,hi,rfl⟩:=Lb hk z
  rw[Z1e hq hi]
  exact h.nn (i+1) (by omega)
theorem Z1d (hq:OnE c o q)(h:NarL c o rss q L):1<=qv (sumR (fillQ c o q L)):=by
 rw[Ko (W8 hq h),Qx hq]
 have e:=Z1f (L:=L) hq fun _=>1
 have e1:sQ c (fun k=>qr (fillQ c o q L) k*1)=sQ c (qr (fillQ c o q L)):=Zp fun k _=>by grind
 have e2:sQ c (fun k=>qr q k*1)=1:=(Zp (g:=qr q) fun k _=>by grind).trans hq.lie
 rw[e1,e2] at e
 rw[e]
 have:=L6 (n:=(outsW c o).length) (f:=fun i=>qr L (i+1)*1) fun i hi=>by have:=h.nn (i+1) (by omega);grind
 grind
def unfQ (c:Nat)(o:Option (Nat->Bool))(q L:List Rat):List Rat:=(fillQ c o q L).map fun r=>mulR' r (parR (1,1) (sumR (fillQ c o q L)))
theorem Uv (hq:OnE c o q)(h:NarL c o rss q L):0<(sumR (fillQ c o q L)).1:=(Vh (Xu (W8 hq h)).pos).mpr (by have:=Z1d hq h;grind)
theorem T8 (hq:OnE c o q)(h:NarL c o rss q L):Low (parR (1,1) (sumR (fillQ c o q L))):=by
 have ls:=Xu (W8 hq h)
 rw[Ud ls (Uv hq h)]
 exact⟨Uv hq h,by rw[zl];exact ls.cop⟩
theorem Z4n (hq:OnE c o q)(h:NarL c o rss q L):qv (parR (1,1) (sumR (fillQ c o q L)))*qv (sumR (fillQ c o q L))=1:=by
 have ls:=Xu (W8 hq h)
 have p:=Uv hq h
 rw[Ud ls p]
 have h1:=Wj p
 have h2:=Wj ls.pos
 show ((sumR (fillQ c o q L)).2:QQ) / ((sumR (fillQ c o q L)).1:QQ)*(((sumR (fillQ c o q L)).1:QQ) / ((sumR (fillQ c o q L)).2:QQ))=1
 grind
theorem Z25 (hq:OnE c o q):(unfQ c o q L).length=c:=by unfold unfQ;rw[YC];exact Qx hq
theorem Z24 (hq:OnE c o q)(h:NarL c o rss q L):Lows (unfQ c o q L):=fun r hr=>by
 unfold unfQ at hr
 obtain⟨x,hx,rfl⟩:=XG.mp hr
 exact Tg (W8 hq h x hx) (T8 hq h)
theorem Ru (hq:OnE c o q)(h:NarL c o rss q L){k:Nat}(hk:k<c):qr (unfQ c o q L) k=qr (fillQ c o q L) k*qv (parR (1,1) (sumR (fillQ c o q L))):=by
 have hl:k<(fillQ c o q L).length:=by rw[Qx hq];exact hk
 have e1:(fillQ c o q L)[k]?=some (fillQ c o q L)[k]:=by simp[hl]
 unfold qr unfQ
 rw[YF,YD,e1,Y9 e1]
 exact Bq (W8 hq h _ (YI e1)) (T8 hq h)
theorem Jm (hq:OnE c o q)(h:NarL c o rss q L)(hrs:∀ rs∈rss,RowR c rs):WtsQ c rss (unfQ c o q L):=by
 have ep:=Z4n hq h
 have s1:=Z1d hq h
 have pp:0<qv (parR (1,1) (sumR (fillQ c o q L))):=by
  have:=(Vh (T8 hq h).pos).mp (by rw[Ud (Xu (W8 hq h)) (Uv hq h)];exact (Xu (W8 hq h)).pos)
  exact this
 generalize ez:qv (parR (1,1) (sumR (fillQ c o q L)))=z at *
 refine⟨Z25 hq,Z24 hq h,fun k hk=>?_,fun rs hr=>?_,?_⟩
 ·rw[Ru hq h hk,ez]
  exact _root_.Rat.mul_nonneg (Z6l hq h hk) (_root_.Rat.le_of_lt pp)
 ·have e:sQ c (fun k=>qr (unfQ c o q L) k*qr rs k)=z*sQ c (fun k=>qr (fillQ c o q L) k*qr rs k):=by
   rw[← Yo]
   exact Zp fun k hk=>by rw[Ru hq h hk,ez];grind
  rw[e,Z1f hq,← Vw hq.low (hrs rs hr).lows hq.len (hrs rs hr).1]
  exact Qj (_root_.Rat.le_of_lt pp) (h.fit rs hr)
 ·have e:sQ c (qr (unfQ c o q L))=z*sQ c (qr (fillQ c o q L)):=by
   rw[← Yo]
   exact Zp fun k hk=>by rw[Ru hq h hk,ez];grind
  have e2:sQ c (qr (fillQ c o q L))=qv (sumR (fillQ c o q L)):=by rw[Ko (W8 hq h),Qx hq]
  rw[e,e2]
  exact ep
theorem Cn (hq:OnE c o q)(h:NarL c o rss q L)(hrs:∀ rs∈rss,RowR c rs):ToldQ c o (unfQ c o q L) q:=by
 have w:=Jm hq h hrs
 have es:qv (shR c o (unfQ c o q L))=qv (parR (1,1) (sumR (fillQ c o q L))):=by
  rw[Xj w.low w.len]
  have e:sQ c (fun k=>if inE o k then qr (unfQ c o q L) k else 0)=qv (parR (1,1) (sumR (fillQ c o q L)))*sQ c (qr q):=by
   rw[← Yo]
   refine Zp fun k hk=>?_
   cases z:inE o k with
   | true=>simp only [jr];rw[Ru hq h hk,F8 z];grind
   | false=>rw[hq.out k hk z];simp
  rw[e,hq.lie]
  grind
 refine⟨hq.len,hq.low,?_,fun k hk=>?_⟩
 ·rw[es]
  exact (Vh (T8 hq h).pos).mp (by rw[Ud (Xu (W8 hq h)) (Uv hq h)];exact (Xu (W8 hq h)).pos)
 ·rw[es]
  cases z:inE o k with
  | true=>simp only [jr];rw[Ru hq h hk,F8 z]
  | false=>rw[hq.out k hk z];simp
theorem ToldQ.unique {W t t':List Rat}(h:ToldQ c o W t)(h':ToldQ c o W t'):t=t':=by
 refine jo (by rw[h.len,h'.len]) fun k h1 h2=>?_
 have hk:k<c:=by rw[← h.len];exact h1
 have e1:=h.at_ k hk
 have e2:=h'.at_ k hk
 rw[← e2] at e1
 have s0:=h.s0
 have e:qr t k=qr t' k:=by
  have:qv (shR c o W)≠0:=by grind
  have a:qr t k*qv (shR c o W) / qv (shR c o W)=qr t k:=by grind
  rw[← a,e1]
  grind
 unfold qr at e
 rw[Y9 (l:=t) (x:=t[k]) (by simp[h1]),Y9 (l:=t') (x:=t'[k]) (by simp[h2])] at e
 exact Kp (h.low _ (YX h1)) (h'.low _ (YX h2)) e
end
theorem Z3r (m:Nat):evI (m+1) (fun k=>k == 0)=[0]:=by
 unfold evI
 rw[List.range_succ_eq_map]
 simp
theorem Z1h {n n':Nat}{D D':Int}{Z Z':List Int}{q rs:List Rat}{us:List Nat}(rq:RepL n D Z q)(rr:RepL n' D' Z' rs)(hl:q.length=rs.length)(hc:rs.length<=8)(hu:∀ k∈us,k<rs.length):RepL (n+n'+3) (D*D') ((List.zipWith (·*·) Z Z').sum::us.map fun k=>Z'.getD k 0*D) (foldR q rs us):=by
 have rm:=rq.mul rr hl
 refine⟨YZ rq.pos rr.pos,(rq.bD.mul rr.bD).mono (by omega),by unfold foldR;simp,fun i W r hW hr=>?_⟩
 cases i with
 | zero =>
  cases hW
  cases hr
  obtain⟨e,l⟩:=rm.sum
  refine⟨e,Si _ rm.bdW 3 ?_,l⟩
  rw[rm.len,JG]
  omega
 | succ i =>
  unfold foldR at hr
  rw[List.getElem?_cons_succ] at hW hr
  rw[YD] at hW hr
  cases e:us[i]? with
  | none=>rw[e] at hW;simp at hW
  | some k =>
   rw[e] at hW hr
   cases hW
   cases hr
   have hk:=hu k (YI e)
   have hz:k<Z'.length:=by rw[rr.len];exact hk
   have e1:rs[k]?=some rs[k]:=by simp[hk]
   have e2:Z'[k]?=some Z'[k]:=by simp[hz]
   obtain⟨a,b,l⟩:=rr.at_ k _ _ e2 e1
   show (rs.getD k (0,1)).1*(D*D')=Z'.getD k 0*D*(rs.getD k (0,1)).2/\Bd (n+n'+3) (Z'.getD k 0*D)/\Low (rs.getD k (0,1))
   rw[Y9 e1,Y9 e2]
   refine⟨?_,?_,l⟩
   ·have:rs[k].1*(D*D')=rs[k].1*D'*D:=by grind
    rw[this,a]
    grind
   ·have:=b.mul rq.bD
    exact this.mono (by omega)
theorem L7 {n:Nat}:∀ {rss:List (List Rat)},(∀ rs∈rss,∃ D Z,RepL n D Z rs)->∃ E:Int,0<E/\Bd (n*rss.length+1) E/\∀ rs∈rss,∃ Z,RepL (n*rss.length+1) E Z rs
 | [],_=>⟨1,by decide,Xf 1 (by decide) (by omega),fun _ h=>nomatch h⟩
 | r0::t,h=>by
  obtain⟨E,hE,bE,hr⟩:=L7 (rss:=t) fun rs hrs=>h rs (YV _ hrs)
  obtain⟨D,Z,r⟩:=h r0 XC
  have en:n*(r0::t).length+1=n+(n*t.length+1):=by rw[XZ,Y0L];omega
  rw[en]
  refine⟨D*E,YZ r.pos hE,r.bD.mul bE,fun rs hrs=>?_⟩
  rcases YS.mp hrs with rfl | hrs
  ·exact⟨_,r.scale hE bE⟩
  ·obtain⟨Z2,r2⟩:=hr rs hrs
   have:=r2.scale r.pos r.bD
   rw[XH E,zZ _ n] at this
   exact⟨_,this⟩
theorem RepL.each {n:Nat}{D:Int}(hD:0<D)(bD:Bd n D):∀ {rs:List Rat},(∀ r∈rs,∃ W,r.1*D=W*r.2/\Bd n W/\Low r)->∃ Ws,RepL n D Ws rs
 | [],_=>⟨[],hD,bD,rfl,fun i W r h=>by simp at h⟩
 | r::t,h=>by
  obtain⟨Ws,p⟩:=RepL.each hD bD (rs:=t) fun x hx=>h x (YV _ hx)
  obtain⟨W,e⟩:=h r XC
  refine⟨W::Ws,hD,bD,by simp[p.len],fun i V x hV hx=>?_⟩
  cases i with
  | zero=>cases hV;cases hx;exact e
  | succ i=>exact p.at_ i V x (by simpa using hV) (by simpa using hx)
theorem Z1y {c n m:Nat}{rss:List (List Rat)}{ms:List Rat}{D:Int}{U:List Int}(hrs:∀ rs∈rss,rs.length=c/\∃ D Ws,RepL n D Ws rs)(rm:RepL m D U ms)(lm:ms.length=rss.length)(few:rss.length<=1024):∃ E W,RepL (m+(n*rss.length+1)+10) E W (comeW c rss ms):=by
 obtain⟨E,hE,bE,hr⟩:=L7 (n:=n) (rss:=rss) fun rs h=>(hrs rs h).2
 have rc:∀ k,k<c->∃ W,RepL (n*rss.length+1) E W (colR rss k):=fun k hk=>by
  refine RepL.each hE bE fun x hx=>?_
  unfold colR at hx
  obtain⟨rs,h,rfl⟩:=XG.mp hx
  obtain⟨Z,r⟩:=hr rs h
  have hl:=(hrs rs h).1
  have e1:rs[k]?=some (rs[k]'(by omega)):=by simp
  have e2:Z[k]?=some (Z[k]'(by rw[r.len];omega)):=by simp
  rw[Y9 e1]
  exact⟨_,r.at_ k _ _ e2 e1⟩
 refine⟨E*D,RepL.each (YZ hE rm.pos) ((bE.mul rm.bD).mono (by omega)) fun x hx=>?_⟩
 unfold comeW at hx
 obtain⟨k,hk,rfl⟩:=XG.mp hx
 have hk':k<c:=by simpa using hk
 obtain⟨W,r⟩:=rc k hk'
 have lc:(colR rss k).length=rss.length:=by unfold colR;simp
 have p:=r.mul rm (by rw[lc,lm])
 obtain⟨e,l⟩:=p.sum
 refine⟨_,e,(Si _ p.bdW 10 ?_).mono (by omega),l⟩
 rw[p.len,JG,lc]
 omega
section
variable {c:Nat}{o:Option (Nat->Bool)}{rss:List (List Rat)}{q L:List Rat}
theorem Rj {n:Nat}{D:Int}{Z:List Int}{rs:List Rat}(h:RepL n D Z rs):∀ r∈rs,∃ W,r.1*D=W*r.2/\Bd n W/\Low r:=fun r hr=>by
 obtain⟨i,hi⟩:=XB hr
 have hl:i<Z.length:=by rw[h.len];exact (YH.mp hi).1
 exact⟨_,h.at_ i Z[i] r (by simp[hl]) hi⟩
theorem Ps {r S x:Rat}{D V Y:Int}(hr:0<r.2)(hs:0<S.2)(e1:r.1*D=V*r.2)(e:S.1*D=Y*S.2)(cr:x.1*(r.2*S.1)=r.1*S.2*x.2):x.1*Y=V*x.2:=by
 refine JN (Int.ne_of_gt (YZ hr hs)) ?_
 have a1:r.2*S.2*(x.1*Y)=x.1*r.2*(Y*S.2):=by grind
 have a2:r.2*S.2*(V*x.2)=(V*r.2)*S.2*x.2:=by grind
 rw[a1,a2,← e,← e1]
 have a3:x.1*r.2*(S.1*D)=x.1*(r.2*S.1)*D:=by grind
 rw[a3,cr]
 grind
theorem Z5s {n N:Nat}{D E:Int}{Z U:List Int}(rq:RepL n D Z q)(rl:RepL N E U L):∃ W,RepL (n+N) (D*E) W (fillQ c o q L):=by
 refine RepL.each (YZ rq.pos rl.pos) (rq.bD.mul rl.bD) (Tk (fun r hr=>?_) ⟨0,by simp,bd0 _,Sq⟩ (fun r hr=>?_) _)
 ·obtain⟨W,e,b,l⟩:=Rj rq r hr
  exact⟨W*E,by rw[← JM,e];grind,b.mul rl.bD,l⟩
 ·obtain⟨W,e,b,l⟩:=Rj rl r (Y0U hr)
  refine⟨D*W,?_,rq.bD.mul b,l⟩
  have:r.1*(D*E)=D*(r.1*E):=by grind
  rw[this,e]
  grind
theorem Z23 {n N:Nat}{D E:Int}{Z U:List Int}(hq:OnE c o q)(h:NarL c o rss q L)(rq:RepL n D Z q)(rl:RepL N E U L)(hc:c<=1024):∃ F V,RepL (n+N+10) F V (unfQ c o q L):=by
 obtain⟨W,rf⟩:=Z5s (c:=c) (o:=o) rq rl
 have p:=Uv hq h
 have ls:=Xu (W8 hq h)
 have ep:=Ud ls p
 have e:(sumR (fillQ c o q L)).1*(D*E)=W.sum*(sumR (fillQ c o q L)).2:=rf.sum.1
 have lf:=Qx (L:=L) hq
 have sp:0<W.sum:=by
  have:0<W.sum*(sumR (fillQ c o q L)).2:=by rw[← e];exact YZ p rf.pos
  exact Y0G this ls.pos
 refine⟨W.sum,RepL.each sp (Si _ rf.bdW 10 (by rw[rf.len,lf];omega)) fun x hx=>?_⟩
 unfold unfQ at hx
 obtain⟨r,hr,rfl⟩:=XG.mp hx
 obtain⟨V,e1,b1,l1⟩:=Rj rf r hr
 have lx:=Tg l1 (T8 hq h)
 refine⟨V,?_,b1.mono (by omega),lx⟩
 rw[ep] at lx ⊢
 have cr:=X2 (r.1*(sumR (fillQ c o q L)).2) (r.2*(sumR (fillQ c o q L)).1)
 change (mulR' r ((sumR (fillQ c o q L)).2,(sumR (fillQ c o q L)).1)).1*(r.2*(sumR (fillQ c o q L)).1)=_*(mulR' r ((sumR (fillQ c o q L)).2,(sumR (fillQ c o q L)).1)).2 at cr
 exact Ps l1.pos ls.pos e1 e cr
end
theorem Fy {K:W.Frag}{C e l:Addr}{H1:Hp}{xs:List V}{E:XK}(he:H1 e=none)(hl:H1 l=some (.lst xs))(hw:∀ (d q:Addr) (H':Hp),Same H1 H'->H1 q=none->H' d=some (.xd [("multiples",.ref q)])->H' q=some (.lst xs)->E (.ref C) (some d) H') :
  fH K C [.ref e,.ref l] (upd H1 e (excN e C none)) (fun v H2=>v=.non/\∃ dd,H2 e=some (excN e C dd)/\E (.ref C) dd (unT H2 e)) E0:=by
 have nl:l≠e:=Ze hl he
 refine⟨e,l,xs,rfl,Zc,SqL.of (by rw[Zf nl];exact hl),fun d q H' hq hd h1 h2 h3 kp=>⟨rfl,some d,h1,?_⟩⟩
 have nq:q≠e:=fun z=>by rw[z,Zc] at hq;cases hq
 have nd:d≠e:=fun z=>by rw[z,Zc] at hd;cases hd
 rw[Zf nq] at hq
 refine hw d q _ (fun b o hb=>?_) hq (by rw[Ve nd];exact h2) (by rw[Ve nq];exact h3)
 have nb:b≠e:=Ze hb he
 rw[Ve nb]
 exact kp b o (by rw[Zf nb];exact hb) nb
section
variable {P:Program}{w:World}{K:W.Frag}{mg:Str->Option Value}{base:Heap}{C fI:Addr}{fdI:FuncData}
def fV (K:W.Frag):Sp:=fun vs H Q _=>∃ (l:Addr) (c n N M:Nat) (os:List Offr),vs=[.int (c:Int),.ref l]/\OffsAt K H l c os/\BookM c n N M os/\(∃ ls,Wts c (gainsP os os.length) ls)/\2<=c/\c<=100 ∧
 ∀ (t lo:Addr) (H':Hp),Same H H'->SqT K H' t [.str "fair",.ref lo]->Q (.ref t) H'
theorem Mw:FnScope ["count","offers","found"] ["count","offers"] (defScope lJ):=fsc
set_option maxHeartbeats 800000 in
theorem D9 (D:Def K mg "judged" lJ ["count","offers"])(fR:Z8 P w K mg base)(fT:Has P w K mg base 5 "gains" ["offers"] (eL K))(eF:Con K mg "NOUGHT" (0,1)):Has P w K mg base 6 "judged" ["count","offers"] (fV K):=by
 refine D.has fun f fd F=>F.ok Mw (fun vs H Q E h=>?_) (fun cdv A outer s H vs Q E hr h=>?_)
 ·obtain⟨l,c,n,N,M,os,rfl,_⟩:=h
  rfl
 ·obtain⟨l,c,n,N,M,os,rfl,hO,bg,⟨ls,wl⟩,hc2,hc,k⟩:=h
  obtain⟨c_NOUGHT,m_NOUGHT,s_NOUGHT⟩:=eF
  have sc:=Mw
  refine⟨_,(Zb (Zk (i:=2) sc.nd rfl (Or.inl rfl) (Zg fR hr (Z0 (pv 0) (Z0 (Zg fT hr (Z0 (pv 1) Z9)) (Z0 Yv (Z0 (Zl Gq (Yk (Z0 (X1 (v:=.ref c_NOUGHT) rfl m_NOUGHT rfl) Z9)) (pv 0)) Z9))))))
   (Zb (Yc (Zn Xo (Zj Yj (pv 2) Za (fun _ _=>rfl)) Xe (Zq _))
    (Zd U0)
    Zv)
   (Zd (Zi (Yk (Z0 Xe (Z0 (Zj Yj (pv 2) Za (fun _ _=>rfl)) Z9))))))),?_⟩
  have few:=bg.few
  have nN:=bg.nN
  have sides:=bg.sides
  have n1:=bg.m1
  refine⟨_,rfl,_,rfl,l,c,n,os,rfl,hO,few,by omega,bg.n4,bg.good,fun d H1 fd S1 hR1=>?_⟩
  refine⟨sz1,fun t ht=>⟨_,rfl,t,c,[.ref c_NOUGHT],rfl,rfl,SqT.of Zc,by omega,by simp,by simp;omega,fun p hp=>?_⟩⟩
  have S2:Same H1 (upd H1 t (.tup [.ref c_NOUGHT])):=Same.new ht
  have et:(c:Int).toNat=c:=by omega
  have ef:(List.replicate (c:Int).toNat [V.ref c_NOUGHT]).flatten=List.replicate c (V.ref c_NOUGHT):=by rw[et];simp
  rw[ef]
  have S3:=S2.trans (Same.new (o:=.tup (List.replicate c (V.ref c_NOUGHT))) hp)
  have R3:RowAt K (upd (upd H1 t (.tup [.ref c_NOUGHT])) p (.tup (List.replicate c (V.ref c_NOUGHT)))) p (List.replicate c (0,1)):=⟨_,SqT.of Zc,Rs.rep ⟨c_NOUGHT,rfl,s_NOUGHT _⟩ c⟩
  generalize upd (upd H1 t (.tup [.ref c_NOUGHT])) p (.tup (List.replicate c (V.ref c_NOUGHT)))=H3 at *
  obtain⟨ads,hd,hP⟩:=hR1
  have S03:=S1.trans S3
  have zr:=To c bg.m1
  have zn:∃ D Ws,RepL M D Ws (List.replicate c ((0,1):Rat)):=⟨_,_,zr⟩
  refine⟨d,p,.non,c,M,N,gainsP os os.length,none,List.replicate c (0,1),rfl,⟨ads,S3 _ _ hd,Yq hP (Ext.same S3)⟩,rfl,R3,by simp,bg.rep,zn,by omega,by omega,by omega,by omega,fun T' I=>bg.bd _ _ T' ⟨_,_,zr.cut none⟩ I,by omega,by omega,by omega,fun Tb q t4 xs H4 fq S4 nt hq rs4 sq=>?_,fun Tb q t4 va lo xs H4 fq S4 mt hq rs4 iv rl sq=>?_⟩
  ·exact (nt.noloadsq bg.rows (wl.toQ bg.rows)).elim
  ·refine⟨_,rfl,t4,_,_,_,rfl,rfl,sq,Zh (j:=0) rfl,rfl,_,rfl,Yw ?_⟩
   refine⟨_,rfl,t4,_,_,_,rfl,rfl,sq,Zh (j:=2) rfl,sz2,fun t6 ht6=>?_⟩
   have S6:=Same.new (o:=.tup [.str "fair",.ref lo]) ht6
   exact k t6 lo _ ((S03.trans S4).trans S6) (SqT.of Zc)
def iT (K:W.Frag):Sp:=fun vs H Q _=>∃ (l:Addr) (c n N M:Nat) (os:List Offr),vs=[.int (c:Int),.ref l]/\OffsAt K H l c os/\BookM c n N M os/\(∃ ls,Wts c (gainsP os os.length) ls)/\2<=c/\c<=100/\∀ (H':Hp),Same H H'->Q .non H'
theorem Cz:FnScope ["count","offers","told"] ["count","offers"] (defScope j8):=fsc
theorem Z55 (D:Def K mg "refuse_beaten" j8 ["count","offers"])(jJ:Has P w K mg base 6 "judged" ["count","offers"] (fV K)):Has P w K mg base 7 "refuse_beaten" ["count","offers"] (iT K):=by
 refine D.has fun f fd F=>F.ok Cz (fun vs H Q E h=>?_) (fun cdv A outer s H vs Q E hr h=>?_)
 ·obtain⟨l,c,n,N,M,os,rfl,_⟩:=h
  rfl
 ·obtain⟨l,c,n,N,M,os,rfl,hO,bg,wl,hc2,hc,k⟩:=h
  have sc:=Cz
  refine⟨_,(Zb (Zk (i:=2) sc.nd rfl (Or.inl rfl) (Zg jJ hr (Z0 (pv 0) (Z0 (pv 1) Z9))))
   (Zd (Yc (Zn Xo (Zj Yj (pv 2) Za (fun _ _=>rfl)) Xe (Zq _))
    (Zd U0)
    Zv))),?_⟩
  refine⟨_,rfl,_,rfl,l,c,n,N,M,os,rfl,hO,bg,wl,hc2,hc,fun t lo H1 S1 ht=>?_⟩
  refine⟨_,rfl,t,_,_,_,rfl,rfl,ht,Zh (j:=0) rfl,rfl,_,rfl,Yw ?_⟩
  exact k _ S1
def jN (K:W.Frag)(C:Addr):Sp:=fun vs H Q E=>∃ (l g:Addr) (ve:V) (c n N M:Nat) (os:List Offr) (o:Option (Nat->Bool)) (as:List Rat) (D:Int) (Z:List Int),vs=[.int (c:Int),.ref l,ve,.ref g]/\OffsAt K H l c os/\BookM c n N M os/\EvAt K H c o ve/\RowAt K H g as/\as.length=c/\RepL M D Z as/\(∃ ls,Wts c (gainsP os os.length) ls)/\2<=c/\c<=100 ∧
 (∀ (va:Addr) (v:Rat) (H':Hp),Same H H'->ConV c (gainsP os os.length) o as v->Good (N+M) v->SqT K H' va [.int v.1,.int v.2]->Q (.ref va) H') ∧
 (∀ (d:Addr) (T:Sv.Tab) (gs:List Rat) (H':Hp),Same H H'->NoneT c (gainsP os os.length) o gs T->E (.ref C) (some d) H')
theorem Z45:FnScope ["count","offers","event","row","found"] ["count","offers","event","row"] (defScope kA):=fsc
set_option maxHeartbeats 800000 in
theorem Z6a (D:Def K mg "greatest_left" kA ["count","offers","event","row"])(x_NoChance:ExcI K mg "NoChance" C fI)(F_NoChance:FnOk P w K mg base CX0 1 fI fdI ["self","multiples"] (fH K C))(b_NoChance:Binds K fdI ["self","multiples"] [])(fR:Z8 P w K mg base)(fT:Has P w K mg base 5 "gains" ["offers"] (eL K))(fU:Has P w K mg base 7 "refuse_beaten" ["count","offers"] (iT K)):HasD P w K mg base 8 "greatest_left" ["count","offers","event","row"] (jN K C):=by
 refine D.hasD Z45 (fun vs H Q E h=>?_) (fun f cdv A outer s H vs Q E hr h=>?_)
 ·obtain⟨l,g,ve,c,n,N,M,os,o,as,D,Z,rfl,_⟩:=h
  rfl
 ·obtain⟨l,g,ve,c,n,N,M,os,o,as,D,Z,rfl,⟨vs,hl,hP⟩,bg,hE,hg,la,ra,wl,hc2,hc,kQ,kE⟩:=h
  have sc:=Z45
  refine⟨_,(Zb (Zk (i:=4) sc.nd rfl (Or.inl rfl) (Zg fR hr (Z0 (pv 0) (Z0 (Zg fT hr (Z0 (pv 1) Z9)) (Z0 (pv 2) (Z0 (pv 3) Z9))))))
   (Zb (Yc (Zn Xo (Zj Yj (pv 4) Za (fun _ _=>rfl)) Xe (Zq _))
    (Zb (Xl (Zg fU hr (Z0 (pv 0) (Z0 (pv 1) Z9))))
    (Zd (D0 x_NoChance F_NoChance b_NoChance (hr.mono (by decide)) rfl (Z0 (Zj Yj (pv 4) Za (fun _ _=>rfl)) Z9))))
    Zv)
   (Zd (Zi (Zj Yj (pv 4) Za (fun _ _=>rfl)))))),?_⟩
  have few:=bg.few
  have nN:=bg.nN
  have sides:=bg.sides
  have n1:=bg.m1
  refine⟨_,rfl,_,rfl,l,c,n,os,rfl,⟨vs,hl,hP⟩,few,by omega,bg.n4,bg.good,fun d H1 fd S1 hR1=>?_⟩
  refine⟨_,rfl,_,rfl,d,g,ve,c,M,N,gainsP os os.length,o,as,rfl,hR1,hE.same S1,hg.same S1,la,bg.rep,⟨_,_,ra⟩,by omega,by omega,by omega,by omega,fun T' I=>bg.bd _ _ T' ⟨_,_,ra.cut o⟩ I,by omega,by omega,by omega,fun T q t4 xs H4 fq S4 nt hq rs4 sq=>?_,fun T q t4 va lo xs H4 fq S4 mt hq rs4 iv rl sq=>?_⟩
  ·refine⟨_,rfl,t4,_,_,_,rfl,rfl,sq,Zh (j:=0) rfl,rfl,_,rfl,Uq ?_⟩
   have S04:=S1.trans S4
   refine⟨_,rfl,_,rfl,l,c,n,N,M,os,rfl,⟨vs,S04 _ _ hl,Ym hP (Ext.same S04)⟩,bg,wl,hc2,hc,fun H5 S5=>?_⟩
   have S05:=S04.trans S5
   refine⟨_,rfl,t4,_,_,_,rfl,rfl,Zt S5 sq,Zh (j:=1) rfl,sz1,fun e he=>?_⟩
   exact Fy he (S5 _ _ hq) fun d3 q2 H' S' fq2 e1 e2=>kE d3 T _ H' (S05.trans S') nt
  ·refine⟨_,rfl,t4,_,_,_,rfl,rfl,sq,Zh (j:=0) rfl,rfl,_,rfl,Yw ?_⟩
   obtain⟨va',e,sv⟩:=iv
   cases e
   have bd:=bg.bd _ _ _ ⟨_,_,ra.cut o⟩ mt.inv
   have gv:=mt.goodM ra bd
   refine⟨_,rfl,t4,_,_,_,rfl,rfl,sq,Zh (j:=1) rfl,?_⟩
   exact kQ va _ _ (S1.trans S4) (mt.conq bg.rows ⟨la,_,_,_,ra⟩) gv sv
def fQ (K:W.Frag)(C:Addr):Sp:=fun vs H Q E=>∃ (l g:Addr) (ve:V) (c n N M:Nat) (os:List Offr) (o:Option (Nat->Bool)) (as:List Rat) (D:Int) (Z:List Int),vs=[.int (c:Int),.ref l,ve,.ref g]/\OffsAt K H l c os/\BookM c n N M os/\EvAt K H c o ve/\RowAt K H g as/\as.length=c/\RepL M D Z as/\(∃ ls,Wts c (gainsP os os.length) ls)/\2<=c/\c<=100 ∧
 (∀ (t a b:Addr) (u v:Rat) (H':Hp),Same H H'->SqT K H' t [.ref a,.ref b]->SqT K H' a [.int u.1,.int u.2]->SqT K H' b [.int v.1,.int v.2]->ConV c (gainsP os os.length) o as v->ConV c (gainsP os os.length) o (ngR as) (negR u)->Good (N+M) u->Good (N+M) v->Q (.ref t) H') ∧
 (∀ (d:Addr) (T:Sv.Tab) (gs:List Rat) (H':Hp),Same H H'->NoneT c (gainsP os os.length) o gs T->E (.ref C) (some d) H')
theorem Q6:FnScope ["count","offers","event","row","greatest","least"] ["count","offers","event","row"] (defScope k6):=fsc
set_option maxHeartbeats 800000 in
theorem Kz (D:Def K mg "learned" k6 ["count","offers","event","row"])(eV:HasD P w K mg base 8 "greatest_left" ["count","offers","event","row"] (jN K C))(jF:Has P w K mg base 5 "turned" ["row"] (gD K))(f7:Has P w K mg base 3 "minus" ["one","other"] (eK K subR))(eF:Con K mg "NOUGHT" (0,1)):HasD P w K mg base 9 "learned" ["count","offers","event","row"] (fQ K C):=by
 refine D.hasD Q6 (fun vs H Q E h=>?_) (fun f cdv A outer s H vs Q E hr h=>?_)
 ·obtain⟨l,g,ve,c,n,N,M,os,o,as,D,Z,rfl,_⟩:=h
  rfl
 ·obtain⟨l,g,ve,c,n,N,M,os,o,as,D,Z,rfl,⟨vs,hl,hP⟩,bg,hE,hg,la,ra,wl,hc2,hc,kQ,kE⟩:=h
  obtain⟨c_NOUGHT,m_NOUGHT,s_NOUGHT⟩:=eF
  have sc:=Q6
  refine⟨_,(Zb (Zk (i:=4) sc.nd rfl (Or.inl rfl) (Nm eV (hr.mono (by decide)) rfl Qq (Z0 (pv 0) (Z0 (pv 1) (Z0 (pv 2) (Z0 (pv 3) Z9))))))
   (Zb (Zk (i:=5) sc.nd rfl (Or.inl rfl) (Zg f7 hr (Z0 (X1 (v:=.ref c_NOUGHT) rfl m_NOUGHT rfl) (Z0 (Nm eV (hr.mono (by decide)) rfl Qq (Z0 (pv 0) (Z0 (pv 1) (Z0 (pv 2) (Z0 (Zg jF hr (Z0 (pv 3) Z9)) Z9))))) Z9))))
   (Zd (Zi (Yk (Z0 (pv 5) (Z0 (pv 4) Z9))))))),?_⟩
  have nN:=bg.nN
  have n1:=bg.m1
  have ra':RepL M D _ (ngR as):=Z3g ra
  have la':(ngR as).length=c:=by unfold ngR;rw[YC];exact la
  refine⟨_,rfl,_,rfl,_,rfl,_,rfl,l,g,ve,c,n,N,M,os,o,as,_,_,rfl,⟨vs,hl,hP⟩,bg,hE,hg,la,ra,wl,hc2,hc,fun va v H1 S1 cv gv sv=>?_,fun d T gs H' S' nt=>kE d T gs H' S' nt⟩
  refine⟨_,rfl,_,rfl,_,rfl,_,rfl,g,as,M,rfl,hg.same S1,by omega,ra.good,by omega,by omega,fun g2 H2 S2 R2=>?_⟩
  have S02:=S1.trans S2
  refine⟨l,g2,ve,c,n,N,M,os,o,ngR as,_,_,rfl,⟨vs,S02 _ _ hl,Ym hP (Ext.same S02)⟩,bg,hE.same S02,R2,la',ra',wl,hc2,hc,fun vb u H3 S3 cu gu su=>?_,fun d T gs H' S' nt=>kE d T gs H' (S02.trans S') nt⟩
  refine⟨c_NOUGHT,vb,(0,1),u,N+M,rfl,s_NOUGHT _,su,⟨bd0 _,Xf 1 (by decide) (by omega),by decide,by decide⟩,gu,by omega,fun m H4 fm S4 e4=>?_⟩
  rw[Kf gu.low] at e4
  refine⟨_,rfl,_,rfl,sz2,fun t ht=>?_⟩
  have S5:=Same.new (o:=.tup [.ref m,.ref va]) ht
  have S45:=S4.trans S5
  exact kQ t m va (negR u) v _ ((S02.trans S3).trans S45) (SqT.of Zc) (SqT.of (S5 _ _ e4)) (Zt ((S2.trans S3).trans S45) sv) cv (by rw[negR.neg];exact cu) (Z0v gu) gv
end
theorem Z0w (us:List Nat):(natV us).length=us.length:=by unfold natV;simp
section
variable {P:Program}{w:World}{K:W.Frag}{mg:Str->Option Value}{base:Heap}
def iU (K:W.Frag):Sp:=fun vs H Q _=>∃ (l a:Addr) (ve:V) (c:Nat) (os:List Offr) (o:Option (Nat->Bool)) (q:List Rat) (D:Int) (Z:List Int),vs=[.int (c:Int),.ref l,ve,.ref a]/\OffsAt K H l c os/\BookU c 91 os/\(gainsP os os.length).length<=6/\EvAt K H c o ve/\RowAt K H a q/\OnE c o q/\RepL 18 D Z q/\2<=c/\c<=5 ∧
 (∀ (t p:Addr) (L:List Rat) (H':Hp),Same H H'->SqT K H' t [.str "left",.ref p]->RowAt K H' p (unfQ c o q L)->NarL c o (gainsP os os.length) q L->(∃ D U,RepL 743 D U (unfQ c o q L))->Q (.ref t) H') ∧
 (∀ (t p:Addr) (R:List Rat) (H':Hp),Same H H'->SqT K H' t [.str "not",.ref p]->RowAt K H' p (cutR o R)->NotL c o (gainsP os os.length) q R->(∃ D U,RepL 1384 D U R)->Q (.ref t) H')
theorem Ba:FnScope ["count","offers","event","weights","outside","rows","narrow","width","found"] ["count","offers","event","weights"] (defScope mG):=fsc
set_option maxHeartbeats 1600000 in
theorem Z57 (D:Def K mg "left" mG ["count","offers","event","weights"])(T:Blt mg)(jA:Has P w K mg base 1 "is_in" ["world","event"] (gR K))(fT:Has P w K mg base 5 "gains" ["offers"] (eL K))(jK:Has P w K mg base 5 "folded" ["row","weights","outside"] (gJ K))(fR:Z8 P w K mg base)(gY:Has P w K mg base 2 "cut" ["row","event"] (gM K))(jL:Has P w K mg base 5 "come_to" ["count","rows","multiples"] (gN K))(iJ:Has P w K mg base 5 "unfolded" ["loads","weights","outside"] (fN K))(eF:Con K mg "NOUGHT" (0,1)):Has P w K mg base 6 "left" ["count","offers","event","weights"] (iU K):=by
 refine D.has fun f fd F=>F.ok Ba (fun vs H Q E h=>?_) (fun cdv A outer s H vs Q E hr h=>?_)
 ·obtain⟨l,a,ve,c,os,o,q,D,Z,rfl,_⟩:=h
  rfl
 ·obtain⟨l,a,ve,c,os,o,q,D,Z,rfl,hO,bu,six,hE,hq,on,rq,c2,c5,kL,kN⟩:=h
  obtain⟨c_NOUGHT,m_NOUGHT,s_NOUGHT⟩:=eF
  have sc:=Ba
  have nd1:(["world","event"]:List Str).Nodup:=by decide +kernel
  have nd2:(["row","weights","outside"]:List Str).Nodup:=by decide +kernel
  refine⟨_,(Zb (Zk (i:=4) sc.nd rfl (Or.inr rfl) (Yl (N:=["world","event"]) (k:=1) (fv:=[2]) rfl (Yx rfl T.range (Z0 (pv 0) Z9))
   (fun _ _ _ _ _=>Zm (i:=0) nd1 rfl (Or.inl rfl)) (fun _ _ _ _ _=>Nk (Wk (Xk (Zg jA hr (Z0 (pv 0) (Z0 (pv 1) Z9)))))) (fun _ _ _ _ _=>(pv 0)) Zy))
   (Zb (Zk (i:=5) sc.nd rfl (Or.inl rfl) (Zg fT hr (Z0 (pv 1) Z9)))
   (Zb (Wp (i:=6) (N:=["row","weights","outside"]) (k:=1) (fv:=[3,4]) sc.nd rfl (Or.inl rfl) rfl (Xd (pv 5))
   (fun _ _ _ _ _=>Zm (i:=0) nd2 rfl (Or.inl rfl)) (fun _ _ _ _ _=>Yb) (fun _ _ _ _ _=>(Zg jK hr (Z0 (pv 0) (Z0 (pv 1) (Z0 (pv 2) Z9))))) Zy)
   (Zb (Zk (i:=7) sc.nd rfl (Or.inl rfl) (Zl Yz Za (Zx Y6 rfl T.len zf (Z0 (pv 4) Z9))))
   (Zb (Zk (i:=8) sc.nd rfl (Or.inl rfl) (Zg fR hr (Z0 (pv 7) (Z0 (pv 6) (Z0 (Yk (Z0 Za Z9)) (Z0 (Zl Gp (Yk (Z0 (X1 (v:=.ref c_NOUGHT) rfl m_NOUGHT rfl) Z9)) (pv 7)) Z9))))))
   (Zb (Yc (Zn Xo (Zj Yj (pv 8) Za (fun _ _=>rfl)) Xe (Zq _))
    (Zd (Zi (Yk (Z0 Xe (Z0 (Zg gY hr (Z0 (Zg jL hr (Z0 (pv 0) (Z0 (pv 5) (Z0 (Zj Yj (pv 8) Za (fun _ _=>rfl)) Z9)))) (Z0 (pv 2) Z9))) Z9)))))
    Zv)
   (Zd (Zi (Yk (Z0 Xe (Z0 (Zg iJ hr (Z0 (Zj Yj (pv 8) Za (fun _ _=>rfl)) (Z0 (pv 3) (Z0 (pv 4) Z9)))) Z9))))))))))),?_⟩
  refine⟨_,rfl,(c:Int),rfl,(by omega),(by omega),fun d hd=>?_⟩
  have et:(c:Int).toNat=c:=by omega
  rw[et]
  refine⟨c,fun i ys H2=>Same H H2/\ys=natV ((List.range i).filter fun k=>!inE o k),Zu (by omega),⟨Same.new hd,rfl⟩,?_,?_⟩
  ·rintro i ys H2 hi ⟨S2,rfl⟩ hd2
   refine⟨hi,?_⟩
   rintro x H3 ⟨rfl,rfl⟩
   have e0:(0+(i:Int))=((i:Nat):Int):=by omega
   rw[e0]
   refine Lf ?_
   refine⟨_,rfl,_,rfl,i,c,o,ve,rfl,hE.same S2,hi,_,rfl,?_⟩
   have ef:(List.range (i+1)).filter (fun k=>!inE o k)=(List.range i).filter (fun k=>!inE o k)++if inE o i then [] else [i]:=by
    rw[zv,zP]
    cases z:inE o i <;> simp[z]
   cases z:inE o i with
   | true =>
    refine Yw ⟨hd2,S2,?_⟩
    rw[ef,z]
    simp
   | false =>
    refine Uq ⟨_,rfl,hd2,fun q' o' e=>?_,?_⟩
    ·rw[Zf (Ze e hd)]
     exact S2 _ _ e
    ·rw[ef,z]
     unfold natV
     simp
  rintro ys H1 ⟨S1,rfl⟩ hd1
  refine⟨YE _,?_⟩
  replace hd1:H1 d=some (.lst (natV (outsW c o))):=hd1
  have lo:(outsW c o).length<=c:=by
   unfold outsW
   exact XU (List.length_filter_le _ _) (by simp)
  obtain⟨vs,hl,hP⟩:=hO
  have few:=bu.few
  refine⟨_,rfl,l,c,91,os,rfl,⟨vs,S1 _ _ hl,Ym hP (Ext.same S1)⟩,few,by omega,by decide,bu.good,fun dr H2 fd2 S2 hR2=>?_⟩
  have rep:=bu.rep
  generalize gainsP os os.length=rss at *
  have rows:∀ rs∈rss,RowR c rs:=fun rs hr=>RowR.of (rep rs hr).1 (rep rs hr).2
  obtain⟨ads,hdr,hA⟩:=hR2
  have lads:=XW hA
  have S02:=S1.trans S2
  replace hd1:=S2 _ _ hd1
  replace hq:=hq.same S02
  replace hE:=hE.same S02
  clear S1 S2 hP hl
  refine⟨_,rfl,dr,rfl,⟨_,SqL.of hdr⟩,fun dn hdn=>?_⟩
  refine⟨rss.length,fun i ys H'=>Same H2 H'/\∃ bs:List Addr,ys=bs.map V.ref/\Paired (RowAt K H') bs ((narrow c o q rss).take i),Zu (by omega),⟨Same.new hdn,[],rfl,.nil⟩,?_,?_⟩
  ·rintro i ys H3 hi ⟨S3,bs,rfl,P3⟩ hd3
   have hia:i<ads.length:=by omega
   refine⟨⟨_,V.ref (ads[i]'hia),SqL.of (S3 _ _ hdr),by simp[hia]⟩,?_⟩
   rintro x H4 ⟨rfl,fx⟩
   have ex:x=V.ref (ads[i]'hia):=by
    have:=fx _ (SqL.of (S3 _ _ hdr))
    rw[YD,XN hia] at this
    exact (YK this).symm
   subst ex
   have er:rss[i]?=some rss[i]:=by simp[hi]
   have R4:=(Paired.getB hA (show ads[i]?=some ads[i] by simp[hia]) er).same S3
   obtain⟨lr,D',Z',rr⟩:=rep rss[i] (YX hi)
   refine Yh ?_
   refine⟨_,rfl,_,rfl,_,rfl,ads[i],a,d,rss[i],q,outsW c o,c,18,91,D,D',Z,Z',rfl,R4,hq.same S3,S3 _ _ hd1,lr,on.len,by omega,by omega,fun k hk=>(Rg k hk).1,rq,rr,by decide,fun p H5 S5 R5=>?_⟩
   have hd5:=S5 _ _ hd3
   refine⟨hd5,fun q' o' e=>?_,bs++[p],by simp,?_⟩
   ·rw[Zf (Ze e hdn)]
    exact S5 _ _ (S3 _ _ e)
   ·have ec:(narrow c o q rss)[i]?=some (foldR q rss[i] (outsW c o)):=by
     unfold narrow
     rw[YD,er]
     rfl
    rw[Y5 ec]
    exact zT (Yq P3 ((Ext.same S5).trans (Ext.upd hd5))) (R5.ext (Ext.upd hd5))
  rintro ys H3 ⟨S3,bs,rfl,P3⟩ hd3
  have ln:(narrow c o q rss).length=rss.length:=by unfold narrow;simp
  rw[YN (by omega)] at P3
  refine⟨⟨_,SqL.of (S3 _ _ hdr),by rw[YC];omega⟩,?_⟩
  replace hd1:=S3 _ _ hd1
  replace hdr:=S3 _ _ hdr
  replace hA:=Yq hA (Ext.same S3)
  replace hq:=hq.same S3
  replace hE:=hE.same S3
  have S03:=S02.trans S3
  clear S02 S3
  refine⟨_,rfl,d,_,rfl,.inl (SqL.of hd1),?_⟩
  rw[Z0w]
  refine⟨_,_,rfl,rfl,?_⟩
  have ew:(1+(((outsW c o).length:Nat):Int))=(((outsW c o).length+1:Nat):Int):=by omega
  have et2:(1+(((outsW c o).length:Nat):Int)).toNat=(outsW c o).length+1:=by omega
  refine⟨_,rfl,_,rfl,sz1,fun t0 ht0=>?_⟩
  have T1:Same H3 (upd H3 t0 (.tup [.int 0])):=Same.new ht0
  have s0:SqT K (upd H3 t0 (.tup [.int 0])) t0 [.int 0]:=SqT.of Zc
  generalize upd H3 t0 (.tup [.int 0])=H4 at *
  refine⟨sz1,fun t ht=>?_⟩
  have T2:Same H4 (upd H4 t (.tup [.ref c_NOUGHT])):=Same.new ht
  have s1:SqT K (upd H4 t (.tup [.ref c_NOUGHT])) t [.ref c_NOUGHT]:=SqT.of Zc
  generalize upd H4 t (.tup [.ref c_NOUGHT])=H5 at *
  refine⟨_,rfl,t,_,[.ref c_NOUGHT],rfl,rfl,s1,by omega,by simp,?_,fun p H6 T3 sp=>?_⟩
  ·show 1*_<=1000
   rw[et2]
   omega
  have T123:=(T1.trans T2).trans T3
  have s06:=Zt (T2.trans T3) s0
  have ef:(List.replicate (1+(((outsW c o).length:Nat):Int)).toNat [V.ref c_NOUGHT]).flatten=List.replicate ((outsW c o).length+1) (V.ref c_NOUGHT):=by rw[et2];simp
  replace sp:SqT K H6 p (List.replicate ((outsW c o).length+1) (V.ref c_NOUGHT)):=by rw[← ef];exact sp
  have R6:RowAt K H6 p (List.replicate ((outsW c o).length+1) (0,1)):=⟨_,sp,Rs.rep ⟨c_NOUGHT,rfl,s_NOUGHT _⟩ _⟩
  have E6:EvAt K H6 ((outsW c o).length+1) oneW (.ref t0):=⟨t0,rfl,by rw[Z3r];exact s06⟩
  replace hd1:=T123 _ _ hd1
  replace hdr:=T123 _ _ hdr
  replace hA:=Yq hA (Ext.same T123)
  replace hq:=hq.same T123
  replace hE:=hE.same T123
  replace hd3:=T123 _ _ hd3
  replace P3:=Yq P3 (Ext.same T123)
  have S06:=S03.trans T123
  clear S03 T1 T2 T3 T123 s0 s1 s06 sp ef
  have nrep:∀ ns∈narrow c o q rss,ns.length=(outsW c o).length+1/\∃ D Ws,RepL 112 D Ws ns:=fun ns hn=>by
   obtain⟨rs,h,rfl⟩:=XG.mp hn
   obtain⟨lr,D',Z',rr⟩:=rep rs h
   exact⟨Lu,_,_,Z1h rq rr (by rw[on.len,lr]) (by omega) fun k hk=>by rw[lr];exact (Rg k hk).1⟩
  have zr:=To ((outsW c o).length+1) (show 1<=112 by decide)
  have nbd:∀ T':Sv.Tab,InvR ((outsW c o).length+1) (narrow c o q rss) oneW (cutR oneW (List.replicate ((outsW c o).length+1) (0,1))) T'->TabBd 715 ((narrow c o q rss).length+2) ((outsW c o).length+1) T':=fun T' I=>Jn (fun ns hn=>(nrep ns hn).2) ⟨_,_,(To ((outsW c o).length+1) (YE 1)).cut oneW⟩ (by omega) (by decide) I
  refine⟨dn,p,.ref t0,(outsW c o).length+1,112,715,narrow c o q rss,oneW,List.replicate ((outsW c o).length+1) (0,1),by rw[← ew];rfl,⟨bs,hd3,P3⟩,E6,R6,by simp,nrep,⟨_,_,zr⟩,by decide,by decide,by decide,by decide,nbd,by omega,by omega,by omega,fun T q7 t7 xs H7 fq S7 nt hq7 rs7 sq=>?_,fun T q7 t7 va lo7 xs H7 fq S7 mt hq7 rs7 iv rl sq=>?_⟩
  ·refine⟨_,rfl,t7,_,_,_,rfl,rfl,sq,Zh (j:=0) rfl,rfl,_,rfl,Uq ?_⟩
   have nn:=Z3i (b:=1) nrep nt.inv.pos (by decide) nt.sv.1
   have rm:=Z0y nrep nt.inv.pos (TabOk.of nt.inv) (nbd _ nt.inv) (i:=(narrow c o q rss).length) (b:=1) (by omega) (by decide) (Xf 1 (by decide) (by decide))
   have lm:(multR ((outsW c o).length+1) (narrow c o q rss) T (narrow c o q rss).length 1).length=rss.length:=by rw[Lg,ln]
   have lows:=Dk (c:=(outsW c o).length+1) (i:=(narrow c o q rss).length) (rss:=narrow c o q rss) nt.inv.pos
   have nq:=fun i (hi:i<(outsW c o).length+1)=>nt.q (Qi on.low rows) hi
   rw[ln] at nq
   have nl:NotL c o rss q (comeW c rss (multR ((outsW c o).length+1) (narrow c o q rss) T (narrow c o q rss).length 1)):=by
    refine NotL.of on rows lows lm (fun j hj=>?_) fun i hi=>?_
    ·refine (Sn (Vl lows j).pos).mp ?_
     have hj':j<(multR ((outsW c o).length+1) (narrow c o q rss) T (narrow c o q rss).length 1).length:=by omega
     rw[Y9 (l:=multR ((outsW c o).length+1) (narrow c o q rss) T (narrow c o q rss).length 1) (x:=(multR ((outsW c o).length+1) (narrow c o q rss) T (narrow c o q rss).length 1)[j]) (by simp[hj'])]
     exact nn _ (YX hj')
    ·rw[ln]
     exact nq i hi
   obtain⟨DR,UR,rR⟩:=Z1y (n:=91) rep rm lm (by omega)
   refine⟨_,rfl,_,rfl,_,rfl,t7,_,_,_,rfl,rfl,sq,Zh (j:=1) rfl,?_⟩
   refine⟨dr,q7,c,rss,_,rfl,⟨ads,S7 _ _ hdr,Yq hA (Ext.same S7)⟩,⟨xs,hq7,rs7⟩,lm,by omega,by omega,fun rs hr=>⟨(rep rs hr).1,fun r h=>(rep rs hr).2.elim fun D z=>z.elim fun Z y=>(y.good r h).mono (by decide)⟩,⟨_,_,_,by decide,rm⟩,fun ar H8 S8 R8=>?_⟩
   refine⟨_,rfl,ar,ve,_,o,rfl,R8,by rw[Pc];exact (hE.same S7).same S8,by rw[Pc];omega,fun p9 H9 S9 R9=>?_⟩
   refine⟨sz2,fun tt htt=>?_⟩
   have S10:=Same.new (o:=.tup [.str "not",.ref p9]) htt
   exact kN tt p9 _ _ ((S06.trans (S7.trans (S8.trans S9))).trans S10) (SqT.of Zc) (R9.same S10) nl ⟨DR,UR,rR.mono (by omega)⟩
  ·refine⟨_,rfl,t7,_,_,_,rfl,rfl,sq,Zh (j:=0) rfl,rfl,_,rfl,Yw ?_⟩
   have nar:=NarL.of on.low on.len rows mt
   have rL:=Dv mt.inv.pos (TabOk.of mt.inv) (nbd _ mt.inv)
   generalize loadsR ((outsW c o).length+1) (narrow c o q rss).length T=L at *
   refine⟨_,rfl,t7,_,_,_,rfl,rfl,sq,Zh (j:=2) rfl,_,rfl,_,rfl,?_⟩
   refine⟨lo7,a,d,L,q,outsW c o,c,715,rfl,rl,hq.same S7,S7 _ _ hd1,nar.len,on.len,by omega,by omega,fun k hk=>(Rg k hk).1,rL.good,fun r hr=>(rq.good r hr).mono (by decide),by decide,by omega,Uv on nar,fun p9 H9 S9 R9=>?_⟩
   refine⟨sz2,fun tt htt=>?_⟩
   have S10:=Same.new (o:=.tup [.str "left",.ref p9]) htt
   obtain⟨DU,UU,rU⟩:=Z23 on nar rq rL (by omega)
   exact kL tt p9 L _ ((S06.trans (S7.trans S9)).trans S10) (SqT.of Zc) (R9.same S10) nar ⟨DU,UU,rU.mono (by decide)⟩
theorem Pq:FnScope ["_law_offers","_law_rows","_law_row_here","_law_ask","_law_bid","_law_event_here"] ["_law_offers"] (defScope lI):=fsc
set_option maxHeartbeats 800000 in
theorem Df (D:Def K mg "_law_gains" lI ["_law_offers"])(eU:Has P w K mg base 3 "_law_minus" ["_law_one","_law_other"] (eK K subR))(eE:Z4 P w K mg base):Has P w K mg base 4 "_law_gains" ["_law_offers"] (eL K):=by
 refine D.has fun f fd F=>F.ok Pq (fun vs H Q E h=>?_) (fun cdv A outer s H vs Q E hr h=>?_)
 ·obtain⟨l,c,n,os,rfl,_⟩:=h
  rfl
 ·obtain⟨l,c,n,os,rfl,⟨vs,hl,hO⟩,hlen,hc,hn,g,k⟩:=h
  have sc:=Pq
  have nd1:(["_law_worth","_law_ask"]:List Str).Nodup:=by decide +kernel
  have nd2:(["_law_worth","_law_bid"]:List Str).Nodup:=by decide +kernel
  refine⟨_,(Zb (Zk (i:=1) sc.nd rfl (Or.inl rfl) (W0 Z9))
   (Zb (Xs JC rfl (Xd (pv 0)) (Wl (n:=4) rfl (Y7 (Zm (i:=2) sc.nd rfl (Or.inl rfl)) (Y7 (Zm (i:=3) sc.nd rfl (Or.inr rfl)) (Y7 (Zm (i:=4) sc.nd rfl (Or.inr rfl)) (Y7 (Zm (i:=5) sc.nd rfl (Or.inl rfl)) Xm)))))
    (Zb (Xc (Yc (Zn Vk (pv 3) Yv (Zq _))
     (Zd (Xl (Vr XR JQ JR Yy (pv 1) (Z0 (Zg eE hr (Z0 (Yl (N:=["_law_worth","_law_ask"]) (k:=1) (fv:=[3]) rfl (Ww (pv 2))
   (fun _ _ _ _ _=>Zm (i:=0) nd1 rfl (Or.inl rfl)) (fun _ _ _ _ _=>Yb) (fun _ _ _ _ _=>(Zg eU hr (Z0 (pv 0) (Z0 (pv 1) Z9)))) Zy) (Z0 (pv 5) Z9))) Z9))))
     Zv))
    (Zd (Yc (Zn Vk (pv 4) Yv (Zq _))
     (Zd (Xl (Vr XR JQ JR Yy (pv 1) (Z0 (Zg eE hr (Z0 (Yl (N:=["_law_worth","_law_bid"]) (k:=1) (fv:=[4]) rfl (Ww (pv 2))
   (fun _ _ _ _ _=>Zm (i:=0) nd2 rfl (Or.inl rfl)) (fun _ _ _ _ _=>Yb) (fun _ _ _ _ _=>(Zg eU hr (Z0 (pv 1) (Z0 (pv 0) Z9)))) Zy) (Z0 (pv 5) Z9))) Z9))))
     Zv))))
   (Zd (Zi (pv 1))))),?_⟩
  have lo:=XW hO
  refine⟨sz0,fun d hd=>?_⟩
  have S0:Same H (upd H d (.lst [])):=Same.new hd
  have up:∀ (zs:List V) (H1:Hp),Same H H1->Same H (upd H1 d (.lst zs)):=fun zs H1 S1 q o e=>by
   rw[Zf (Ze e hd)]
   exact S1 _ _ e
  have glen:∀ i,i<=os.length->(gainsP os i).length<=2*i:=fun i _=>by rw[← U8,YC];exact Vf os i
  refine⟨_,rfl,l,rfl,⟨_,SqL.of (S0 _ _ hl)⟩,Tj (K:=K) (a:=l) (xs:=vs) (fun i σ H'=>Same H H'/\∃ (as:List Addr) (x1 x2 x3 x4:Option V),σ=[some (.ref l),some (.ref d),x1,x2,x3,x4]/\H' d=some (.lst (as.map V.ref))/\Paired (RowAt K H') as (gainsP os i)) ⟨S0,[],none,none,none,none,rfl,Zc,.nil⟩ (fun i σ H' _ h=>SqL.of (h.1 _ _ hl)) ?_ ?_⟩
  ·rintro i v σ H1 hi ⟨S1,as,x1,x2,x3,x4,rfl,hd1,P1⟩
   have hiv:i<vs.length:=(YH.mp hi).1
   have hio:i<os.length:=by omega
   have eo:os[i]?=some (os.getD i offD):=by simp[List.getD,hio]
   have hv:=(Paired.getB hO hi eo).same S1
   have go:=g _ (YI eo)
   have gl:=glen i (by omega)
   have ga:=Su os i
   generalize os.getD i offD=o at *
   obtain⟨p,ar,va,vb,ve,rfl,hp,hR,hrl,hA,hB,hE⟩:=hv
   have la1:=XW P1
   refine⟨p,_,rfl,hp,rfl,_,_,rfl,_,_,rfl,_,_,rfl,_,_,rfl,rfl,?_⟩
   obtain⟨xs,hxs,hrs⟩:=hR
   have lx:=hrs.len
   refine⟨fun σ H'=>SameX d H1 H'/\Same H H'/\∃ as':List Addr,σ=[some (.ref l),some (.ref d),some (.ref ar),some va,some vb,some ve]/\H' d=some (.lst (as'.map V.ref))/\Paired (RowAt K H') as' (gainsP os i++(if o.ask.isSome then [gainR o true] else [])),?_,?_⟩
   ·refine⟨_,rfl,rfl,_,rfl,?_⟩
    cases e:o.ask with
    | none =>
     rw[e] at hA
     have z:va=V.non:=hA
     subst z
     exact Yw ⟨SameX.refl _ _,S1,as,rfl,hd1,by simpa using P1⟩
    | some r =>
     rw[e] at hA
     obtain⟨ab,rfl,hab⟩:=hA
     refine Lm (fun z=>nomatch z) ?_
     refine⟨_,rfl,.inl ⟨rfl,_,SqL.of hd1⟩,_,rfl,ar,rfl,⟨_,hxs⟩,fun dd hdd=>?_⟩
     refine⟨o.row.length,fun j ys H2=>Same H1 H2/\Rs K H2 ((o.row.map fun x=>subR x r).take j) ys,Zu (by omega),⟨Same.new hdd,.nil⟩,?_,?_⟩
     ·rintro j ys H2 hj ⟨S2,R2⟩ hd2
      refine⟨⟨xs,xs[j]'(by omega),Zt S2 hxs,by simp⟩,?_⟩
      rintro x H3 ⟨rfl,fx⟩
      obtain⟨x0,er,ix⟩:=hrs.back (fx xs (Zt S2 hxs))
      obtain⟨a1,rfl,sq1⟩:=ix.ext (Ext.same S2)
      refine Yh ?_
      refine⟨_,rfl,_,rfl,a1,ab,x0,r,n,rfl,sq1,Zt S2 hab,go.row x0 (YI er),go.ask r e,hn,fun c4 H4 f4 S4 e4=>?_⟩
      have hd4:=S4 _ _ hd2
      refine⟨hd4,fun q o' e=>?_,?_⟩
      ·rw[Zf (Ze e hdd)]
       exact S4 _ _ (S2 _ _ e)
      ·rw[V0 _ er]
       exact (R2.ext ((Ext.same S4).trans (Ext.upd hd4))).snoc ⟨c4,rfl,(Ext.upd hd4).sq (SqT.of e4)⟩
     ·rintro ys H2 ⟨S2,R2⟩ hd2
      rw[YN (by rw[YC];omega)] at R2
      refine⟨⟨xs,Zt S2 hxs,by omega⟩,_,rfl,dd,ve,ys,_,o.ev,rfl,.inl (SqL.of hd2),R2,by rw[YC,hrl];exact hE.same S2,by rw[YC];omega,fun p' H' S' R'=>?_⟩
      have S1':=S2.trans S'
      have hd':=S1' _ _ hd1
      refine⟨d,_,_,rfl,rfl,hd',Ub (by rw[YC];omega),(SameX.of S1').trans (SameX.upd d H' _),up _ _ (S1.trans S1'),as++[p'],rfl,by rw[Zc,XX];rfl,?_⟩
      ·have hg:cutR o.ev (o.row.map fun x=>subR x r)=gainR o true:=by unfold gainR;rw[e];rfl
       rw[hg] at R'
       simp only [Y16,jr]
       exact zT (Yq P1 ((Ext.same S1').trans (Ext.upd hd'))) (R'.ext (Ext.upd hd'))
   ·rintro σ H2 ⟨SX,S2,as',rfl,hd2,P2⟩
    have x2:Ext H1 H2:=Ext.x SX hd1
    replace hxs:=x2.sq hxs
    replace hrs:=hrs.ext x2
    replace hE:=hE.ext x2
    replace hB:=hB.ext x2
    have la2:=XW P2
    have la3:(gainsP os i++(if o.ask.isSome then [gainR o true] else [])).length<=2*i+1:=by
     rw[XD]
     have:(if o.ask.isSome then [gainR o true] else []).length<=1:=by split <;> simp
     omega
    refine⟨_,rfl,rfl,_,rfl,?_⟩
    cases e:o.bid with
    | none =>
     rw[e] at hB
     have z:vb=V.non:=hB
     subst z
     refine Yw ⟨S2,as',_,_,_,_,rfl,hd2,?_⟩
     rw[ga]
     unfold wordsO
     rw[e]
     cases ea:o.ask with
     | none=>rw[ea] at P2;simpa using P2
     | some r=>rw[ea] at P2;simpa using P2
    | some r =>
     rw[e] at hB
     obtain⟨ab,rfl,hab⟩:=hB
     refine Lm (fun z=>nomatch z) ?_
     refine⟨_,rfl,.inl ⟨rfl,_,SqL.of hd2⟩,_,rfl,ar,rfl,⟨_,hxs⟩,fun dd hdd=>?_⟩
     refine⟨o.row.length,fun j ys H3=>Same H2 H3/\Rs K H3 ((o.row.map fun x=>subR r x).take j) ys,Zu (by omega),⟨Same.new hdd,.nil⟩,?_,?_⟩
     ·rintro j ys H3 hj ⟨S3,R3⟩ hd3
      refine⟨⟨xs,xs[j]'(by omega),Zt S3 hxs,by simp⟩,?_⟩
      rintro x H4 ⟨rfl,fx⟩
      obtain⟨x0,er,ix⟩:=hrs.back (fx xs (Zt S3 hxs))
      obtain⟨a1,rfl,sq1⟩:=ix.ext (Ext.same S3)
      refine Yh ?_
      refine⟨_,rfl,_,rfl,ab,a1,r,x0,n,rfl,Zt S3 hab,sq1,go.bid r e,go.row x0 (YI er),hn,fun c4 H5 f4 S4 e4=>?_⟩
      have hd4:=S4 _ _ hd3
      refine⟨hd4,fun q o' e=>?_,?_⟩
      ·rw[Zf (Ze e hdd)]
       exact S4 _ _ (S3 _ _ e)
      ·rw[V0 _ er]
       exact (R3.ext ((Ext.same S4).trans (Ext.upd hd4))).snoc ⟨c4,rfl,(Ext.upd hd4).sq (SqT.of e4)⟩
     ·rintro ys H3 ⟨S3,R3⟩ hd3
      rw[YN (by rw[YC];omega)] at R3
      refine⟨⟨xs,Zt S3 hxs,by omega⟩,_,rfl,dd,ve,ys,_,o.ev,rfl,.inl (SqL.of hd3),R3,by rw[YC,hrl];exact hE.same S3,by rw[YC];omega,fun p' H' S' R'=>?_⟩
      have S2':=S3.trans S'
      have hd':=S2' _ _ hd2
      refine⟨d,_,_,rfl,rfl,hd',Ub (by rw[YC];omega),up _ _ (S2.trans S2'),as'++[p'],_,_,_,_,rfl,by rw[Zc,XX];rfl,?_⟩
      have hg:cutR o.ev (o.row.map fun x=>subR r x)=gainR o false:=by unfold gainR;rw[e];rfl
      rw[hg] at R'
      have P3:=zT (Yq P2 ((Ext.same S2').trans (Ext.upd (o:=.lst (as'.map V.ref++[.ref p'])) hd'))) (R'.ext (Ext.upd hd'))
      rw[ga]
      unfold wordsO
      rw[e]
      cases ea:o.ask with
      | none=>rw[ea] at P3;simpa using P3
      | some r=>rw[ea] at P3;simpa using P3
  ·rintro σ H1 ⟨S1,as,x1,x2,x3,x4,rfl,hd1,P1⟩
   rw[lo] at P1
   exact⟨_,rfl,k d H1 hd S1 ⟨as,hd1,P1⟩⟩
end
end Sb
namespace Sb
open PySem PySem.Spec PyProof.Rows L2
section
variable {X:Cx}{K:W.Frag}
end
theorem Wts.total {c:Nat}{rss:List (List Rat)}{ls:List Rat}(w:Wts c rss ls):sumR ls=(1,1):=(w.ok ls).elim fun _ h=>h.total
section
variable {P:Program}{w:World}{K:W.Frag}{mg:Str->Option Value}{base:Heap}
def iA (K:W.Frag):Sp:=fun vs H Q _=>∃ (a:Addr) (c n:Nat) (rs:List Rat),vs=[.ref a,.int (c:Int)]/\RowAt K H a rs/\rs.length=c/\(∀ r∈rs,Good n r)/\n<=8000/\∀ H',Same H H'->Q (.bl true) H'
theorem G5:FnScope ["_law_found","_law_count","_law_one"] ["_law_found","_law_count"] (defScope l6):=fsc
theorem Z37 (D:Def K mg "_law_is_row" l6 ["_law_found","_law_count"])(T:Blt mg)(gO:Has P w K mg base 3 "_law_is_ratio" ["_law_found"] (iV K)):Has P w K mg base 4 "_law_is_row" ["_law_found","_law_count"] (iA K):=by
 refine D.has fun f fd F=>F.ok G5 (fun vs H Q E h=>?_) (fun cdv A outer s H vs Q E hr h=>?_)
 ·obtain⟨a,c,n,rs,rfl,_⟩:=h
  rfl
 ·obtain⟨a,c,n,rs,rfl,⟨xs,hxs,hrs⟩,lr,g,hn,k⟩:=h
  have sc:=G5
  refine⟨_,(Zb (Yc (PW.pt (Vy (Wk (Xk (Zx Xq rfl T.isinstance XV (Z0 (pv 0) (Z0 (T7 T.tuple YY) Z9))))) (Vx (Zn Pu (Zx Y6 rfl T.len zf (Z0 (pv 0) Z9)) (pv 1) (Zq _)))))
    (Zd (Zi Vs))
    Zv)
   (Zb (Xs JC rfl (Ww (pv 0)) (Zm (i:=2) sc.nd rfl (Or.inl rfl))
    (Zd (Yc (Wk (Xk (Zg gO hr (Z0 (pv 2) Z9))))
     (Zd (Zi Vs))
     Zv)))
   (Zd (Zi Vs)))),?_⟩
  have lx:=hrs.len
  refine⟨_,rfl,_,_,_,_,rfl,hxs,V7,_,rfl,Yw ?_⟩
  refine⟨_,rfl,a,_,rfl,.inr hxs,_,rfl,rfl,_,rfl,Ln (by rw[show xs.length=c by omega]) ?_⟩
  refine⟨_,rfl,a,rfl,⟨_,hxs⟩,M1 (K:=K) (a:=a) (xs:=xs) (fun i σ H'=>Same H H'/\∃ (x:Option V),σ=[some (.ref a),some (.int (c:Int)),x]) ⟨Same.refl _,none,rfl⟩ (fun i σ H' _ h=>Zt h.1 hxs) ?_ ?_⟩
  ·rintro i x σ H2 hix ⟨S2,x1,rfl⟩
   obtain⟨r,er,b,rfl,hb⟩:=(hrs.ext (Ext.same S2)).back hix
   refine⟨_,rfl,b,r,n,rfl,hb,g r (YI er),hn,fun H3 S3=>⟨_,rfl,Yw ?_⟩⟩
   exact⟨S2.trans S3,_,rfl⟩
  ·rintro σ H2 ⟨S2,x1,rfl⟩
   exact k _ S2
def iE (K:W.Frag):Sp:=fun vs H Q _=>∃ (a l:Addr) (c n N:Nat) (us:List Rat) (rss:List (List Rat)),vs=[.ref a,.ref l]/\RowAt K H a us/\RowsAt K H l rss/\us.length=c/\(∃ D Us,RepL N D Us us)/\Wts c [] us/\(∀ rs∈rss,rs.length=c/\∃ D Zs,RepL n D Zs rs)/\n+N+10<=4000/\c<=100/\∀ (b:Bool) (H':Hp),Same H H'->(b=true->Wts c rss us)->(Wts c rss us->b=true)->Q (.bl b) H'
theorem G8:FnScope ["_law_weights_here","_law_rows","_law_some","_law_one","_law_row_here"] ["_law_weights_here","_law_rows"] (defScope mL):=fsc
set_option maxHeartbeats 800000 in
theorem Z3a (D:Def K mg "_law_fits" mL ["_law_weights_here","_law_rows"])(T:Blt mg)(eT:Z7 P w K mg base)(eD:Z2 P w K mg base):Has P w K mg base 5 "_law_fits" ["_law_weights_here","_law_rows"] (iE K):=by
 refine D.has fun f fd F=>F.ok G8 (fun vs H Q E h=>?_) (fun cdv A outer s H vs Q E hr h=>?_)
 ·obtain⟨a,l,c,n,N,us,rss,rfl,_⟩:=h
  rfl
 ·obtain⟨a,l,c,n,N,us,rss,rfl,hA,⟨ads,hl,hP⟩,lu,⟨D1,Us,rU⟩,wt,hrs,hN,hc,k⟩:=h
  obtain⟨xs,hxs,hus⟩:=hA
  have hU:=zB (Z19 hr)
  have sc:=G8
  refine⟨_,(Zb (Zk (i:=2) sc.nd rfl (Or.inl rfl) (Yk (Z0 Za (Z0 Za Z9))))
   (Zb (Xs JC rfl (Ww (pv 0)) (Zm (i:=3) sc.nd rfl (Or.inl rfl))
    (Zb (Yc (Zn Qe (Zj Yu (pv 3) Za (fun _ _=>rfl)) Za (Zq _))
     (Zd (Zi Vs))
     Zv)
    (Zd (Zk (i:=2) sc.nd rfl (Or.inl rfl) (Zg eT hr (Z0 (pv 2) (Z0 (pv 3) Z9)))))))
   (Zb (Xs JC rfl (Xd (pv 1)) (Zm (i:=4) sc.nd rfl (Or.inl rfl))
    (Zd (Yc (Zn Qg (Zj Yu (Zg eD hr (Z0 (pv 0) (Z0 (pv 4) Z9))) Za (fun _ _=>rfl)) Za (Zq _))
     (Zd (Zi Vs))
     Zv)))
   (Zd (Zi (Xn (Ku (K:=K) hU) (pv 2) (Yk (Z0 Za (Z0 Za Z9))) (Zq _))))))),?_⟩
  have lp:=XW hP
  have lx:=hus.len
  refine⟨sz2,fun p hp=>?_⟩
  have S0:Same H (upd H p (.tup [.int 0,.int 1])):=Same.new hp
  refine⟨_,rfl,a,rfl,⟨_,Zt S0 hxs⟩,M1 (K:=K) (a:=a) (xs:=xs) (fun i σ H'=>Same H H'/\∃ (p:Addr) (x:Option V),σ=[some (.ref a),some (.ref l),some (.ref p),x,none]/\SqT K H' p [.int (sumR (us.take i)).1,.int (sumR (us.take i)).2]) ⟨S0,p,none,rfl,SqT.of Zc⟩ (fun i σ H' _ h=>Zt h.1 hxs) ?_ ?_⟩
  ·rintro i x σ H2 hix ⟨S2,p2,x1,rfl,sqp⟩
   obtain⟨r,er,b,rfl,hb⟩:=(hus.ext (Ext.same S2)).back hix
   have hm:=YI er
   have g:=rU.good r hm
   have nn:=wt.nn r hm
   refine⟨_,rfl,b,_,_,rfl,rfl,hb,_,_,rfl,rfl,_,rfl,?_⟩
   have e0:decide (r.1<0)=false:=JI (by omega)
   rw[e0]
   refine Yw ?_
   have gs:=(rU.take i).sumGood (k:=10) (by rw[GC];omega)
   replace gs:Good (N+10) (sumR (us.take i)):=gs
   refine⟨_,rfl,_,rfl,p2,b,_,r,N+10,rfl,sqp,hb,gs,g.mono (by omega),by omega,fun p3 H3 f3 S3 e3=>?_⟩
   refine⟨S2.trans S3,p3,_,rfl,?_⟩
   rw[Tq er]
   exact SqT.of e3
  ·rintro σ H2 ⟨S2,p2,x1,rfl,sqp⟩
   rw[YN (by omega),wt.total] at sqp
   refine⟨_,rfl,l,rfl,⟨_,SqL.of (S2 _ _ hl)⟩,Tj (K:=K) (a:=l) (xs:=ads.map V.ref) (fun i σ H'=>Same H2 H'/\(∀ j (hj:j<rss.length),j<i->(sumR (List.zipWith mulR' us rss[j])).1<=0)/\∃ (x:Option V),σ=[some (.ref a),some (.ref l),some (.ref p2),x1,x]) ⟨Same.refl _,fun j _ z=>absurd z (Nat.not_lt_zero _),none,rfl⟩ (fun i σ H' _ h=>SqL.of (h.1 _ _ (S2 _ _ hl))) ?_ ?_⟩
   ·rintro i x σ H3 hix ⟨S3,bel,x3,rfl⟩
    rw[YD] at hix
    cases ea:ads[i]? with
    | none=>rw[ea] at hix;cases hix
    | some ar =>
     rw[ea] at hix
     cases hix
     have hia:i<ads.length:=(YH.mp ea).1
     have hir:i<rss.length:=by omega
     have er:rss[i]?=some rss[i]:=by simp[hir]
     have S03:=S2.trans S3
     obtain⟨zs,hzs,hrz⟩:=(Paired.getB hP ea er).same S03
     have hm:=YX hir
     obtain⟨lr,D2,Zs,rz⟩:=hrs _ hm
     refine⟨_,rfl,_,rfl,a,ar,xs,zs,us,rss[i],N,n,D1,D2,Us,Zs,rfl,.inr (Zt S03 hxs),hus.ext (Ext.same S03),.inr hzs,hrz,by omega,by omega,rU,rz,by omega,fun cm H4 S4 e4=>?_⟩
     refine⟨cm,_,_,rfl,rfl,e4,_,_,rfl,rfl,_,rfl,?_⟩
     refine Xa (fun h=>?_) (fun h=>?_)
     ·exact k false _ ((S2.trans S3).trans S4) (fun z=>nomatch z) fun z=>absurd (z.fit _ hm) (by have:=XE h;omega)
     ·refine⟨S3.trans S4,fun j hj z=>?_,_,rfl⟩
      rcases Y1a j i with y | y
      ·exact bel j hj y
      ·obtain rfl:j=i:=by omega
       have:¬ (0<(sumR (List.zipWith mulR' us rss[j])).1):=fun z=>h (XF z)
       omega
   ·rintro σ H3 ⟨S3,bel,x3,rfl⟩
    refine⟨_,rfl,sz2,fun p3 hp3=>?_⟩
    have S4:Same H3 (upd H3 p3 (.tup [.int 1,.int 1])):=Same.new hp3
    refine⟨p2,p3,[1,1],[1,1],rfl,rfl,Zt (S3.trans S4) sqp,SqT.of Zc,?_⟩
    rw[XF rfl]
    refine k true _ ((S2.trans S3).trans S4) (fun _=>⟨wt.len,wt.rep,wt.nn,fun rs hm=>?_,wt.lie⟩) fun _=>rfl
    obtain⟨j,hj,rfl⟩:=List.mem_iff_getElem.mp hm
    exact bel j hj (by simp;omega)
end
end Sb
namespace Sb
open PySem L2
theorem Bm {K:W.Frag}{H:Hp}:∀ {rs:List Rat} {xs ys:List V},Rs K H rs xs->Rs K H rs ys->Paired (EqU K H 1) xs ys
 | [],_,_,.nil,.nil=>.nil
 | _::_,_,_,.cons ⟨a,ea,ha⟩ t1,.cons ⟨b,eb,hb⟩ t2=>.cons (.inr ⟨a,b,_,_,ea,eb,.inr ⟨ha,hb⟩,.cons ⟨rfl,rfl⟩ (.cons ⟨rfl,rfl⟩ .nil)⟩) (Bm t1 t2)
theorem Z4s {l m:List Rat}(hl:Lows l)(hm:Lows m)(e:l.length=m.length)(h:∀ k,k<l.length->qr l k=qr m k):l=m:=by
 refine jo e fun k h1 h2=>?_
 have:=h k h1
 unfold qr at this
 rw[Y9 (l:=l) (x:=l[k]) (by simp[h1]),Y9 (l:=m) (x:=m[k]) (by simp[h2])] at this
 exact Kp (hl _ (YX h1)) (hm _ (YX h2)) this
theorem Z3u {o:Option (Nat->Bool)}{l:List Rat}(h:Lows l):cutR o (cutR o l)=cutR o l:=Z4s (Yi (Yi h)) (Yi h) (by rw[Ye]) fun k _=>by
 rw[Vi,Vi]
 cases inE o k <;> simp
def toldR (c:Nat)(o:Option (Nat->Bool))(W:List Rat):List Rat:=(cutR o W).map fun r=>nrm (r.1*(shR c o W).2) (r.2*(shR c o W).1)
theorem Z4o {r s:Rat}(lr:0<r.2)(ls:0<s.2)(h:0<s.1):qv (nrm (r.1*s.2) (r.2*s.1))*qv s=qv r:=by
 rw[Vv (YZ lr h),_root_.Rat.intCast_mul,_root_.Rat.intCast_mul]
 unfold qv
 have a:=Wj lr
 have b:=Wj ls
 have d:=Wj h
 grind
section
variable {c:Nat}{o:Option (Nat->Bool)}{W:List Rat}
theorem Z26 (lw:W.length=c)(low:Lows W)(s0:0<(shR c o W).1):ToldQ c o W (toldR c o W):=by
 have lc:=Yi (o:=o) low
 have ls:Low (shR c o W):=X6 low (Yi (Xg c))
 refine⟨by unfold toldR;rw[YC,Ye];exact lw,fun r hr=>?_,(Vh ls.pos).mp s0,fun k hk=>?_⟩
 ·unfold toldR at hr
  obtain⟨x,hx,rfl⟩:=XG.mp hr
  have:=YZ (lc x hx).pos s0
  exact Yr (by omega)
 ·have hl:k<(cutR o W).length:=by rw[Ye,lw];exact hk
  have e1:(cutR o W)[k]?=some (cutR o W)[k]:=by simp[hl]
  have e2:qr (toldR c o W) k*qv (shR c o W)=qr (cutR o W) k:=by
   unfold qr toldR
   rw[YF,YD,e1,Y9 e1]
   exact Z4o (lc _ (YX hl)).pos ls.pos s0
  rw[e2,Vi]
theorem Cq {n:Nat}{D:Int}{U:List Int}(lw:W.length=c)(r:RepL n D U W)(hc:c<=8)(s0:0<(shR c o W).1):∃ F V,RepL (n+4) F V (toldR c o W):=by
 have ro:=(RepL.ones c).cut o
 have lo:(cutR o (List.replicate c (1,1))).length=c:=by rw[Ye,JS]
 have rm:=r.mul ro (by rw[lo];exact lw)
 obtain⟨e,l⟩:=rm.sum
 replace e:(shR c o W).1*(D*1)=(List.zipWith (·*·) U (cutZ o (List.replicate c 1))).sum*(shR c o W).2:=e
 rw[GL] at e
 replace l:Low (shR c o W):=l
 have sp:0<(List.zipWith (·*·) U (cutZ o (List.replicate c 1))).sum:=by
  have:0<(List.zipWith (·*·) U (cutZ o (List.replicate c 1))).sum*(shR c o W).2:=by rw[← e];exact YZ s0 r.pos
  exact Y0G this l.pos
 refine⟨_,RepL.each sp ((Si _ rm.bdW 3 (by rw[rm.len,JG,lo];omega)).mono (by omega)) fun x hx=>?_⟩
 unfold toldR at hx
 obtain⟨y,hy,rfl⟩:=XG.mp hx
 obtain⟨V,e1,b1,l1⟩:=Rj (r.cut o) y hy
 have:=YZ l1.pos s0
 exact⟨V,Ps l1.pos l.pos e1 e (X2 _ _),b1.mono (by omega),Yr (by omega)⟩
end
section
variable {P:Program}{w:World}{K:W.Frag}{mg:Str->Option Value}{base:Heap}{C:Addr}
def eZ (K:W.Frag):Sp:=fun vs H Q _=>∃ (a:Addr) (ve:V) (c n:Nat) (o:Option (Nat->Bool)) (W:List Rat) (D:Int) (U:List Int),vs=[.ref a,ve]/\RowAt K H a W/\WtsQ c [] W/\RepL n D U W/\EvAt K H c o ve/\n<=3900/\c<=8 ∧
 ((shR c o W).1=0->∀ H',Same H H'->Q .non H')/\∀ (p:Addr) (t:List Rat) (H':Hp),Same H H'->RowAt K H' p t->ToldQ c o W t->(∃ D U,RepL (n+4) D U t)->Q (.ref p) H'
theorem Q7:FnScope ["_law_weights_here","_law_event_here","_law_share"] ["_law_weights_here","_law_event_here"] (defScope kR):=fsc
set_option maxHeartbeats 800000 in
theorem J0 (D:Def K mg "_law_learned" kR ["_law_weights_here","_law_event_here"])(T:Blt mg)(eD:Z2 P w K mg base)(eE:Z4 P w K mg base)(fB:Has P w K mg base 3 "_law_parted" ["_law_one","_law_other"] (fO K)):Has P w K mg base 5 "_law_learned" ["_law_weights_here","_law_event_here"] (eZ K):=by
 refine D.has fun f fd F=>F.ok Q7 (fun vs H Q E h=>?_) (fun cdv A outer s H vs Q E hr h=>?_)
 ·obtain⟨a,ve,c,n,o,W,D,U,rfl,_⟩:=h
  rfl
 ·obtain⟨a,ve,c,n,o,W,D,U,rfl,⟨us,hus,hrs⟩,wq,rW,hE,hn,hc,kN,kT⟩:=h
  have sc:=Q7
  have nd1:(["_law_one"]:List Str).Nodup:=by decide +kernel
  have nd2:(["_law_one","_law_share"]:List Str).Nodup:=by decide +kernel
  refine⟨_,(Zb (Zk (i:=2) sc.nd rfl (Or.inr rfl) (Zg eD hr (Z0 (pv 0) (Z0 (Zg eE hr (Z0 (Yl (N:=["_law_one"]) (k:=1) (fv:=[]) rfl (Ww (pv 0))
   (fun _ _ _ _ _=>Zm (i:=0) nd1 rfl (Or.inl rfl)) (fun _ _ _ _ _=>Yb) (fun _ _ _ _ _=>(Yk (Z0 Za (Z0 Za Z9)))) Zy) (Z0 (pv 1) Z9))) Z9))))
   (Zb (Yc (Zn Xo (Zj Yu (pv 2) Za (fun _ _=>rfl)) Za (Zq _))
    (Zd (Zi Yv))
    Zv)
   (Zd (Zi (Y8 Y3 rfl T.tuple YY (Z0 (Yl (N:=["_law_one","_law_share"]) (k:=1) (fv:=[2]) rfl (Ww (Zg eE hr (Z0 (pv 0) (Z0 (pv 1) Z9))))
   (fun _ _ _ _ _=>Zm (i:=0) nd2 rfl (Or.inl rfl)) (fun _ _ _ _ _=>Yb) (fun _ _ _ _ _=>(Zg fB hr (Z0 (pv 0) (Z0 (pv 1) Z9)))) Zy) Z9)))))),?_⟩
  have lus:=hrs.len
  have lw:=wq.len
  refine⟨_,rfl,_,rfl,a,rfl,⟨_,hus⟩,fun d hd=>?_⟩
  refine⟨c,fun j ys H'=>Same H H'/\Rs K H' (List.replicate j (1,1)) ys,Zu (by omega),⟨Same.new hd,.nil⟩,?_,?_⟩
  ·rintro j ys H10 hj ⟨S10,R10⟩ hd10
   refine⟨⟨us,us[j]'(by omega),Zt S10 hus,by simp⟩,?_⟩
   rintro x' H3 ⟨rfl,fx⟩
   refine Yh ?_
   refine⟨sz2,fun p hp=>?_⟩
   have S11:Same H3 (upd H3 p (.tup [.int 1,.int 1])):=Same.new hp
   have hd11:=S11 _ _ hd10
   refine⟨hd11,fun q o' e=>?_,?_⟩
   ·rw[Zf (Ze e hd)]
    exact S11 _ _ (S10 _ _ e)
   ·rw[Y0T]
    exact (R10.ext ((Ext.same S11).trans (Ext.upd hd11))).snoc ⟨p,rfl,(Ext.upd hd11).sq (SqT.of Zc)⟩
  rintro ys H10 ⟨S10,R10⟩ hd10
  refine⟨⟨us,Zt S10 hus,by omega⟩,_,rfl,d,ve,ys,List.replicate c (1,1),o,rfl,.inl (SqL.of hd10),R10,by rw[JS];exact hE.same S10,by rw[JS];omega,fun p11 H11 S11 R11=>?_⟩
  obtain⟨ys11,h11,r11⟩:=R11
  have S011:=S10.trans S11
  have ro:=(RepL.ones c).cut o
  have lo:(cutR o (List.replicate c (1,1))).length=c:=by rw[Ye,JS]
  refine⟨a,p11,us,ys11,W,_,n,1,_,_,_,_,rfl,.inr (Zt S011 hus),hrs.ext (Ext.same S011),.inr h11,r11,by rw[lo];exact lw,by rw[lo];omega,rW,ro,by omega,fun ash H12 S12 e12=>?_⟩
  replace e12:SqT K H12 ash [.int (shR c o W).1,.int (shR c o W).2]:=e12
  have S012:=S011.trans S12
  have shG:Good (n+1+10) (shR c o W):=(rW.mul ro (by rw[lo];exact lw)).sumGood (k:=10) (by rw[JG,lo];omega)
  have shN:0<=(shR c o W).1:=by
   refine (Sn shG.low.pos).mpr ?_
   rw[Xj wq.low lw]
   exact L6 fun k hk=>by cases inE o k <;> simp <;> exact wq.nn k hk
  refine⟨_,rfl,ash,_,_,rfl,rfl,e12,rfl,_,rfl,?_⟩
  refine Xa (fun h=>?_) (fun h=>?_)
  ·have h0:(shR c o W).1=0:=by
    have:=XE h
    injection this
   exact kN h0 _ S012
  ·have h0:(shR c o W).1≠0:=fun z=>h (XF (by rw[z]))
   have s0:0<(shR c o W).1:=by omega
   refine⟨_,rfl,_,rfl,a,ve,us,W,o,rfl,.inr (Zt S012 hus),hrs.ext (Ext.same S012),by rw[lw];exact hE.same S012,by omega,fun p13 H13 S13 R13=>?_⟩
   obtain⟨ys13,h13,r13⟩:=R13
   have l13:=r13.len
   have lcut:(cutR o W).length=c:=by rw[Ye];exact lw
   have S013:=S012.trans S13
   refine⟨p13,rfl,⟨_,h13⟩,fun d2 hd2=>?_⟩
   refine⟨c,fun j ys H'=>Same H13 H'/\Rs K H' ((toldR c o W).take j) ys,Zu (by omega),⟨Same.new hd2,.nil⟩,?_,?_⟩
   ·rintro j ys H14 hj ⟨S14,R14⟩ hd14
    refine⟨⟨ys13,ys13[j]'(by omega),Zt S14 h13,by simp⟩,?_⟩
    rintro x' H3 ⟨rfl,fx⟩
    obtain⟨r,er,b1,rfl,sb⟩:=(r13.ext (Ext.same S14)).back (fx _ (Zt S14 h13))
    refine Yh ?_
    refine⟨_,rfl,_,rfl,b1,ash,r,shR c o W,n+1+10,rfl,sb,Zt (S13.trans S14) e12,((rW.cut o).good r (YI er)).mono (by omega),shG,s0,by omega,fun aq H15 f15 S15 e15=>?_⟩
    have hd15:=S15 _ _ hd14
    refine⟨hd15,fun q o' e=>?_,?_⟩
    ·rw[Zf (Ze e hd2)]
     exact S15 _ _ (S14 _ _ e)
    ·have ec:(toldR c o W)[j]?=some (nrm (r.1*(shR c o W).2) (r.2*(shR c o W).1)):=by
      unfold toldR
      rw[YD,er]
      rfl
     rw[Y5 ec]
     exact (R14.ext ((Ext.same S15).trans (Ext.upd hd15))).snoc ⟨aq,rfl,(Ext.upd hd15).sq (SqT.of e15)⟩
   rintro ys2 H14 ⟨S14,R14⟩ hd14
   have lt:(toldR c o W).length=c:=by unfold toldR;rw[YC];exact lcut
   rw[YN (by omega)] at R14
   refine⟨⟨_,Zt S14 h13,by omega⟩,d2,ys2,rfl,.inl ⟨SqL.of hd14,fun l2 hl2=>?_⟩⟩
   have S15:=Same.new (o:=.tup ys2) hl2
   exact kT l2 _ _ ((S013.trans S14).trans S15) ⟨_,SqT.of Zc,R14.ext (Ext.same S15)⟩ (Z26 lw wq.low s0) (Cq lw rW (by omega) s0)
end
theorem Fs {C:Addr}{tb:(L2.St->XK)->TS}{ts t2:TS}{Ds:Ends}{σ:L2.St}{H:Hp}(R:XK)(h1:∀ EX:L2.St->XK,(∀ cls dd H',R cls dd H'->EX σ cls dd H')->tb EX { Ds with nx:=t2 Ds } σ H)(h2:∀ cls dd H',R cls dd H'->cls=.ref C/\ts { Ds with nx:=t2 Ds } σ H'):tSeq (tTryD C tb ts) t2 Ds σ H:=h1 _ h2
theorem Ly {c:Nat}{o:Option (Nat->Bool)}{q R:List Rat}(out:∀ k,k<c->inE o k=false->qr q k=0):sQ c (fun k=>qr q k*qr (cutR o R) k)=sQ c (fun k=>qr q k*qr R k):=Zp fun k hk=>by
 rw[Vi]
 cases z:inE o k with
 | true=>rfl
 | false=>rw[out k hk z];simp
def ToldV (K:W.Frag)(H:Hp)(c:Nat)(o:Option (Nat->Bool))(W:List Rat)(vt:V):Prop:=(vt=.non/\(shR c o W).1=0) \/ ∃ (b:Addr) (t:List Rat),vt=.ref b/\RowAt K H b t/\ToldQ c o W t/\∃ D U,RepL 18 D U t
theorem ToldV.same {K:W.Frag}{H H':Hp}{c:Nat}{o:Option (Nat->Bool)}{W:List Rat}{vt:V}(h:ToldV K H c o W vt)(S:Same H H'):ToldV K H' c o W vt:=h.elim .inl fun ⟨b,t,e,r,q⟩=>.inr ⟨b,t,e,r.same S,q⟩
section
variable {P:Program}{w:World}{K:W.Frag}{mg:Str->Option Value}{base:Heap}{C:Addr}
def fP (K:W.Frag):Sp:=fun vs H Q _=>∃ (l p:Addr) (ve vt:V) (c:Nat) (os:List Offr) (o:Option (Nat->Bool)) (q R W:List Rat) (D:Int) (U:List Int),vs=[.int (c:Int),.ref l,ve,.ref p,vt]/\OffsAt K H l c os/\BookU c 91 os/\(gainsP os os.length).length<=6/\EvAt K H c o ve/\RowAt K H p (cutR o R)/\NotL c o (gainsP os os.length) q R/\RepL 1384 D U R/\Wts c (gainsP os os.length) W/\ToldV K H c o W vt/\2<=c/\c<=5/\∀ H',Same H H'->Q (.bl true) H'
theorem Q4:FnScope ["_law_count","_law_offers","_law_event_here","_law_row_here","_law_told","_law_found"] ["_law_count","_law_offers","_law_event_here","_law_row_here","_law_told"] (defScope kP):=fsc
set_option maxHeartbeats 800000 in
theorem Ky (D:Def K mg "_law_not_above" kP ["_law_count","_law_offers","_law_event_here","_law_row_here","_law_told"])(T:Blt mg)(k_NoChance:CatchBy K C C)(m_NoChance:mg "NoChance"=some (.ref C))(eD:Z2 P w K mg base)(i7:HasD P w K mg base 9 "learned" ["count","offers","event","row"] (fQ K C)):Has P w K mg base 10 "_law_not_above" ["_law_count","_law_offers","_law_event_here","_law_row_here","_law_told"] (fP K) true:=by
 refine D.has fun f fd F=>F.ok Q4 (fun vs H Q E h=>?_) (fun cdv A outer s H vs Q E hr h=>?_)
 ·obtain⟨l,p,ve,vt,c,os,o,q,R,W,D,U,rfl,_⟩:=h
  rfl
 ·obtain⟨l,p,ve,vt,c,os,o,q,R,W,D,U,rfl,⟨vs,hl,hP⟩,bu,six,hE,hp,nl,rR,ww,hT,c2,c5,k⟩:=h
  have sc:=Q4
  refine⟨_,(Zb (Xc (Yc (PW.pt (Nj (Zn Vk (pv 4) Yv (Zq _)) (Re (Zn Qg (Zj Yu (Zg eD hr (Z0 (pv 4) (Z0 (pv 3) Z9))) Za (fun _ _=>rfl)) Za (Zq _)))))
    (Zd (Zi Vs))
    Zv))
   (Zb (Z2f rfl rfl k_NoChance m_NoChance rfl (fun _ _ _ hL=>(Zd (Zk (i:=5) sc.nd rfl (Or.inl rfl) (Nm i7 (hr.mono (by decide)) rfl hL (Z0 (pv 0) (Z0 (Y8 (Pi (K:=K)) rfl T.list GE (Z0 (pv 1) Z9)) (Z0 (pv 2) (Z0 (pv 3) Z9)))))))) (fun _ _ _=>(Zd (Zi (Xn Qf (pv 4) Yv (Zq _))))))
   (Zd (Zi (Xn Z07 (Zj Yu (Zj Yj (pv 5) Za (fun _ _=>rfl)) Za (fun _ _=>rfl)) Za (Zq _)))))),?_⟩
  have bm:BookM c 91 1972 1384 os:=bu.toM six (by decide) (by decide)
  have rows:∀ rs∈gainsP os os.length,RowR c rs:=fun rs hr=>RowR.of (bu.rep rs hr).1 (bu.rep rs hr).2
  have wq:=ww.toQ rows
  have rc:=rR.cut o
  have lc:(cutR o R).length=c:=by rw[Ye];exact nl.len
  refine⟨fun σ H'=>σ=[some (.int (c:Int)),some (.ref l),some ve,some (.ref p),some vt,none]/\Same H H',?_,?_⟩
  ·rcases hT with ⟨rfl,s0⟩ | ⟨b,t,rfl,Rt,tq,Dt,Ut,rt⟩
   ·exact⟨_,rfl,rfl,_,rfl,Yw (Yw ⟨rfl,Same.refl _⟩)⟩
   ·refine⟨_,rfl,rfl,_,rfl,Uq ?_⟩
    obtain⟨xt,hxt,hts⟩:=Rt
    obtain⟨xp,hxp,hps⟩:=hp
    refine⟨_,rfl,_,rfl,b,p,xt,xp,t,cutR o R,18,1384,_,_,_,_,rfl,.inr hxt,hts,.inr hxp,hps,by rw[lc];exact tq.len,by rw[lc];omega,rt,rc,by decide,fun am H1 S1 e1=>?_⟩
    have np:(mn t (cutR o R)).1<=0:=by
     refine (Ui (X6 tq.low (Yi nl.low)).pos).mpr ?_
     rw[Vw tq.low (Yi nl.low) tq.len lc]
     have on:=tq.on wq
     rw[Ly on.out]
     exact nl.told wq tq
    refine⟨am,_,_,rfl,rfl,e1,_,_,rfl,rfl,_,rfl,?_⟩
    exact Xa (fun h=>absurd (XE h) (show ¬ 0<(mn t (cutR o R)).1 by omega)) fun _=>⟨rfl,S1⟩
  rintro σ H1 ⟨rfl,S1⟩
  replace hl:=S1 _ _ hl
  replace hP:=Ym hP (Ext.same S1)
  replace hE:=hE.same S1
  replace hp:=hp.same S1
  replace hT:=hT.same S1
  dsimp only
  refine Fs (fun cls dd H'=>cls=.ref C/\Same H1 H'/\∃ T gs,NoneT c (gainsP os os.length) o gs T) (fun EX hEX=>?_) ?_
  case refine_2 =>
   rintro cls dd H' ⟨rfl,S',T',gs,nt⟩
   refine⟨rfl,?_⟩
   have z:=nt.noshareq rows wq
   rcases hT with ⟨rfl,s0⟩ | ⟨b,t,rfl,Rt,tq,_⟩
   ·exact⟨_,rfl,rfl,k _ (S1.trans S')⟩
   ·have:=(Vh (X6 wq.low (Yi (Xg c))).pos).mpr tq.s0
    have:0<(shR c o W).1:=this
    omega
  refine⟨_,rfl,_,rfl,l,vs,rfl,.inl (SqL.of hl),fun lc1 hlc=>?_⟩
  have T1:=Same.new (o:=.lst vs) hlc
  have f1:upd H1 lc1 (.lst vs) lc1=some (.lst vs):=Zc
  generalize upd H1 lc1 (.lst vs)=G1 at *
  refine⟨_,rfl,_,rfl,lc1,p,ve,c,91,1972,1384,os,o,cutR o R,_,_,rfl,⟨vs,f1,Ym hP (Ext.same T1)⟩,bm,hE.same T1,hp.same T1,lc,rc,⟨W,ww⟩,c2,by omega,fun t au av u v H9 S9 ht su sv cv cu gu gv=>?_,fun d3 T3 gs3 H' S' nt=>hEX _ _ _ ⟨rfl,T1.trans S',T3,gs3,nt⟩⟩
  have np:=nl.con rows cv
  refine⟨_,rfl,t,_,_,_,rfl,rfl,ht,Zh (j:=1) rfl,av,_,_,rfl,rfl,sv,_,_,rfl,rfl,?_⟩
  show Q (.bl (decide (v.1<=0))) H9
  rw[XF np]
  exact k _ (S1.trans (T1.trans S9))
end
theorem Z27 {K:W.Frag}{H:Hp}{a:Addr}{c:Nat}{o:Option (Nat->Bool)}{rss:List (List Rat)}{q R W:List Rat}{vt:V}{Q:V->Hp->Prop}(hq:RowAt K H a q)(hT:ToldV K H c o W vt)(nl:NotL c o rss q R)(wq:WtsQ c rss W)(h:Q (.bl false) H):rEqR K (.ref a) vt H Q:=by
 rcases hT with ⟨rfl,_⟩ | ⟨b,t,rfl,Rt,tq,_⟩
 ·exact⟨a,q,rfl,hq,.inl ⟨rfl,h⟩⟩
 ·refine⟨a,q,rfl,hq,.inr ⟨b,t,rfl,Rt,?_⟩⟩
  rw[JI (nl.ne wq tq)]
  exact h
section
variable {P:Program}{w:World}{K:W.Frag}{mg:Str->Option Value}{base:Heap}{C:Addr}
def gH (K:W.Frag):Sp:=fun vs H Q _=>∃ (l a:Addr) (ve vt:V) (c:Nat) (os:List Offr) (o:Option (Nat->Bool)) (q W:List Rat) (D:Int) (Z:List Int),vs=[.int (c:Int),.ref l,ve,.ref a,vt]/\OffsAt K H l c os/\BookU c 91 os/\(gainsP os os.length).length<=6/\EvAt K H c o ve/\RowAt K H a q/\OnE c o q/\RepL 18 D Z q/\Wts c (gainsP os os.length) W/\ToldV K H c o W vt/\2<=c/\c<=5/\∀ H',Same H H'->Q (.bl true) H'
theorem Mx:FnScope ["_law_count","_law_offers","_law_event_here","_law_weights_here","_law_told","_law_found"] ["_law_count","_law_offers","_law_event_here","_law_weights_here","_law_told"] (defScope mJ):=fsc
set_option maxHeartbeats 1600000 in
theorem Z0l (D:Def K mg "_law_good" mJ ["_law_count","_law_offers","_law_event_here","_law_weights_here","_law_told"])(T:Blt mg)(j2:Has P w K mg base 6 "left" ["count","offers","event","weights"] (iU K))(iO:Has P w K mg base 4 "_law_is_row" ["_law_found","_law_count"] (iA K))(i9:Has P w K mg base 5 "_law_fits" ["_law_weights_here","_law_rows"] (iE K))(iP:Has P w K mg base 4 "_law_gains" ["_law_offers"] (eL K))(eJ:Has P w K mg base 5 "_law_learned" ["_law_weights_here","_law_event_here"] (eZ K))(eE:Z4 P w K mg base)(eD:Z2 P w K mg base)(gA:Has P w K mg base 10 "_law_not_above" ["_law_count","_law_offers","_law_event_here","_law_row_here","_law_told"] (fP K) true):Has P w K mg base 11 "_law_good" ["_law_count","_law_offers","_law_event_here","_law_weights_here","_law_told"] (gH K) true:=by
 refine D.has fun f fd F=>F.ok Mx (fun vs H Q E h=>?_) (fun cdv A outer s H vs Q E hr h=>?_)
 ·obtain⟨l,a,ve,vt,c,os,o,q,W,D,Z,rfl,_⟩:=h
  rfl
 ·obtain⟨l,a,ve,vt,c,os,o,q,W,D,Z,rfl,⟨vs,hl,hP⟩,bu,six,hE,hq,on,rq,ww,hT,c2,c5,k⟩:=h
  have hU64:=hr.units
  have sc:=Mx
  refine⟨_,(Zb (Zk (i:=5) sc.nd rfl (Or.inl rfl) (Zg j2 hr (Z0 (pv 0) (Z0 (Y8 Xp rfl T.list GE (Z0 (pv 1) Z9)) (Z0 (pv 2) (Z0 (pv 3) Z9))))))
   (Zb (Yc (PW.pt (Vy (Wk (Xk (Zx Xq rfl T.isinstance XV (Z0 (pv 5) (Z0 (T7 T.tuple YY) Z9))))) (Vy (Zn Pu (Zx Y6 rfl T.len zf (Z0 (pv 5) Z9)) Za (Zq _)) (Vx (Wk (Xk (Zg iO hr (Z0 (Zj Yj (pv 5) Za (fun _ _=>rfl)) (Z0 (pv 0) Z9)))))))))
    (Zd (Zi Vs))
    Zv)
   (Zb (Yc (Zn Xo (Zj Yj (pv 5) Za (fun _ _=>rfl)) Xe (Zq _))
    (Zd (Zi (Qd (Zg i9 hr (Z0 (Zj Yj (pv 5) Za (fun _ _=>rfl)) (Z0 (Zg iP hr (Z0 (pv 1) Z9)) Z9))) (Tu (Xn (Z08 (K:=K) hU64) (Zg eJ hr (Z0 (Zj Yj (pv 5) Za (fun _ _=>rfl)) (Z0 (pv 2) Z9))) (pv 3) (Zq _))))))
    Zv)
   (Zb (Yc (PW.pt (Vy (Zn Pu (Zj Yj (pv 5) Za (fun _ _=>rfl)) Xe (Zq _)) (Vy (Zn (Z08 (K:=K) hU64) (pv 3) (pv 4) (Zq _)) (Vx (Zn (Z4x (K:=K) hU64) (Zg eE hr (Z0 (Zj Yj (pv 5) Za (fun _ _=>rfl)) (Z0 (pv 2) Z9))) (Zj Yj (pv 5) Za (fun _ _=>rfl)) (Zq _))))))
    (Zd (Zi Vs))
    Zv)
   (Zd (Zi (Qd (Xn Qg (Zj Yu (Zg eD hr (Z0 (pv 3) (Z0 (Zj Yj (pv 5) Za (fun _ _=>rfl)) Z9))) Za (fun _ _=>rfl)) Za (Zq _)) (Tu (Gk gA (hr.mono (by decide)) rfl (Z0 (pv 0) (Z0 (pv 1) (Z0 (pv 2) (Z0 (Zj Yj (pv 5) Za (fun _ _=>rfl)) (Z0 (pv 4) Z9)))))))))))))),?_⟩
  have rows:∀ rs∈gainsP os os.length,RowR c rs:=fun rs hr=>RowR.of (bu.rep rs hr).1 (bu.rep rs hr).2
  have wq:=ww.toQ rows
  refine⟨_,rfl,_,rfl,l,vs,rfl,.inl (SqL.of hl),fun lc hlc=>?_⟩
  have T1:=Same.new (o:=.lst vs) hlc
  have f1:upd H lc (.lst vs) lc=some (.lst vs):=Zc
  generalize upd H lc (.lst vs)=G1 at *
  refine⟨_,rfl,_,rfl,lc,a,ve,c,os,o,q,D,Z,rfl,⟨vs,f1,Ym hP (Ext.same T1)⟩,bu,six,hE.same T1,hq.same T1,on,rq,c2,c5,fun t p L H1 S1 ht Rp nar rU=>?_,fun t p R H1 S1 ht Rp nl rR=>?_⟩
  ·replace S1:=T1.trans S1
   obtain⟨DU,UU,rU⟩:=rU
   have wU:=Jm on nar rows
   refine⟨_,rfl,_,_,_,_,rfl,ht,V7,_,rfl,Yw ?_⟩
   refine⟨_,rfl,t,_,rfl,.inr ht,rfl,_,rfl,Ln rfl ?_⟩
   refine⟨_,rfl,t,_,_,_,rfl,rfl,ht,Zh (j:=1) rfl,_,rfl,p,c,743,_,rfl,Rp,wU.len,rU.good,by decide,fun H2 S2=>⟨_,rfl,Yw ?_⟩⟩
   refine⟨_,rfl,t,_,_,_,rfl,rfl,Zt S2 ht,Zh (j:=0) rfl,rfl,_,rfl,Uq ?_⟩
   have S02:=S1.trans S2
   refine⟨_,rfl,t,_,_,_,rfl,rfl,Zt S2 ht,Zh (j:=1) rfl,_,rfl,l,c,91,os,rfl,⟨vs,S02 _ _ hl,Ym hP (Ext.same S02)⟩,bu.few,by omega,by decide,bu.good,fun d H3 fd3 S3 hR3=>?_⟩
   have S23:=S2.trans S3
   refine⟨p,d,c,91,743,_,gainsP os os.length,rfl,Rp.same S23,hR3,wU.len,⟨_,_,rU⟩,⟨wU.len,⟨_,_,_,rU⟩,(wU.wts rows).nn,(fun _ h=>nomatch h),(wU.wts rows).lie⟩,bu.rep,by decide,by omega,fun b1 H4 S4 _ hb1=>?_⟩
   obtain rfl:=hb1 (wU.wts rows)
   have S24:=S23.trans S4
   have S04:=(S02.trans S3).trans S4
   have tU:=Cn on nar rows
   refine⟨true,rfl,Uq ?_⟩
   refine⟨_,rfl,t,_,_,_,rfl,rfl,Zt S24 ht,Zh (j:=1) rfl,_,rfl,p,ve,c,743,o,_,_,_,rfl,Rp.same S24,⟨wU.len,wU.low,wU.nn,(fun _ h=>nomatch h),wU.lie⟩,rU,hE.same S04,by decide,by omega,fun z=>?_,fun p2 t2 H5 S5 R5 tq _=>?_⟩
   ·have:=(Vh (X6 wU.low (Yi (Xg c))).pos).mpr tU.s0
    have:0<(shR c o (unfQ c o q L)).1:=this
    omega
   ·refine⟨_,rfl,p2,t2,rfl,R5,.inr ⟨a,q,rfl,hq.same (S04.trans S5),?_⟩⟩
    rw[XF (tq.unique tU)]
    exact k _ (S04.trans S5)
  ·replace S1:=T1.trans S1
   obtain⟨DU,UU,rR⟩:=rR
   have rc:=rR.cut o
   have lc:(cutR o R).length=c:=by rw[Ye];exact nl.len
   refine⟨_,rfl,_,_,_,_,rfl,ht,V7,_,rfl,Yw ?_⟩
   refine⟨_,rfl,t,_,rfl,.inr ht,rfl,_,rfl,Ln rfl ?_⟩
   refine⟨_,rfl,t,_,_,_,rfl,rfl,ht,Zh (j:=1) rfl,_,rfl,p,c,1384,_,rfl,Rp,lc,rc.good,by decide,fun H2 S2=>⟨_,rfl,Yw ?_⟩⟩
   refine⟨_,rfl,t,_,_,_,rfl,rfl,Zt S2 ht,Zh (j:=0) rfl,rfl,_,rfl,Yw ?_⟩
   refine⟨_,rfl,t,_,_,_,rfl,rfl,Zt S2 ht,Zh (j:=0) rfl,rfl,_,rfl,Yw ?_⟩
   have S02:=S1.trans S2
   refine⟨_,rfl,_,rfl,Z27 (hq.same S02) (hT.same S02) nl wq ⟨_,rfl,Yw ?_⟩⟩
   obtain⟨xp,hxp,hps⟩:=Rp.same S2
   refine⟨_,rfl,t,_,_,_,rfl,rfl,Zt S2 ht,Zh (j:=1) rfl,_,rfl,p,ve,xp,cutR o R,o,rfl,.inr hxp,hps,by rw[lc];exact hE.same S02,by omega,fun p3 H3 S3 R3=>?_⟩
   rw[Z3u nl.low] at R3
   obtain⟨x3,hx3,hs3⟩:=R3
   have S03:=S02.trans S3
   have S23:=S2.trans S3
   have hxp3:=Zt S3 hxp
   have hps3:=hps.ext (Ext.same S3)
   refine⟨_,rfl,t,_,_,_,rfl,rfl,Zt S23 ht,Zh (j:=1) rfl,1,p3,p,_,_,rfl,rfl,by decide,.inr ⟨hx3,hxp3⟩,Bm hs3 hps3,_,rfl,Yw ?_⟩
   obtain⟨xq,hxq,hqs⟩:=hq.same S03
   refine⟨_,rfl,_,rfl,t,_,_,_,rfl,rfl,Zt S23 ht,Zh (j:=1) rfl,a,p,xq,xp,q,cutR o R,18,1384,_,_,_,_,rfl,.inr hxq,hqs,.inr hxp3,hps3,by rw[lc];exact on.len,by omega,rq,rc,by decide,fun am H4 S4 e4=>?_⟩
   have up:0<(mn q (cutR o R)).1:=by
    refine (Vh (X6 on.low (Yi nl.low)).pos).mpr ?_
    rw[Vw on.low (Yi nl.low) on.len lc,Ly on.out]
    exact nl.up
   have S04:=S03.trans S4
   have S24:=S23.trans S4
   refine⟨am,_,_,rfl,rfl,e4,_,_,rfl,rfl,_,rfl,?_⟩
   refine Xa (fun _=>?_) fun h=>absurd (XF up) h
   refine⟨_,rfl,_,rfl,_,rfl,_,rfl,t,_,_,_,rfl,rfl,Zt S24 ht,Zh (j:=1) rfl,_,rfl,?_⟩
   exact⟨l,p,ve,vt,c,os,o,q,R,W,_,_,rfl,⟨vs,S04 _ _ hl,Ym hP (Ext.same S04)⟩,bu,six,hE.same S04,Rp.same S24,nl,rR,ww,hT.same S04,c2,c5,fun H5 S5=>k _ (S04.trans S5)⟩
end
end Sb
namespace Sb
open PySem PySem.Spec PyProof.Rows L2
section
variable {X:Cx}{K:W.Frag}
def rEqE (K:W.Frag):R2:=fun x y H Q=>(x=.non/\∃ (b:Addr) (ys:List V),y=.ref b/\SqT K H b ys/\Q (.bl false) H) \/ rEqI K x y H Q
theorem Z4z (hu:X.A.units<cLine)(hK:X.K=K:=by rfl):OpR X (compareOp .Eq) (rEqE K):=by
 subst hK
 intro pins s σ H x y v u Q I rx ry h
 rcases h with ⟨rfl,b,ys,rfl,hb,q⟩ | h
 ·cases rx
  cases ry
  obtain⟨its,r1,p1,_⟩:=I.tuple hb
  exact SeqAt.RcAt.none_tuple p1 hu _ _ _ _ ⟨.bl false,H,I,rfl,q⟩
 ·exact Ku hu rfl pins s σ H x y v u Q I rx ry h
end
end Sb
namespace Sb
open PySem L2
theorem at8b (z:Int):∃ c:Nat,atI [V.int 2,.int 3,.int 4,.int 3,.int 2,.int 3,.int 4,.int 5] (z % 8)=some (.int c)/\2<=c/\c<=5:=by
 have h:z % 8=0 \/ z % 8=1 \/ z % 8=2 \/ z % 8=3 \/ z % 8=4 \/ z % 8=5 \/ z % 8=6 \/ z % 8=7:=by omega
 rcases h with e | e | e | e | e | e | e | e <;> rw[e]
 ·exact⟨2,Zh (j:=0) rfl,by decide,by decide⟩
 ·exact⟨3,Zh (j:=1) rfl,by decide,by decide⟩
 ·exact⟨4,Zh (j:=2) rfl,by decide,by decide⟩
 ·exact⟨3,Zh (j:=3) rfl,by decide,by decide⟩
 ·exact⟨2,Zh (j:=4) rfl,by decide,by decide⟩
 ·exact⟨3,Zh (j:=5) rfl,by decide,by decide⟩
 ·exact⟨4,Zh (j:=6) rfl,by decide,by decide⟩
 ·exact⟨5,Zh (j:=7) rfl,by decide,by decide⟩
theorem Z5t {c i:Nat}(hi:i<c):evI c (fun k=>k == i)=[(i:Int)]:=by
 induction c with
 | zero=>omega
 | succ c ih =>
  rw[P6]
  by_cases q:c=i
  ·subst q
   have:evI c (fun k=>k == c)=evI c (fun _=>false):=N3 fun k hk=>by simp;omega
   rw[this]
   have z:∀ m,evI m (fun _=>false)=[]:=fun m=>by unfold evI;simp
   rw[z]
   simp
  ·rw[ih (by omega)]
   simp[q]
theorem WtsR.wts9 {c:Nat}{Ws:List Int}{ws:List Rat}(wt:WtsR c Ws ws):Wts c [] ws:=(show FairB c Ws [] from ⟨(fun _ h=>nomatch h),(fun _ h=>nomatch h),by decide⟩).wts wt
def unitR (c i:Nat):List Rat:=(List.range c).map fun k=>(if k=i then 1 else 0,1)
theorem Mi {c i:Nat}:(unitR c i).length=c:=by unfold unitR;simp
theorem Mh {c i:Nat}:∃ D Z,RepL 18 D Z (unitR c i):=⟨1,RepL.each (by decide) (Xf 1 (by decide) (by decide)) fun r hr=>by
 unfold unitR at hr
 obtain⟨k,_,rfl⟩:=XG.mp hr
 refine⟨if k=i then 1 else 0,rfl,?_,(show (0:Int)<1 by decide),Int.gcd_one_right _⟩
 split
 ·exact Xf 1 (by decide) (by decide)
 ·exact bd0 _⟩
theorem Na {c i k:Nat}(hk:k<c):qr (unitR c i) k=if k=i then 1 else 0:=by
 unfold qr unitR
 rw[YF,YD,qm hk]
 show qv (if k=i then 1 else 0,1)=_
 split
 ·exact Z2c
 ·exact Z2d
theorem Gd {i:Nat}:∀ {c:Nat},sQ c (fun k=>if k=i then (1:QQ) else 0)=if i<c then 1 else 0
 | 0=>rfl
 | c+1=>by
  show sQ c (fun k=>if k=i then (1:QQ) else 0)+(if c=i then (1:QQ) else 0)=_
  rw[Gd]
  by_cases h:i<c
  ·rw[YM h,YG (show ¬ c=i by omega),YM (show i<c+1 by omega)]
   grind
  ·rw[YG h]
   by_cases e:c=i
   ·rw[YM e,YM (show i<c+1 by omega)]
    grind
   ·rw[YG e,YG (show ¬ i<c+1 by omega)]
    grind
theorem Z22 {c i:Nat}{o:Option (Nat->Bool)}(hi:i<c)(h:inE o i=true):OnE c o (unitR c i):=by
 obtain⟨D,Z,r⟩:=Mh (c:=c) (i:=i)
 refine⟨Mi,fun x hx=>(r.good x hx).low,fun k hk=>?_,fun k hk z=>?_,?_⟩
 ·rw[Na hk]
  split <;> decide
 ·rw[Na hk,YG fun e=>by rw[e,h] at z;cases z]
 ·rw[Zp (g:=fun k=>if k=i then (1:QQ) else 0) fun k hk=>Na hk,Gd,YM hi]
def TryV (K:W.Frag)(H:Hp)(c:Nat)(o:Option (Nat->Bool))(v:V):Prop:=v=.non \/ ∃ (b:Addr) (q:List Rat),v=.ref b/\RowAt K H b q/\OnE c o q/\∃ D Z,RepL 18 D Z q
theorem TryV.same {K:W.Frag}{H H':Hp}{c:Nat}{o:Option (Nat->Bool)}{v:V}(h:TryV K H c o v)(S:Same H H'):TryV K H' c o v:=h.elim .inl fun ⟨b,q,e,r,z⟩=>.inr ⟨b,q,e,r.same S,z⟩
theorem ToldV.try_ {K:W.Frag}{H:Hp}{c:Nat}{o:Option (Nat->Bool)}{rss:List (List Rat)}{W:List Rat}{v:V}(h:ToldV K H c o W v)(w:WtsQ c rss W):TryV K H c o v:=h.elim (fun z=>.inl z.1) fun ⟨b,t,e,r,q,z⟩=>.inr ⟨b,t,e,r,q.on w,z⟩
section
variable {P:Program}{w:World}{K:W.Frag}{mg:Str->Option Value}{base:Heap}{C:Addr}
def spLaw (K:W.Frag):Sp:=fun vs H Q _=>∃ (a:Addr) (ns:List Int),vs=[.ref a]/\SqL K H a (ns.map V.int)/\∀ H',Q (.bl true) H'
theorem Z43:FnScope ["_law_script","_law_count","_law_weights_here","_law_offers","_law_bag_here","_law_event_here","_law_told","_law_drawn","_law_at","_law_tries","_law_some"] ["_law_script"] (defScope mR):=fsc
set_option maxHeartbeats 3200000 in
theorem Z68 {f:Addr}{fd:FuncData}(F:Fun K "law" "law" mR f fd)(T:Blt mg)(fS:Has P w K mg base 1 "_law_cell" ["_law_script","_law_k"] (gT K))(eO:Has P w K mg base 2 "_law_bag" ["_law_script","_law_at"] (gU K))(eA:Z3 P w K mg base)(gB:Has P w K mg base 7 "_law_fair_book" ["_law_script","_law_count"] (iG K))(fK:Has P w K mg base 2 "_law_event" ["_law_bag_here","_law_count"] (fZ K))(eS:Has P w K mg base 3 "_law_weights" ["_law_bag_here","_law_count"] (eX K))(eJ:Has P w K mg base 5 "_law_learned" ["_law_weights_here","_law_event_here"] (eZ K))(i8:Has P w K mg base 11 "_law_good" ["_law_count","_law_offers","_law_event_here","_law_weights_here","_law_told"] (gH K) true):FnOk P w K mg base CX0 12 f fd ["_law_script"] (spLaw K) true:=by
 refine F.ok Z43 (fun vs H Q E h=>?_) (fun cdv A outer s H vs Q E hr h=>?_)
 ·obtain⟨a,ns,rfl,_⟩:=h
  rfl
 ·obtain⟨a,ns,rfl,hS,k⟩:=h
  have hU:=zB (Z19 hr)
  have sc:=Z43
  have nd1:(["_law_k","_law_at"]:List Str).Nodup:=by decide +kernel
  refine⟨_,(Zb (Zk (i:=1) sc.nd rfl (Or.inl rfl) (Zj Y2 (W0 (Z0 Za (Z0 Za (Z0 Za (Z0 Za (Z0 Za (Z0 Za (Z0 Za (Z0 Za Z9))))))))) (Zl W3 (Zg fS hr (Z0 (pv 0) (Z0 Za Z9))) Za) (fun _ _=>rfl)))
   (Zb (Uo (Zg gB hr (Z0 (pv 0) (Z0 (pv 1) Z9))) (Wl (n:=2) rfl (Y7 (Zm (i:=2) sc.nd rfl (Or.inl rfl)) (Y7 (Zm (i:=3) sc.nd rfl (Or.inl rfl)) Xm))))
   (Zb (Zk (i:=4) sc.nd rfl (Or.inl rfl) (Zg eO hr (Z0 (pv 0) (Z0 Za Z9))))
   (Zb (Zk (i:=5) sc.nd rfl (Or.inl rfl) (Zg fK hr (Z0 (pv 4) (Z0 (pv 1) Z9))))
   (Zb (Xc (Yc (Zn (Z4z (K:=K) hU) (pv 5) (Yk Z9) (Zq _))
    (Zd (Zk (i:=5) sc.nd rfl (Or.inl rfl) (Yk (Z0 (Zg eA hr (Z0 (pv 4) (Z0 (pv 1) Z9))) Z9))))
    Zv))
   (Zb (Xc (Zk (i:=6) sc.nd rfl (Or.inl rfl) (Zg eJ hr (Z0 (pv 2) (Z0 (pv 5) Z9)))))
   (Zb (Xc (Zk (i:=7) sc.nd rfl (Or.inl rfl) (Zg eJ hr (Z0 (Zg eS hr (Z0 (Zg eO hr (Z0 (pv 0) (Z0 Za Z9))) (Z0 (pv 1) Z9))) (Z0 (pv 5) Z9)))))
   (Zb (Zk (i:=8) sc.nd rfl (Or.inr rfl) (Zg eA hr (Z0 (Zg eO hr (Z0 (pv 0) (Z0 Za Z9))) (Z0 (pv 1) Z9))))
   (Zb (Xc (Yc (Zn Vk (pv 5) Yv (Zq _))
    (Zd (Zk (i:=8) sc.nd rfl (Or.inr rfl) (Zj Yj (pv 5) (Zl W3 (pv 8) (Zx Y6 rfl T.len zf (Z0 (pv 5) Z9))) (fun _ _=>rfl))))
    Zv))
   (Zb (Xc (Zk (i:=9) sc.nd rfl (Or.inl rfl) (W0 (Z0 (pv 6) (Z0 (pv 7) (Z0 (Y8 Y3 rfl T.tuple YY (Z0 (Yl (N:=["_law_k","_law_at"]) (k:=1) (fv:=[8]) rfl (Yx rfl T.range (Z0 (pv 1) Z9))
   (fun _ _ _ _ _=>Zm (i:=0) nd1 rfl (Or.inl rfl)) (fun _ _ _ _ _=>Yb) (fun _ _ _ _ _=>(Yk (Z0 (Y8 Ch rfl T.int zA (Z0 (Xn Xo (pv 0) (pv 1) (Zq _)) Z9)) (Z0 Za Z9)))) Zy) Z9)) Z9))))))
   (Zb (Xs JC rfl (Xd (pv 9)) (Zm (i:=10) sc.nd rfl (Or.inl rfl))
    (Zd (Yc (PW.pt (Nj (Zn Vk (pv 10) Yv (Zq _)) (Re (Wk (Xk (Gk i8 (hr.mono (by decide)) rfl (Z0 (pv 1) (Z0 (pv 3) (Z0 (pv 5) (Z0 (pv 10) (Z0 (pv 6) Z9)))))))))))
     (Zd (Zi Vs))
     Zv)))
   (Zd (Zi Vs))))))))))))),?_⟩
  refine⟨sz8,fun l0 hl0=>?_⟩
  have S0:Same H (upd H l0 (.lst [.int 2,.int 3,.int 4,.int 3,.int 2,.int 3,.int 4,.int 5])):=Same.new hl0
  have e0:upd H l0 (.lst [.int 2,.int 3,.int 4,.int 3,.int 2,.int 3,.int 4,.int 5]) l0=some (.lst [.int 2,.int 3,.int 4,.int 3,.int 2,.int 3,.int 4,.int 5]):=Zc
  generalize upd H l0 (.lst [.int 2,.int 3,.int 4,.int 3,.int 2,.int 3,.int 4,.int 5])=H0 at *
  replace hS:=V2 S0 hS
  refine⟨_,rfl,a,_,ns,rfl,hS,by decide,by decide,fun z=>⟨_,_,rfl,rfl,Uj (by decide),?_⟩⟩
  obtain⟨c,ec,c2,c5⟩:=at8b z
  refine⟨l0,_,_,_,rfl,rfl,SqL.of e0,ec,?_⟩
  refine⟨_,rfl,_,rfl,a,c,ns,rfl,hS,by omega,by omega,fun t aw l H1 Ws ws os S1 ht hw wt hO fb=>?_⟩
  refine⟨t,_,rfl,ht,rfl,_,_,rfl,_,_,rfl,rfl,?_⟩
  replace hS:=V2 S1 hS
  obtain⟨vs,hl,hP⟩:=hO
  clear S0 e0 hl0 ec S1 ht
  have few:=fb.few
  have lv:=XW hP
  have bu:=fb.book
  have ww:=fb.wts wt
  have sd6:(gainsP os os.length).length<=6:=by
   have:=Qy os
   rw[Uu]
   omega
  have rows:∀ rs∈gainsP os os.length,RowR c rs:=fun rs hr=>RowR.of (bu.rep rs hr).1 (bu.rep rs hr).2
  have wq:=ww.toQ rows
  refine⟨_,rfl,a,7,ns,rfl,hS,by decide,fun b H2 fb2 S2 B2=>?_⟩
  refine⟨_,rfl,_,rfl,b,c,_,rfl,B2,by omega,by omega,fun ve H3 o B3 S3 E3=>?_⟩
  have S13:=Same.viaX fb2 S2 S3
  have B3':BagAt H3 b 1000:=B3.mono (by omega)
  refine⟨fun σ H'=>∃ (ve:V) (o:Option (Nat->Bool)),σ=[some (.ref a),some (.int (c:Int)),some (.ref aw),some (.ref l),some (.ref b),some ve,none,none,none,none,none]/\Same H1 H'/\EvAt K H' c o ve/\∀ p,o=some p->evI c p≠[],?_,?_⟩
  ·refine⟨_,rfl,sz0,fun t0 ht0=>?_⟩
   have S4:Same H3 (upd H3 t0 (.tup [])):=Same.new ht0
   have e4:upd H3 t0 (.tup []) t0=some (.tup []):=Zc
   generalize upd H3 t0 (.tup [])=H4 at *
   have S14:=S13.trans S4
   have E4:=E3.same S4
   cases o with
   | none =>
    have ev:ve=.non:=E4
    subst ev
    exact .inl ⟨rfl,t0,[],rfl,SqT.of e4,_,rfl,Yw ⟨_,none,rfl,S14,E4,fun p e=>nomatch e⟩⟩
   | some p =>
    obtain⟨ae,rfl,hA⟩:=id E4
    refine .inr ⟨ae,t0,evI c p,[],rfl,rfl,hA,SqT.of e4,_,rfl,?_⟩
    refine Xa (fun h=>?_) (fun h=>⟨_,some p,rfl,S14,E4,fun p' e=>?_⟩)
    ·have B4:=B3'.same S4
     refine⟨_,rfl,_,rfl,b,_,_,rfl,B4,by omega,by omega,Nv (by omega),fun y H5 y0 y1 B5 S5=>?_⟩
     obtain⟨j,rfl,hj⟩:=Gr y0 y1
     refine⟨sz1,fun t5 ht5=>?_⟩
     have S6:Same H5 (upd H5 t5 (.tup [.int (j:Int)])):=Same.new ht5
     have ej:evI c (fun k=>k == j)=[(j:Int)]:=Z5t (by omega)
     refine⟨.ref t5,some (fun k=>k == j),rfl,fun b' o' eb=>?_,⟨t5,rfl,by rw[ej];exact SqT.of Zc⟩,fun p' e=>?_⟩
     ·exact S6 _ _ (S5 _ _ (S14 _ _ eb) (Ze eb fb2))
     ·cases e
      rw[ej]
      simp
    ·cases e
     exact fun z=>h (by rw[z];rfl)
  clear S2 S3 S13 B2 B3 B3' E3 fb2
  rintro σ H3 ⟨ve,o,rfl,S3,E3,ne⟩
  replace hS:=V2 S3 hS
  replace hl:=S3 _ _ hl
  replace hP:=Ym hP (Ext.same S3)
  replace hw:=hw.same S3
  clear S3
  refine⟨fun σ H'=>∃ (vt:V),σ=[some (.ref a),some (.int (c:Int)),some (.ref aw),some (.ref l),some (.ref b),some ve,some vt,none,none,none,none]/\Same H3 H'/\ToldV K H' c o ws vt,?_,?_⟩
  ·refine⟨_,rfl,_,rfl,aw,ve,c,10,o,ws,_,_,rfl,hw,⟨wq.len,wq.low,wq.nn,(fun _ h=>nomatch h),wq.lie⟩,wt.rep,E3,by decide,by omega,fun z H' S'=>⟨_,rfl,S',.inl ⟨rfl,z⟩⟩,fun p t H' S' R' tq rt=>⟨_,rfl,S',.inr ⟨p,t,rfl,R',tq,rt.elim fun D z=>z.elim fun U r=>⟨D,U,r.mono (by decide)⟩⟩⟩⟩
  rintro σ H4 ⟨vt,rfl,S4,hT⟩
  replace hS:=V2 S4 hS
  replace hl:=S4 _ _ hl
  replace hP:=Ym hP (Ext.same S4)
  replace E3:=E3.same S4
  clear S4 hw
  refine⟨fun σ H'=>∃ (vd:V),σ=[some (.ref a),some (.int (c:Int)),some (.ref aw),some (.ref l),some (.ref b),some ve,some vt,some vd,none,none,none]/\Same H4 H'/\TryV K H' c o vd,?_,?_⟩
  ·refine⟨_,rfl,a,8,ns,rfl,hS,by decide,fun b8 H5 fb8 S5 B5=>?_⟩
   refine⟨_,rfl,b8,c,_,rfl,B5,by omega,by omega,by omega,fun aw2 H6 Ws2 ws2 B6 S6 R6 wt2=>?_⟩
   have S46:=Same.viaX fb8 S5 S6
   have wq2:=wt2.wts9.toQ (fun _ h=>nomatch h)
   refine⟨_,rfl,aw2,ve,c,10,o,ws2,_,_,rfl,R6,wq2,wt2.rep,E3.same S46,by decide,by omega,fun z H' S'=>⟨_,rfl,S46.trans S',.inl rfl⟩,fun p t H' S' R' tq rt=>⟨_,rfl,S46.trans S',.inr ⟨p,t,rfl,R',tq.on wq2,rt.elim fun D z=>z.elim fun U r=>⟨D,U,r.mono (by decide)⟩⟩⟩⟩
  rintro σ H5 ⟨vd,rfl,S5,hD⟩
  replace hS:=V2 S5 hS
  replace hl:=S5 _ _ hl
  replace hP:=Ym hP (Ext.same S5)
  replace E3:=E3.same S5
  replace hT:=hT.same S5
  clear S5
  refine⟨_,rfl,a,9,ns,rfl,hS,by decide,fun b9 H6 fb9 S6 B6=>?_⟩
  refine⟨_,rfl,b9,_,_,rfl,B6,by omega,by omega,Nv (by omega),fun y H7 y0 y1 B7 S7=>?_⟩
  obtain⟨j,rfl,hj⟩:=Gr y0 y1
  have S57:=Same.viaX fb9 S6 S7
  replace hl:=S57 _ _ hl
  replace hP:=Ym hP (Ext.same S57)
  replace E3:=E3.same S57
  replace hT:=hT.same S57
  replace hD:=hD.same S57
  clear S57 S6 S7 B6 B7 fb9 hS
  refine⟨fun σ H'=>∃ (i:Nat),σ=[some (.ref a),some (.int (c:Int)),some (.ref aw),some (.ref l),some (.ref b),some ve,some vt,some vd,some (.int (i:Int)),none,none]/\H7=H'/\i<c/\inE o i=true,?_,?_⟩
  ·cases o with
   | none =>
    have ev:ve=.non:=E3
    subst ev
    exact⟨_,rfl,rfl,_,rfl,Yw ⟨j,rfl,rfl,by omega,rfl⟩⟩
   | some p =>
    obtain⟨ae,rfl,hA⟩:=id E3
    refine⟨_,rfl,rfl,_,rfl,Uq ?_⟩
    have pl:0<(evI c p).length:=by
     have:=ne p rfl
     cases h:evI c p with
     | nil=>exact absurd h this
     | cons x t=>simp
    have ll:((evI c p).map V.int).length=(evI c p).length:=by simp
    refine⟨_,rfl,_,rfl,_,rfl,ae,_,rfl,.inr hA,_,_,rfl,rfl,Uj (by rw[ll];omega),?_⟩
    obtain⟨m,em,hm⟩:=Gr (m:=((evI c p).length:Int)) (zw (j:Int) (show ((evI c p).length:Int)≠0 by omega)) (zq _ (by omega))
    have hm:m<(evI c p).length:=by omega
    have mem:(evI c p)[m]∈evI c p:=YX hm
    obtain⟨u,eu⟩:∃ u:Nat,(evI c p)[m]=(u:Int):=by
     unfold evI at mem ⊢
     obtain⟨u,_,e⟩:=XG.mp mem
     exact⟨u,e.symm⟩
    have at_:atI ((evI c p).map V.int) ((j:Int) % (((evI c p).map V.int).length:Int))=some (.int (u:Int)):=by
     rw[ll,em]
     refine Zh ?_
     rw[YD,XN hm,eu]
     rfl
    rw[eu] at mem
    obtain⟨h1,h2⟩:=mem_evI.mp mem
    exact⟨ae,_,_,_,rfl,rfl,hA,at_,u,rfl,rfl,h1,h2⟩
  rintro σ H' ⟨i,rfl,rfl,hi,hin⟩
  refine⟨fun σ H8=>∃ (lt a3:Addr),σ=[some (.ref a),some (.int (c:Int)),some (.ref aw),some (.ref l),some (.ref b),some ve,some vt,some vd,some (.int (i:Int)),some (.ref lt),none]/\Same H7 H8/\H8 lt=some (.lst [vt,vd,.ref a3])/\RowAt K H8 a3 (unitR c i),?_,?_⟩
  ·refine⟨_,rfl,_,rfl,_,rfl,(c:Int),rfl,(by omega),(by omega),fun d hd=>?_⟩
   have et:(c:Int).toNat=c:=by omega
   rw[et]
   refine⟨c,fun m ys H9=>Same H7 H9/\Rs K H9 ((unitR c i).take m) ys,Zu (by omega),⟨Same.new hd,.nil⟩,?_,?_⟩
   ·rintro m ys H9 hm ⟨S9,R9⟩ hd9
    refine⟨hm,?_⟩
    rintro x H10 ⟨rfl,rfl⟩
    have e0:(0+(m:Int))=((m:Nat):Int):=by omega
    rw[e0]
    refine Yh ?_
    refine⟨_,rfl,_,rfl,rfl,.inr ⟨_,rfl,sz2,fun p hp=>?_⟩⟩
    have ep:(unitR c i)[m]?=some (if decide (V.int (m:Int)=V.int (i:Int))=true then 1 else 0,1):=by
     unfold unitR
     rw[YD,qm hm]
     by_cases q:m=i
     ·subst q
      simp
     ·have:¬ V.int (m:Int)=V.int (i:Int):=fun z=>by
       injection z with z
       omega
      simp[q,this]
    have S11:=Same.new (o:=.tup [.int (if decide (V.int (m:Int)=V.int (i:Int))=true then 1 else 0),.int 1]) hp
    have hd11:=S11 _ _ hd9
    refine⟨hd11,fun q o' e=>?_,?_⟩
    ·rw[Zf (Ze e hd)]
     exact S11 _ _ (S9 _ _ e)
    ·rw[Y5 ep]
     exact (R9.ext ((Ext.same S11).trans (Ext.upd hd11))).snoc ⟨p,rfl,(Ext.upd hd11).sq (SqT.of Zc)⟩
   rintro ys H9 ⟨S9,R9⟩ hd9
   rw[YN (by rw[Mi];exact YE _)] at R9
   refine⟨YE _,d,ys,rfl,.inl ⟨SqL.of hd9,fun a3 ha3=>?_⟩⟩
   have S10:=Same.new (o:=.tup ys) ha3
   have R10:RowAt K (upd H9 a3 (.tup ys)) a3 (unitR c i):=⟨ys,SqT.of Zc,R9.ext (Ext.same S10)⟩
   generalize upd H9 a3 (.tup ys)=H10 at *
   refine⟨sz3,fun lt hlt=>?_⟩
   have S11:=Same.new (o:=.lst [vt,vd,.ref a3]) hlt
   exact⟨lt,a3,rfl,(S9.trans S10).trans S11,Zc,R10.same S11⟩
  rintro σ H8 ⟨lt,a3,rfl,S8,hlt,R8⟩
  replace hl:=S8 _ _ hl
  replace hP:=Ym hP (Ext.same S8)
  replace E3:=E3.same S8
  replace hT:=hT.same S8
  replace hD:=hD.same S8
  have tries:∀ v∈[vt,vd,.ref a3],TryV K H8 c o v:=fun v hv=>by
   rcases YS.mp hv with rfl | hv
   ·exact hT.try_ wq
   rcases YS.mp hv with rfl | hv
   ·exact hD
   ·obtain rfl:=JP.mp hv
    exact .inr ⟨a3,_,rfl,R8,Z22 hi hin,Mh⟩
  refine⟨_,rfl,lt,rfl,⟨_,SqL.of hlt⟩,Tj (K:=K) (a:=lt) (xs:=[vt,vd,.ref a3]) (fun _ σ H'=>Same H8 H'/\∃ (x1:Option V),σ=[some (.ref a),some (.int (c:Int)),some (.ref aw),some (.ref l),some (.ref b),some ve,some vt,some vd,some (.int (i:Int)),some (.ref lt),x1]) ⟨Same.refl _,none,rfl⟩ (fun _ σ H' _ h=>SqL.of (h.1 _ _ hlt)) ?_ ?_⟩
  ·rintro n x σ H9 hx ⟨S9,x1,rfl⟩
   rcases tries x (YI hx) with rfl | ⟨bq,q,rfl,Rq,on,D,Z,rq⟩
   ·exact⟨_,rfl,rfl,_,rfl,Yw (Yw ⟨S9,_,rfl⟩)⟩
   ·refine⟨_,rfl,rfl,_,rfl,Uq ?_⟩
    refine⟨_,rfl,_,rfl,_,rfl,_,rfl,_,rfl,l,bq,ve,vt,c,os,o,q,ws,D,Z,rfl,⟨vs,S9 _ _ hl,Ym hP (Ext.same S9)⟩,bu,sd6,E3.same S9,Rq.same S9,on,rq,ww,hT.same S9,c2,c5,fun H10 S10=>⟨_,rfl,Yw ⟨S9.trans S10,_,rfl⟩⟩⟩
  ·rintro σ H9 ⟨S9,x1,rfl⟩
   exact k _
end
end Sb
theorem Sb.len1 {us:List PySem.Value}(h:us.length=1):∃ a0,us=[a0]:=by
 match us,h with
 | [a0],_=>exact⟨a0,rfl⟩
theorem Sb.len2 {us:List PySem.Value}(h:us.length=2):∃ a0 a1,us=[a0,a1]:=by
 match us,h with
 | [a0,a1],_=>exact⟨a0,a1,rfl⟩
theorem Sb.len3 {us:List PySem.Value}(h:us.length=3):∃ a0 a1 a2,us=[a0,a1,a2]:=by
 match us,h with
 | [a0,a1,a2],_=>exact⟨a0,a1,a2,rfl⟩
theorem Sb.len4 {us:List PySem.Value}(h:us.length=4):∃ a0 a1 a2 a3,us=[a0,a1,a2,a3]:=by
 match us,h with
 | [a0,a1,a2,a3],_=>exact⟨a0,a1,a2,a3,rfl⟩
theorem Sb.len5 {us:List PySem.Value}(h:us.length=5):∃ a0 a1 a2 a3 a4,us=[a0,a1,a2,a3,a4]:=by
 match us,h with
 | [a0,a1,a2,a3,a4],_=>exact⟨a0,a1,a2,a3,a4,rfl⟩
theorem Sb.len6 {us:List PySem.Value}(h:us.length=6):∃ a0 a1 a2 a3 a4 a5,us=[a0,a1,a2,a3,a4,a5]:=by
 match us,h with
 | [a0,a1,a2,a3,a4,a5],_=>exact⟨a0,a1,a2,a3,a4,a5,rfl⟩
namespace PySem.W.Fast
theorem tw8058481464978562213:True:=⟨⟩
theorem te16399041904156120809:True:=⟨⟩
theorem tw16399041904156120809:True:=⟨⟩
theorem tw3099028762173249120:True:=⟨⟩
theorem tw4330714995216229150:True:=⟨⟩
theorem tw11205381182128516676:True:=⟨⟩
theorem tw2627217545292287488:True:=⟨⟩
theorem tw10600602912925474164:True:=⟨⟩
theorem tw1513771815573588388:True:=⟨⟩
theorem tw787199350832070968:True:=⟨⟩
theorem tw2007485458778411217:True:=⟨⟩
theorem tw3346486490293172794:True:=⟨⟩
theorem tw9971498654485456160:True:=⟨⟩
theorem tw15569665269706000517:True:=⟨⟩
theorem tw392089420723084990:True:=⟨⟩
theorem tw15468982743474145713:True:=⟨⟩
theorem tw4210345275923443622:True:=⟨⟩
theorem tw17036173772315633644:True:=⟨⟩
theorem tw6007866944648550028:True:=⟨⟩
theorem tw16356483518107430829:True:=⟨⟩
theorem tw6132036677919842425:True:=⟨⟩
theorem tw1974203363846266652:True:=⟨⟩
theorem tw13791010470396433873:True:=⟨⟩
theorem tw15451558809639809846:True:=⟨⟩
theorem tw12892471772886757449:True:=⟨⟩
theorem tw1706229892932645748:True:=⟨⟩
theorem tw9984636028048394779:True:=⟨⟩
theorem tw6089921344863982548:True:=⟨⟩
theorem tw11737034497632456131:True:=⟨⟩
theorem tw8162215675467930881:True:=⟨⟩
theorem tw15272707499896190949:True:=⟨⟩
theorem tw741732057696238828:True:=⟨⟩
theorem tw15767900367237070923:True:=⟨⟩
theorem tw16806637679613738425:True:=⟨⟩
theorem tw1907224874988452716:True:=⟨⟩
theorem tw357231454395803324:True:=⟨⟩
theorem tw9648935402044126863:True:=⟨⟩
theorem tw13266778306094331880:True:=⟨⟩
theorem tw3237953983168408930:True:=⟨⟩
theorem tw4713352662959764131:True:=⟨⟩
theorem tw116518746424061669:True:=⟨⟩
theorem tw6438830478681835831:True:=⟨⟩
theorem tw10796334952391614063:True:=⟨⟩
theorem tw4964915679186517431:True:=⟨⟩
theorem tw6298321218220680924:True:=⟨⟩
theorem tw8835780739348066308:True:=⟨⟩
theorem tw15933550960279317802:True:=⟨⟩
theorem tw10727320413283263925:True:=⟨⟩
theorem tw9068790125519235453:True:=⟨⟩
theorem tw12417929802549104725:True:=⟨⟩
theorem tw12882429723721414262:True:=⟨⟩
theorem tw16555462888567954387:True:=⟨⟩
theorem tw5953757258047831965:True:=⟨⟩
theorem tw4467661282471098934:True:=⟨⟩
theorem tw17622910242556566780:True:=⟨⟩
theorem tw2835592697670231728:True:=⟨⟩
theorem tw4945808440492136247:True:=⟨⟩
theorem tw2076909410388795502:True:=⟨⟩
theorem tw4470518429582634569:True:=⟨⟩
theorem tw13539034954205976198:True:=⟨⟩
theorem tw9691649951377996400:True:=⟨⟩
theorem tw708582736669264905:True:=⟨⟩
theorem tw15957539671834116511:True:=⟨⟩
theorem tw2771519132669563326:True:=⟨⟩
theorem tw10019185066132100627:True:=⟨⟩
theorem tw2844428113524861867:True:=⟨⟩
theorem tw12689878543735348135:True:=⟨⟩
theorem tw7761878783044591165:True:=⟨⟩
theorem tw3539804016995283080:True:=⟨⟩
theorem tw10982495793196960525:True:=⟨⟩
theorem tw499209228422724894:True:=⟨⟩
theorem tw8720493788007312153:True:=⟨⟩
theorem tw2675890437196237458:True:=⟨⟩
theorem tw51021276955398761:True:=⟨⟩
theorem tw8955156488803374377:True:=⟨⟩
theorem tw3109513879354615964:True:=⟨⟩
theorem tw11151205342813018959:True:=⟨⟩
theorem tw1447441276849754825:True:=⟨⟩
theorem tw16443739672747333594:True:=⟨⟩
theorem tw17972526456790087001:True:=⟨⟩
theorem tw898515663998398883:True:=⟨⟩
theorem tw7473131869350235526:True:=⟨⟩
theorem tw5904608769256844721:True:=⟨⟩
theorem tw11528367819075286563:True:=⟨⟩
theorem tw14326624627558053332:True:=⟨⟩
theorem tw1994578502574225951:True:=⟨⟩
theorem tw17247321865775776824:True:=⟨⟩
theorem tw3140914018633595483:True:=⟨⟩
theorem tw9161027007695701610:True:=⟨⟩
theorem tw9812310280111381553:True:=⟨⟩
theorem tw17353069149779606198:True:=⟨⟩
theorem tw15027353893026057280:True:=⟨⟩
theorem tw15673398034493555576:True:=⟨⟩
theorem tw7490377318622763222:True:=⟨⟩
theorem tw534032944592431360:True:=⟨⟩
theorem tw5049976231541506465:True:=⟨⟩
theorem tw10867775459516005385:True:=⟨⟩
theorem tw1364706517392962220:True:=⟨⟩
theorem tw8118392629798283130:True:=⟨⟩
theorem tw1054463338804804145:True:=⟨⟩
theorem tw13779094683620048448:True:=⟨⟩
theorem tw11024137671393185822:True:=⟨⟩
theorem tw11369405471076205431:True:=⟨⟩
theorem tw17952035013698066739:True:=⟨⟩
theorem tw7057478346553227797:True:=⟨⟩
theorem tw5650896485334396015:True:=⟨⟩
theorem tw360554897994656099:True:=⟨⟩
theorem tw6266046418996690350:True:=⟨⟩
theorem tw5239117886389737005:True:=⟨⟩
theorem tw18114308621225616887:True:=⟨⟩
theorem tw7246350485471786313:True:=⟨⟩
theorem tw1960661439007764453:True:=⟨⟩
theorem tw6658290021031357660:True:=⟨⟩
theorem tw12960415414371491636:True:=⟨⟩
theorem tw1886433053410028283:True:=⟨⟩
theorem tw10525869203022519396:True:=⟨⟩
theorem tw7639268573744549805:True:=⟨⟩
theorem tw1676442602077341370:True:=⟨⟩
theorem tw10850081192425564384:True:=⟨⟩
theorem tw2432844727903247463:True:=⟨⟩
theorem tw5029339804701106804:True:=⟨⟩
theorem tw537853035499063409:True:=⟨⟩
theorem tw17266331065484178816:True:=⟨⟩
theorem tw5303680510056681224:True:=⟨⟩
theorem tw5299359219882111994:True:=⟨⟩
theorem tw12628842843379080129:True:=⟨⟩
theorem tw4326536742547682874:True:=⟨⟩
theorem tw3991549386760560459:True:=⟨⟩
theorem tw13961117308056784446:True:=⟨⟩
theorem tw3964176369926235648:True:=⟨⟩
theorem tw2771535952721573319:True:=⟨⟩
theorem tw17880059266622035988:True:=⟨⟩
theorem tw6038008876636435907:True:=⟨⟩
theorem tw16641075053540902939:True:=⟨⟩
theorem tw211132272159879592:True:=⟨⟩
theorem tw9570523444585063009:True:=⟨⟩
theorem tw16059469724499321701:True:=⟨⟩
theorem tw6781519739736949626:True:=⟨⟩
theorem tw16894327591018313402:True:=⟨⟩
theorem tw18223536882615710041:True:=⟨⟩
theorem tw15404996451565298313:True:=⟨⟩
theorem tw13691398828998706283:True:=⟨⟩
theorem tw11665296400815682378:True:=⟨⟩
theorem tw2083496044381618183:True:=⟨⟩
theorem tw9685592700217434457:True:=⟨⟩
theorem tw11655875128710239403:True:=⟨⟩
theorem tw13926134347543231686:True:=⟨⟩
theorem tw14383594345070333052:True:=⟨⟩
theorem tw10839089782535904647:True:=⟨⟩
theorem tw8824930565640070802:True:=⟨⟩
theorem tw9741252670995978316:True:=⟨⟩
theorem tw8603174983051253291:True:=⟨⟩
theorem tw18183730732649437410:True:=⟨⟩
theorem tw13484491678028138744:True:=⟨⟩
theorem tw4643729033709593597:True:=⟨⟩
theorem tw712045719530600053:True:=⟨⟩
theorem tw18272780709535827625:True:=⟨⟩
theorem tw17654415747833234815:True:=⟨⟩
theorem tw17463645123990812320:True:=⟨⟩
theorem tw7432318775103089220:True:=⟨⟩
theorem tw13017592054002857006:True:=⟨⟩
theorem tw1715685870561635846:True:=⟨⟩
theorem tw16678250945012797268:True:=⟨⟩
theorem tw18282160427858314560:True:=⟨⟩
theorem tw16211477485612431952:True:=⟨⟩
theorem tw1590371035063324378:True:=⟨⟩
theorem tw14672789326349872741:True:=⟨⟩
theorem tw4680347848018734473:True:=⟨⟩
theorem tw11032053391346576948:True:=⟨⟩
theorem tw8405609687643058775:True:=⟨⟩
theorem tw12104878066722903119:True:=⟨⟩
theorem tw12452685466119304867:True:=⟨⟩
theorem tw2518059709562597636:True:=⟨⟩
theorem tw15250883816739798188:True:=⟨⟩
theorem tw18380247263599769848:True:=⟨⟩
theorem tw1134858581258969641:True:=⟨⟩
theorem tw8042510189880076348:True:=⟨⟩
theorem tw15024057565358977086:True:=⟨⟩
theorem tw6065992884257127645:True:=⟨⟩
theorem tw1638684394883039416:True:=⟨⟩
theorem tw7007112602117865237:True:=⟨⟩
theorem tw13207002858003225471:True:=⟨⟩
theorem tw12375545063044548702:True:=⟨⟩
theorem tw4279406872913817762:True:=⟨⟩
theorem tw11127061599481588770:True:=⟨⟩
theorem tw16849537675955887406:True:=⟨⟩
theorem tw13022782821274002403:True:=⟨⟩
theorem tw2737633342838936371:True:=⟨⟩
theorem tw18096828385816058297:True:=⟨⟩
theorem tw13512611209506846289:True:=⟨⟩
theorem tw3963319034175808350:True:=⟨⟩
theorem tw14095076619857621185:True:=⟨⟩
theorem tw11905798081935521063:True:=⟨⟩
theorem tw12758809291967175848:True:=⟨⟩
theorem tw10853546404205721276:True:=⟨⟩
theorem tw16762677941108348949:True:=⟨⟩
theorem tw8111582619283013260:True:=⟨⟩
theorem tw3464488217901245340:True:=⟨⟩
theorem tw17375508392430960119:True:=⟨⟩
theorem tw13790377958298035330:True:=⟨⟩
theorem tw17185093061046011176:True:=⟨⟩
theorem tw8107736059808803849:True:=⟨⟩
theorem tw4581809722015332519:True:=⟨⟩
theorem tw8689027249948977082:True:=⟨⟩
theorem tw13902553268000827753:True:=⟨⟩
theorem tw3742796506941302306:True:=⟨⟩
theorem tw13822529148699581795:True:=⟨⟩
theorem tw3253081479167910141:True:=⟨⟩
theorem tw13286607359040754982:True:=⟨⟩
theorem tw3817501406693708600:True:=⟨⟩
theorem tw17420143084377957712:True:=⟨⟩
theorem tw10710106108008076964:True:=⟨⟩
theorem tw166793154215292277:True:=⟨⟩
theorem tw6444982108804633706:True:=⟨⟩
theorem tw4985304484007162202:True:=⟨⟩
theorem tw2208728284839377384:True:=⟨⟩
theorem tw15494372391961917975:True:=⟨⟩
theorem tw6031548074563884991:True:=⟨⟩
theorem tw4226802749203194797:True:=⟨⟩
theorem tw7634767590169259036:True:=⟨⟩
theorem tw7526261395663085101:True:=⟨⟩
theorem tw9047488430556178223:True:=⟨⟩
theorem tw5921107753406666198:True:=⟨⟩
theorem tw767474372397653504:True:=⟨⟩
theorem tw13481789648428522364:True:=⟨⟩
theorem tw9949552026751653013:True:=⟨⟩
theorem tw5924489766873703261:True:=⟨⟩
theorem tw8206237029129774252:True:=⟨⟩
theorem tw7878868939170125668:True:=⟨⟩
theorem tw4673098255639730968:True:=⟨⟩
theorem tw17879633195188038059:True:=⟨⟩
theorem tw16207089945212156291:True:=⟨⟩
theorem tw9492781099007624447:True:=⟨⟩
theorem tw10518039588202864476:True:=⟨⟩
theorem tw11009089407718894082:True:=⟨⟩
theorem tw8425238175955083596:True:=⟨⟩
theorem tw3500805739740420760:True:=⟨⟩
theorem tw10997445226057008463:True:=⟨⟩
theorem tw17885931135424455065:True:=⟨⟩
theorem tw5856039634685893189:True:=⟨⟩
theorem tw13604506074692573605:True:=⟨⟩
theorem tw11172878630557927651:True:=⟨⟩
theorem tw9401644502438641495:True:=⟨⟩
theorem tw15603054789253103459:True:=⟨⟩
theorem tw11251823406618423180:True:=⟨⟩
theorem tw1433530037511908314:True:=⟨⟩
theorem tw9260615816421511645:True:=⟨⟩
theorem tw3428070848807575752:True:=⟨⟩
theorem tw11498608815126404020:True:=⟨⟩
theorem tw1726855695726113473:True:=⟨⟩
theorem tw10482803329344337052:True:=⟨⟩
theorem tw4058994717925814858:True:=⟨⟩
theorem tw4603421115336977021:True:=⟨⟩
theorem tw8551772015389861679:True:=⟨⟩
theorem tw14753494303169334948:True:=⟨⟩
theorem tw10335572124247593407:True:=⟨⟩
theorem tw7044713080641828274:True:=⟨⟩
theorem tw10075243931590381516:True:=⟨⟩
theorem tw7535087532767052372:True:=⟨⟩
theorem tw15138641909144286842:True:=⟨⟩
theorem tw10187496033256700740:True:=⟨⟩
theorem tw15973231984600437386:True:=⟨⟩
theorem tw7363630412292573471:True:=⟨⟩
theorem tw833024074525626674:True:=⟨⟩
theorem tw12303793615537467890:True:=⟨⟩
theorem tw13560143415573519958:True:=⟨⟩
theorem tw1639195822971844357:True:=⟨⟩
theorem tw5284309891784192077:True:=⟨⟩
theorem tw7143542242069364355:True:=⟨⟩
theorem tw18011098231066106294:True:=⟨⟩
theorem tw9328818052259397734:True:=⟨⟩
theorem tw7740438093792792086:True:=⟨⟩
theorem tw13161504892737823456:True:=⟨⟩
theorem tw1362272386329700053:True:=⟨⟩
theorem tw8055680452862197276:True:=⟨⟩
theorem tw11913469290906656927:True:=⟨⟩
theorem tw11160441473411956466:True:=⟨⟩
theorem tw5238860193007959126:True:=⟨⟩
theorem tw14575528195191641618:True:=⟨⟩
theorem tw8945033189190076583:True:=⟨⟩
theorem tw15541992318897751760:True:=⟨⟩
theorem tw1092925676353818869:True:=⟨⟩
theorem tw2679056181833887034:True:=⟨⟩
theorem tw1767250983682313835:True:=⟨⟩
theorem tw7902740944452845548:True:=⟨⟩
theorem tw17858467462528229518:True:=⟨⟩
theorem tw6187279101577456196:True:=⟨⟩
theorem tw16469832171323366434:True:=⟨⟩
theorem tw7547470292449004818:True:=⟨⟩
theorem tw366008973791360745:True:=⟨⟩
theorem tw7916559305598312516:True:=⟨⟩
theorem tw5409913970474673016:True:=⟨⟩
theorem tw17370848007698952904:True:=⟨⟩
theorem tw3776755014961032695:True:=⟨⟩
theorem tw1277565385593394676:True:=⟨⟩
theorem tw2764664930790223615:True:=⟨⟩
theorem tw17264659089701848350:True:=⟨⟩
theorem tw7893020486462544561:True:=⟨⟩
theorem tw14288896199409947131:True:=⟨⟩
theorem tw8833674116770241398:True:=⟨⟩
theorem tw14198565842701468243:True:=⟨⟩
theorem tw15630739195719357720:True:=⟨⟩
theorem tw10421056743780557718:True:=⟨⟩
theorem tw2658837974065513682:True:=⟨⟩
theorem tw4269720215263470246:True:=⟨⟩
theorem tw11967370342819483542:True:=⟨⟩
theorem tw10269833733258060357:True:=⟨⟩
theorem tw12332633179869319925:True:=⟨⟩
theorem tw16408943350490548588:True:=⟨⟩
theorem tw7218534697776220550:True:=⟨⟩
theorem tw8919833555066828665:True:=⟨⟩
theorem tw3496144876575600313:True:=⟨⟩
theorem tw17252468821830946905:True:=⟨⟩
theorem tw6675109158927053343:True:=⟨⟩
theorem tw10588488481525367314:True:=⟨⟩
theorem tw13351250252319177378:True:=⟨⟩
theorem tw1937876533640027149:True:=⟨⟩
theorem tw5301613431016005911:True:=⟨⟩
theorem tw7738459285810078389:True:=⟨⟩
theorem tw4682992736483048709:True:=⟨⟩
theorem tw1225237885048138350:True:=⟨⟩
theorem tw13790346035120076054:True:=⟨⟩
theorem tw13556457934808202958:True:=⟨⟩
theorem tw7662408056196659813:True:=⟨⟩
theorem tw17678230837101287213:True:=⟨⟩
theorem tw3913161848191336316:True:=⟨⟩
theorem tw578252118738969633:True:=⟨⟩
theorem tw4770886964910315735:True:=⟨⟩
theorem tw5209090825912191385:True:=⟨⟩
theorem tw1795617713543052595:True:=⟨⟩
theorem tw6646441725359647161:True:=⟨⟩
theorem tw15324153363977441524:True:=⟨⟩
theorem tw17510171215962745033:True:=⟨⟩
theorem tw16278914532337491773:True:=⟨⟩
theorem tw5996889733103164157:True:=⟨⟩
theorem tw9666337107193655957:True:=⟨⟩
theorem tw13085867914758969506:True:=⟨⟩
theorem tw13266996217617561441:True:=⟨⟩
theorem tw14442450512973567363:True:=⟨⟩
theorem tw1846073952422257600:True:=⟨⟩
theorem tw11774381212130499179:True:=⟨⟩
theorem tw296103877199857460:True:=⟨⟩
theorem tw3652245554520495529:True:=⟨⟩
theorem tw3190456738068394126:True:=⟨⟩
theorem tw7998073636173654796:True:=⟨⟩
theorem tw15570486545793384187:True:=⟨⟩
theorem tw17352684776553496781:True:=⟨⟩
theorem tw5037449363047048084:True:=⟨⟩
theorem tw16658284447426502466:True:=⟨⟩
theorem tw8119363925429358762:True:=⟨⟩
theorem tw7412362815120369000:True:=⟨⟩
theorem tw13934687112509138600:True:=⟨⟩
theorem tw11795030526683237517:True:=⟨⟩
theorem tw16169214231134523565:True:=⟨⟩
theorem tw6887293292683901436:True:=⟨⟩
theorem tw6901974379387025641:True:=⟨⟩
theorem tw5327276881736772037:True:=⟨⟩
theorem tw14825223608665432603:True:=⟨⟩
theorem tw15609855830260256883:True:=⟨⟩
theorem tw12451151508322925009:True:=⟨⟩
theorem tw6062928318314812658:True:=⟨⟩
theorem tw12243320458639534632:True:=⟨⟩
theorem tw17361084409618133667:True:=⟨⟩
theorem tw6210773002460833340:True:=⟨⟩
theorem tw16883473404392063840:True:=⟨⟩
theorem tw16657772043239701242:True:=⟨⟩
theorem tw14310789198594445423:True:=⟨⟩
theorem tw9434559544206668068:True:=⟨⟩
theorem tw2167356622330198260:True:=⟨⟩
theorem tw13064438927472318183:True:=⟨⟩
theorem tw15890789545191351303:True:=⟨⟩
end PySem.W.Fast
abbrev Sb.pk:PySem.Program:=PySem.Challenge.rw_surebook_k29_left_weights.prog
theorem Sb.bn1 {C:List PySem.Value->Prop}{us:List PySem.Value}(h:us.length=1)(k:∀ a0,C [a0]):C us:=by
 obtain⟨a0,rfl⟩:=Sb.len1 h
 exact k _
theorem Sb.bn2 {C:List PySem.Value->Prop}{us:List PySem.Value}(h:us.length=2)(k:∀ a0 a1,C [a0,a1]):C us:=by
 obtain⟨a0,a1,rfl⟩:=Sb.len2 h
 exact k _ _
theorem Sb.bn3 {C:List PySem.Value->Prop}{us:List PySem.Value}(h:us.length=3)(k:∀ a0 a1 a2,C [a0,a1,a2]):C us:=by
 obtain⟨a0,a1,a2,rfl⟩:=Sb.len3 h
 exact k _ _ _
theorem Sb.bn4 {C:List PySem.Value->Prop}{us:List PySem.Value}(h:us.length=4)(k:∀ a0 a1 a2 a3,C [a0,a1,a2,a3]):C us:=by
 obtain⟨a0,a1,a2,a3,rfl⟩:=Sb.len4 h
 exact k _ _ _ _
theorem Sb.bn5 {C:List PySem.Value->Prop}{us:List PySem.Value}(h:us.length=5)(k:∀ a0 a1 a2 a3 a4,C [a0,a1,a2,a3,a4]):C us:=by
 obtain⟨a0,a1,a2,a3,a4,rfl⟩:=Sb.len5 h
 exact k _ _ _ _ _
open PySem PySem.W PyProof.Rows
set_option maxRecDepth 100000 in
set_option maxHeartbeats 0 in
theorem PySem.Challenge.cw_surebook_k29_left_weights_holds : PySem.Challenge.rw_surebook_k29_left_weights.Holds := by
 w_on; o_law; k_head; (case hw=>w_witness2)
 k_fill
 refine L2.Cl (l:=PySem.Challenge.rw_surebook_k29_left_weights) (n:=63) (k:=12) (x:="_law_script") (CX:=L2.CX0) (sp:=Sb.spLaw) (sr:=true) rfl (by decide) rfl ⟨fun _=>rfl,by decide,by decide⟩ (fun w h Y=>PySem.W.kIn_of Y) ?F (fun K H a ns hl hO hS=>⟨a,ns,rfl,hS,fun _=>rfl⟩) (fun _ _ _ _ z=>z)
 case F =>
  intro w mg fa h KX G hmg
  have n_len:mg "len"=none:=by
   refine' JD KX G ?z
   (case z=>k_is)
  have n_abs:mg "abs"=none:=by
   refine' JD KX G ?z
   (case z=>k_is)
  have n_isinstance:mg "isinstance"=none:=by
   refine' JD KX G ?z
   (case z=>k_is)
  have n_int:mg "int"=none:=by
   refine' JD KX G ?z
   (case z=>k_is)
  have n_bool:mg "bool"=none:=by
   refine' JD KX G ?z
   (case z=>k_is)
  have n_tuple:mg "tuple"=none:=by
   refine' JD KX G ?z
   (case z=>k_is)
  have n_range:mg "range"=none:=by
   refine' JD KX G ?z
   (case z=>k_is)
  have n_zip:mg "zip"=none:=by
   refine' JD KX G ?z
   (case z=>k_is)
  have n_enumerate:mg "enumerate"=none:=by
   refine' JD KX G ?z
   (case z=>k_is)
  have n_any:mg "any"=none:=by
   refine' JD KX G ?z
   (case z=>k_is)
  have n_sum:mg "sum"=none:=by
   refine' JD KX G ?z
   (case z=>k_is)
  have n_list:mg "list"=none:=by
   refine' JD KX G ?z
   (case z=>k_is)
  have n_min:mg "min"=none:=by
   refine' JD KX G ?z
   (case z=>k_is)
  have T:Sb.Blt mg:=⟨n_len,n_abs,n_isinstance,n_int,n_bool,n_tuple,n_range,n_zip,n_enumerate,n_any,n_sum,n_list,n_min⟩
  have m9:Sb.Def (L2.KOf KX) mg "is_whole" Sb.kD ["value"]:=by
   dsimp only [L2.KOf]
   refine' Sb.Zo KX G ?a ?l ?c ?k (fun _ _ _ _ _ _ _ h=>by obtain⟨a0,rfl⟩:=Sb.len1 h;rfl)
   case a|l|c|k=>k_is
  have mX:Sb.Def (L2.KOf KX) mg "common_divisor" Sb.j7 ["one","other"]:=by
   dsimp only [L2.KOf]
   refine' Sb.Zo KX G ?a ?l ?c ?k (fun _ _ _ _ _ _ _ h=>by obtain⟨a0,a1,rfl⟩:=Sb.len2 h;rfl)
   case a|l|c|k=>k_is
  have pG:Sb.Def (L2.KOf KX) mg "lowest" Sb.lD ["top","bottom"]:=by
   dsimp only [L2.KOf]
   refine' Sb.Zo KX G ?a ?l ?c ?k (fun _ _ _ _ _ _ _ h=>by obtain⟨a0,a1,rfl⟩:=Sb.len2 h;rfl)
   case a|l|c|k=>k_is
  have p8:Sb.Def (L2.KOf KX) mg "ratio" Sb.lB ["top","bottom"]:=by
   dsimp only [L2.KOf]
   refine' Sb.Zo KX G ?a ?l ?c ?k (fun _ _ _ _ _ _ _ h=>by obtain⟨a0,a1,rfl⟩:=Sb.len2 h;rfl)
   case a|l|c|k=>k_is
  have rF:Sb.Def (L2.KOf KX) mg "plus" Sb.mE ["one","other"]:=by
   dsimp only [L2.KOf]
   refine' Sb.Zo KX G ?a ?l ?c ?k (fun _ _ _ _ _ _ _ h=>by obtain⟨a0,a1,rfl⟩:=Sb.len2 h;rfl)
   case a|l|c|k=>k_is
  have qA:Sb.Def (L2.KOf KX) mg "minus" Sb.lY ["one","other"]:=by
   dsimp only [L2.KOf]
   refine' Sb.Zo KX G ?a ?l ?c ?k (fun _ _ _ _ _ _ _ h=>by obtain⟨a0,a1,rfl⟩:=Sb.len2 h;rfl)
   case a|l|c|k=>k_is
  have pX:Sb.Def (L2.KOf KX) mg "times" Sb.lQ ["one","other"]:=by
   dsimp only [L2.KOf]
   refine' Sb.Zo KX G ?a ?l ?c ?k (fun _ _ _ _ _ _ _ h=>by obtain⟨a0,a1,rfl⟩:=Sb.len2 h;rfl)
   case a|l|c|k=>k_is
  have pF:Sb.Def (L2.KOf KX) mg "parted" Sb.kZ ["one","other"]:=by
   dsimp only [L2.KOf]
   refine' Sb.Zo KX G ?a ?l ?c ?k (fun _ _ _ _ _ _ _ h=>by obtain⟨a0,a1,rfl⟩:=Sb.len2 h;rfl)
   case a|l|c|k=>k_is
  have m7:Sb.Def (L2.KOf KX) mg "common_bottom" Sb.kB ["several"]:=by
   dsimp only [L2.KOf]
   refine' Sb.Zo KX G ?a ?l ?c ?k (fun _ _ _ _ _ _ _ h=>by obtain⟨a0,rfl⟩:=Sb.len1 h;rfl)
   case a|l|c|k=>k_is
  have oQ:Sb.Def (L2.KOf KX) mg "whole_by" Sb.kX ["several","bottom"]:=by
   dsimp only [L2.KOf]
   refine' Sb.Zo KX G ?a ?l ?c ?k (fun _ _ _ _ _ _ _ h=>by obtain⟨a0,a1,rfl⟩:=Sb.len2 h;rfl)
   case a|l|c|k=>k_is
  have nP:Sb.Def (L2.KOf KX) mg "multiplied" Sb.kC ["row","by"]:=by
   dsimp only [L2.KOf]
   refine' Sb.Zo KX G ?a ?l ?c ?k (fun _ _ _ _ _ _ _ h=>by obtain⟨a0,a1,rfl⟩:=Sb.len2 h;rfl)
   case a|l|c|k=>k_is
  have pE:Sb.Def (L2.KOf KX) mg "turned" Sb.lA ["row"]:=by
   dsimp only [L2.KOf]
   refine' Sb.Zo KX G ?a ?l ?c ?k (fun _ _ _ _ _ _ _ h=>by obtain⟨a0,rfl⟩:=Sb.len1 h;rfl)
   case a|l|c|k=>k_is
  have pW:Sb.Def (L2.KOf KX) mg "total" Sb.lP ["worths"]:=by
   dsimp only [L2.KOf]
   refine' Sb.Zo KX G ?a ?l ?c ?k (fun _ _ _ _ _ _ _ h=>by obtain⟨a0,rfl⟩:=Sb.len1 h;rfl)
   case a|l|c|k=>k_is
  have rG:Sb.Def (L2.KOf KX) mg "mean" Sb.mF ["weights","row"]:=by
   dsimp only [L2.KOf]
   refine' Sb.Zo KX G ?a ?l ?c ?k (fun _ _ _ _ _ _ _ h=>by obtain⟨a0,a1,rfl⟩:=Sb.len2 h;rfl)
   case a|l|c|k=>k_is
  have qB:Sb.Def (L2.KOf KX) mg "is_in" Sb.mI ["world","event"]:=by
   dsimp only [L2.KOf]
   refine' Sb.Zo KX G ?a ?l ?c ?k (fun _ _ _ _ _ _ _ h=>by obtain⟨a0,a1,rfl⟩:=Sb.len2 h;rfl)
   case a|l|c|k=>k_is
  have sC:Sb.Def (L2.KOf KX) mg "cut" Sb.mS ["row","event"]:=by
   dsimp only [L2.KOf]
   refine' Sb.Zo KX G ?a ?l ?c ?k (fun _ _ _ _ _ _ _ h=>by obtain⟨a0,a1,rfl⟩:=Sb.len2 h;rfl)
   case a|l|c|k=>k_is
  have oU:Sb.Def (L2.KOf KX) mg "paper_of" Sb.k4 ["count","event"]:=by
   dsimp only [L2.KOf]
   refine' Sb.Zo KX G ?a ?l ?c ?k (fun _ _ _ _ _ _ _ h=>by obtain⟨a0,a1,rfl⟩:=Sb.len2 h;rfl)
   case a|l|c|k=>k_is
  have rJ:Sb.Def (L2.KOf KX) mg "gain" Sb.mK ["offer","word"]:=by
   dsimp only [L2.KOf]
   refine' Sb.Zo KX G ?a ?l ?c ?k (fun _ _ _ _ _ _ _ h=>by obtain⟨a0,a1,rfl⟩:=Sb.len2 h;rfl)
   case a|l|c|k=>k_is
  have oP:Sb.Def (L2.KOf KX) mg "words_of" Sb.kW ["offer"]:=by
   dsimp only [L2.KOf]
   refine' Sb.Zo KX G ?a ?l ?c ?k (fun _ _ _ _ _ _ _ h=>by obtain⟨a0,rfl⟩:=Sb.len1 h;rfl)
   case a|l|c|k=>k_is
  have p0:Sb.Def (L2.KOf KX) mg "sides" Sb.lV ["offers"]:=by
   dsimp only [L2.KOf]
   refine' Sb.Zo KX G ?a ?l ?c ?k (fun _ _ _ _ _ _ _ h=>by obtain⟨a0,rfl⟩:=Sb.len1 h;rfl)
   case a|l|c|k=>k_is
  have qC:Sb.Def (L2.KOf KX) mg "gains" Sb.l8 ["offers"]:=by
   dsimp only [L2.KOf]
   refine' Sb.Zo KX G ?a ?l ?c ?k (fun _ _ _ _ _ _ _ h=>by obtain⟨a0,rfl⟩:=Sb.len1 h;rfl)
   case a|l|c|k=>k_is
  have oV:Sb.Def (L2.KOf KX) mg "as_ratio" Sb.k9 ["multiple"]:=by
   dsimp only [L2.KOf]
   refine' Sb.Zo KX G ?a ?l ?c ?k (fun _ _ _ _ _ _ _ h=>by obtain⟨a0,rfl⟩:=Sb.len1 h;rfl)
   case a|l|c|k=>k_is
  have pC:Sb.Def (L2.KOf KX) mg "come_to" Sb.lN ["count","rows","multiples"]:=by
   dsimp only [L2.KOf]
   refine' Sb.Zo KX G ?a ?l ?c ?k (fun _ _ _ _ _ _ _ h=>by obtain⟨a0,a1,a2,rfl⟩:=Sb.len3 h;rfl)
   case a|l|c|k=>k_is
  have nF:Sb.Def (L2.KOf KX) mg "first_table" Sb.kF ["lines"]:=by
   dsimp only [L2.KOf]
   refine' Sb.Zo KX G ?a ?l ?c ?k (fun _ _ _ _ _ _ _ h=>by obtain⟨a0,rfl⟩:=Sb.len1 h;rfl)
   case a|l|c|k=>k_is
  have o9:Sb.Def (L2.KOf KX) mg "line_of" Sb.lE ["table","owner"]:=by
   dsimp only [L2.KOf]
   refine' Sb.Zo KX G ?a ?l ?c ?k (fun _ _ _ _ _ _ _ h=>by obtain⟨a0,a1,rfl⟩:=Sb.len2 h;rfl)
   case a|l|c|k=>k_is
  have pJ:Sb.Def (L2.KOf KX) mg "end_of" Sb.mC ["table","thing"]:=by
   dsimp only [L2.KOf]
   refine' Sb.Zo KX G ?a ?l ?c ?k (fun _ _ _ _ _ _ _ h=>by obtain⟨a0,a1,rfl⟩:=Sb.len2 h;rfl)
   case a|l|c|k=>k_is
  have n6:Sb.Def (L2.KOf KX) mg "number_at" Sb.kO ["table","owner","thing"]:=by
   dsimp only [L2.KOf]
   refine' Sb.Zo KX G ?a ?l ?c ?k (fun _ _ _ _ _ _ _ h=>by obtain⟨a0,a1,a2,rfl⟩:=Sb.len3 h;rfl)
   case a|l|c|k=>k_is
  have pB:Sb.Def (L2.KOf KX) mg "helping" Sb.k8 ["table","owner"]:=by
   dsimp only [L2.KOf]
   refine' Sb.Zo KX G ?a ?l ?c ?k (fun _ _ _ _ _ _ _ h=>by obtain⟨a0,a1,rfl⟩:=Sb.len2 h;rfl)
   case a|l|c|k=>k_is
  have nQ:Sb.Def (L2.KOf KX) mg "goes_ahead" Sb.kH ["table","column","one","other"]:=by
   dsimp only [L2.KOf]
   refine' Sb.Zo KX G ?a ?l ?c ?k (fun _ _ _ _ _ _ _ h=>by obtain⟨a0,a1,a2,a3,rfl⟩:=Sb.len4 h;rfl)
   case a|l|c|k=>k_is
  have n9:Sb.Def (L2.KOf KX) mg "going_out" Sb.kS ["table","column"]:=by
   dsimp only [L2.KOf]
   refine' Sb.Zo KX G ?a ?l ?c ?k (fun _ _ _ _ _ _ _ h=>by obtain⟨a0,a1,rfl⟩:=Sb.len2 h;rfl)
   case a|l|c|k=>k_is
  have oS:Sb.Def (L2.KOf KX) mg "replaced" Sb.kK ["numbers","place","number"]:=by
   dsimp only [L2.KOf]
   refine' Sb.Zo KX G ?a ?l ?c ?k (fun _ _ _ _ _ _ _ h=>by obtain⟨a0,a1,a2,rfl⟩:=Sb.len3 h;rfl)
   case a|l|c|k=>k_is
  have qD:Sb.Def (L2.KOf KX) mg "freed" Sb.l9 ["line","key_line","column","bottom"]:=by
   dsimp only [L2.KOf]
   refine' Sb.Zo KX G ?a ?l ?c ?k (fun _ _ _ _ _ _ _ h=>by obtain⟨a0,a1,a2,a3,rfl⟩:=Sb.len4 h;rfl)
   case a|l|c|k=>k_is
  have oA:Sb.Def (L2.KOf KX) mg "exchanged" Sb.kI ["table","place","column"]:=by
   dsimp only [L2.KOf]
   refine' Sb.Zo KX G ?a ?l ?c ?k (fun _ _ _ _ _ _ _ h=>by obtain⟨a0,a1,a2,rfl⟩:=Sb.len3 h;rfl)
   case a|l|c|k=>k_is
  have pK:Sb.Def (L2.KOf KX) mg "driven" Sb.lM ["table","owner"]:=by
   dsimp only [L2.KOf]
   refine' Sb.Zo KX G ?a ?l ?c ?k (fun _ _ _ _ _ _ _ h=>by obtain⟨a0,a1,rfl⟩:=Sb.len2 h;rfl)
   case a|l|c|k=>k_is
  have nM:Sb.Def (L2.KOf KX) mg "whole_line" Sb.kG ["row","end"]:=by
   dsimp only [L2.KOf]
   refine' Sb.Zo KX G ?a ?l ?c ?k (fun _ _ _ _ _ _ _ h=>by obtain⟨a0,a1,rfl⟩:=Sb.len2 h;rfl)
   case a|l|c|k=>k_is
  have pY:Sb.Def (L2.KOf KX) mg "start" Sb.lS ["count","rows","event","goal"]:=by
   dsimp only [L2.KOf]
   refine' Sb.Zo KX G ?a ?l ?c ?k (fun _ _ _ _ _ _ _ h=>by obtain⟨a0,a1,a2,a3,rfl⟩:=Sb.len4 h;rfl)
   case a|l|c|k=>k_is
  have mV:Sb.Def (L2.KOf KX) mg "shown_multiples" Sb.j6 ["count","rows","table","owner","bottom"]:=by
   dsimp only [L2.KOf]
   refine' Sb.Zo KX G ?a ?l ?c ?k (fun _ _ _ _ _ _ _ h=>by obtain⟨a0,a1,a2,a3,a4,rfl⟩:=Sb.len5 h;rfl)
   case a|l|c|k=>k_is
  have pZ:Sb.Def (L2.KOf KX) mg "solve" Sb.lT ["count","rows","event","aim"]:=by
   dsimp only [L2.KOf]
   refine' Sb.Zo KX G ?a ?l ?c ?k (fun _ _ _ _ _ _ _ h=>by obtain⟨a0,a1,a2,a3,rfl⟩:=Sb.len4 h;rfl)
   case a|l|c|k=>k_is
  have pH:Sb.Def (L2.KOf KX) mg "judged" Sb.lJ ["count","offers"]:=by
   dsimp only [L2.KOf]
   refine' Sb.Zo KX G ?a ?l ?c ?k (fun _ _ _ _ _ _ _ h=>by obtain⟨a0,a1,rfl⟩:=Sb.len2 h;rfl)
   case a|l|c|k=>k_is
  have m5:Sb.Def (L2.KOf KX) mg "refuse_beaten" Sb.j8 ["count","offers"]:=by
   dsimp only [L2.KOf]
   refine' Sb.Zo KX G ?a ?l ?c ?k (fun _ _ _ _ _ _ _ h=>by obtain⟨a0,a1,rfl⟩:=Sb.len2 h;rfl)
   case a|l|c|k=>k_is
  have m6:Sb.Def (L2.KOf KX) mg "greatest_left" Sb.kA ["count","offers","event","row"]:=by
   dsimp only [L2.KOf]
   refine' Sb.Zo KX G ?a ?l ?c ?k (fun _ _ _ _ _ _ _ h=>by obtain⟨a0,a1,a2,a3,rfl⟩:=Sb.len4 h;rfl)
   case a|l|c|k=>k_is
  have pA:Sb.Def (L2.KOf KX) mg "learned" Sb.k6 ["count","offers","event","row"]:=by
   dsimp only [L2.KOf]
   refine' Sb.Zo KX G ?a ?l ?c ?k (fun _ _ _ _ _ _ _ h=>by obtain⟨a0,a1,a2,a3,rfl⟩:=Sb.len4 h;rfl)
   case a|l|c|k=>k_is
  have pI:Sb.Def (L2.KOf KX) mg "folded" Sb.lK ["row","weights","outside"]:=by
   dsimp only [L2.KOf]
   refine' Sb.Zo KX G ?a ?l ?c ?k (fun _ _ _ _ _ _ _ h=>by obtain⟨a0,a1,a2,rfl⟩:=Sb.len3 h;rfl)
   case a|l|c|k=>k_is
  have oR:Sb.Def (L2.KOf KX) mg "unfolded" Sb.kJ ["loads","weights","outside"]:=by
   dsimp only [L2.KOf]
   refine' Sb.Zo KX G ?a ?l ?c ?k (fun _ _ _ _ _ _ _ h=>by obtain⟨a0,a1,a2,rfl⟩:=Sb.len3 h;rfl)
   case a|l|c|k=>k_is
  have rH:Sb.Def (L2.KOf KX) mg "left" Sb.mG ["count","offers","event","weights"]:=by
   dsimp only [L2.KOf]
   refine' Sb.Zo KX G ?a ?l ?c ?k (fun _ _ _ _ _ _ _ h=>by obtain⟨a0,a1,a2,a3,rfl⟩:=Sb.len4 h;rfl)
   case a|l|c|k=>k_is
  have oH:Sb.Def (L2.KOf KX) mg "_law_cell" Sb.mM ["_law_script","_law_k"]:=by
   dsimp only [L2.KOf]
   refine' Sb.Zo KX G ?a ?l ?c ?k (fun _ _ _ _ _ _ _ h=>by obtain⟨a0,a1,rfl⟩:=Sb.len2 h;rfl)
   case a|l|c|k=>k_is
  have nR:Sb.Def (L2.KOf KX) mg "_law_whole" Sb.lO ["_law_found"]:=by
   dsimp only [L2.KOf]
   refine' Sb.Zo KX G ?a ?l ?c ?k (fun _ _ _ _ _ _ _ h=>by obtain⟨a0,rfl⟩:=Sb.len1 h;rfl)
   case a|l|c|k=>k_is
  have o0:Sb.Def (L2.KOf KX) mg "_law_bag" Sb.mT ["_law_script","_law_at"]:=by
   dsimp only [L2.KOf]
   refine' Sb.Zo KX G ?a ?l ?c ?k (fun _ _ _ _ _ _ _ h=>by obtain⟨a0,a1,rfl⟩:=Sb.len2 h;rfl)
   case a|l|c|k=>k_is
  have oB:Sb.Def (L2.KOf KX) mg "_law_take" Sb.mD ["_law_bag_here","_law_many"]:=by
   dsimp only [L2.KOf]
   refine' Sb.Zo KX G ?a ?l ?c ?k (fun _ _ _ _ _ _ _ h=>by obtain⟨a0,a1,rfl⟩:=Sb.len2 h;rfl)
   case a|l|c|k=>k_is
  have oY:Sb.Def (L2.KOf KX) mg "_law_low" Sb.mQ ["_law_top","_law_bottom"]:=by
   dsimp only [L2.KOf]
   refine' Sb.Zo KX G ?a ?l ?c ?k (fun _ _ _ _ _ _ _ h=>by obtain⟨a0,a1,rfl⟩:=Sb.len2 h;rfl)
   case a|l|c|k=>k_is
  have oC:Sb.Def (L2.KOf KX) mg "_law_plus" Sb.lZ ["_law_one","_law_other"]:=by
   dsimp only [L2.KOf]
   refine' Sb.Zo KX G ?a ?l ?c ?k (fun _ _ _ _ _ _ _ h=>by obtain⟨a0,a1,rfl⟩:=Sb.len2 h;rfl)
   case a|l|c|k=>k_is
  have nW:Sb.Def (L2.KOf KX) mg "_law_minus" Sb.lH ["_law_one","_law_other"]:=by
   dsimp only [L2.KOf]
   refine' Sb.Zo KX G ?a ?l ?c ?k (fun _ _ _ _ _ _ _ h=>by obtain⟨a0,a1,rfl⟩:=Sb.len2 h;rfl)
   case a|l|c|k=>k_is
  have nS:Sb.Def (L2.KOf KX) mg "_law_times" Sb.lG ["_law_one","_law_other"]:=by
   dsimp only [L2.KOf]
   refine' Sb.Zo KX G ?a ?l ?c ?k (fun _ _ _ _ _ _ _ h=>by obtain⟨a0,a1,rfl⟩:=Sb.len2 h;rfl)
   case a|l|c|k=>k_is
  have m8:Sb.Def (L2.KOf KX) mg "_law_is_ratio" Sb.k7 ["_law_found"]:=by
   dsimp only [L2.KOf]
   refine' Sb.Zo KX G ?a ?l ?c ?k (fun _ _ _ _ _ _ _ h=>by obtain⟨a0,rfl⟩:=Sb.len1 h;rfl)
   case a|l|c|k=>k_is
  have nI:Sb.Def (L2.KOf KX) mg "_law_is_row" Sb.l6 ["_law_found","_law_count"]:=by
   dsimp only [L2.KOf]
   refine' Sb.Zo KX G ?a ?l ?c ?k (fun _ _ _ _ _ _ _ h=>by obtain⟨a0,a1,rfl⟩:=Sb.len2 h;rfl)
   case a|l|c|k=>k_is
  have nG:Sb.Def (L2.KOf KX) mg "_law_parted" Sb.lC ["_law_one","_law_other"]:=by
   dsimp only [L2.KOf]
   refine' Sb.Zo KX G ?a ?l ?c ?k (fun _ _ _ _ _ _ _ h=>by obtain⟨a0,a1,rfl⟩:=Sb.len2 h;rfl)
   case a|l|c|k=>k_is
  have oE:Sb.Def (L2.KOf KX) mg "_law_mean" Sb.l5 ["_law_weights_here","_law_row_here"]:=by
   dsimp only [L2.KOf]
   refine' Sb.Zo KX G ?a ?l ?c ?k (fun _ _ _ _ _ _ _ h=>by obtain⟨a0,a1,rfl⟩:=Sb.len2 h;rfl)
   case a|l|c|k=>k_is
  have oZ:Sb.Def (L2.KOf KX) mg "_law_cut" Sb.mH ["_law_row_here","_law_event_here"]:=by
   dsimp only [L2.KOf]
   refine' Sb.Zo KX G ?a ?l ?c ?k (fun _ _ _ _ _ _ _ h=>by obtain⟨a0,a1,rfl⟩:=Sb.len2 h;rfl)
   case a|l|c|k=>k_is
  have nX:Sb.Def (L2.KOf KX) mg "_law_gains" Sb.lI ["_law_offers"]:=by
   dsimp only [L2.KOf]
   refine' Sb.Zo KX G ?a ?l ?c ?k (fun _ _ _ _ _ _ _ h=>by obtain⟨a0,rfl⟩:=Sb.len1 h;rfl)
   case a|l|c|k=>k_is
  have oG:Sb.Def (L2.KOf KX) mg "_law_fits" Sb.mL ["_law_weights_here","_law_rows"]:=by
   dsimp only [L2.KOf]
   refine' Sb.Zo KX G ?a ?l ?c ?k (fun _ _ _ _ _ _ _ h=>by obtain⟨a0,a1,rfl⟩:=Sb.len2 h;rfl)
   case a|l|c|k=>k_is
  have nU:Sb.Def (L2.KOf KX) mg "_law_small" Sb.lU ["_law_bag_here"]:=by
   dsimp only [L2.KOf]
   refine' Sb.Zo KX G ?a ?l ?c ?k (fun _ _ _ _ _ _ _ h=>by obtain⟨a0,rfl⟩:=Sb.len1 h;rfl)
   case a|l|c|k=>k_is
  have oW:Sb.Def (L2.KOf KX) mg "_law_row" Sb.mO ["_law_bag_here","_law_count"]:=by
   dsimp only [L2.KOf]
   refine' Sb.Zo KX G ?a ?l ?c ?k (fun _ _ _ _ _ _ _ h=>by obtain⟨a0,a1,rfl⟩:=Sb.len2 h;rfl)
   case a|l|c|k=>k_is
  have nA:Sb.Def (L2.KOf KX) mg "_law_weights" Sb.kY ["_law_bag_here","_law_count"]:=by
   dsimp only [L2.KOf]
   refine' Sb.Zo KX G ?a ?l ?c ?k (fun _ _ _ _ _ _ _ h=>by obtain⟨a0,a1,rfl⟩:=Sb.len2 h;rfl)
   case a|l|c|k=>k_is
  have nY:Sb.Def (L2.KOf KX) mg "_law_event" Sb.mB ["_law_bag_here","_law_count"]:=by
   dsimp only [L2.KOf]
   refine' Sb.Zo KX G ?a ?l ?c ?k (fun _ _ _ _ _ _ _ h=>by obtain⟨a0,a1,rfl⟩:=Sb.len2 h;rfl)
   case a|l|c|k=>k_is
  have oX:Sb.Def (L2.KOf KX) mg "_law_mid" Sb.mP ["_law_weights_here","_law_row_here","_law_event_here"]:=by
   dsimp only [L2.KOf]
   refine' Sb.Zo KX G ?a ?l ?c ?k (fun _ _ _ _ _ _ _ h=>by obtain⟨a0,a1,a2,rfl⟩:=Sb.len3 h;rfl)
   case a|l|c|k=>k_is
  have nV:Sb.Def (L2.KOf KX) mg "_law_offer" Sb.lX ["_law_bag_here","_law_weights_here","_law_loose"]:=by
   dsimp only [L2.KOf]
   refine' Sb.Zo KX G ?a ?l ?c ?k (fun _ _ _ _ _ _ _ h=>by obtain⟨a0,a1,a2,rfl⟩:=Sb.len3 h;rfl)
   case a|l|c|k=>k_is
  have mZ:Sb.Def (L2.KOf KX) mg "_law_fair_book" Sb.kU ["_law_script","_law_count"]:=by
   dsimp only [L2.KOf]
   refine' Sb.Zo KX G ?a ?l ?c ?k (fun _ _ _ _ _ _ _ h=>by obtain⟨a0,a1,rfl⟩:=Sb.len2 h;rfl)
   case a|l|c|k=>k_is
  have nC:Sb.Def (L2.KOf KX) mg "_law_learned" Sb.kR ["_law_weights_here","_law_event_here"]:=by
   dsimp only [L2.KOf]
   refine' Sb.Zo KX G ?a ?l ?c ?k (fun _ _ _ _ _ _ _ h=>by obtain⟨a0,a1,rfl⟩:=Sb.len2 h;rfl)
   case a|l|c|k=>k_is
  have mY:Sb.Def (L2.KOf KX) mg "_law_not_above" Sb.kP ["_law_count","_law_offers","_law_event_here","_law_row_here","_law_told"]:=by
   dsimp only [L2.KOf]
   refine' Sb.Zo KX G ?a ?l ?c ?k (fun _ _ _ _ _ _ _ h=>by obtain⟨a0,a1,a2,a3,a4,rfl⟩:=Sb.len5 h;rfl)
   case a|l|c|k=>k_is
  have oF:Sb.Def (L2.KOf KX) mg "_law_good" Sb.mJ ["_law_count","_law_offers","_law_event_here","_law_weights_here","_law_told"]:=by
   dsimp only [L2.KOf]
   refine' Sb.Zo KX G ?a ?l ?c ?k (fun _ _ _ _ _ _ _ h=>by obtain⟨a0,a1,a2,a3,a4,rfl⟩:=Sb.len5 h;rfl)
   case a|l|c|k=>k_is
  have mU:Sb.Con (L2.KOf KX) mg "NOUGHT" (0,1):=by
   dsimp only [L2.KOf]
   refine' Sb.Z1v KX G ?a ?l
   case a|l=>k_is
  have rA:Sb.Con (L2.KOf KX) mg "ONE" (1,1):=by
   dsimp only [L2.KOf]
   refine' Sb.Z1v KX G ?a ?l
   case a|l=>k_is
  have sB:Sb.ConI mg "ROW" 0:=by
   refine' Sb.Rl KX G ?a
   (case a=>k_is)
  have rC:Sb.ConI mg "ASK" 1:=by
   refine' Sb.Rl KX G ?a
   (case a=>k_is)
  have rB:Sb.ConI mg "BID" 2:=by
   refine' Sb.Rl KX G ?a
   (case a=>k_is)
  have pV:Sb.ConI mg "EVENT" 3:=by
   refine' Sb.Rl KX G ?a
   (case a=>k_is)
  have y_Table:Sb.TabHere (L2.KOf KX) mg:=by
   dsimp only [L2.KOf]
   refine' Sb.Z4i KX G ?xaC ?xa1 ?xi1 ?xl1 ?xc1 ?xk1 ?xpg ?xhd ?xpo ?xsa ?xmk ?xkc ?xnL ?xnO ?xnH ?xnB ?xnK
   case xaC|xa1|xi1|xl1|xc1|xk1|xpg|xhd|xpo|xsa|xmk|xkc|xnL|xnO|xnH|xnB|xnK=>k_is
  obtain ⟨C_T,f_T,fd_T,tc,mk_T,F_T,b_T⟩:=y_Table
  have y_NC:Sb.ErrHere (L2.KOf KX) mg "NoChance" "NoChance.__init__" Sb.j9:=by
   dsimp only [L2.KOf]
   refine' Sb.Z5u KX G ?zNCeC ?zNCe1 ?zNCei ?zNCel ?zNCec ?zNCek ?zNCes ?zNCen ?zNCeg ?zNCeh ?zNCex ?zNCet ?zNCeu ?zNCem ?zNCeb ?zNCeo ?zNCebd
   case zNCeC|zNCe1|zNCei|zNCel|zNCec|zNCek|zNCes|zNCen|zNCeg|zNCeh|zNCex|zNCet|zNCeu|zNCem|zNCeb=>k_is
   (case zNCeo=>kernel_rfl); (case zNCebd=>exact fun us hl=>by obtain ⟨a0,a1,rfl⟩:=Sb.len2 hl; rfl)
  obtain ⟨C_NC,f_NC,fd_NC,x_NC,F_NC,b_NC,s_NC,r_NC⟩:=y_NC
  have y_base:Sb.BaseHere (L2.KOf KX) mg "SureError":=by
   dsimp only [L2.KOf]
   refine' Sb.Z3x KX G ?ba ?br ?bt ?bf
   case ba|br|bt|bf=>k_is
  obtain ⟨D_SE,B_SE⟩:=y_base
  have y_cNC:Sb.CatchHere (L2.KOf KX) mg "NoChance" "NoChance":=by
   dsimp only [L2.KOf]
   refine' Sb.Z1z KX G ?xcNCa ?xcNCb ?xcNCn ?xcNCe ?xcNCi ?xcNCk
   (case xcNCa=>k_is); (case xcNCb=>k_is); (case xcNCn=>k_is); (case xcNCe=>k_is); (case xcNCi=>kit_is); (case xcNCk=>k_is)
  obtain ⟨Cq_cNC,D_cNC,k_cNC,m_cNC,n_cNC⟩:=y_cNC
  obtain rfl:=Sb.Z0z m_cNC x_NC.bd
  obtain rfl:=Sb.Z0z n_cNC x_NC.bd
  refine' Sb.Z5i (st:=Sb.mR) KX G hmg ?a ?l ?c ?k ?b ?ok
  case a|l|c|k=>k_is
  (case b=>exact fun s v=>.of_eq rfl)
  case ok =>
   intro fd base F
   have rD:=Sb.Z69 (P:=Sb.pk) (w:=w) (base:=base) mX T
   have oK:=Sb.Z0g pG rD
   have sI:=Sb.Db (P:=Sb.pk) (w:=w) (base:=base) m9 T
   have pO:=Sb.Z0d p8 sI oK
   have qZ:=Sb.Z0p m7 rD
   have sD:=Sb.D8 (P:=Sb.pk) (w:=w) (base:=base) oQ
   have pS:=Sb.Z5a (P:=Sb.pk) (w:=w) (base:=base) qB
   have o8:=Sb.Z6b sC T pS mU
   have sG:=Sb.Z32 oU o8 rA
   have c_T:Sb.HasT _ w (L2.KOf KX) mg base C_T:=⟨f_T,fd_T,mk_T,Sb.Z2x (P:=Sb.pk) (w:=w) (base:=base) F_T tc,b_T⟩
   have qW:=Sb.Z3b nF T tc c_T
   have nE:=Sb.Z0h (P:=Sb.pk) (w:=w) (base:=base) o9 tc
   have qY:=Sb.Z3e pJ tc nE
   have qR:=Sb.Z33 n6 tc nE
   have rS:=Sb.De pB T tc nE
   have rV:=Sb.Z5b (P:=Sb.pk) (w:=w) (base:=base) nQ tc
   have qU:=Sb.Z38 n9 T tc rV
   have pM:=Sb.Kx (P:=Sb.pk) (w:=w) (base:=base) oS T
   have qV:=Sb.Z39 qD T pM
   have r8:=Sb.Z5d oA tc c_T qV pM
   have pT:=Sb.Z0o pK tc rS r8 qU
   have sO:=Sb.Ld nM qZ sD
   have qL:=Sb.Z2y pY sO sG qW
   have qP:=Sb.Z30 mV T tc qR qZ pO
   have nD:=Sb.Z0b pZ T tc o8 qL pT qP qZ pO qY
   have o5:=Sb.Z34 qA oK
   have rX:=Sb.Z5c rJ T o5 o8 sB rC rB pV
   have qF:=Sb.Z2t (P:=Sb.pk) (w:=w) (base:=base) oP rC rB
   have qN:=Sb.Z2z p0 T qF
   have n5:=Sb.Z0m qC qN rX
   have qK:=Sb.Z2w pX oK
   have pP:=Sb.Nq nP T qK
   have pL:=Sb.Z0a pE pP
   have pU:=Sb.Z5e (P:=Sb.pk) (w:=w) (base:=base) oH T
   have qH:=Sb.Z2u (P:=Sb.pk) (w:=w) (base:=base) nR T
   have oM:=Sb.Z67 (P:=Sb.pk) (w:=w) (base:=base) oY T
   have rE:=Sb.Z5f o0 pU
   have m4:=Sb.Z53 (P:=Sb.pk) (w:=w) (base:=base) oB
   have nZ:=Sb.Z36 oC oM
   have oN:=Sb.Z0j nW oM
   have pQ:=Sb.Z0i nS oM
   have rQ:=Sb.Z59 m8 T qH oM
   have oJ:=Sb.Z0e nG oM
   have mW:=Sb.Z0k oE T nZ pQ
   have n0:=Sb.Z58 (P:=Sb.pk) (w:=w) (base:=base) oZ T
   have qM:=Sb.Z0c nU m4 oM
   have sF:=Sb.Z54 oW T qM
   have nJ:=Sb.Kv nA T m4 oM
   have o7:=Sb.Z3d nY T m4
   have sH:=Sb.Z66 oX T mW n0 oJ
   have qQ:=Sb.Z0f nV T m4 o7 sF sH oM nZ oN
   have qX:=Sb.Z3c mZ T rE m4 nJ qQ
   have rM:=Sb.Z56 rF oK
   have qJ:=Sb.Z2v pW rM mU
   have o6:=Sb.Z35 rG T qZ sD pO
   have sJ:=Sb.J1 (P:=Sb.pk) (w:=w) (base:=base) m9 T
   have sM:=Sb.Z6c oV sJ
   have sA:=Sb.Z0q pC T sM o6
   have rN:=Sb.Z31 pF oK
   have rY:=Sb.Z0n pI T o6
   have sE:=Sb.Kw oR T qJ rN pP rA
   have qT:=Sb.Qh (P:=Sb.pk) (w:=w) (base:=base) F_NC T x_NC B_SE s_NC
   have pD:=Sb.D9 pH nD n5 mU
   have rK:=Sb.Z55 m5 pD
   have sK:=Sb.Z6a m6 x_NC qT b_NC nD n5 rK
   have o4:=Sb.Kz pA sK pL o5 mU
   have rP:=Sb.Z57 rH T pS n5 rY nD o8 sA sE mU
   have pR:=Sb.Df nX oN n0
   have qS:=Sb.Z37 nI T rQ
   have rZ:=Sb.Z3a oG T nZ mW
   have oO:=Sb.J0 nC T mW n0 oJ
   have rO:=Sb.Ky mY T k_cNC n_cNC mW o4
   have rT:=Sb.Z0l oF T rP qS rZ pR oO n0 mW rO
   exact Sb.Z68 F T pU rE m4 qX o7 nJ oO rT
#print axioms PySem.Challenge.cw_surebook_k29_left_weights_holds
