import PyProof.Rows.All
import Wide.All
import OpenK.AllK
import Wide.FinOn
import Lean
import PyProof.EqAt
import PyProof.EqKinds
import PyProof.TupleCall
import PySem.Challenge.RW_surebook_k39_parted
set_option Elab.async false
set_option linter.all false
set_option maxRecDepth 100000
set_option maxHeartbeats 3200000
abbrev TB:=PySem.Str->Option PySem.Value
abbrev TC:=PySem.Value->PySem.Shared->Prop
abbrev TD:=List (PySem.Addr × PySem.Obj)
abbrev TF:=List PySem.Str
abbrev TH:=List PySem.Value
abbrev TJ:=List PySem.Addr
abbrev TK:=List PySem.Expr
abbrev TL:=List PySem.Stmt
abbrev TM:=List PySem.Env
abbrev TN:=Option PySem.Addr
abbrev TQ:=PySem.W.Frag
abbrev TR:=PySem.Program
abbrev TU:=List Int
abbrev TV:=Option (Nat->Bool)
abbrev TW:=Nat->Nat
abbrev TX:=Nat->Int
abbrev UE:List PySem.Str:=["self","multiples"]
abbrev UF:List PySem.Str:=["_law_script","_law_k"]
abbrev UG:List PySem.Str:=["_law_cell_here"]
abbrev UH:List PySem.Str:=["one","other"]
abbrev UI:List PySem.Str:=["top","bottom"]
abbrev UJ:List PySem.Str:=["_law_one","_law_other"]
abbrev UK:List PySem.Str:=["table","owner"]
abbrev UM:List PySem.Str:=["table","thing"]
abbrev UN:List PySem.Str:=["table","owner","thing"]
abbrev UO:List PySem.Str:=["table","column","one","other"]
abbrev UP:List PySem.Str:=["numbers","place","number"]
abbrev UQ:List PySem.Str:=["line","key_line","column","bottom"]
abbrev US:List PySem.Str:=["self","lines","owners","heads","bottom","lack"]
abbrev UT:List PySem.Str:=["table","place","column"]
abbrev UU:List PySem.Str:=["world","event"]
abbrev UV:List PySem.Str:=["row","event"]
abbrev UW:List PySem.Str:=["count","event"]
abbrev UX:List PySem.Str:=["several","bottom"]
abbrev UY:List PySem.Str:=["count","rows","event","goal"]
abbrev UZ:List PySem.Str:=["count","rows","table","owner","bottom"]
abbrev VA:List PySem.Str:=["count","rows","event","aim"]
abbrev VB:List PySem.Str:=["_law_weights_here","_law_row_here"]
abbrev VC:List PySem.Str:=["offers"]
abbrev VD:List PySem.Str:=["_law_bag_here"]
abbrev VE:List PySem.Str:=["_law_bag_here","_law_count"]
abbrev VF:List PySem.Str:=["_law_world","_law_bag_here"]
abbrev VG:List PySem.Str:=["_law_row_here","_law_event_here"]
abbrev VH:List PySem.Str:=["_law_bag_here","_law_count","_law_weights_here"]
abbrev VI:List PySem.Str:=["_law_weights_here","_law_others"]
abbrev VJ:List PySem.Str:=["multiple"]
abbrev VL:List PySem.Str:=["count","rows","multiples"]
abbrev VM:List PySem.Str:=["count","offers","row"]
abbrev VN:List PySem.Str:=["count","one","other"]
abbrev VO:List PySem.Str:=["_law_bag_here","_law_count","_law_most"]
abbrev VP:List PySem.Str:=["_law_k","_law_bag_here","_law_count","_law_weights_here"]
abbrev VQ:List PySem.Str:=["_law_found"]
abbrev VR:List PySem.Str:=["_law_found","_law_due"]
abbrev VS:List PySem.Str:=["_law_weights_here","_law_rows"]
abbrev VT:List PySem.Str:=["_law_count","_law_rows","_law_multiples"]
abbrev VU:List PySem.Str:=["_law_w","_law_rows","_law_multiples","_law_some","_law_k"]
abbrev VV:List PySem.Str:=["_law_count","_law_offers","_law_multiples"]
abbrev VW:List PySem.Str:=["_law_row_here","_law_count"]
abbrev VX:List PySem.Str:=["_law_count","_law_one","_law_other","_law_found"]
abbrev VY:List PySem.Str:=["_law_count","_law_one","_law_other"]
abbrev VZ:List PySem.Str:=["_law_count","_law_some","_law_books"]
abbrev YA:=@PySem.wpAny_bind
abbrev YB:=@PySem.Heap.get?_push_of_some
abbrev YC:=@List.length_map
abbrev YD:=@Nat.le_refl
abbrev YE:=@List.getElem?_eq_some_iff
abbrev YF:=@List.getElem?_map
abbrev YG:=@List.mem_of_getElem?
abbrev YH:=@if_neg
abbrev YI:=@PySem.Heap.lt_size
abbrev YJ:=@if_pos
abbrev YK:=@Option.some.inj
abbrev YL:=@List.mem_append_left
abbrev YM:=@List.take_of_length_le
abbrev YN:=@PySem.wpAny_pure
abbrev YO:=@Bool.false_ne_true
abbrev YQ:=@List.getD_eq_getElem?_getD
abbrev YR:=@Classical.byContradiction
abbrev YS:=@List.length_append
abbrev YT:=@PySem.Heap.get?_push_size
abbrev YU:=@Nat.lt_of_lt_of_le
abbrev YV:=@List.size_toArray
abbrev YW:=@List.mem_cons
abbrev YX:=@Nat.le_trans
abbrev YY:=@List.mem_cons_of_mem
abbrev YZ:=@PyProof.Rows.boot_tuple
abbrev XA:=@PyProof.Rows.boot_list
abbrev XB:=@List.getElem_mem
abbrev XC:=@List.mem_append_right
abbrev XD:=@Nat.ne_of_lt
abbrev XE:=@PySem.F.plainAttrs_list
abbrev XF:=@PyProof.Rows.boot_isinstance
abbrev XG:=@PySem.Paired.length
abbrev XH:=@of_decide_eq_true
abbrev XI:=@List.mem_cons_self
abbrev XJ:=@Ne.symm
abbrev XL:=@Int.mul_comm
abbrev XM:=@List.mem_map
abbrev XN:=@List.getElem?_of_mem
abbrev XO:=@Nat.lt_irrefl
abbrev XQ:=@decide_eq_true
abbrev XR:=@List.map_append
abbrev XS:=@PySem.wpAny_field
abbrev XT:=@PySem.F.slot_list_append
abbrev XU:=@PySem.F.type_list_append
abbrev XV:=@PySem.Heap.get?_update_other
abbrev XW:=@List.getElem?_append_right
abbrev XX:=@Int.mul_pos
abbrev XY:=@PySem.PassesOwn.never
abbrev XZ:=@Nat.le_of_lt
abbrev JA:=@List.getElem?_append_left
abbrev JB:=@PyProof.Rows.callWith_type1
abbrev JC:=@List.not_mem_nil
abbrev JD:=@decide_eq_false
abbrev JE:=@List.lookup_cons
abbrev JF:=@List.mem_append
abbrev JG:=@PySem.W.mg_none_of
abbrev JH:=@Nat.zero_le
abbrev JI:=@PySem.Heap.size_push
abbrev JJ:=@beq_eq_false_iff_ne
abbrev JK:=@List.getElem?_eq_getElem
abbrev JL:=@Nat.lt_of_le_of_lt
abbrev JM:=@PySem.Heap.get?_update_self
abbrev JN:=@PySem.wpAny_holding
abbrev JO:=@PySem.wpAny_loadPart'
abbrev JP:=@List.getElem?_set_self
abbrev JQ:=@List.mem_singleton
abbrev JR:=@List.length_zipWith
abbrev JS:=@PySem.wpAny_callSpecial?_slot
abbrev JT:=@List.length_cons
abbrev JU:=@List.length_take
abbrev JV:=@Int.mul_le_mul_of_nonneg_right
abbrev JW:=@Int.mul_assoc
abbrev JX:=@Int.eq_of_mul_eq_mul_left
abbrev JY:=@Int.natAbs_mul
abbrev JZ:=@Bool.and_eq_true
abbrev GA:=@PySem.F.store_ValueError
abbrev GB:=@List.getElem?_zipWith
abbrev GC:=@PySem.wpAny_loadPart_at
abbrev GD:=@PySem.F.slot_tuple_iterator_next
abbrev GE:=@List.getElem?_set_ne
abbrev GF:=@Nat.pow_le_pow_right
abbrev GG:=@Nat.mul_le_mul_left
abbrev GH:=@PySem.wpAny_seqItems
abbrev GI:=@List.eq_of_mem_replicate
abbrev GJ:=@Int.mul_nonpos_of_nonpos_of_nonneg
abbrev GK:=@Int.mul_one
abbrev GL:=@Nat.mul_le_mul_right
abbrev GM:=@PySem.wpAny_mono
abbrev GN:=@PySem.wpAny_pyIter_list
abbrev GO:=@PySem.W.looks_findIn
abbrev GP:=@Int.mul_zero
abbrev GQ:=@PySem.F.excBase_ValueError
abbrev GR:=@PySem.Heap.SameBut.update
abbrev GS:=@List.append_nil
abbrev GT:=@List.length_replicate
abbrev GU:=@Int.natAbs_dvd_natAbs
abbrev GV:=@PySem.wpAny_call_entry
abbrev GW:=@beq_iff_eq
abbrev GX:=@PySem.wpAny_Call_Name_kw
abbrev GY:=@beq_self_eq_true
abbrev GZ:=@Nat.le_add_right
abbrev qa:=@PySem.wpAny_setField
abbrev qb:=@Bool.eq_iff_iff
abbrev qc:=@List.length_set
abbrev qd:=@Option.map_some
abbrev qe:=@Nat.two_pow_pos
abbrev qf:=@Nat.mul_comm
abbrev qg:=@PySem.Obj.data_mapFields
abbrev qh:=@Bool.false_eq_true
abbrev qi:=@List.mem_range
abbrev qj:=@PySem.wpAny_pyIter_tuple
abbrev qk:=@or_false
abbrev ql:=@Int.eq_of_mul_eq_mul_right
abbrev qo:=@Array.getElem?_eq_some_iff
abbrev qp:=@PySem.boot_len
abbrev qu:=@Int.lt_of_mul_lt_mul_left
abbrev qz:=@PySem.wpAny_passesOwn
abbrev qU:=@PySem.W.kia_one
abbrev qV:=@PySem.wpAny_newObj_type
abbrev qW:=@Int.toNat_natCast
abbrev qX:=@Int.one_mul
abbrev qY:=@PySem.wpAny_truthy_bool
abbrev qZ:=@Nat.ne_of_gt
abbrev z9:=@Nat.le_succ
abbrev zc:=@PySem.codeAny_call_builtin
abbrev zd:=@PySem.wpAny_attempt
abbrev ze:=@Array.length_toList
abbrev zf:=@PySem.mem_of_lookup
abbrev zg:=@List.replicate_succ
abbrev zh:=@PySem.F.attr_ValueError
abbrev zj:=@Int.eq_ofNat_of_zero_le
abbrev zk:=@PySem.wpAny_setField_rec
abbrev zl:=@PySem.F.args_tuple_iterator_next_1
abbrev zm:=@PySem.wpAny_standAt
abbrev zn:=@PySem.Obj.isFreed_of_fields
abbrev zo:=@List.getElem?_toArray
abbrev zq:=@Nat.lt_of_succ_lt
abbrev zt:=@PySem.F.entry_tuple_iterator_next
abbrev zu:=@PySem.W.mg_of
abbrev zv:=@decide_eq_true_eq
abbrev zw:=@Int.mul_lt_mul_of_pos_right
abbrev zx:=@PySem.wpAny_call
abbrev zy:=@Int.mul_nonneg
abbrev zz:=@List.getElem?_range
abbrev zA:=@List.flatMap_append
abbrev zB:=@Option.isSome_iff_exists
abbrev zC:=@PySem.wpAny_comprehension_free
abbrev zD:=@List.mem_filter
abbrev zE:=@PySem.wpAny_execs_nil
abbrev zF:=@PySem.SeqAt.EqAt.same
abbrev zG:=@List.forIn_cons
abbrev zH:=@List.range_succ
abbrev zI:=@Int.emod_nonneg
abbrev zJ:=@PySem.slot_listiter_next
abbrev zK:=@PySem.wpAny_rule
abbrev zL:=@List.mem_filterMap
abbrev zM:=@PySem.SeqAt.EqAt.int_int
abbrev zN:=@Int.emod_lt_of_pos
abbrev zO:=@List.getElem?_replicate
abbrev zP:=@Nat.pow_add
abbrev zQ:=@Nat.le_mul_of_pos_right
abbrev zR:=@PySem.Paired.snoc
abbrev zS:=@PySem.F.slot_list_index
abbrev zT:=@PySem.F.type_list_index
abbrev zU:=@PySem.codeAny_mono
abbrev zV:=@List.flatten_cons
abbrev zW:=@Nat.add_comm
abbrev zX:=@Int.gcd_dvd_right
abbrev zY:=@Int.gcd_comm
abbrev zZ:=@PySem.wpAny_pyIter_enum
abbrev ja:=@Int.zero_mul
abbrev jb:=@List.map_set
abbrev jc:=@Nat.succ.inj
abbrev jd:=@PySem.plainObj_wpAny_Assign_Attribute
abbrev je:=@PyProof.Rows.boot_abs
abbrev jf:=@List.getElem?_eq_none
abbrev jg:=@PyProof.Rows.boot_sum
abbrev jh:=@PySem.wpAny_isInstance
abbrev ji:=@PyProof.Rows.callWith_builtin1
abbrev jj:=@PySem.call_meets
abbrev jk:=@Nat.not_lt
abbrev jm:=@PySem.F.slot_tuple_mul
abbrev jn:=@if_true
abbrev jo:=@List.sum_cons
abbrev jp:=@List.getElem?_mapIdx
abbrev jq:=@List.eq_nil_of_length_eq_zero
abbrev jr:=@List.nodup_cons
abbrev js:=@PySem.F.slot_zip_next
abbrev jt:=@PySem.wpAny_ite_false
abbrev ju:=@PySem.F.slot_int_rmul
abbrev jv:=@List.length_nil
abbrev jw:=@List.filterMap_cons
abbrev jx:=@Int.mul_fdiv_cancel
abbrev jy:=@PySem.wpAny_isSubtype_exc
abbrev jz:=@Int.gcd_pos_of_ne_zero_left
abbrev Y00:=@PySem.isSubtype_stop
abbrev Y01:=@PySem.F.slot_range_iterator_next
abbrev Y02:=@if_false
abbrev Y03:=@PySem.Calls.Name_function_global
abbrev Y04:=@PySem.Calls.spliced_cons
abbrev Y05:=@Nat.eq_of_mul_eq_mul_right
abbrev Y06:=@List.forIn_nil
abbrev Y07:=@PySem.wpAny_letOwnedTupleGo_enum
abbrev Y08:=@PySem.Code.quiet_builtin
abbrev Y09:=@List.getElem?_take
abbrev Y0a:=@Int.gcd_sub_mul_left_left
abbrev Y0b:=@Array.getElem?_eq_getElem
abbrev Y0c:=@PySem.wpAny_binaryOp_repeat_ref
abbrev Y0d:=@Int.le_of_mul_le_mul_left
abbrev Y0e:=@PySem.Obj.cls_mapFields
abbrev Y0f:=@PySem.sizeLine_eq
abbrev Y0g:=@PySem.Calls.spliced_nil
abbrev Y0h:=@List.ext_getElem?
abbrev Y0i:=@Int.gcd_one_right
abbrev Y0j:=@PySem.W.hideAll_get
abbrev Y0k:=@List.map_cons
abbrev Y0l:=@PySem.AutoSeq1.sub_tuple_tuple
abbrev Y0m:=@Nat.add_assoc
abbrev Y0n:=@Nat.lt_succ_self
abbrev Y0o:=@Nat.le_of_not_lt
abbrev Y0p:=@Int.gcd_dvd_left
abbrev Y0q:=@Option.bind_eq_some_iff
abbrev Y0r:=@List.filter_cons_of_pos
abbrev Y0s:=@List.filter_cons_of_neg
abbrev Y0t:=@Nat.le_of_eq
abbrev Y0u:=@PySem.typeIs_int
abbrev Y0v:=@Nat.succ_mul
abbrev Y0w:=@Nat.pow_succ
abbrev Y0x:=@Int.fmod_nonneg_of_pos
abbrev Y0y:=@PyProof.Rows.boot_bool
abbrev Y0z:=@PySem.wpAny_updateSeq
abbrev Y0A:=@List.of_mem_zip
abbrev Y0B:=@PyProof.Rows.boot_int
abbrev Y0C:=@PySem.wpAny_letGo
abbrev Y0D:=@Nat.log2_lt
abbrev Y0E:=@Int.natAbs_neg
abbrev Y0F:=@Nat.mul_le_mul
abbrev Y0G:=@Nat.mul_add
abbrev Y0H:=@Nat.pow_lt_pow_right
abbrev Y0I:=@List.replicate_succ'
abbrev Y0J:=@Nat.pow_le_pow_left
abbrev Y0K:=@List.getElem_of_mem
abbrev Y0L:=@Nat.lt_two_pow_self
abbrev Y0M:=@PySem.wpAny_onRaise
abbrev Y0N:=@PySem.W.looks_subIn
abbrev Y0O:=@Nat.mul_assoc
abbrev Y0P:=@Int.dvd_trans
abbrev Y0Q:=@Array.append_assoc
abbrev Y0R:=@Array.find?_toList
abbrev Y0S:=@Nat.eq_zero_or_pos
abbrev Y0T:=@Int.fmod_lt_of_pos
abbrev Y0U:=@List.getElem?_drop
abbrev Y0V:=@List.filter_append
abbrev Y0W:=@Option.isSome_some
abbrev Y0X:=@List.contains_cons
abbrev Y0Y:=@of_decide_eq_false
abbrev Y0Z:=@Nat.mul_succ
abbrev Y10:=@Nat.lt_or_ge
abbrev Y11:=@Int.mul_add
abbrev Y12:=@Int.le_refl
abbrev Y13:=@Nat.one_mul
abbrev Y14:=@Nat.pow_pos
abbrev Y15:=@Int.neg_mul
abbrev Y16:=@not_or
theorem Sb.sz0:0<=PySem.sizeLine:=by decide
theorem Sb.sz1:1<=PySem.sizeLine:=by decide
theorem Sb.sz2:2<=PySem.sizeLine:=by decide
theorem Sb.sz3:3<=PySem.sizeLine:=by decide
theorem Sb.sz4:4<=PySem.sizeLine:=by decide
theorem Sb.sz5:5<=PySem.sizeLine:=by decide
theorem Sb.sz8:8<=PySem.sizeLine:=by decide
variable {A:PySem.Around}{C e f fI it t:PySem.Addr}{D b:Int}{E:TC}{K:TQ}{Ws Zs ns:TU}{an dd od:TN}{cd ct dc oc pm u:PySem.Value}{env:PySem.Env}{es:TK}{g:TG}{h:PySem.Heap}{its:TH}{j kk:Nat}{mg:TB}{oe:PySem.Obj}{pins qs:TD}{pos pos' tp:PySem.Pos}{prog:TR}{ps:TF}{qual xn:PySem.Str}{s:PySem.Shared}{scope:PySem.Scope}{sr:Bool}{st:PySem.Stmt}{tg:PySem.Expr}{w:PySem.World}
namespace Sb
open PySem PySem.Spec PyProof.Rows
def NoCtx (o:Obj):Prop:=∃ vs,o.data=.fields vs/\vs[2]?=some .none
def Qt (A:Around)(h:Heap):Prop:=A.handled=none \/ ∃ a o,A.handled=some (.ref a)/\h.get? a=some o/\NoCtx o
def QtP (A:Around)(pn:TD):Prop:=A.handled=none \/ ∃ p∈pn,A.handled=some (.ref p.1)/\NoCtx p.2
theorem QtP.at {pn:TD}(q:QtP A pn)(k:∀ p∈pn,h.get? p.1=some p.2):Qt A h :=
 q.imp id λ⟨p,hp,e,n⟩=>⟨p.1,p.2,e,k p hp,n⟩
theorem QtP.sub {pn pm:TD}(q:QtP A pn)(k:∀ p∈pn,p∈pm):QtP A pm:=q.imp id λ⟨p,hp,e,n⟩=>⟨p,k p hp,e,n⟩
theorem Qt.keeps {h':Heap}(q:Qt A h)(k:∀ b o,h.get? b=some o->NoCtx o->h'.get? b=some o):Qt A h':=q.imp id λ⟨a,o,e,g,n⟩=>⟨a,o,e,k a o g n,n⟩
theorem Qt.but {a:Addr}{o:Obj}{f:Obj->Obj}(q:Qt A h)(ha:h.get? a=some o)(n:¬ NoCtx o):Qt A (h.update a f) :=
 q.imp id λ⟨b,u,e,g,m⟩=>⟨b,u,e,(GR ..).extBut b u (λz=>n (by rw[z,ha] at g;cases g;exact m)) g,m⟩
theorem P5:entryFor table "proto.unchain"=some Builtin.«proto.unchain»:=entryFor_of_tree (by kernel_rfl)
section
variable {prog:TR}{w:World}{A:Around}{E:TC}{s:Shared}
theorem K3 {α:Type}{e:Addr}{oe:Obj}{vs:Array Value}{Q:α->Shared->Prop}(hq:Qt A s.heap)(he:s.heap.get? e=some oe)(hd:oe.data=.fields vs)(hz:2<vs.size)(hn:∀ a,A.handled=some (.ref a)->a≠e)
  (h:∀ h':Heap,Heap.SameBut e s.heap h'->(∃ o',h'.get? e=some o'/\o'.cls=oe.cls)->E (.ref e) { s with heap:=h' }):wpAny (model prog w) A (raiseNew (.ref e):Sem α) Q E s:=by
 unfold raiseNew;refine YA (wpAny_handled ?_);rcases hq with hh | ⟨a,o,hh,ha,xs,hx,h2⟩
 ·rw[hh]
  first
   | exact wpAny_throw (h s.heap (Heap.SameBut.refl ..) ⟨_,he,rfl⟩)
   | exact YA (YN (wpAny_throw (h s.heap (Heap.SameBut.refl ..) ⟨_,he,rfl⟩)))
 have ne:=hn a hh;rw[hh];dsimp only;have nb:(Value.ref a != Value.ref e)=true:=by simpa using ne
 rw[YJ nb];refine YA (JN (wpAny_runValue (codeAny_builtin P5 ?_)));show wpAny _ _ (field (.ref a) 2 >>= _) _ _ s;refine YA (XS ha hx (x:=.none) h2 ?_);refine YN ?_;simp only [updateField];refine YA (YA (wpAny_load he ?_));rw[hd];show wpAny _ _ (if 2<vs.size then _ else _) _ _ _;rw[YJ hz];refine wpAny_update he ?_;refine wpAny_throw (h _ (GR ..) ⟨_,JM _ he ?_,?_⟩)
 ·exact zn (qg hd _)
 exact Y0e ..
theorem Rx {α:Type}{Q:α->Shared->Prop}(hq:Qt A s.heap)
  (h:∀ (h':Heap) (e:Addr),(∀ b o,s.heap.get? b=some o->h'.get? b=some o)->(∃ o,h'.get? e=some o/\o.cls=.type "StopIteration")->E (.ref e) { s with heap:=h' }) :
  wpAny (model prog w) A (newExc (.type "StopIteration") [] >>= λe=>(raiseNew e:Sem α)) Q E s:=by
 refine YA ?_;simp only [newExc,newTuple];refine YA (qV ?_ (by size_fits));refine YA (m:=firstArgMember _ _) (wpAny_of_eq (a:=Value.none) (by first | rfl | (simp only [firstArgMember];rfl)) ?_);refine qV ?_ (by size_fits);have sz:∀ (o:Obj),(s.heap.push o).objs.size=s.heap.objs.size+1:=λo=>JI ..;refine K3 (hq.keeps λb o hb _=>YB _ (YB _ hb)) (YT _ rfl) rfl (by simp[ownMembersOf]) (λa ha z=>?_) λh' sb ho=>?_
 ·rcases hq with q | ⟨b,o,q,hb,_⟩
  ·rw[q] at ha;cases ha
  rw[q] at ha
  cases ha;have:=YI hb;rw[z,sz] at this;exact XO _ (zq this)
 refine h h' _ (λb o hb=>?_) ho;refine sb.extBut b o (λz=>?_) (YB _ (YB _ hb));have:=YI hb;rw[z,sz] at this;exact XO _ (zq this)
theorem Qi {l:Addr}{i:Nat}{items}{Q:Option Value->Shared->Prop}(hq:Qt A s.heap)
  (hit:s.heap.IsListIter it l i) (hl:s.heap.IsList l items) (hx:items[i]?=none)
  (hQ:∀ h',Heap.ExtBut it s.heap h'->Q none { s with heap:=h' }):wpAny (model prog w) A (pyNext (.ref it)) Q E s:=by
 obtain⟨o,ho,hc,hd⟩:=id hit;obtain⟨ol,hol,_,nl,hdl⟩:=hl;unfold pyNext;refine YA (zd (JS (name:=Str.ofString "__next__") hit.typeIs zJ
  (GV zJ hit.typeIs entry_listiter_next ?_ (args_listiter_next _))))
 show wpAny _ _ (field (.ref it) 0 >>= _) _ _ s;refine YA (XS ho hd (x:=.ref l) rfl ?_);show wpAny _ _ (if (Value.ref l == Value.none)=true then _ else _) _ _ s;rw[YH (show ¬ ((Value.ref l == Value.none)=true) from YO)];show wpAny _ _ (field (.ref it) 1 >>= _) _ _ s;refine YA (XS ho hd (x:=.int i 0) rfl ?_);show wpAny _ _ (seqItems? (.ref l) >>= _) _ _ s;refine YA (GH hol hdl ?_);simp only [qW,hx];refine YA (zK (YA (qa ho hd (by simp) ?_)));refine Rx (hq:=(hq.but ho λn=>?_)) λh' e k he=>?_
 ·obtain⟨vs,e1,e2⟩:=n;rw[hd] at e1
  cases e1;simp at e2
 obtain⟨oe,h1,h2⟩:=he;refine YA (jh (T:="StopIteration") (b:=true) ⟨_,h1,h2⟩ Y00 ?_);exact YN (hQ _ λb o hb e=>k b o ((GR ..).extBut b o hb e))
theorem Sn {i:Nat}{items}{Q:Option Value->Shared->Prop}(hq:Qt A s.heap)
  (hit:s.heap.IsTupleIter it t i) (ht:s.heap.IsTuple t items) (hx:items[i]?=none)
  (hQ:∀ h',Heap.ExtBut it s.heap h'->Q none { s with heap:=h' }):wpAny (model prog w) A (pyNext (.ref it)) Q E s:=by
 obtain⟨o,ho,hc,hd⟩:=id hit;obtain⟨ol,hol,_,nl,hdl⟩:=ht;unfold pyNext;refine YA (zd (JS (name:=Str.ofString "__next__") hit.typeIs GD
  (GV GD hit.typeIs zt ?_ (zl _))))
 show wpAny _ _ (field (.ref it) 0 >>= _) _ _ s;refine YA (XS ho hd (x:=.ref t) rfl ?_);show wpAny _ _ (if (Value.ref t == Value.none)=true then _ else _) _ _ s;rw[YH (show ¬ ((Value.ref t == Value.none)=true) from YO)];show wpAny _ _ (field (.ref it) 1 >>= _) _ _ s;refine YA (XS ho hd (x:=.int i 0) rfl ?_);show wpAny _ _ (seqItems? (.ref t) >>= _) _ _ s;refine YA (GH hol hdl ?_);simp only [qW,hx];refine YA (zK (YA (qa ho hd (by simp) ?_)));refine Rx (hq:=(hq.but ho λn=>?_)) λh' e k he=>?_
 ·obtain⟨vs,e1,e2⟩:=n;rw[hd] at e1
  cases e1;simp at e2
 obtain⟨oe,h1,h2⟩:=he;refine YA (jh (T:="StopIteration") (b:=true) ⟨_,h1,h2⟩ Y00 ?_);exact YN (hQ _ λb o hb e=>k b o ((GR ..).extBut b o hb e))
theorem Sq {x left step:Int}{Q:Option Value->Shared->Prop}(hq:Qt A s.heap)(hit:IsRangeIter s.heap it x left step)(hleft:left<=0)
  (hQ:∀ h',Heap.ExtBut it s.heap h'->Q none { s with heap:=h' }):wpAny (model prog w) A (pyNext (.ref it)) Q E s:=by
 have hT:s.TypeIs (.ref it) "range_iterator":=⟨_,hit,rfl⟩;unfold pyNext;refine YA (zd (JS (name:=Str.ofString "__next__") hT Y01
  (GV Y01 hT F.entry_range_iterator_next ?_ (F.args_range_iterator_next_1 _))))
 show wpAny _ _ (field (.ref it) 0 >>= _) _ _ s;refine YA (XS hit rfl (x:=rawInt x) rfl ?_);show wpAny _ _ (field (.ref it) 1 >>= _) _ _ s;refine YA (XS hit rfl (x:=rawInt left) rfl ?_);show wpAny _ _ (field (.ref it) 2 >>= _) _ _ s;refine YA (XS hit rfl (x:=rawInt step) rfl ?_);show wpAny _ _ (if left<=0 then _ else _) _ _ s;rw[YJ hleft];refine YA (zK ?_);refine YA ?_;refine Rx (hq:=hq) λh' e k he=>?_;obtain⟨oe,h1,h2⟩:=he;refine YA (jh (T:="StopIteration") (b:=true) ⟨_,h1,h2⟩ Y00 ?_);exact YN (hQ _ λb o hb e=>k b o e)
theorem Qy {items:Array Value}{Q:List Value->Shared->Prop}(hq:Qt A s.heap)(ht:IsTup s.heap t items)
  (hQ:∀ h',Heap.ExtBut s.heap.objs.size s.heap h'->Q items.toList { s with heap:=h' }):wpAny (model prog w) A (unpackItems (.ref t) items.size none) Q E s:=by
 have hlt:t≠s.heap.objs.size:=by obtain⟨o,ho,_⟩:=ht;exact XD (YI ho)
 unfold unpackItems;refine YA ?_;unfold notIterableAtAll;refine YA (wpAny_specialOf ht.typeIs slot_tuple_iter.lookup ?_);refine YN ?_;simp only [qh,Y02];refine YA (JN (iter_tuple ht ?_));refine YA (JN (draw_tuple hlt items.size 0 _ _ ⟨_,YT _ rfl,rfl,rfl⟩ (ht.push _) (by omega) λh₁ hit₁ hs₁=>?_));have hall:List.take items.size (List.drop 0 items.toList)=items.toList:=by
  rw[List.drop_zero];exact YM (by simp)
 rw[hall];rw[YH (by simp)];have ht₁:IsTup h₁ t items:=(ht.push _).extBut hs₁.extBut hlt;have kp:∀ b o,s.heap.get? b=some o->h₁.get? b=some o:=λb o e=>hs₁.extBut b o (λz=>by have:=YI e;rw[z] at this;exact XO _ this) (YB _ e);refine YA (JN (Sn (hq.keeps λb o e _=>kp b o e) hit₁ ht₁ (by simp) λh₂ he₂=>?_));simp only [Option.isSome_none,qh,Y02];refine YN (hQ h₂ λb o hb e=>he₂ b o hb (kp b o e))
theorem Qx {elts:TK}{x1}{pos:Pos}{items:Array Value}{Q:Unit->Shared->Prop}(hq:Qt A s.heap)(ht:IsTup s.heap t items)
  (hn:(assignEach elts env).length=items.size) (hstar:(assignEach elts env).findIdx? (·.1)=none)
  (h:∀ h',Heap.ExtBut s.heap.objs.size s.heap h'->wpAny (model prog w) A (assignInOrder ((assignEach elts env).map (·.2)) items.toList) Q E { s with heap:=h' }) :
  wpAny (model prog w) A (assign (.Tuple elts x1 pos) env (.ref t)) Q E s:=by
 rw[assign_Tuple];refine YA (zm ?_);unfold unpack;rw[hn,hstar];exact YA (JN (Qy hq ht h))
end
theorem Walks.listQ (hq:QtP A qs)(I ax:Addr)(hne:ax≠I)(hqs:∀ p∈qs,p.1≠I)(items:Array Value) :
  Walks prog w A I (I::ax::qs.map Prod.fst) [I] items.size (λi v=>items[i]?=some v) (λi h=>h.IsListIter I ax i/\h.IsList ax items/\∀ p∈qs,h.get? p.1=some p.2) where
 sub:=λb hb=>by simp at hb;simp[hb]
 frame:=λ_ _ _ st hk=>⟨st.1.at λo e=>hk I (by simp) o e,st.2.1.at λo e=>hk ax (by simp) o e,λp hp=>hk p.1 (by simp;exact .inr (.inr ⟨p.2,hp⟩)) p.2 (st.2.2 p hp)⟩
 item:=λi s Q E hi st hQ=>by
  refine wpAny_pyNext_list_item st.1 st.2.1 (x:=items[i]) (by simp[hi]) λh' hit' hs'=>?_;exact hQ _ h' s.toks (by simp[hi]) ⟨hit',st.2.1.extBut hs'.extBut hne,λp hp=>hs'.extBut p.1 p.2 (hqs p hp) (st.2.2 p hp)⟩ λb o hb e=>hs'.extBut b o (λh=>hb (by simp[h])) e
 done:=λs Q E st hQ=>Qi (hq.at st.2.2) st.1 st.2.1 (by simp) λh' he'=>hQ h' s.toks λb o hb e=>he' b o (λh=>hb (by simp[h])) e
 self:=λ_ _ _ _ st hQ=>wpAny_pyIter_listiter st.1 hQ
theorem Rz {prog:TR}{w:World}{A:Around}{I:Addr}{a c:Int}{n:Nat}(i:Nat)(s:Shared)(Q:Option Value->Shared->Prop)(E:TC)(hi:i<n)(st:IsRangeIter s.heap I (a+(i:Nat)*c) ((n:Int) - (i:Nat)) c)
  (hQ:∀ v h' tk,(∃ t,v=Value.int (a+i*c) t)->IsRangeIter h' I (a+((i+1:Nat):Int)*c) ((n:Int) - ((i+1:Nat):Int)) c->(∀ b o,b ∉ [I]->s.heap.get? b=some o->h'.get? b=some o)->Q (some v) { s with heap:=h',toks:=tk }) :
  wpAny (model prog w) A (pyNext (.ref I)) Q E s:=by
 refine wpAny_pyNext_range_item st (by omega) λh' hit' hs'=>?_;refine hQ _ h' _ ⟨_,rfl⟩ ?_ λb o hb e=>hs'.extBut b o (λh=>hb (by simp[h])) e;have e1:a+((i+1:Nat):Int)*c=a+(i:Int)*c+c:=by push_cast;rw[Int.add_mul,qX,Int.add_assoc]
 have e2:(n:Int) - ((i+1:Nat):Int)=(n:Int) - (i:Int) - 1:=by push_cast;omega
 rw[e1,e2];exact hit'
def QtE (A:Around)(h:Heap)(H:Addr->Option α)(fs:TJ):Prop:=A.handled=none \/ ∃ a o,A.handled=some (.ref a)/\h.get? a=some o/\NoCtx o/\H a=none/\a ∉ fs/\∀ v,o.data≠.cell v
def qpin (A:Around)(h:Heap):List (Addr × Obj):=match A.handled with
 | some (.ref a)=>match h.get? a with
  | some o=>[(a,o)]
  | none=>[]
 | _=>[]
theorem QtE.pin {H:Addr->Option α}{fs:TJ}(q:QtE A h H fs):QtP A (qpin A h):=by
 rcases q with q | ⟨a,o,e,g,n,_⟩
 ·exact .inl q
 refine .inr ⟨(a,o),?_,e,n⟩;unfold qpin;rw[e];dsimp only;rw[g];simp
theorem QtE.mem {H:Addr->Option α}{fs:TJ}(q:QtE A h H fs)(p:Addr × Obj)(hp:p∈qpin A h):h.get? p.1=some p.2/\H p.1=none/\p.1 ∉ fs/\∀ v,p.2.data≠.cell v:=by
 rcases q with q | ⟨a,o,e,g,n,h1,h2,h3⟩
 ·unfold qpin at hp;rw[q] at hp
  cases hp
 unfold qpin at hp;rw[e] at hp;dsimp only at hp;rw[g] at hp;obtain rfl:p=(a,o):=by simpa using hp
 exact⟨g,h1,h2,h3⟩
section
variable {prog:TR}{w:World}{A:Around}{E:TC}{s:Shared}
theorem Tg {l:Addr}{i:Nat}{items}{Q:TC}(hq:Qt A s.heap)
  (hit:s.heap.IsListIter it l i) (hl:s.heap.IsList l items) (hx:items[i]?=none)
  (hE:∀ h' e,Heap.ExtBut it s.heap h'->(∃ o,h'.get? e=some o/\o.cls=.type "StopIteration")->E (.ref e) { s with heap:=h' }) :
  wpAny (model prog w) A (Builtin.SmallTypes.nextOf (.ref it)) Q E s:=by
 obtain⟨o,ho,hc,hd⟩:=id hit;obtain⟨ol,hol,_,nl,hdl⟩:=hl;unfold Builtin.SmallTypes.nextOf;refine YA (JS (name:=Str.ofString "__next__") hit.typeIs zJ
  (GV zJ hit.typeIs entry_listiter_next ?_ (args_listiter_next _)))
 show wpAny _ _ (field (.ref it) 0 >>= _) _ _ s;refine YA (XS ho hd (x:=.ref l) rfl ?_);show wpAny _ _ (if (Value.ref l == Value.none)=true then _ else _) _ _ s;rw[YH (show ¬ ((Value.ref l == Value.none)=true) from YO)];show wpAny _ _ (field (.ref it) 1 >>= _) _ _ s;refine YA (XS ho hd (x:=.int i 0) rfl ?_);show wpAny _ _ (seqItems? (.ref l) >>= _) _ _ s;refine YA (GH hol hdl ?_);simp only [qW,hx];refine YA (zK (YA (qa ho hd (by simp) ?_)));refine Rx (hq:=(hq.but ho λn=>?_)) λh' e k he=>?_
 ·obtain⟨vs,e1,e2⟩:=n;rw[hd] at e1
  cases e1;simp at e2
 exact hE _ _ (λb o hb e=>k b o ((GR ..).extBut b o hb e)) he
end
theorem Draws.listQ (hq:QtP A qs)(it l:Addr)(hne:l≠it)(hqs:∀ p∈qs,p.1≠it)(items:Array Value) :
  Draws prog w A it (it::l::qs.map Prod.fst) items.size (λi v=>items[i]?=some v) (λi h=>h.IsListIter it l i/\h.IsList l items/\∀ p∈qs,h.get? p.1=some p.2) where
 live:=λ_ _ st=>let ⟨o,ho,_⟩:=st.1;⟨o,ho⟩
 frame:=λ_ _ _ st hk=>⟨st.1.at λo e=>hk it (by simp) o e,st.2.1.at λo e=>hk l (by simp) o e,λp hp=>hk p.1 (by simp;exact .inr (.inr ⟨p.2,hp⟩)) p.2 (st.2.2 p hp)⟩
 item:=λi s Q E hi st hQ=>by
  refine wpAny_nextOf_list_item st.1 st.2.1 (x:=items[i]) (by simp[hi]) λh' hit' hs'=>?_;exact hQ _ h' s.toks (by simp[hi]) ⟨hit',st.2.1.extBut hs'.extBut hne,λp hp=>hs'.extBut p.1 p.2 (hqs p hp) (st.2.2 p hp)⟩ hs'
 done:=λs Q E st hE=>Tg (hq.at st.2.2) st.1 st.2.1 (by simp) hE
section
variable {prog:TR}{w:World}{A:Around}{E:TC}{s:Shared}{l:Addr}{xs:Array (Int × Tok)}{qs:TD}
theorem Z0a {Q:TC}(hp:∀ p∈qs,s.heap.get? p.1=some p.2)(hl:s.heap.IsList l (intItems xs))
  (h:∀ s₂:Shared,s₂={ s with heap:=s.heap.push { cls:=.type "list_iterator",data:=.fields #[.ref l,.int 0 0] } } →
   (s₂.heap.IsListIter s.heap.objs.size l 0/\s₂.heap.IsList l (intItems xs)/\∀ p∈qs,s₂.heap.get? p.1=some p.2)->(∀ b∈s.heap.objs.size::l::qs.map Prod.fst,b<s₂.heap.objs.size)->l≠s.heap.objs.size->(∀ p∈qs,p.1≠s.heap.objs.size)->Q (.ref s.heap.objs.size) s₂) :
  wpAny (model prog w) A (pyIter (.ref l)) Q E s:=by
 refine iter_intList hl λs₂ e st hb hne=>h s₂ e ⟨st.1,st.2,λp q=>?_⟩ (λb m=>?_) hne λp q=>XD (YI (hp p q))
 ·rw[e];exact YB _ (hp p q)
 rcases YW.mp m with m | m
 ·exact hb b (by simp[m])
 rcases YW.mp m with m | m
 ·exact hb b (by simp[m])
 obtain⟨p,q,rfl⟩:=XM.mp m;rw[e];show _<(s.heap.push _).objs.size;rw[JI];exact Nat.lt_succ_of_lt (YI (hp p q))
theorem Z5t {Q:TC}(hq:QtP A qs)(hp:∀ p∈qs,s.heap.get? p.1=some p.2)(hl:s.heap.IsList l (intItems xs))(hne:0<xs.size)
  (h:∀ v h' tk,(intItems xs)[argBest (λi j=>decide (numAt xs i<numAt xs j)) (xs.size - 1)]?=some v->(∀ b o,s.heap.get? b=some o->h'.get? b=some o)->Q v { s with heap:=h',toks:=tk }) :
  wpAny (model prog w) A (call (.builtin "min") [.ref l]) Q E s:=by
 refine call_min_walk (Z0a hp hl λs₂ e st hfp hlI hqI=>?_);subst e;refine⟨_,_,_,_,_,_,_,rfl,Walks.listQ (A:=A.in1) hq _ l hlI hqI (intItems xs),st,hfp,by simpa [intItems] using hne,CmpOf.ints_lt (numAt xs) (λ_ _=>intItems_at),λv h' tk hP hk=>?_⟩;exact h v h' tk (by simpa [intItems] using hP) (old_kept hk)
theorem Z5a {Q:TC}(hq:QtP A qs)(hp:∀ p∈qs,s.heap.get? p.1=some p.2)(hl:s.heap.IsList l (intItems xs))
  (h:∀ h' tk t',(∀ b o,s.heap.get? b=some o->h'.get? b=some o)->Q (.int (preSum (numAt xs) xs.size) t') { s with heap:=h',toks:=tk }) :
  wpAny (model prog w) A (call (.builtin "sum") [.ref l]) Q E s:=by
 refine call_sum_walkG (Z0a hp hl λs₂ e st hfp hlI hqI=>?_);subst e;refine⟨_,_,_,_,_,_,numAt xs,rfl,Walks.listQ (A:=A.in1) hq _ l hlI hqI (intItems xs),st,hfp,(λ_ _=>intItems_at),λh' tk t' hk=>?_⟩;have:=h h' tk t' (old_kept hk)
 simpa [intItems] using this
end
theorem Walks.rangeQ (hq:QtP A qs)(I:Addr)(hqs:∀ p∈qs,p.1≠I)(a c:Int)(n:Nat) :
  Walks prog w A I (I::qs.map Prod.fst) [I] n (λi v=>∃ t,v=.int (a+i*c) t) (λi h=>IsRangeIter h I (a+(i:Nat)*c) ((n:Int) - (i:Nat)) c/\∀ p∈qs,h.get? p.1=some p.2) where
 sub:=λb hb=>by simp at hb;simp[hb]
 frame:=λ_ _ _ st hk=>⟨hk I (by simp) _ st.1,λp hp=>hk p.1 (by simp;exact .inr ⟨p.2,hp⟩) p.2 (st.2 p hp)⟩
 item:=λi s Q E hi st hQ=>by
  refine Rz i s _ _ hi st.1 λv h' tk hv st' hk=>hQ v h' tk hv ⟨st',λp hp=>hk p.1 p.2 (by simp[hqs p hp]) (st.2 p hp)⟩ λb o hb e=>hk b o hb e
 done:=λs Q E st hQ=>Sq (hq.at st.2) st.1 (by omega) λh' he'=>hQ h' s.toks λb o hb e=>he' b o (λh=>hb (by simp[h])) e
 self:=λ_ _ _ _ st hQ=>wpAny_pyIter_rangeiter st.1 hQ
section
variable {prog:TR}{w:World}{A:Around}{s:Shared}
theorem Qn {R:Result->Shared->Prop}{r:Addr}{a c:Int}{t u v:Tok}{n:Nat}(hq:QtP A qs)(hp:∀ p∈qs,s.heap.get? p.1=some p.2)(hr:IsRange s.heap r a b c t u v)(hsmall:Builtin.Range.small a b c=true)
  (hn:Builtin.Range.rangeSize a b c=n) (hlen:n<=2 ^ 24) (S:Addr) (res:Value) (c₀:Nat) (hS:s.heap.get? S=some { cls:=.type "list",data:=.seq #[] c₀ }) (hSq:∀ p∈qs,p.1≠S)
  (hR:∀ h' tk acc' c',(∀ b o,b≠S->s.heap.get? b=some o->h'.get? b=some o)->h'.get? S=some { cls:=.type "list",dict:=none,data:=.seq acc' c',slots:=#[] } →
   ItemsOf (λi v=>∃ t,v=.int (a+i*c) t) acc' n->R (.ok (.ret res)) { s with heap:=h',toks:=tk }) :
  wpAny (model prog w) A.in1 (Builtin.List.listExtendWith (.ref S) (.ref r) res)
   (λfin s'=>match fin with | .done f=>R (.ok f) s' | .again c'=>c'.quiet=true/\codeAny (model prog w) A c' R s') (λe s'=>R (.error e) s') s:=by
 have hSr:S≠r:=λe=>by rw[e,hr] at hS;simp at hS
 have hSlt:S<s.heap.objs.size:=YI hS;have hSI:S≠s.heap.objs.size:=XD hSlt;have hSf:S ∉ s.heap.objs.size::qs.map Prod.fst:=λhm=>(YW.mp hm).elim hSI λhm=>by
  obtain⟨p,q,e⟩:=XM.mp hm;exact hSq p q e
 have W:=(Walks.rangeQ (prog:=prog) (w:=w) (A:=A.in1) hq s.heap.objs.size (λp q=>XD (YI (hp p q))) a c n).toS;have key:∀ (h:Heap) (c₁ tk:Nat),IsRangeIter h s.heap.objs.size (a+((0:Nat):Int)*c) ((n:Int) - ((0:Nat):Int)) c->(∀ b o,b≠S->s.heap.get? b=some o->h.get? b=some o) →
   h.get? S=some { cls:=.type "list",data:=.seq #[] c₁ }->codeAny (model prog w) A (.builtin "list.extend.loop" ⟨[.ref S,.ref s.heap.objs.size,res],[]⟩) R { s with heap:=h,toks:=tk }:=by
  intro h c₁ tk hit hk hS₁;refine codeAny_extend_loopS W (by rw[Y0f];omega) S hSf res n 0 _ #[] c₁ rfl (JH _) ⟨hit,λp q=>hk p.1 p.2 (hSq p q) (hp p q)⟩ hS₁ (ItemsOf.nil _) λs' acc' c' hm hS' hacc=>?_;rw[Moved.eq_with hm];refine hR s'.heap s'.toks acc' c' (λb o hb e=>hm.heap b o (λhmem=>?_) (hk b o hb e)) hS' hacc;rcases YW.mp hmem with e' | hmem
  ·exact hb e'
  exact absurd (YI e) (by rw[JQ.mp hmem];exact XO _)
 unfold Builtin.List.listExtendWith;refine YA (wpAny_typeOf (T:="range") ⟨_,hr,rfl⟩ ?_);have h1:Builtin.List.listSameRef (.ref S) (.ref r)=false:=by simp[Builtin.List.listSameRef,hSr]
 have h2:(Value.type "range" == Value.type "list")=false:=by decide
 have h3:(Value.type "range" == Value.type "tuple")=false:=by decide
 simp only [h1,h2,h3,Bool.or_false,qh,Y02];refine YA (wpAny_pyIter_range hr hsmall ?_);refine YA (JN (wpAny_hint_range (n:=n) (YB _ hr) hn hlen ?_));have hit₁:IsRangeIter (s.heap.push { cls:=.type "range_iterator",data:=.fields #[rawInt a,rawInt (Builtin.Range.rangeSize a b c),rawInt c] }) s.heap.objs.size (a+((0:Nat):Int)*c) ((n:Int) - ((0:Nat):Int)) c:=by
  show IsRangeIter _ _ _ _ _;rw[hn];simpa using YT _ rfl
 have hS₁:=YB { cls:=.type "range_iterator",data:=.fields #[rawInt a,rawInt (Builtin.Range.rangeSize a b c),rawInt c] } hS;refine wpAny_ite_split (λ_=>?_) (λ_=>YN ⟨plainId_quiet F.plain_extend_loop _,key _ c₀ _ hit₁ (λb o _ e=>YB _ e) hS₁⟩);refine YA (zK ?_);refine YA ?_;show wpAny _ _ (updateSeq S (·.push .none) >>= λ_=>updateSeq S (·.pop)) _ _ _;refine YA (Y0z hS₁ rfl ?_);have hS₂:=JM (Obj.mapSeq (·.push Value.none)) hS₁ rfl;refine Y0z (hz:=by seq_fits) hS₂ rfl ?_;have hS₃:=JM (Obj.mapSeq (·.pop)) hS₂ rfl;refine YN ⟨plainId_quiet F.plain_extend_loop _,key _ _ _ ?_ (λb o hb e=>?_) hS₃⟩
 ·exact (XV _ _ hSI).trans ((XV _ _ hSI).trans hit₁)
 exact (XV _ _ (XJ hb)).trans ((XV _ _ (XJ hb)).trans (YB _ e))
theorem Tj {R:Result->Shared->Prop}{r:Addr}{a c:Int}{t u v:Tok}{n:Nat}(hq:QtP A qs)(hp:∀ p∈qs,s.heap.get? p.1=some p.2)(hr:IsRange s.heap r a b c t u v)(hsmall:Builtin.Range.small a b c=true)
  (hn:Builtin.Range.rangeSize a b c=n) (hlen:n<=2 ^ 24) (S:Addr) (hS:s.heap.get? S=some { cls:=.type "list",data:=.seq #[] }) (hSq:∀ p∈qs,p.1≠S)
  (hR:∀ h' tk acc' c',(∀ b o,b≠S->s.heap.get? b=some o->h'.get? b=some o)->h'.get? S=some { cls:=.type "list",dict:=none,data:=.seq acc' c',slots:=#[] } →
   ItemsOf (λi v=>∃ t,v=.int (a+i*c) t) acc' n->R (.ok (.ret .none)) { s with heap:=h',toks:=tk }) :
  wpAny (model prog w) A.in1 (Builtin.«list.__init__» ⟨[.ref S,.ref r],[]⟩)
   (λfin s'=>match fin with | .done f=>R (.ok f) s' | .again c'=>c'.quiet=true/\codeAny (model prog w) A c' R s') (λe s'=>R (.error e) s') s:=by
 have hSr:S≠r:=λe=>by rw[e,hr] at hS;simp at hS
 show wpAny _ _ (do let old <-Builtin.List.listItems (.ref S);Builtin.List.listUpdate (.ref S) (λ_=>#[]);letGo old.toList.reverse;Builtin.List.listExtendWith (.ref S) (.ref r) .none) _ _ s;refine YA ?_;unfold Builtin.List.listItems;refine YA (GH hS rfl (YN ?_));show wpAny _ _ (updateSeq S (λ_=>#[]) >>= λ_=>letGo (#[]:Array Value).toList.reverse >>= λ_=>Builtin.List.listExtendWith (.ref S) (.ref r) .none) _ _ s;refine YA (Y0z hS rfl ?_);have hS₂:=JM (Obj.mapSeq (λ_=>(#[]:Array Value))) hS rfl;have oth:∀ b o,b≠S->s.heap.get? b=some o->(s.heap.update S (Obj.mapSeq (λ_=>(#[]:Array Value)))).get? b=some o :=
  λb o hb e=>(XV _ _ (XJ hb)).trans e
 refine YA (Y0C ?_);refine Qn hq (λp q=>oth p.1 p.2 (hSq p q) (hp p q)) (oth r _ (XJ hSr) hr) hsmall hn hlen S .none _ hS₂ hSq λh' tk acc' c' hk hS' hacc=>?_;exact hR h' tk acc' c' (λb o hb e=>hk b o hb (oth b o hb e)) hS' hacc
end
section
variable {prog:TR}{w:World}{A:Around}{E:TC}{s:Shared}
theorem Nl {Q:TC}{r:Addr}{a c:Int}{t u v:Tok}{n:Nat}(hq:QtP A qs)(hp:∀ p∈qs,s.heap.get? p.1=some p.2)(hr:IsRange s.heap r a b c t u v)(hsmall:Builtin.Range.small a b c=true)
  (hn:Builtin.Range.rangeSize a b c=n) (hlen:n<=2 ^ 24)
  (hQ:∀ h' tk acc' c',(∀ b o,s.heap.get? b=some o->h'.get? b=some o) →
   h'.get? s.heap.objs.size=some { cls:=.type "list",dict:=none,data:=.seq acc' c',slots:=#[] }->ItemsOf (λi v=>∃ t,v=.int (a+i*c) t) acc' n->Q (.ref s.heap.objs.size) { s with heap:=h',toks:=tk }) :
  wpAny (model prog w) A (call (.type "list") [.ref r]) Q E s:=by
 refine callType_codes (Q₁:=λobj s₁=>obj=.ref s.heap.objs.size/\s₁={ s with heap:=s.heap.push { cls:=.type "list",data:=.seq #[] } }) F.called_list (F.typeCall_list_1 _) F.entry_list_init
  (code_list_new _ ⟨rfl,rfl⟩) λobj s₁ h₁=>?_
 obtain⟨rfl,rfl⟩:=h₁;have hS:(s.heap.push { cls:=.type "list",data:=.seq #[] }).get? s.heap.objs.size=some { cls:=.type "list",data:=.seq #[] }:=YT _ rfl;refine⟨⟨_,hS,rfl⟩,F.args_list_init_2 _ _,Tj (A:=A.in1) hq (λp q=>YB _ (hp p q)) (YB _ hr) hsmall hn hlen _ hS (λp q=>XD (YI (hp p q))) λh' tk acc' c' hk hS' hacc=>?_⟩;exact⟨rfl,hQ h' tk acc' c' (λb o e=>hk b o (XD (YI e)) (YB _ e)) hS' hacc⟩
end
end Sb
namespace L2
open PySem PySem.Spec PyProof.Rows
abbrev Key:=Sum Int Str
def keyIs:Key->Value->Bool
 | .inl k,v=>Value.isInt k v
 | .inr x,v=>Value.isStrOf x v
def keyH (w:World):Key->Int
 | .inl k=>hashInt k
 | .inr x=>hashStr w x
theorem Yt:∀ {k:Key} {v:Value},keyIs k v=true->(∃ i t,k=Sum.inl i/\v=Value.int i t) \/ (∃ x t,k=Sum.inr x/\v=Value.str x t)
 | .inl i,v,h=>by
  obtain⟨t,e⟩:=Value.isInt_shape (k:=i) (v:=v) h;exact .inl ⟨i,t,rfl,e⟩
 | .inr x,v,h=>by
  obtain⟨t,e⟩:=Value.isStrOf_shape (x:=x) (v:=v) h;exact .inr ⟨x,t,rfl,e⟩
theorem Z4y (a b:Int):decide ((Sum.inl a:Key)=Sum.inl b)=(a == b):=by
 by_cases e:a=b
 ·subst e;simp
 have h:¬ (Sum.inl a:Key)=Sum.inl b:=λq=>e (Sum.inl.inj q);rw[JD h];exact (JJ.mpr e).symm
theorem Z4v (a b:Str):decide ((Sum.inr a:Key)=Sum.inr b)=decide (a=b):=by
 by_cases e:a=b
 ·subst e;simp
 have h:¬ (Sum.inr a:Key)=Sum.inr b:=λq=>e (Sum.inr.inj q);rw[JD h,JD e]
theorem Z4x (a:Int)(b:Str):decide ((Sum.inl a:Key)=Sum.inr b)=false:=JD (λq=>nomatch q)
theorem Z4w (a:Str)(b:Int):decide ((Sum.inr a:Key)=Sum.inl b)=false:=JD (λq=>nomatch q)
def mixKind (prog:TR)(w:World):PySem.KeyKind prog w Key where
 is:=keyIs
 hash:=keyH w
 inj:=λv a b ha hb=>by
  rcases Yt ha with ⟨i,t,rfl,rfl⟩ | ⟨x,t,rfl,rfl⟩
  ·rcases Yt hb with ⟨j,u,rfl,e⟩ | ⟨y,u,rfl,e⟩
   ·injection e with e1 _;rw[e1]
   exact nomatch e
  rcases Yt hb with ⟨j,u,rfl,e⟩ | ⟨y,u,rfl,e⟩
  ·exact nomatch e
  injection e with e1 _;rw[e1]
 byValue:=λk v h=>by
  rcases Yt h with ⟨i,t,rfl,rfl⟩ | ⟨x,t,rfl,rfl⟩ <;> rfl
 pyHash:=λhv h=>by
  rcases Yt hv with ⟨i,t,rfl,rfl⟩ | ⟨x,t,rfl,rfl⟩
  ·exact wpAny_pyHash_int h
  exact wpAny_pyHash_str h
 eqBool:=λhu hv h=>by
  rcases Yt hu with ⟨i,t,rfl,rfl⟩ | ⟨x,t,rfl,rfl⟩
  ·rcases Yt hv with ⟨j,u,rfl,rfl⟩ | ⟨y,u,rfl,rfl⟩
   ·rw[Z4y] at h;exact wpAny_eqBool_int h
   rw[Z4x] at h;exact SeqAt.EqAt.int_str i t y u _ _ _ _ h
  rcases Yt hv with ⟨j,u,rfl,rfl⟩ | ⟨y,u,rfl,rfl⟩
  ·rw[Z4w] at h;exact SeqAt.EqAt.str_int x t j u _ _ _ _ h
  rw[Z4v] at h;exact wpAny_eqBool_str h
 «strs»:=λk x t v h=>by
  rcases Yt h with ⟨i,u,rfl,e⟩ | ⟨y,u,rfl,e⟩
  ·exact nomatch e
  injection e with e1 _
  subst e1
  cases v <;> rfl
end L2
namespace L2
open PySem PySem.Spec PyProof.Rows
inductive V where
 | non | bl (b:Bool) | int (i:Int) | str (x:Str) | byt (b:Array UInt8) | flt (b:UInt64) | ref (a:Addr) | ty (n:String)
 deriving DecidableEq
abbrev _root_.TZ:=Option V
abbrev _root_.TY:=List V
def RelV:V->Value->Prop
 | .non,u=>u=Value.none
 | .bl b,u=>u=Value.bool b
 | .int i,u=>∃ t,u=Value.int i t
 | .str x,u=>∃ t,u=Value.str x t
 | .byt b,u=>∃ t,u=Value.bytes b t
 | .flt b,u=>∃ t,u=Value.float b t
 | .ref a,u=>u=Value.ref a
 | .ty n,u=>u=Value.type n
abbrev Vals:List V->List Value->Prop:=Paired RelV
theorem Vals.length {xs:TY}{us:TH}(r:Vals xs us):xs.length=us.length:=XG r
theorem Vals.get:∀ {xs:TY} {us:TH} {i:Nat} {x:V},Vals xs us->xs[i]?=some x->∃ u,us[i]?=some u/\RelV x u
 | _,_,_,_,.nil,e=>by simp at e
 | _,_,0,_,.cons r _,e=>by simp at e;subst e;exact⟨_,rfl,r⟩
 | _,_,i+1,x,.cons _ t,e=>by
  obtain⟨u,h1,h2⟩:=Vals.get (i:=i) (x:=x) t (by simpa using e);exact⟨u,by simpa using h1,h2⟩
theorem Vals.set {x:V}{u:Value}(r:RelV x u):∀ {xs:TY} {us:TH} (i:Nat),Vals xs us->Vals (xs.set i x) (us.set i u)
 | _,_,_,.nil=>.nil
 | _,_,0,.cons _ t=>.cons r t
 | _,_,i+1,.cons q t=>.cons q (Vals.set r i t)
theorem Vals.append:∀ {xs ys:TY} {us ws:TH},Vals xs us->Vals ys ws->Vals (xs++ys) (us++ws)
 | _,_,_,_,.nil,s=>s
 | _,_,_,_,.cons r t,s=>.cons r (Vals.append t s)
theorem Vals.take:∀ {xs:TY} {us:TH} (n:Nat),Vals xs us->Vals (xs.take n) (us.take n)
 | _,_,0,_=>.nil
 | _,_,_+1,.nil=>.nil
 | _,_,n+1,.cons r t=>.cons r (Vals.take n t)
theorem Vals.drop:∀ {xs:TY} {us:TH} (n:Nat),Vals xs us->Vals (xs.drop n) (us.drop n)
 | _,_,0,r=>r
 | _,_,_+1,.nil=>.nil
 | _,_,n+1,.cons _ t=>Vals.drop n t
def RelO:Option V->Option Value->Prop
 | some v,some u=>RelV v u
 | none,none=>True
 | _,_=>False
def KV {κ:Type}:List (κ × V)->List (κ × Value)->Prop:=Paired λ(p:κ × V) (q:κ × Value)=>p.1=q.1/\RelV p.2 q.2
def kV:Key->V
 | .inl i=>.int i
 | .inr x=>.str x
inductive HO where
 | lst (xs:TY)
 | tup (xs:TY)
 | dK (kvs:List (Key × V)) | dT (kvs:List (List Key × V))
 | set (S:Int->Bool) (n:Nat)
 | ins (C dx:Addr) (fs:List (Str × V))
 | own (x:Addr)
 | xd (fs:List (Str × V))
 | met (f x:Addr)
 | rng (lo hi:Int)
 | frz (o:Obj) (u:HO)
 | tbl (ps:Array Value)
 | ext (φ:Heap->Prop)
abbrev Hp:=Addr->Option HO
def upd (H:Hp)(a:Addr)(o:HO):Hp:=λb=>if b=a then some o else H b
theorem Zb {H:Hp}{a:Addr}{o:HO}:upd H a o a=some o:=by unfold upd;rw[YJ rfl]
theorem Ze {H:Hp}{a b:Addr}{o:HO}(h:b≠a):upd H a o b=H b:=by unfold upd;rw[YH h]
theorem Z3h {H:Hp}{a b:Addr}{o u:HO}(h:H a=some o)(h':H b=some u)(d:o≠u):a≠b:=by
 intro e;subst e;rw[h] at h';exact d (YK h')
theorem Zd {H:Hp}{a b:Addr}{o:HO}(h:H a=some o)(h':H b=none):a≠b:=by
 intro e;subst e;rw[h] at h';cases h'
section
variable (P:TR)(w:World)
def ObjOk (H:Hp)(h:Heap)(a:Addr):HO->Prop
 | .lst xs=>xs.length<=sizeLine/\∃ (its:TH) (n:Nat),Vals xs its/\h.get? a=some { cls:=.type "list",data:=.seq its.toArray n }
 | .tup xs=>xs.length<=sizeLine/\∃ its:List Value,Vals xs its/\IsTup h a its.toArray
 | .dK kvs=>kvs.length<=sizeLine/\(a == sysModules)=false/\∃ vs,KV kvs vs/\h.DictOf (mixKind P w) a vs
 | .dT kvs=>kvs.length<=sizeLine/\(a == sysModules)=false/\∃ xs:List (List Key × Addr × Value),
   Paired (λ(p:List Key × V) (q:List Key × Addr × Value)=>p.1=q.1/\H q.2.1=some (.tup (p.1.map kV))/\RelV p.2 q.2.2) kvs xs ∧
   ∃ o es ep,h.get? a=some o/\o.ExactDict/\o.data=.dict es ep/\es.toList=xs.map (entryOfKey (tupleKind (mixKind P w)))/\(xs.map (·.1)).Nodup
 | .set S n=>h.SetOf (intKind P w) a S n
 | .ins C dx fs=>H dx=some (.own a)/\fs.length<=1000/\dx≠a/\h.get? a=some (W.instObj C dx) ∧
   ∃ mA,h.Ns1 dx mA/\(∀ f,RelO (fs.lookup f) (mA f))/\PySem.Within mA (fs.map (·.1))
 | .own _=>∃ o,h.get? a=some o
 | .xd fs=>∃ mA,h.Ns1 a mA/\∀ f,RelO (fs.lookup f) (mA f)
 | .rng lo hi=>∃ t u v,h.get? a=some { cls:=.type "range",data:=.fields #[.int lo t,.int hi u,.int 1 v] }
 | .frz o u=>h.get? a=some o/\ObjOk H h a u
 | .tbl ps=>h.get? a=some { cls:=.none,data:=.fields ps }
 | .met f x=>h.get? a=some (W.methodObj (.ref f) (.ref x))
 | .ext φ=>φ h/\(∃ o,h.get? a=some o)/\∀ h1 h2:Heap,φ h1->(∀ o,h1.get? a=some o->h2.get? a=some o)->φ h2
def HOk (H:Hp)(h:Heap):Prop:=∀ a o,H a=some o->ObjOk P w H h a o
end
section
variable {P:TR}{w:World}{H H':Hp}{h h':Heap}{a:Addr}{o:HO}
theorem ObjOk.lt (x:ObjOk P w H h a o):a<h.objs.size:=by
 cases o with
 | lst xs=>obtain⟨_,_,_,_,e⟩:=x;exact YI e
 | tup xs=>obtain⟨_,_,_,p⟩:=x;exact p.lt
 | dK kvs=>obtain⟨_,_,_,_,o,_,_,e,_⟩:=x;exact YI e
 | dT kvs=>obtain⟨_,_,_,_,o,_,_,e,_⟩:=x;exact YI e
 | set S n=>obtain⟨o,_,_,_,e,_⟩:=x;exact YI e
 | ins C dx fs=>obtain⟨_,_,_,e,_⟩:=x;exact YI e
 | own y=>obtain⟨_,e⟩:=x;exact YI e
 | xd fs=>obtain⟨_,⟨_,_,_,e,_⟩,_⟩:=x;exact YI e
 | rng lo hi=>obtain⟨_,_,_,e⟩:=x;exact YI e
 | frz ob u=>obtain⟨e,_⟩:=x;exact YI e
 | tbl ps=>exact YI (show h.get? a=some _ from x)
 | met f y=>exact YI (show h.get? a=some _ from x)
 | ext φ=>obtain⟨_,⟨_,e⟩,_⟩:=x;exact YI e
theorem Paired.mapP {α β:Type}{F G:α->β->Prop}:∀ {l₁:List α} {l₂:List β},Paired F l₁ l₂->(∀ a b,F a b->G a b)->Paired G l₁ l₂
 | _,_,.nil,_=>.nil
 | _,_,.cons r t,f=>.cons (f _ _ r) (Paired.mapP t f)
theorem ObjOk.stay (x:ObjOk P w H h a o)(k:∀ b u,(b=a \/ H b=some (.own a))->h.get? b=some u->h'.get? b=some u)
  (ho:∀ b,H b=some (.own a)->H' b=some (.own a)) (ht:∀ b xs,H b=some (.tup xs)->H' b=some (.tup xs)):ObjOk P w H' h' a o:=by
 induction o with
 | lst xs=>obtain⟨z,its,n,r,e⟩:=x;exact⟨z,its,n,r,k _ _ (.inl rfl) e⟩
 | tup xs=>obtain⟨z,its,r,ob,e,c⟩:=x;exact⟨z,its,r,ob,k _ _ (.inl rfl) e,c⟩
 | dK kvs=>obtain⟨z,y,vs,r,ob,es,ep,e,c⟩:=x;exact⟨z,y,vs,r,ob,es,ep,k _ _ (.inl rfl) e,c⟩
 | dT kvs =>
  obtain⟨z,y,xs,r,ob,es,ep,e,c⟩:=x;exact⟨z,y,xs,Paired.mapP r λp q z=>⟨z.1,ht _ _ z.2.1,z.2.2⟩,ob,es,ep,k _ _ (.inl rfl) e,c⟩
 | set S n=>obtain⟨ob,es,ep,t,e,c⟩:=x;exact⟨ob,es,ep,t,k _ _ (.inl rfl) e,c⟩
 | ins C dx fs =>
  obtain⟨d,z,ne,e,mA,⟨od,es,ep,e2,c⟩,r⟩:=x;exact⟨ho _ d,z,ne,k _ _ (.inl rfl) e,mA,⟨od,es,ep,k _ _ (.inr d) e2,c⟩,r⟩
 | own y=>obtain⟨ob,e⟩:=x;exact⟨ob,k _ _ (.inl rfl) e⟩
 | xd fs=>obtain⟨mA,⟨od,es,ep,e,c⟩,r⟩:=x;exact⟨mA,⟨od,es,ep,k _ _ (.inl rfl) e,c⟩,r⟩
 | rng lo hi=>obtain⟨t,u,v,e⟩:=x;exact⟨t,u,v,k _ _ (.inl rfl) e⟩
 | frz ob u ih=>obtain⟨e,q⟩:=x;exact⟨k _ _ (.inl rfl) e,ih q⟩
 | tbl ps =>
  have e:h.get? a=some { cls:=.none,data:=.fields ps }:=x;show h'.get? a=some { cls:=.none,data:=.fields ps };exact k a _ (.inl rfl) e
 | met f y =>
  have e:h.get? a=some (W.methodObj (.ref f) (.ref y)):=x;show h'.get? a=some (W.methodObj (.ref f) (.ref y));exact k a _ (.inl rfl) e
 | ext φ=>obtain⟨p,⟨o,e⟩,st⟩:=x;exact⟨st _ _ p λo q=>k _ _ (.inl rfl) q,⟨o,k _ _ (.inl rfl) e⟩,st⟩
theorem HOk.lt (x:HOk P w H h)(e:H a=some o):a<h.objs.size:=(x a o e).lt
theorem HOk.fresh (x:HOk P w H h)(e:h.objs.size<=a):H a=none:=by
 cases q:H a with
 | none=>rfl
 | some u=>exact absurd (YU (x.lt q) e) (XO _)
theorem HOk.kept (x:HOk P w H h)(k:∀ b u,h.get? b=some u->h'.get? b=some u):HOk P w H h':=λa o e =>
 (x a o e).stay (λb u _ q=>k b u q) (λ_ q=>q) λ_ _ q=>q
theorem HOk.laid (x:HOk P w H h)(k:∀ b u,h.get? b=some u->h'.get? b=some u)(hp:h.objs.size<=a)(new:ObjOk P w (upd H a o) h' a o):HOk P w (upd H a o) h':=λb u e=>by
 have hn:=x.fresh hp;by_cases hb:b=a
 ·subst hb;rw[Zb] at e;cases e;exact new
 rw[Ze hb] at e;exact (x b u e).stay (λc v _ q=>k c v q) (λc q=>by rw[Ze (Zd q hn)];exact q) λc xs q=>by rw[Ze (Zd q hn)];exact q
end
def Rd (H:Hp)(a:Addr)(u:HO):Prop:=H a=some u \/ ∃ o,H a=some (.frz o u)
theorem Rd.ok {P:TR}{H:Hp}{a:Addr}{u:HO}(r:Rd H a u)(x:HOk P w H h):ObjOk P w H h a u:=by
 rcases r with r | ⟨o,r⟩
 ·exact x a u r
 obtain⟨_,q⟩:=x a _ r;exact q
def Mut:Option HO->Prop
 | some (.lst _)=>True
 | some (.dK _)=>True
 | some (.dT _)=>True
 | some (.set _ _)=>True
 | some (.ins _ _ _)=>True
 | some (.ext _)=>True
 | _=>False
section
variable {P:TR}{w:World}{H:Hp}{h h':Heap}{x e:Addr}{o':HO}
theorem HOk.write (ok:HOk P w H h)(mu:Mut (H x))(he:e=x \/ H e=some (.own x))(k:∀ b u,b≠e->h.get? b=some u->h'.get? b=some u)(heo:∃ u,h'.get? e=some u)
  (new:ObjOk P w (upd H x o') h' x o'):HOk P w (upd H x o') h':=λb u q=>by
 have nown:∀ c y,H c=some (.own y)->c≠x:=λc y r z=>by subst z;rw[r] at mu;exact mu
 have ntup:∀ c xs,H c=some (.tup xs)->c≠x:=λc xs r z=>by subst z;rw[r] at mu;exact mu
 by_cases hb:b=x
 ·subst hb;rw[Zb] at q;cases q;exact new
 rw[Ze hb] at q;by_cases hbe:b=e
 ·have q':H b=some (.own x):=by
   rcases he with z | z
   ·exact absurd (hbe.trans z) hb
   rw[hbe];exact z
  rw[q] at q';cases q';obtain⟨v,hv⟩:=heo;exact⟨v,by rw[hbe];exact hv⟩
 refine (ok b u q).stay (λc v hc r=>k c v ?_ r) (λc r=>by rw[Ze (nown c b r)];exact r) λc xs r=>by rw[Ze (ntup c xs r)];exact r
 rcases hc with rfl | hc
 ·exact hbe
 rintro rfl;rcases he with z | z
 ·exact nown c b hc z
 rw[hc] at z;cases z;exact hb rfl
end
structure Un (fs ex:TJ)(H H':Hp)(h h':Heap):Prop where
 keep:∀ b o,h.get? b=some o->H b=none->b ∉ fs->b ∉ ex->h'.get? b=some o
 slot:∀ b o,h.get? b=some o->H b=none->b∈fs->b ∉ ex->∃ sl,h'.get? b=some { o with slots:=sl }
 free:∀ b o,h.get? b=some o->H b=none->b ∉ ex->H' b=none
 there:∀ b o,h.get? b=some o->b ∉ ex->∃ o',h'.get? b=some o'
 tups:∀ b xs,H b=some (.tup xs)->H' b=some (.tup xs)
 frzs:∀ b o u,H b=some (.frz o u)->H' b=some (.frz o u)
 tbls:∀ b ps,H b=some (.tbl ps)->∃ more,H' b=some (.tbl (ps++more))
section
variable {fs fs' ex ex':TJ}{H H1 H2:Hp}{h h1 h2 h':Heap}{a x e:Addr}{o:HO}
theorem Un.any (u:Un fs ex H H1 h h1){b:Addr}{ob:Obj}(q:h.get? b=some ob)(n:H b=none)(hx:b ∉ ex):∃ sl,h1.get? b=some { ob with slots:=sl }:=by
 by_cases hb:b∈fs
 ·exact u.slot b ob q n hb hx
 exact⟨ob.slots,u.keep b ob q n hb hx⟩
theorem Un.kept (k:∀ b u,h.get? b=some u->h'.get? b=some u):Un fs ex H H h h' :=
 ⟨λb ob q _ _ _=>k b ob q,λb ob q _ _ _=>⟨ob.slots,k b ob q⟩,λ_ _ _ n _=>n,λb ob q _=>⟨ob,k b ob q⟩,λ_ _ q=>q,λ_ _ _ q=>q,λ_ ps q=>⟨#[],by rw[q];simp⟩⟩
theorem Un.refl:Un fs ex H H h h:=Un.kept λ_ _ q=>q
theorem Un.laid (k:∀ b u,h.get? b=some u->h'.get? b=some u)(hp:h.objs.size<=a)(hn:H a=none):Un fs ex H (upd H a o) h h' where
 keep:=λb u q _ _ _=>k b u q
 slot:=λb u q _ _ _=>⟨u.slots,k b u q⟩
 free:=λb u q n _=>by rw[Ze (XD (YU (YI q) hp))];exact n
 there:=λb u q _=>⟨u,k b u q⟩
 tups:=λb xs q=>by rw[Ze (Zd q hn)];exact q
 frzs:=λb u xs q=>by rw[Ze (Zd q hn)];exact q
 tbls:=λb ps q=>⟨#[],by rw[Ze (Zd q hn),q];simp⟩
theorem Un.write (mu:Mut (H x))(he:e=x \/ H e=some (.own x))(k:∀ b u,b≠e->h.get? b=some u->h'.get? b=some u)(heo:∃ u,h'.get? e=some u):Un fs ex H (upd H x o) h h':=by
 have hx:∀ b,H b=none->b≠x:=λb n z=>by subst z;rw[n] at mu;exact mu
 have hb:∀ b,H b=none->b≠e:=λb n z=>by
  subst z;rcases he with r | r
  ·exact hx b n r
  rw[n] at r;cases r
 have hm:∀ b u,H b=some u->¬ Mut (some u)->b≠x:=λb u q nm z=>by subst z;rw[q] at mu;exact nm mu
 refine⟨λb u q n _ _=>k b u (hb b n) q,λb u q n _ _=>⟨u.slots,k b u (hb b n) q⟩,λb u q n _=>by rw[Ze (hx b n)];exact n,λb u q _=>?_,
  λb xs q=>by rw[Ze (hm b _ q λz=>z)];exact q,λb u xs q=>by rw[Ze (hm b _ q λz=>z)];exact q,λb ps q=>⟨#[],by rw[Ze (hm b _ q λz=>z),q];simp⟩⟩
 by_cases hbe:b=e
 ·subst hbe;exact heo
 exact⟨u,k b u hbe q⟩
end
def trk (h:Heap)(H:Hp):List Addr:=(List.range h.objs.size).filter λa=>(H a).isSome
def hidT (h:Heap)(H:Hp):Heap:=W.hideAll h (trk h H)
theorem Fm (h:Heap)(H:Hp):(hidT h H).objs.size=h.objs.size:=W.hideAll_size _ _
theorem Z0e {H:Hp}{b:Addr}{o:Obj}(e:h.get? b=some o)(n:H b=none):(hidT h H).get? b=some o :=
 Y0j _ e λhm=>by
  have q:(H b).isSome=true:=(zD.mp hm).2;rw[n] at q;simp at q
theorem Z2r {h:Heap}{H:Hp}{b:Addr}{o:Obj}(e:(hidT h H).get? b=some o):h.get? b=some o/\H b=none:=by
 have e':h.get? b=some o:=W.of_hideAll (trk h H) e;refine⟨e',?_⟩
 cases q:H b with
 | none=>rfl
 | some x =>
  have hm:b∈trk h H:=zD.mpr ⟨qi.mpr (YI e'),by simp[q]⟩;have z:(hidT h H).get? b=none:=W.hideAll_none (trk h H) hm;rw[z] at e;cases e
def allNews (g h:Heap)(L:Addr):List (Addr × Obj):=(List.range h.objs.size).filterMap λa=>if a=L \/ (g.get? a).isSome=true then none else (h.get? a).map λo=>(a,o)
def rest (g h:Heap)(L d:Addr):List (Addr × Obj):=(allNews g h L).filter λp=>decide (p.1≠d)
end L2
variable {H H' H1 H2:L2.Hp}{v:L2.V}{xs:TY}
namespace L2
open PySem PySem.Spec PyProof.Rows
structure Mod (K:TQ)(mg:TB)(base:Heap):Prop where
 kin:K.In base
 glob:base.Ns mainGlobals mg
 blt:∃ mb,base.Ns builtinsNs mb/\∀ x:Str,x≠"__name__"->mb x=bootBuiltins x
 nolimit:base.NoLimit
structure Cx where
 prog:Program
 w:World
 K:W.Frag
 mg:Str->Option Value
 base:Heap
 A:Around
 N:List Str
 s₀:Shared
 H₀:Hp
 env:Env
 outer:List Env
 stack:List Env
 ex:List Addr
 fn:Str->Bool
 calm:Bool
 pn:List (Addr × Obj)
 xe:Value->Shared->Prop
def frs (l:TM):List Addr:=l.filterMap (·.frame)
abbrev Cx.fs (X:Cx):List Addr:=frs X.outer
def Vis (sc:Scope)(x:Str):Prop:=sc.names.lookup x=some .local \/ sc.names.lookup x=some .cell \/ sc.names.lookup x=some .free
def Loc (sc:Scope)(x:Str):Prop:=sc.names.lookup x=some .local \/ sc.names.lookup x=some .cell
def Look (env:Env)(h:Heap)(m:TB)(x:Str)(u:Value):Prop :=
 (env.kindOf x=some .local/\m x=some u) \/ ((env.kindOf x=some .cell \/ env.kindOf x=some .free)/\∃ c,env.cells.lookup x=some c/\h.IsCell c (some u))
structure Cx.Ok (X:Cx):Prop where
 mod:Mod X.K X.mg X.base
 kind:X.env.scope.kind=.function
 glob:X.env.globals=mainGlobals
 blt:X.env.builtins=builtinsNs
 above:X.s₀.heap.objs.size<=X.env.locals
 inj:∀ x y c,X.env.cells.lookup x=some c->X.env.cells.lookup y=some c->x=y
 has:∀ x,(X.env.kindOf x=some .cell \/ X.env.kindOf x=some .free)->∃ c,X.env.cells.lookup x=some c
 cab:∀ x c,X.fn x=true->X.env.cells.lookup x=some c->X.s₀.heap.objs.size<=c
 hd:X.calm=true->Sb.QtP X.A X.pn
 frames:X.A.frames=some X.stack
 stk:X.stack=X.outer \/ (X.stack=X.env::X.outer/\X.env.frame=some X.env.locals)
 exf:∀ b∈X.ex,b≠X.env.locals/\∀ x c,X.env.cells.lookup x=some c->c≠b
 bs:∀ b o,X.base.get? b=some o->X.s₀.heap.get? b=some o/\X.H₀ b=none
 bsz:X.base.objs.size<=X.s₀.heap.objs.size
 noex:∀ b o,X.base.get? b=some o->b ∉ X.ex
 exfs:∀ b∈X.ex,b ∉ X.fs
 funs:X.s₀.heap.FunFrames X.base X.outer
 frf:∀ b∈X.fs,X.H₀ b=none
structure Inv (X:Cx)(pins:TD)(σ:List (Option V))(H:Hp)(s:Shared):Prop where
 ok:X.Ok
 os:s.os=X.s₀.os
 bare:AllBare s.gens
 base:Un X.fs X.ex X.H₀ H X.s₀.heap s.heap
 loc:∃ m,s.heap.Ns X.env.locals m/\∀ (i:Nat) (x:Str) (v:V),X.N[i]?=some x->σ[i]?=some (some v)->Vis X.env.scope x->∃ u,RelV v u/\Look X.env s.heap m x u
 cell:∀ x c,X.env.cells.lookup x=some c->∃ v,s.heap.IsCell c v
 free:H X.env.locals=none
 freeC:∀ x c,X.env.cells.lookup x=some c->H c=none
 pin:∀ p∈X.pn++pins,s.heap.get? p.1=some p.2/\H p.1=none/\p.1≠X.env.locals/\p.1 ∉ X.fs/\∀ v,p.2.data≠.cell v
 hok:HOk X.prog X.w H s.heap
 len:σ.length=X.N.length
theorem Inv.qt {X:Cx}{σ:List (Option V)}(I:Inv X pins σ H s)(hc:X.calm=true):Sb.Qt X.A s.heap:=(I.ok.hd hc).at λp hp=>(I.pin p (YL _ hp)).1
section
variable {X:Cx}{pins:TD}{σ:List (Option V)}{H H':Hp}{s:Shared}{h':Heap}
theorem Cx.Ok.nofr (ok:X.Ok){b:Addr}{o:Obj}(e:X.base.get? b=some o):b ∉ X.fs:=λhb=>by
 have:=(ok.funs.mem hb).1;rw[e] at this;cases this
theorem Inv.bs (I:Inv X pins σ H s):∀ b o,X.base.get? b=some o->s.heap.get? b=some o/\H b=none:=λb o e =>
 ⟨I.base.keep b o (I.ok.bs b o e).1 (I.ok.bs b o e).2 (I.ok.nofr e) (I.ok.noex b o e),I.base.free b o (I.ok.bs b o e).1 (I.ok.bs b o e).2 (I.ok.noex b o e)⟩
theorem Inv.bk (I:Inv X pins σ H s):∀ b o,X.base.get? b=some o->s.heap.get? b=some o:=λb o e=>(I.bs b o e).1
theorem Inv.mod (I:Inv X pins σ H s):Mod X.K X.mg X.base:=I.ok.mod
theorem Inv.kIn (I:Inv X pins σ H s):X.K.In s.heap:=I.ok.mod.kin.keeps I.bk
theorem Inv.lt (I:Inv X pins σ H s):X.env.locals<s.heap.objs.size:=let ⟨_,hn,_⟩:=I.loc;hn.lt
theorem Inv.sz (I:Inv X pins σ H s):X.s₀.heap.objs.size<=s.heap.objs.size:=YX I.ok.above (XZ I.lt)
theorem Inv.nofs (I:Inv X pins σ H s){a:Addr}(h:s.heap.objs.size<=a):a ∉ X.fs:=λhb=>by
 obtain⟨_,o,ho,_⟩:=I.ok.funs.mem hb;exact absurd (YU (YI ho) (YX I.sz h)) (XO _)
theorem Inv.cne (I:Inv X pins σ H s):∀ x c,X.env.cells.lookup x=some c->c≠X.env.locals:=λx c e z=>by
 obtain⟨v,o,ho,hd⟩:=I.cell x c e;obtain⟨m,⟨o',es,ep,ho',hd',_⟩,_⟩:=I.loc;rw[z,ho'] at ho;cases ho;rw[hd'] at hd;cases hd
theorem Inv.funs (I:Inv X pins σ H s):s.heap.FunFrames X.base X.outer:=by
 have all:∀ (l:TM),(∀ b∈frs l,b∈X.fs)->X.s₀.heap.FunFrames X.base l->s.heap.FunFrames X.base l:=by
  intro l
  induction l with
  | nil=>intro _ _;trivial
  | cons env r ih =>
   intro hs hl;obtain⟨hk,⟨L,o,hf,hn,ho,hd⟩,hr⟩:=hl;have hL:L∈X.fs:=hs L (by unfold frs;rw[jw,hf];exact XI);obtain⟨sl,e⟩:=I.base.slot L o ho (I.ok.frf L hL) hL λz=>I.ok.exfs L z hL;exact⟨hk,⟨L,_,hf,hn,e,hd⟩,ih (λb hb=>hs b (by unfold frs;rw[jw,hf];exact YY _ hb)) hr⟩
 exact all X.outer (λ_ hb=>hb) I.ok.funs
theorem Inv.stack (I:Inv X pins σ H s):s.heap.FunFrames X.base X.stack:=by
 rcases I.ok.stk with e | ⟨e,hf⟩
 ·rw[e];exact I.funs
 rw[e];obtain⟨m,hn,_⟩:=I.loc;refine .cons (by rw[I.ok.kind];decide) hf hn ?_ I.funs;exact Heap.get?_none_of_le (YX I.ok.bsz I.ok.above)
theorem Inv.stkSub (I:Inv X pins σ H s):∀ b∈frs X.stack,b∈X.env.locals::X.fs:=λb hb=>by
 rcases I.ok.stk with e | ⟨e,hf⟩
 ·rw[e] at hb;exact YY _ hb
 rw[e] at hb;unfold frs at hb;rw[jw,hf] at hb;exact hb
theorem Inv.stkFree (I:Inv X pins σ H s):∀ b∈frs X.stack,H b=none:=λb hb=>by
 rcases YW.mp (I.stkSub b hb) with e | hb
 ·rw[e];exact I.free
 obtain⟨_,o,ho,_⟩:=I.ok.funs.mem hb;exact I.base.free b o ho (I.ok.frf b hb) λz=>I.ok.exfs b z hb
theorem Inv.step {g':Array GenState}{t':Nat}{d':Drawn}{ch:TJ}(I:Inv X pins σ H s)
  (hch:∀ b∈ch,(b∈X.ex \/ X.s₀.heap.objs.size<=b)/\b≠X.env.locals/\(∀ x c,X.env.cells.lookup x=some c->c≠b)/\∀ p∈X.pn++pins,p.1≠b)
  (keep:∀ b o,b≠X.env.locals->b ∉ X.fs->b ∉ ch->s.heap.get? b=some o->H b=none->h'.get? b=some o)
  (slot:∀ b o,b≠X.env.locals->b∈X.fs->b ∉ ch->s.heap.get? b=some o->H b=none->∃ sl,h'.get? b=some { o with slots:=sl }) (free:∀ b o,b ∉ ch->s.heap.get? b=some o->H b=none->H' b=none)
  (there:∀ b o,b ∉ ch->s.heap.get? b=some o->∃ o',h'.get? b=some o')
  (tups:∀ b xs,H b=some (.tup xs)->H' b=some (.tup xs)) (frzs:∀ b o u,H b=some (.frz o u)->H' b=some (.frz o u)) (tbls:∀ b ps,H b=some (.tbl ps)->∃ more,H' b=some (.tbl (ps++more)))
  (ns:∀ m,s.heap.Ns X.env.locals m->h'.Ns X.env.locals m) (hok:HOk X.prog X.w H' h') (hg:AllBare g') :
  Inv X pins σ H' { s with heap:=h',gens:=g',drawn:=d',toks:=t' }:=by
 have neL:∀ b o,X.s₀.heap.get? b=some o->b≠X.env.locals:=λb o e=>XD (YU (YI e) I.ok.above);have neC:∀ b o,X.s₀.heap.get? b=some o->b ∉ X.ex->b ∉ ch:=λb o e hx hb=>by
  rcases (hch b hb).1 with z | z
  ·exact hx z
  exact absurd (YU (YI e) z) (XO _)
 have cellK:∀ x c,X.env.cells.lookup x=some c->∀ v,s.heap.IsCell c v->h'.IsCell c v:=λx c e v ⟨o,ho,hd⟩=>by
  have nch:c ∉ ch:=λz=>(hch c z).2.2.1 x c e rfl;by_cases hc:c∈X.fs
  ·obtain⟨sl,q⟩:=slot c o (I.cne x c e) hc nch ho (I.freeC x c e);exact⟨_,q,hd⟩
  exact⟨o,keep c o (I.cne x c e) hc nch ho (I.freeC x c e),hd⟩
 refine⟨I.ok,I.os,hg,⟨λb o e n hb hx=>?_,λb o e n hb hx=>?_,λb o e n hx=>?_,λb o e hx=>?_,λb xs e=>tups b xs (I.base.tups b xs e),λb o xs e=>frzs b o xs (I.base.frzs b o xs e),λb ps e=>?_⟩,?_,λx c e=>?_,?_,λx c e=>?_,λp hp=>?_,hok,I.len⟩
 ·exact keep b o (neL b o e) hb (neC b o e hx) (I.base.keep b o e n hb hx) (I.base.free b o e n hx)
 ·obtain⟨sl,e1⟩:=I.base.slot b o e n hb hx;obtain⟨sl',e2⟩:=slot b _ (neL b o e) hb (neC b o e hx) e1 (I.base.free b o e n hx);exact⟨sl',e2⟩
 ·obtain⟨o',e1⟩:=I.base.there b o e hx;exact free b o' (neC b o e hx) e1 (I.base.free b o e n hx)
 ·obtain⟨o',e1⟩:=I.base.there b o e hx;exact there b o' (neC b o e hx) e1
 ·obtain⟨m1,e1⟩:=I.base.tbls b ps e;obtain⟨m2,e2⟩:=tbls b _ e1;exact⟨m1++m2,by rw[e2,Y0Q]⟩
 ·obtain⟨m,hn,hl⟩:=I.loc;refine⟨m,ns m hn,λi x v e1 e2 e3=>?_⟩;obtain⟨u,r,l⟩:=hl i x v e1 e2 e3;refine⟨u,r,?_⟩;rcases l with l | ⟨k,c,e,z⟩
  ·exact .inl l
  exact .inr ⟨k,c,e,cellK x c e _ z⟩
 ·obtain⟨v,z⟩:=I.cell x c e;exact⟨v,cellK x c e v z⟩
 ·obtain⟨m,⟨o,_,_,ho,_⟩,_⟩:=I.loc;exact free _ o (λz=>(hch _ z).2.1 rfl) ho I.free
 ·obtain⟨v,o,ho,hd⟩:=I.cell x c e;exact free c o (λz=>(hch c z).2.2.1 x c e rfl) ho (I.freeC x c e)
 obtain⟨e,n,ne,nf,d⟩:=I.pin p hp;have nch:p.1 ∉ ch:=λz=>(hch p.1 z).2.2.2 p hp rfl;exact⟨keep p.1 p.2 ne nf nch e n,free p.1 p.2 nch e n,ne,nf,d⟩
theorem Inv.un {t':Nat}(I:Inv X pins σ H s)(u:Un X.fs [] H H' s.heap h')(hok:HOk X.prog X.w H' h'):Inv X pins σ H' { s with heap:=h',toks:=t' }:=by
 obtain⟨m,⟨o,es,ep,ho,r⟩,_⟩:=id I.loc;obtain⟨sl,hL⟩:=u.any ho I.free (by simp);exact I.step (g':=s.gens) (d':=s.drawn) (ch:=[]) (λ_ z=>nomatch z) (λb o _ hb _ e n=>u.keep b o e n hb (by simp)) (λb o _ hb _ e n=>u.slot b o e n hb (by simp)) (λb o _ e n=>u.free b o e n (by simp)) (λb o _ e=>u.there b o e (by simp)) u.tups u.frzs u.tbls (λm' hm=>by
  obtain⟨o',es',ep',ho',r'⟩:=hm;rw[ho] at ho';cases ho';exact⟨_,es',ep',hL,r'⟩) hok I.bare
theorem Inv.call {g':Array GenState}{t':Nat}{d':Drawn}{ch:TJ}(I:Inv X pins σ H s)(u:Un (frs X.stack) ch H H' s.heap h')(hok:HOk X.prog X.w H' h')(hg:AllBare g')
  (hch:∀ b∈ch,(b∈X.ex \/ X.s₀.heap.objs.size<=b)/\b≠X.env.locals/\(∀ x c,X.env.cells.lookup x=some c->c≠b)/\∀ p∈X.pn++pins,p.1≠b) :
  Inv X pins σ H' { s with heap:=h',gens:=g',drawn:=d',toks:=t' }:=by
 obtain⟨m,⟨o,es,ep,ho,r⟩,_⟩:=id I.loc;obtain⟨sl,hL⟩:=u.any ho I.free λz=>(hch _ z).2.1 rfl;exact I.step (ch:=ch) hch (λb o hL hb hc e n=>u.keep b o e n (λz=>(YW.mp (I.stkSub b z)).elim hL hb) hc) (λb o _ _ hc e n=>u.any e n hc) (λb o hc e n=>u.free b o e n hc) (λb o hc e=>u.there b o e hc) u.tups u.frzs u.tbls (λm' hm=>by
  obtain⟨o',es',ep',ho',r'⟩:=hm;rw[ho] at ho';cases ho';exact⟨_,es',ep',hL,r'⟩) hok hg
theorem Inv.turned {t':Nat}(I:Inv X pins σ H s)(k:∀ b o,b≠it->s.heap.get? b=some o->h'.get? b=some o)(hn:H it=none)(hL:it≠X.env.locals)
  (h1:it∈X.ex \/ X.s₀.heap.objs.size<=it) (h2:∀ x c,X.env.cells.lookup x=some c->c≠it) (h3:∀ p∈X.pn++pins,p.1≠it):Inv X pins σ H { s with heap:=h',toks:=t' }:=by
 have nit:∀ b u,H b=some u->b≠it:=λb u e z=>by rw[z,hn] at e;cases e
 refine I.step (g':=s.gens) (d':=s.drawn) (ch:=[it]) (λb hb=>?_) (λb o _ _ hc e _=>k b o (λz=>hc (by simp[z])) e) (λb o _ _ hc e _=>⟨o.slots,k b o (λz=>hc (by simp[z])) e⟩) (λ_ _ _ _ n=>n)
  (λb o hc e=>⟨o,k b o (λz=>hc (by simp[z])) e⟩) (λ_ _ e=>e) (λ_ _ _ e=>e) (λb ps e=>⟨#[],by rw[e];simp⟩) (λm hm=>?_) (λb u e=>?_) I.bare
 ·have e:b=it:=by simpa using hb
  subst e;exact⟨h1,hL,h2,h3⟩
 ·obtain⟨o,es,ep,ho,r⟩:=hm;exact⟨o,es,ep,k _ o (XJ hL) ho,r⟩
 refine (I.hok b u e).stay (λc v hc q=>k c v ?_ q) (λ_ q=>q) λ_ _ q=>q;rcases hc with z | z
 ·rw[z];exact nit b u e
 exact nit c _ z
theorem Inv.tok (I:Inv X pins σ H s)(t:Nat):Inv X pins σ H { s with toks:=t }:=I.un (h':=s.heap) (t':=t) Un.refl I.hok
theorem Inv.kept {t':Nat}(I:Inv X pins σ H s)(k:∀ b u,s.heap.get? b=some u->h'.get? b=some u):Inv X pins σ H { s with heap:=h',toks:=t' }:=I.un (Un.kept k) (I.hok.kept k)
theorem Inv.laid {a:Addr}{o:HO}{t':Nat}(I:Inv X pins σ H s)(k:∀ b u,s.heap.get? b=some u->h'.get? b=some u)(hp:s.heap.objs.size<=a)(new:ObjOk X.prog X.w (upd H a o) h' a o) :
  Inv X pins σ (upd H a o) { s with heap:=h',toks:=t' }:=I.un (Un.laid k hp (I.hok.fresh hp)) (I.hok.laid k hp new)
theorem Inv.write {x e:Addr}{o:HO}{t':Nat}(I:Inv X pins σ H s)(mu:Mut (H x))(he:e=x \/ H e=some (.own x))(k:∀ b u,b≠e->s.heap.get? b=some u->h'.get? b=some u)(heo:∃ u,h'.get? e=some u)
  (new:ObjOk X.prog X.w (upd H x o) h' x o):Inv X pins σ (upd H x o) { s with heap:=h',toks:=t' }:=I.un (Un.write mu he k heo) (I.hok.write mu he k heo new)
theorem Inv.weak {σ':List (Option V)}(I:Inv X pins σ H s)(hl:σ'.length=σ.length)(w:∀ (i:Nat) v,σ'[i]?=some (some v)->σ[i]?=some (some v)):Inv X pins σ' H s :=
 ⟨I.ok,I.os,I.bare,I.base,let ⟨m,hn,hl'⟩:=I.loc;⟨m,hn,λi x v e1 e2 e3=>hl' i x v e1 (w i v e2) e3⟩,I.cell,I.free,I.freeC,I.pin,I.hok,hl.trans I.len⟩
theorem Inv.pins_of {pins':TD}(I:Inv X pins σ H s)(h:∀ p∈pins',s.heap.get? p.1=some p.2/\H p.1=none/\p.1≠X.env.locals/\p.1 ∉ X.fs/\∀ v,p.2.data≠.cell v):Inv X pins' σ H s :=
 ⟨I.ok,I.os,I.bare,I.base,I.loc,I.cell,I.free,I.freeC,λp hp=>(JF.mp hp).elim (λz=>I.pin p (YL _ z)) (h p),I.hok,I.len⟩
theorem Q7 {N:TF}(hN:N.Nodup){i j:Nat}{x:Str}(a:N[i]?=some x)(b:N[j]?=some x):i=j:=by
 obtain⟨h1,e1⟩:=YE.mp a;obtain⟨h2,e2⟩:=YE.mp b;exact (List.getElem_inj hN).mp (e1.trans e2.symm)
theorem Pd {M:Model}{A:Around}{E:TC}{i:Nat}{x:Str}{Q:Unit->Shared->Prop}(I:Inv X pins σ H s)(hN:X.N.Nodup)(hi:X.N[i]?=some x)(hx:Loc X.env.scope x)(r:RelV v u)
  (h:∀ s',Inv X pins (σ.set i (some v)) H s'->(∃ a,Heap.SameBut a s.heap s'.heap/\(a=X.env.locals \/ X.env.cells.lookup x=some a))->Q () s') (hf:X.fn x=true \/ X.env.scope.names.lookup x=some .local:=by first | exact .inl rfl | exact .inr rfl | assumption):wpAny M A (storeName X.env x u) Q E s:=by
 obtain⟨m,hn,hl⟩:=id I.loc;have hcls:(X.env.scope.kind == .class || (X.env.scope.kind == .module && X.env.locals != X.env.globals))=false:=by rw[I.ok.kind];rfl
 have hiσ:i<σ.length:=by rw[I.len];exact (YE.mp hi).1
 have cne:=I.cne;have tracked:∀ {a:Addr} {h':Heap},(∃ o,s.heap.get? a=some o/\H a=none)->Heap.SameBut a s.heap h'->HOk X.prog X.w H h':=λ{a h'} ha hs b ob e=>by
  obtain⟨_,_,hfree⟩:=ha;refine (I.hok b ob e).stay (λc w' hc q=>(hs.2 c ?_).trans q) (λ_ q=>q) λ_ _ q=>q;rintro rfl;rcases hc with rfl | hc
  ·rw[hfree] at e;cases e
  rw[hfree] at hc;cases hc
 rcases hx with hk | hk
 ·refine wpAny_storeName_local hk hn (λh' hn' hs=>?_) hcls;obtain⟨oL,_,_,hoL,_⟩:=id hn;refine h _ ⟨I.ok,I.os,I.bare,⟨λb o e n hb hx=>?_,λb o e n hb hx=>?_,I.base.free,λb o e hx=>?_,I.base.tups,I.base.frzs,I.base.tbls⟩,⟨_,hn',λj y v' e1 e2 e3=>?_⟩,λy c e=>?_,I.free,I.freeC,λp hp=>?_,tracked ⟨oL,hoL,I.free⟩ hs,by simpa using I.len⟩ ⟨_,hs,.inl rfl⟩
  ·exact (hs.2 b (XD (YU (YI e) I.ok.above))).trans (I.base.keep b o e n hb hx)
  ·obtain⟨sl,e1⟩:=I.base.slot b o e n hb hx;exact⟨sl,(hs.2 b (XD (YU (YI e) I.ok.above))).trans e1⟩
  ·obtain⟨o',e1⟩:=I.base.there b o e hx;exact⟨o',(hs.2 b (XD (YU (YI e) I.ok.above))).trans e1⟩
  ·by_cases hj:j=i
   ·subst hj;rw[hi] at e1;cases e1;rw[JP hiσ] at e2
    cases e2;exact⟨u,r,.inl ⟨hk,by simp⟩⟩
   rw[GE (XJ hj)] at e2;obtain⟨u',r',q⟩:=hl j y v' e1 e2 e3;refine⟨u',r',?_⟩;rcases q with ⟨k,e⟩ | ⟨k,c,e,z⟩
   ·refine .inl ⟨k,?_⟩;have:y≠x:=λe=>hj (Q7 hN e1 (e ▸ hi));simp[this,e]
   exact .inr ⟨k,c,e,z.sameBut hs (cne y c e)⟩
  ·obtain⟨w',z⟩:=I.cell y c e;exact⟨w',z.sameBut hs (cne y c e)⟩
  obtain⟨e,n,ne,nf,d⟩:=I.pin p hp;exact⟨(hs.2 p.1 ne).trans e,n,ne,nf,d⟩
 have hfn:X.fn x=true:=by
  rcases hf with z | z
  ·exact z
  rw[z] at hk;cases hk
 obtain⟨c,hc⟩:=I.ok.has x (.inl hk);obtain⟨w',z⟩:=I.cell x c hc;refine wpAny_storeName_cell I.ok.kind hk hc z (λh' hc' hs=>?_);obtain⟨oc,hoc,hocd⟩:=id z;refine h { s with heap:=h' } ⟨I.ok,I.os,I.bare,⟨λb o e n hb hx=>?_,λb o e n hb hx=>?_,I.base.free,λb o e hx=>?_,I.base.tups,I.base.frzs,I.base.tbls⟩,⟨m,hn.sameBut hs (XJ (cne x c hc)),λj y v' e1 e2 e3=>?_⟩,λy c' e=>?_,I.free,I.freeC,λp hp=>?_,tracked ⟨oc,hoc,I.freeC x c hc⟩ hs,by simpa using I.len⟩ ⟨c,hs,.inr hc⟩
 ·exact (hs.2 b (XD (YU (YI e) (I.ok.cab x c hfn hc)))).trans (I.base.keep b o e n hb hx)
 ·obtain⟨sl,e1⟩:=I.base.slot b o e n hb hx;exact⟨sl,(hs.2 b (XD (YU (YI e) (I.ok.cab x c hfn hc)))).trans e1⟩
 ·obtain⟨o',e1⟩:=I.base.there b o e hx;exact⟨o',(hs.2 b (XD (YU (YI e) (I.ok.cab x c hfn hc)))).trans e1⟩
 ·by_cases hj:j=i
  ·subst hj;rw[hi] at e1;cases e1;rw[JP hiσ] at e2
   cases e2;exact⟨u,r,.inr ⟨.inl hk,c,hc,hc'⟩⟩
  rw[GE (XJ hj)] at e2;obtain⟨u',r',q⟩:=hl j y v' e1 e2 e3;refine⟨u',r',?_⟩;rcases q with q | ⟨k,c',e,z'⟩
  ·exact .inl q
  refine .inr ⟨k,c',e,z'.sameBut hs ?_⟩;rintro rfl;exact hj (Q7 hN e1 (I.ok.inj _ _ _ e hc ▸ hi))
 ·by_cases hcc:c'=c
  ·subst hcc;exact⟨_,hc'⟩
  obtain⟨w2,z2⟩:=I.cell y c' e;exact⟨w2,z2.sameBut hs hcc⟩
 obtain⟨e,n,ne,nf,d⟩:=I.pin p hp;refine⟨(hs.2 p.1 ?_).trans e,n,ne,nf,d⟩;intro q;rw[q,hoc] at e;have q':oc=p.2:=YK e;exact d w' (by rw[<-q'];exact hocd)
theorem Rv {M:Model}{A:Around}{E:TC}{i:Nat}{x:Str}{Q:Unit->Shared->Prop}(I:Inv X pins σ H s)(hN:X.N.Nodup)(hi:X.N[i]?=some x)(hx:Loc X.env.scope x)(r:RelV v u)
  (h:∀ s',Inv X pins (σ.set i (some v)) H s'->Q () s') (hf:X.fn x=true \/ X.env.scope.names.lookup x=some .local:=by first | exact .inl rfl | exact .inr rfl | assumption):wpAny M A (storeName X.env x u) Q E s :=
 Pd I hN hi hx r (λs' I' _=>h s' I') hf
theorem Inv.call' {s':Shared}{ch:TJ}(I:Inv X pins σ H s)(ho:s'.os=s.os)(u:Un (frs X.stack) ch H H' s.heap s'.heap)(hok:HOk X.prog X.w H' s'.heap)(hg:AllBare s'.gens)
  (hch:∀ b∈ch,(b∈X.ex \/ X.s₀.heap.objs.size<=b)/\b≠X.env.locals/\(∀ x c,X.env.cells.lookup x=some c->c≠b)/\∀ p∈X.pn++pins,p.1≠b):Inv X pins σ H' s':=by
 obtain⟨h',g',d',t',o'⟩:=s';have e:o'=s.os:=ho;subst e;exact I.call (g':=g') (t':=t') (d':=d') u hok hg hch
end
abbrev XK:=Value->Option Addr->Hp->Prop
abbrev St:=List (Option V)
abbrev VK:=V->Hp->Prop
abbrev TE:=St->Hp->VK->Prop
abbrev TT:=St->Hp->(Bool->Hp->Prop)->Prop
abbrev TA:=St->Hp->(List V->Hp->Prop)->Prop
structure Ends where
 nx:St->Hp->Prop
 rt:VK
 bk:St->Hp->Prop:=λ_ _=>False
 ct:St->Hp->Prop:=λ_ _=>False
abbrev TS:=Ends->St->Hp->Prop
def EP (X:Cx)(pins:TD)(σ:St)(Q:VK)(u:Value)(s':Shared):Prop:=∃ v H',Inv X pins σ H' s'/\RelV v u/\Q v H'
def TP (X:Cx)(pins:TD)(σ:St)(Q:Bool->Hp->Prop)(b:Bool)(s':Shared):Prop:=∃ H',Inv X pins σ H' s'/\Q b H'
def AP (X:Cx)(pins:TD)(σ:St)(Q:List V->Hp->Prop)(us:TH)(s':Shared):Prop:=∃ vs H',Inv X pins σ H' s'/\Vals vs us/\Q vs H'
def SP (X:Cx)(pins:TD)(D:Ends)(f:Flow)(s':Shared):Prop :=
 match f with
 | .next=>∃ σ' H',Inv X pins σ' H' s'/\D.nx σ' H'
 | .brk=>∃ σ' H',Inv X pins σ' H' s'/\D.bk σ' H'
 | .cont=>∃ σ' H',Inv X pins σ' H' s'/\D.ct σ' H'
 | .ret u=>∃ v σ' H',Inv X pins σ' H' s'/\RelV v u/\D.rt v H'
def PE (X:Cx)(e:Expr)(t:TE):Prop :=
 ∀ (pins:TD) (s:Shared) (σ:St) (H:Hp) (Q:VK),Inv X pins σ H s->t σ H Q->wpAny (model X.prog X.w) X.A (eval e X.env) (EP X pins σ Q) X.xe s
def PT (X:Cx)(e:Expr)(t:TT):Prop :=
 ∀ (pins:TD) (s:Shared) (σ:St) (H:Hp) (Q:Bool->Hp->Prop),Inv X pins σ H s->t σ H Q->wpAny (model X.prog X.w) X.A (isTrue e X.env (eval e X.env)) (TP X pins σ Q) X.xe s
def PW (X:Cx)(e:Expr)(t:TT):Prop :=
 ∀ (whole:Sem Value) (pins:TD) (s:Shared) (σ:St) (H:Hp) (Q:Bool->Hp->Prop),Inv X pins σ H s->t σ H Q->wpAny (model X.prog X.w) X.A (isTrue e X.env whole) (TP X pins σ Q) X.xe s
theorem PW.pt {X:Cx}{e:Expr}{t:TT}(h:PW X e t):PT X e t:=h _
def PA (X:Cx)(es:TK)(t:TA):Prop :=
 ∀ (pos:Pos) (pins:TD) (s:Shared) (σ:St) (H:Hp) (Q:List V->Hp->Prop),Inv X pins σ H s->t σ H Q->wpAny (model X.prog X.w) X.A (spliced (backTo pos (starEach es X.env))) (AP X pins σ Q) X.xe s
def PS (X:Cx)(st:Stmt)(t:TS):Prop :=
 ∀ (pins:TD) (s:Shared) (σ:St) (H:Hp) (D:Ends),Inv X pins σ H s->t D σ H->wpAny (model X.prog X.w) X.A (exec st X.env) (SP X pins D) X.xe s
def PSs (X:Cx)(st:TL)(t:TS):Prop :=
 ∀ (pins:TD) (s:Shared) (σ:St) (H:Hp) (D:Ends),Inv X pins σ H s->t D σ H->wpAny (model X.prog X.w) X.A (execs st X.env) (SP X pins D) X.xe s
theorem thn {α:Type}{t:Sem α}{Q Q':α->Shared->Prop}{M:Model}(h:wpAny M A t Q E s)(hQ:∀ a s,Q a s->Q' a s):wpAny M A t Q' E s:=GM h hQ λ_ _ x=>x
end L2
variable {X:L2.Cx}{ta:L2.TA}{tb:L2.TS}{te tl:L2.TE}{σ:L2.St}
namespace L2
open PySem PySem.Spec PyProof.Rows
section
variable {X:Cx}
inductive tVar (i:Nat) (σ:L2.St) (H:Hp) (Q:VK):Prop
 | i (v:_) (_:σ[i]?=some (some v)) (_:Q v H)
def tC (v:V):TE:=λ_ H Q=>Q v H
theorem Z4a {i:Nat}{x:Str}{pos:Pos}(hN:X.N[i]?=some x)(hv:Vis X.env.scope x)(hd:(x == ("__debug__":Str))=false:=by decide)(hcd:(x == ("__classdict__":Str))=false:=by decide):PE X (.Name x pos) (tVar i):=by
 intro pins s σ H Q I h;obtain⟨v,e,h⟩:=h;obtain⟨m,hn,hl⟩:=I.loc;obtain⟨u,r,l⟩:=hl i x v hN e hv;have fin:EP X pins σ Q u s:=⟨v,H,I,r,h⟩;rcases l with ⟨hk,hm⟩ | ⟨hk,c,hc,hcell⟩
 ·exact wpAny_Name (wpAny_loadName_local I.ok.kind hk hn hm fin) hd
 rcases hk with hk | hk
 ·exact wpAny_Name (wpAny_loadName_cell I.ok.kind hk hc hcell fin) hd
 exact wpAny_Name (wpAny_loadName_free I.ok.kind hk hc hcell fin hcd) hd
theorem Za {i j pos}:PE X (.Constant (.int i) j pos) (tC (.int i)):=λ_ _ _ H _ I h=>wpAny_Constant_int ⟨.int i,H,I.tok _,⟨_,rfl⟩,h⟩
theorem Wh {b j pos}:PE X (.Constant (.bool b) j pos) (tC (.bl b)):=λ_ _ _ H _ I h=>Constant_bool ⟨.bl b,H,I,rfl,h⟩
theorem Yj {j pos}:PE X (.Constant .none j pos) (tC .non):=λ_ _ _ H _ I h=>Constant_none ⟨.non,H,I,rfl,h⟩
theorem Xr {x j pos}:PE X (.Constant (.str x) j pos) (tC (.str x)):=λ_ _ _ H _ I h=>Calls.Constant_str ⟨.str x,H,I.tok _,⟨_,rfl⟩,h⟩
def Gl (X:Cx)(x:Str):Prop:=X.env.kindOf x=some .globalImplicit
theorem Vv {E:TC}{x:Str}{pos:Pos}{Q:TC}(I:Inv X pins σ H s)(hg:Gl X x)(hm:X.mg x=some u)(h:Q u s)
  (hd:(x == ("__debug__":Str))=false:=by decide):wpAny (model X.prog X.w) X.A (eval (.Name x pos) X.env) Q E s :=
 Y03 I.ok.kind hg (Calls.loadGlobal_global (by rw[I.ok.glob];exact I.mod.glob.keeps I.bk) hm h) hd
theorem Wy {E:TC}{x:Str}{pos:Pos}{Q:TC}(I:Inv X pins σ H s)(hg:Gl X x)(hm:X.mg x=none)(hv:bootBuiltins x=some u)(h:Q u s)
  (hn:x≠"__name__":=by decide) (hd:(x == ("__debug__":Str))=false:=by decide):wpAny (model X.prog X.w) X.A (eval (.Name x pos) X.env) Q E s:=by
 obtain⟨mb,h1,h2⟩:=I.mod.blt;exact Y03 I.ok.kind hg (Calls.loadGlobal_builtin (by rw[I.ok.glob];exact I.mod.glob.keeps I.bk) hm (by rw[I.ok.blt];exact h1.keeps I.bk) ((h2 x hn).trans hv) h) hd
theorem Yq {x:Str}{pos:Pos}(hg:Gl X x)(hm:X.mg x=some u)(r:RelV v u)(hd:(x == ("__debug__":Str))=false:=by decide):PE X (.Name x pos) (tC v) :=
 λ_ _ _ H _ I h=>Vv I hg hm ⟨v,H,I,r,h⟩ hd
theorem Z1z {x:Str}{pos:Pos}(hg:Gl X x)(hm:X.mg x=none)(hv:bootBuiltins x=some u)(r:RelV v u)(hn:x≠"__name__":=by decide)(hd:(x == ("__debug__":Str))=false:=by decide):PE X (.Name x pos) (tC v) :=
 λ_ _ _ H _ I h=>Wy I hg hm hv ⟨v,H,I,r,h⟩ hn hd
variable {a b:Expr}{ta tb:TE}{pos:Pos}
inductive tB_i (Q:(Bool->Hp->Prop)) (x:V) (H1:Hp):Prop
 | i (c:_) (_:x=.bl c) (_:Q c H1)
def tB (t:TE):TT:=λσ H Q=>t σ H (tB_i Q)
theorem Yr {e:Expr}{t:TE}(h:PE X e t)(he:∀ whole,isTrue e X.env whole=(do let v <-whole;standAt e.pos;holding [v] (truthy v)):=by intro _;rfl):PT X e (tB t):=by
 intro pins s σ H Q I hw;refine isTrue_plain (thn (h pins s σ H _ I hw) λv s1 ⟨x,H1,I1,r1,q1⟩=>?_) (he _);obtain⟨d,rfl,q⟩:=q1
 cases r1;exact qY ⟨H1,I1,q⟩
variable {tA tB':TT}{rest:TK}
def tAnd (t u:TT):TT:=λσ H Q=>t σ H λc H1=>if c=true then u σ H1 Q else Q false H1
def tOr (t u:TT):TT:=λσ H Q=>t σ H λc H1=>if c=true then Q true H1 else u σ H1 Q
def tNot (t:TT):TT:=λσ H Q=>t σ H λc H1=>Q (!c) H1
theorem Rg (ha:PT X a tA):PW X (.BoolOp .And [a] pos) tA:=by
 intro wh pins s σ H Q I h;refine isTrue_and (thn (ha pins s σ H Q I h) λc s1 e=>?_)
 cases c with
 | true=>exact isTrue_and_nil e
 | false=>exact e
theorem W8 (ha:PT X a tA):PW X (.BoolOp .Or [a] pos) tA:=by
 intro wh pins s σ H Q I h;refine isTrue_or (thn (ha pins s σ H Q I h) λc s1 e=>?_)
 cases c with
 | false=>exact isTrue_or_nil e
 | true=>exact e
theorem Na (ha:PT X a tA)(hb:PW X (.BoolOp .And (b::rest) pos) tB'):PW X (.BoolOp .And (a::b::rest) pos) (tAnd tA tB'):=by
 intro wh pins s σ H Q I h;refine isTrue_and (thn (ha pins s σ H _ I h) λc s1 ⟨H1,I1,q1⟩=>?_)
 cases c with
 | true=>exact hb wh pins s1 σ H1 Q I1 q1
 | false=>exact⟨H1,I1,q1⟩
theorem Wf (ha:PT X a tA)(hb:PW X (.BoolOp .Or (b::rest) pos) tB'):PW X (.BoolOp .Or (a::b::rest) pos) (tOr tA tB'):=by
 intro wh pins s σ H Q I h;refine isTrue_or (thn (ha pins s σ H _ I h) λc s1 ⟨H1,I1,q1⟩=>?_)
 cases c with
 | true=>exact⟨H1,I1,q1⟩
 | false=>exact hb wh pins s1 σ H1 Q I1 q1
theorem Yz (ha:PT X a tA):PT X (.UnaryOp .Not a pos) (tNot tA):=by
 intro pins s σ H Q I h;exact isTrue_not (ha pins s σ H (λc H1=>Q (!c) H1) I h)
inductive tAndV_i (tb:TE) (σ:L2.St) (Q:VK) (x:V) (H1:Hp):Prop
 | i (c:_) (_:x=.bl c) (_:if c=true then tb σ H1 Q else Q (.bl false) H1)
def tAndV (ta tb:TE):TE:=λσ H Q=>ta σ H (tAndV_i tb σ Q)
inductive tOrV_i (tb:TE) (σ:L2.St) (Q:VK) (x:V) (H1:Hp):Prop
 | i (c:_) (_:x=.bl c) (_:if c=true then Q (.bl true) H1 else tb σ H1 Q)
def tOrV (ta tb:TE):TE:=λσ H Q=>ta σ H (tOrV_i tb σ Q)
inductive tNotV_i (Q:VK) (x:V) (H1:Hp):Prop
 | i (c:_) (_:x=.bl c) (_:Q (.bl (!c)) H1)
def tNotV (ta:TE):TE:=λσ H Q=>ta σ H (tNotV_i Q)
theorem Um {op}{t:TE}(h:PE X a t):PE X (.BoolOp op [a] pos) t:=λpins s σ H Q I hw=>BoolOp_one (h pins s σ H Q I hw)
theorem Uo (ha:PE X a ta)(hb:PE X (.BoolOp .And (b::rest) pos) tb):PE X (.BoolOp .And (a::b::rest) pos) (tAndV ta tb):=by
 intro pins s σ H Q I h;refine BoolOp_and (thn (ha pins s σ H _ I h) λv s1 ⟨x,H1,I1,r1,q1⟩=>?_);obtain⟨c,rfl,q1⟩:=q1
 cases r1;refine qY ?_
 cases c with
 | true=>exact hb pins s1 σ H1 Q I1 q1
 | false=>exact⟨.bl false,H1,I1,rfl,q1⟩
theorem Z5i (ha:PE X a ta)(hb:PE X (.BoolOp .Or (b::rest) pos) tb):PE X (.BoolOp .Or (a::b::rest) pos) (tOrV ta tb):=by
 intro pins s σ H Q I h;refine BoolOp_or (thn (ha pins s σ H _ I h) λv s1 ⟨x,H1,I1,r1,q1⟩=>?_);obtain⟨c,rfl,q1⟩:=q1
 cases r1;refine qY ?_
 cases c with
 | false=>exact hb pins s1 σ H1 Q I1 q1
 | true=>exact⟨.bl true,H1,I1,rfl,q1⟩
theorem Cr (ha:PE X a ta):PE X (.UnaryOp .Not a pos) (tNotV ta):=by
 intro pins s σ H Q I h;refine UnaryOp_ (thn (ha pins s σ H _ I h) λv s1 ⟨x,H1,I1,r1,q1⟩=>?_);obtain⟨c,rfl,q1⟩:=q1
 cases r1;exact not_of (qY ⟨.bl (!c),H1,I1,rfl,q1⟩)
def tIf (t:TT)(ta tb:TE):TE:=λσ H Q=>t σ H λc H1=>if c=true then ta σ H1 Q else tb σ H1 Q
theorem U5 {c:Expr}(hc:PT X c tA)(ha:PE X a ta)(hb:PE X b tb):PE X (.IfExp c a b pos) (tIf tA ta tb):=by
 intro pins s σ H Q I h;refine wpAny_IfExp (thn (hc pins s σ H _ I h) λd s1 ⟨H1,I1,q1⟩=>?_)
 cases d with
 | true=>exact ha pins s1 σ H1 Q I1 q1
 | false=>exact hb pins s1 σ H1 Q I1 q1
end
end L2
namespace L2
open PySem PySem.Spec PyProof.Rows
def SqL (K:TQ)(H:Hp)(a:Addr)(xs:TY):Prop :=
 Rd H a (.lst xs) ∨
  ∃ (o:Obj) (its:Array Value) (n:Nat),K.lookup a=some o/\o.cls=.type "list"/\o.dict=none/\o.data=.seq its n/\its.size<=sizeLine/\Vals xs its.toList
def SqT (K:TQ)(H:Hp)(a:Addr)(xs:TY):Prop :=
 Rd H a (.tup xs) ∨
  ∃ (o:Obj) (its:Array Value) (n:Nat),K.lookup a=some o/\o.cls=.type "tuple"/\o.data=.seq its n/\its.size<=sizeLine/\Vals xs its.toList
def absV:Value->Option V
 | .none=>some .non
 | .bool b=>some (.bl b)
 | .int i _=>some (.int i)
 | .str x _=>some (.str x)
 | .bytes b _=>some (.byt b)
 | .float b _=>some (.flt b)
 | .ref a=>some (.ref a)
 | .type n=>some (.ty n)
 | _=>none
theorem RelV.abs {x:V}{u:Value}(r:RelV x u):absV u=some x:=by
 cases x with
 | non=>cases r;rfl
 | bl _=>cases r;rfl
 | int _=>obtain⟨t,rfl⟩:=r;rfl
 | str _=>obtain⟨t,rfl⟩:=r;rfl
 | byt _=>obtain⟨t,rfl⟩:=r;rfl
 | flt _=>obtain⟨t,rfl⟩:=r;rfl
 | ref _=>cases r;rfl
 | ty _=>cases r;rfl
theorem RelV.inj {x y:V}(r:RelV x u)(q:RelV y u):x=y:=YK (r.abs.symm.trans q.abs)
theorem Vals.inj:∀ {xs ys:TY} {us:TH},Vals xs us->Vals ys us->xs=ys
 | _,_,_,.nil,.nil=>rfl
 | _,_,_,.cons r t,.cons r' t'=>by rw[r.inj r',Vals.inj t t']
section
variable {X:Cx}{pins:TD}{σ:St}{H:Hp}{s:Shared}{a:Addr}{xs ys:TY}
theorem SqL.of (h:H a=some (.lst xs)):SqL K H a xs:=.inl (.inl h)
theorem SqT.of (h:H a=some (.tup xs)):SqT K H a xs:=.inl (.inl h)
theorem Inv.list (I:Inv X pins σ H s)(h:SqL X.K H a xs):∃ its:List Value,Vals xs its/\PlainL s.heap a its.toArray/\xs.length<=sizeLine:=by
 rcases h with h | ⟨o,its,n,hk,hc,hd,hs,hz,r⟩
 ·obtain⟨z,its,n,r,e⟩:=h.ok I.hok;exact⟨its,r,⟨_,n,e,rfl,rfl,rfl⟩,z⟩
 refine⟨its.toList,r,⟨o,n,I.kIn a o hk,hc,hd,by simpa using hs⟩,?_⟩;have e:=r.length;simp only [ze] at e;omega
theorem Inv.tuple (I:Inv X pins σ H s)(h:SqT X.K H a xs):∃ its:List Value,Vals xs its/\IsTup s.heap a its.toArray/\xs.length<=sizeLine:=by
 rcases h with h | ⟨o,its,n,hk,hc,hs,hz,r⟩
 ·obtain⟨z,its,r,p⟩:=h.ok I.hok;exact⟨its,r,p,z⟩
 refine⟨its.toList,r,⟨o,I.kIn a o hk,hc,n,by simpa using hs⟩,?_⟩;have e:=r.length;simp only [ze] at e;omega
theorem Inv.list_inj (I:Inv X pins σ H s)(h:SqL X.K H a xs)(h':SqL X.K H a ys):xs=ys:=by
 obtain⟨its,r,⟨o,n,e,_,_,d⟩,_⟩:=I.list h;obtain⟨its',r',⟨o',n',e',_,_,d'⟩,_⟩:=I.list h';rw[e] at e';cases e';rw[d] at d';injection d' with d1 _
 have:its=its':=by simpa using congrArg Array.toList d1
 subst this;exact r.inj r'
theorem Inv.tuple_inj (I:Inv X pins σ H s)(h:SqT X.K H a xs)(h':SqT X.K H a ys):xs=ys:=by
 obtain⟨its,r,⟨o,e,_,n,d⟩,_⟩:=I.tuple h;obtain⟨its',r',⟨o',e',_,n',d'⟩,_⟩:=I.tuple h';rw[e] at e';cases e';rw[d] at d';injection d' with d1 _
 have:its=its':=by simpa using congrArg Array.toList d1
 subst this;exact r.inj r'
end
abbrev Cx.wish (X:Cx)(E:TC):Cx:={ X with xe:=E }
abbrev Cx.nox (X:Cx):Cx:=X.wish λ_ _=>False
theorem Cx.Ok.wish {X:Cx}(ok:X.Ok)(E:TC):(X.wish E).Ok :=
 ⟨ok.mod,ok.kind,ok.glob,ok.blt,ok.above,ok.inj,ok.has,ok.cab,ok.hd,ok.frames,ok.stk,ok.exf,ok.bs,ok.bsz,ok.noex,ok.exfs,ok.funs,ok.frf⟩
theorem Cx.Ok.unwish (ok:(X.wish E).Ok):X.Ok :=
 ⟨ok.mod,ok.kind,ok.glob,ok.blt,ok.above,ok.inj,ok.has,ok.cab,ok.hd,ok.frames,ok.stk,ok.exf,ok.bs,ok.bsz,ok.noex,ok.exfs,ok.funs,ok.frf⟩
section
variable {X:Cx}{pins:TD}{σ:St}{H:Hp}{s:Shared}{E:TC}
theorem Inv.wish (I:Inv X pins σ H s)(E:TC):Inv (X.wish E) pins σ H s:=⟨I.ok.wish E,I.os,I.bare,I.base,I.loc,I.cell,I.free,I.freeC,I.pin,I.hok,I.len⟩
theorem Inv.unwish (I:Inv (X.wish E) pins σ H s):Inv X pins σ H s:=⟨I.ok.unwish,I.os,I.bare,I.base,I.loc,I.cell,I.free,I.freeC,I.pin,I.hok,I.len⟩
theorem SP.unwish {D:Ends}{f:Flow}{s':Shared}(h:SP (X.wish E) pins D f s'):SP X pins D f s':=by
 cases f with
 | next=>obtain⟨σ',H',I,q⟩:=h;exact⟨σ',H',I.unwish,q⟩
 | brk=>obtain⟨σ',H',I,q⟩:=h;exact⟨σ',H',I.unwish,q⟩
 | cont=>obtain⟨σ',H',I,q⟩:=h;exact⟨σ',H',I.unwish,q⟩
 | ret u=>obtain⟨v,σ',H',I,r,q⟩:=h;exact⟨v,σ',H',I.unwish,r,q⟩
theorem PSs.nox {st:TL}{t:TS}(h:PSs X.nox st t):PSs X st t:=λpins s σ H D I hw =>
 GM (h pins s σ H D (I.wish _) hw) (λ_ _ q=>q.unwish) λ_ _ z=>False.elim z
end
section
variable {X:Cx}{st:Stmt}{rest:TL}{t u:TS}{e:Expr}{te:TE}{pos:Pos}
def tNext:TS:=λD σ H=>D.nx σ H
def tSeq (t u:TS):TS:=λD σ H=>t { D with nx:=u D } σ H
theorem Zp:PSs X [] tNext:=λ_ _ σ H _ I h=>zE ⟨σ,H,I,h⟩
theorem Z9 (h1:PS X st t)(h2:PSs X rest u):PSs X (st::rest) (tSeq t u):=by
 intro pins s σ H D I h;refine wpAny_execs_cons (thn (h1 pins s σ H { D with nx:=u D } I h) λf s1 q=>?_)
 cases f with
 | next =>
  obtain⟨σ',H',I',q⟩:=q;exact h2 pins s1 σ' H' D I' q
 | ret v=>exact q
 | brk=>exact q
 | cont=>exact q
theorem Zc (h1:PS X st t):PSs X [st] t:=by
 intro pins s σ H D I h;refine wpAny_execs_cons (thn (h1 pins s σ H D I h) λf s1 q=>?_)
 cases f with
 | next=>exact zE q
 | ret v=>exact q
 | brk=>exact q
 | cont=>exact q
theorem Inv.quiet (I:Inv X pins σ H s):interactive X.env=false:=by simp[interactive,I.ok.kind]
def tDrop (te:TE):TS:=λD σ H=>te σ H λ_ H1=>D.nx σ H1
theorem X7 (he:PE X e te)(hs:swapsWith e none pos.line X.env=pure false:=by rfl):PS X (.Expr e pos) (tDrop te):=by
 intro pins s σ H D I h;exact wpAny_Expr_any (thn (he pins s σ H _ I h) λv s1 ⟨x,H1,I1,r1,q1⟩=>⟨σ,H1,I1,q1⟩) I.quiet hs
def tRet (te:TE):TS:=λD σ H=>te σ H D.rt
theorem Zh (he:PE X e te):PS X (.Return (some e) pos) (tRet te):=by
 intro pins s σ H D I h;exact wpAny_Return_some (thn (he pins s σ H _ I h) λv s1 ⟨x,H1,I1,r1,q1⟩=>⟨x,σ,H1,I1,r1,q1⟩)
def tIfS (c:TT)(t u:TS):TS:=λD σ H=>c σ H λb H1=>if b=true then t D σ H1 else u D σ H1
theorem Y4 {c:Expr}{a b:TL}{tc:TT}(hc:PT X c tc)(ha:PSs X a t)(hb:PSs X b u):PS X (.If c a b pos) (tIfS tc t u):=by
 intro pins s σ H D I h;refine wpAny_If (thn (hc pins s σ H _ I h) λd s1 ⟨H1,I1,q1⟩=>?_)
 cases d with
 | true=>exact ha pins s1 σ H1 D I1 q1
 | false=>exact hb pins s1 σ H1 D I1 q1
def tNever:TS:=λ_ _ _=>False
theorem Mf:PS X st tNever:=λ_ _ _ _ _ _ h=>h.elim
end
abbrev TG:=V->St->Hp->(St->Hp->Prop)->Prop
abbrev TGs:=List V->St->Hp->(St->Hp->Prop)->Prop
def PG (X:Cx)(target:Expr)(t:TG):Prop :=
 ∀ (pins:TD) (s:Shared) (σ:St) (H:Hp) (v:V) (u:Value) (Q:St->Hp->Prop),Inv X pins σ H s->RelV v u->t v σ H Q →
  wpAny (model X.prog X.w) X.A (assign target X.env u) (λ_ s'=>∃ σ' H',Inv X pins σ' H' s'/\Q σ' H') X.xe s
def PGs (X:Cx)(ts:TK)(t:TGs):Prop :=
 ∀ (pins:TD) (s:Shared) (σ:St) (H:Hp) (vs:TY) (us:TH) (Q:St->Hp->Prop),Inv X pins σ H s->Vals vs us->t vs σ H Q →
  wpAny (model X.prog X.w) X.A (assignInOrder ((assignEach ts X.env).map (·.2)) us) (λ_ s'=>∃ σ' H',Inv X pins σ' H' s'/\Q σ' H') X.xe s
abbrev TSet:=V->V->V->Hp->(Hp->Prop)->Prop
def PSet (X:Cx)(t:TSet):Prop :=
 ∀ (pins:TD) (s:Shared) (σ:St) (H:Hp) (o i v:V) (ov iv u:Value) (Q:Hp->Prop),Inv X pins σ H s->RelV o ov->RelV i iv->RelV v u->t o i v H Q →
  wpAny (model X.prog X.w) X.A (setItem ov iv u) (λ_ s'=>∃ H',Inv X pins σ H' s'/\Q H') X.xe s
section
variable {X:Cx}{pos:Pos}
def gName (i:Nat):TG:=λv σ H Q=>Q (σ.set i (some v)) H
theorem Zk {i:Nat}{x:Str}(hN:X.N.Nodup)(hi:X.N[i]?=some x)(hx:Loc X.env.scope x)(hf:X.fn x=true \/ X.env.scope.names.lookup x=some .local:=by first | exact .inl rfl | exact .inr rfl | assumption):PG X (.Name x pos) (gName i):=by
 intro pins s σ H v u Q I r h;exact wpAny_assign_Name (Rv I hN hi hx r (λs' I'=>⟨_,H,I',h⟩) hf)
def gNil:TGs:=λvs σ H Q=>vs=[]/\Q σ H
inductive gCons (t:TG) (u:TGs) (vs:TY) (σ:L2.St) (H:Hp) (Q:(L2.St->Hp->Prop)):Prop
 | i (v r:_) (_:vs=v::r) (_:t v σ H λσ' H'=>u r σ' H' Q)
theorem Xl:PGs X [] gNil:=by
 intro pins s σ H vs us Q I r h;obtain⟨e,h⟩:=h;subst e
 cases r;exact assignInOrder_nil ⟨σ,H,I,h⟩
theorem Y3 {e:Expr}{es:TK}{t:TG}{u:TGs}(h1:PG X e t)(h2:PGs X es u)
  (hs:(assignEach (e::es) X.env).map (·.2)=assign e X.env::(assignEach es X.env).map (·.2):=by rfl):PGs X (e::es) (gCons t u):=by
 intro pins s σ H vs us Q I r h;obtain⟨v,vr,e1,h⟩:=h;subst e1
 cases r with
 | cons r rr =>
  rw[hs];refine assignInOrder_cons (thn (h1 pins s σ H _ _ _ I r h) λ_ s1 ⟨σ1,H1,I1,q1⟩=>?_);exact h2 pins s1 σ1 H1 _ _ Q I1 rr q1
inductive gTup (K:TQ) (n:Nat) (t:TGs) (v:V) (σ:L2.St) (H:Hp) (Q:(L2.St->Hp->Prop)):Prop
 | i (a xs:_) (_:v=.ref a) (_:SqT K H a xs) (_:xs.length=n) (_:t xs σ H Q)
theorem W9 {k:Nat}{t:TGs}{n:Nat}(hc:X.calm=true)(h:PGs X es t)
  (hn:(assignEach es X.env).length=n:=by rfl) (hst:(assignEach es X.env).findIdx? (·.1)=none:=by rfl):PG X (.Tuple es k pos) (gTup X.K n t):=by
 intro pins s σ H v u Q I r hw;obtain⟨a,xs,e1,hq,hl,hw⟩:=hw;subst e1
 cases r;obtain⟨its,rv,ht,hz⟩:=I.tuple hq;refine Sb.Qx (I.qt hc) ht (by simp[hn,<-hl,rv.length]) hst λh' hx=>?_;have I1:Inv X pins σ H { s with heap:=h' }:=I.kept (t':=s.toks) λb o e=>hx b o (XD (YI e)) e;exact h pins _ σ H xs _ Q I1 (by simpa using rv) hw
def gSub (to ti:TE)(t:TSet):TG:=λv σ H Q=>to σ H λo H1=>ti σ H1 λi H2=>t o i v H2 λH3=>Q σ H3
theorem Tt {o i:Expr}{to ti:TE}{t:TSet}(ho:PE X o to)(hi:PE X i ti)(hs:PSet X t)
  (ha:∀ v,assign (.Subscript o i pos) X.env v=(do
   let ov <-holding [v] (eval o X.env);let iv <-holding [v,ov] (eval i X.env)
   standAt pos
   holding [v,ov,iv] (setItem ov iv v)
   release [v,ov,iv] []):=by intro _;rfl):PG X (.Subscript o i pos) (gSub to ti t):=by
 intro pins s σ H v u Q I r h;rw[ha];refine YA (JN (thn (ho pins s σ H _ I h) λov s1 ⟨x,H1,I1,r1,q1⟩=>?_));refine YA (JN (thn (hi pins s1 σ H1 _ I1 q1) λiv s2 ⟨y,H2,I2,r2,q2⟩=>?_));refine YA (zm (YA (JN (thn (hs pins s2 σ H2 x y v ov iv u _ I2 r1 r2 r q2) λ_ s3 ⟨H3,I3,q3⟩=>?_))));exact wpAny_release ⟨σ,H3,I3,q3⟩
def tAsg (te:TE)(g:TG):TS:=λD σ H=>te σ H λx H1=>g x σ H1 D.nx
theorem Vq {e:Expr}(he:PE X e te)(hg:PG X tg g)(hs:swapsWithSole [tg] e pos.line X.env=pure false:=by rfl)(hw:swappedStores [tg] e X.env=pure none:=by rfl)
  (h1:(assignEach [tg] X.env).map (·.2)=[assign tg X.env]:=by rfl):PS X (.Assign [tg] e pos) (tAsg te g):=by
 intro pins s σ H D I h;refine wpAny_Assign_stores (thn (he pins s σ H _ I h) λv s1 ⟨x,H1,I1,r1,q1⟩=>?_) hs hw;rw[h1];exact thn (hg pins s1 σ H1 x v _ I1 r1 q1) λ_ s2 q=>q
theorem Zi {i:Nat}{x:Str}{e:Expr}(hN:X.N.Nodup)(hi:X.N[i]?=some x)(hx:Loc X.env.scope x)(he:PE X e te)(hs:swapsWith e (some (.Name x pos')) pos.line X.env=pure false:=by rfl)(hf:X.fn x=true \/ X.env.scope.names.lookup x=some .local:=by first | exact .inl rfl | exact .inr rfl | assumption) :
  PS X (.Assign [.Name x pos'] e pos) (tAsg te (gName i)):=by
 intro pins s σ H D I h;refine wpAny_Assign_Name (thn (he pins s σ H _ I h) λv s1 ⟨y,H1,I1,r1,q1⟩=>?_) hs;exact Rv I1 hN hi hx r1 (λs2 I2=>⟨_,H1,I2,q1⟩) hf
end
section
variable {X:Cx}{pos:Pos}
def tWhile (c:TT)(tb:TS):TS:=λD σ H=>∃ W:Nat->St->Hp->Prop,(∃ m,W m σ H)/\∀ m σ H,W m σ H →
 c σ H λb H1=>if b=true then ∃ N:St->Hp->Prop,(∀ σ' H',N σ' H'->∃ m',m'<m/\W m' σ' H')/\tb { D with nx:=N,ct:=N,bk:=D.nx } σ H1 else D.nx σ H1
theorem Q2 {c:Expr}{body:TL}{tc:TT}{tb:TS}(hp:PassesOwn (model X.prog X.w) X.A X.env X.xe)(hc:PT X c tc)(hb:PSs X body tb):PS X (.While c body [] pos) (tWhile tc tb):=by
 intro pins s σ H D I h;obtain⟨W,⟨m0,w0⟩,turn⟩:=h;refine wpAny_While (codeAny_whileLoop (λn s'=>∃ σ' H',Inv X pins σ' H' s'/\W n σ' H') ?_ m0 ⟨σ,H,I,w0⟩);rintro n s1 ⟨σ1,H1,I1,w1⟩;refine qz hp (thn (hc pins s1 σ1 H1 _ I1 (turn n σ1 H1 w1)) λb s2 ⟨H2,I2,q2⟩=>?_)
 cases b with
 | true =>
  obtain⟨N,hN,q2⟩:=q2;rw[YJ rfl];refine qz hp (thn (hb pins s2 σ1 H2 _ I2 q2) λf s3 q3=>?_)
  cases f with
  | next =>
   obtain⟨σ3,H3,I3,n3⟩:=q3;obtain⟨m',hm,w3⟩:=hN σ3 H3 n3;exact⟨m',hm,σ3,H3,I3,w3⟩
  | cont =>
   obtain⟨σ3,H3,I3,n3⟩:=q3;obtain⟨m',hm,w3⟩:=hN σ3 H3 n3;exact⟨m',hm,σ3,H3,I3,w3⟩
  | brk=>exact q3
  | ret v=>exact q3
 | false =>
  rw[YH YO];exact zE ⟨σ1,H2,I2,q2⟩
end
structure It where
 go:Nat->Hp->Prop
 yld:Nat->Hp->V->Hp->Prop
 stop:Nat->Hp->Prop
def FpOk (X:Cx)(pins:TD)(H:Hp)(b:Addr):Prop :=
 H b=none/\b≠X.env.locals/\b ∉ X.fs/\(b∈X.ex \/ X.s₀.heap.objs.size<=b)/\(∀ x c,X.env.cells.lookup x=some c->c≠b)/\∀ p∈X.pn++pins,p.1≠b
theorem Inv.fpOk {b:Addr}(I:Inv X pins σ H s)(hb:s.heap.objs.size<=b)(hn:H' b=none):FpOk X pins H' b:=by
 refine⟨hn,qZ (YU I.lt hb),I.nofs hb,.inr (YX I.sz hb),λx c e z=>?_,λp hp z=>?_⟩
 ·obtain⟨v,q⟩:=I.cell x c e;exact absurd (YU q.lt (by rw[z];exact hb)) (XO _)
 exact absurd (YU (YI (I.pin p hp).1) (by rw[z];exact hb)) (XO _)
structure Turn (P:TR)(w:World)(K:TQ)(tg:Expr)(J:It)(fp:TJ)(it:Addr)(tn:Nat->Heap->Prop):Prop where
 mem:it∈fp
 obj:∀ i h,tn i h->∀ b∈fp,∃ o,h.get? b=some o/\∀ v,o.data≠.cell v
 keep:∀ i h h',tn i h->(∀ b∈fp,∀ o,h.get? b=some o->h'.get? b=some o)->tn i h'
 item:∀ (X:Cx),X.prog=P->X.w=w->X.K=K->X.calm=true->∀ (i:Nat) (pins:TD) (s:Shared) (σ:St) (H:Hp) (E:TC),Inv X pins σ H s->(∀ b∈fp,FpOk X pins H b)->tn i s.heap->J.go i H →
  wpAny (model P w) X.A (pyNext (.ref it)) (λr s1=>∃ u,r=some u ∧
   wpAny (model P w) X.A (letOwnedTupleGo tg (.ref it) u) (λ_ s2=>∃ x H',Inv X pins σ H' s2/\RelV x u/\J.yld i H x H'/\tn (i+1) s2.heap/\∀ b∈fp,H' b=none) E s1) E s
 done:∀ (X:Cx),X.prog=P->X.w=w->X.K=K->X.calm=true->∀ (i:Nat) (pins:TD) (s:Shared) (σ:St) (H:Hp) (E:TC),Inv X pins σ H s->(∀ b∈fp,FpOk X pins H b)->tn i s.heap->J.stop i H →
  wpAny (model P w) X.A (pyNext (.ref it)) (λr s1=>r=none/\Inv X pins σ H s1) E s
 self:∀ (A:Around) (i:Nat) (s:Shared) (Q:TC) (E:TC),tn i s.heap->Q (.ref it) s->wpAny (model P w) A (pyIter (.ref it)) Q E s
abbrev TI:=St->Hp->(It->Hp->Prop)->Prop
def PIE (X:Cx)(pins:TD)(σ:St)(tg:Expr)(R:It->Hp->Prop)(itv:Value)(s2:Shared):Prop :=
 ∃ (it:Addr) (fp:TJ) (tn:Nat->Heap->Prop) (J:It) (H':Hp),itv=.ref it/\Inv X pins σ H' s2/\Turn X.prog X.w X.K tg J fp it tn/\tn 0 s2.heap/\(∀ b∈fp,FpOk X pins H' b)/\R J H'
def PI (X:Cx)(tg iter:Expr)(wi:TI):Prop :=
 ∀ (pins:TD) (s:Shared) (σ:St) (H:Hp) (R:It->Hp->Prop),Inv X pins σ H s->wi σ H R →
  wpAny (model X.prog X.w) X.A (eval iter X.env) (λv s1=>wpAny (model X.prog X.w) X.A (pyIter v) (PIE X pins σ tg R) X.xe s1) X.xe s
theorem Z0f {M:Model}{A:Around}{E:TC}{s:Shared}{tg:Expr}{it:Addr}{u:Value}{o:Obj}{n:String}{vs:Array Value}{Q:Unit->Shared->Prop}(ho:s.heap.get? it=some o)(hc:o.cls=.type n)(hd:o.data=.fields vs)
  (hn:["enumerate","zip","dict_itemiterator","dict_reverseitemiterator","odict_iterator","itertools.zip_longest","itertools.pairwise"].contains n=false) (hQ:Q () s):wpAny M A (letOwnedTupleGo tg (.ref it) u) Q E s:=by
 unfold letOwnedTupleGo
 cases tg <;> first
  | exact YN hQ
  | (cases u <;> first
    | exact YN hQ
    | (refine YA (wpAny_load ho ?_)
       rw[hc,hd];show wpAny M A (if (["enumerate","zip","dict_itemiterator","dict_reverseitemiterator","odict_iterator","itertools.zip_longest","itertools.pairwise"].contains n && vs[0]? == some (rawInt _))=true then _ else _) Q E s;rw[YH (by intro h;rw[hn,Bool.false_and] at h;cases h)];exact YN hQ))
def Itl (K:TQ)(a:Addr):It :=
 ⟨λi H=>∃ xs x,SqL K H a xs/\xs[i]?=some x,λi H x H'=>H'=H/\∀ xs,SqL K H a xs->xs[i]?=some x,λi H=>∃ xs,SqL K H a xs/\xs.length<=i⟩
def Itt (K:TQ)(a:Addr):It :=
 ⟨λi H=>∃ xs x,SqT K H a xs/\xs[i]?=some x,λi H x H'=>H'=H/\∀ xs,SqT K H a xs->xs[i]?=some x,λi H=>∃ xs,SqT K H a xs/\xs.length<=i⟩
def Itr (lo:Int)(n:Nat):It:=⟨λi _=>i<n,λi H x H'=>H'=H/\x=.int (lo+i),λi _=>n<=i⟩
theorem Tq {P:TR}(a it:Addr):Turn P w K tg (Itl K a) [it] it (λi h=>h.IsListIter it a i) where
 mem:=by simp
 obj:=λi h st b hb=>by
  have e:b=it:=by simpa using hb
  subst e;obtain⟨o,e,c,d⟩:=st;exact⟨o,e,λv z=>by rw[d] at z;cases z⟩
 keep:=λi h h' st k=>st.at λo e=>k it (by simp) o e
 item:=by
  intro X hP hw hK hc i pins s σ H E I hf st hg;subst hP hw hK;obtain⟨xs,x,hq,hx⟩:=hg;obtain⟨its,rv,p,hz⟩:=I.list hq;obtain⟨u,hu,ru⟩:=rv.get hx;obtain⟨f0,f1,f2,f3,f4,f5⟩:=hf it (by simp);refine wpAny_pyNext_list_item st p.isList (x:=u) (by simpa using hu) λh' st' sb=>?_;have I1:Inv X pins σ H { s with heap:=h' }:=I.turned (t':=s.toks) (λb o hb e=>(sb.2 b hb).trans e) f0 f1 f3 f4 f5;obtain⟨o,e,c,d⟩:=id st';exact⟨u,rfl,Z0f (s:={ s with heap:=h' }) e c d (by decide) ⟨x,H,I1,ru,⟨rfl,λys hy=>by rw[I.list_inj hy hq];exact hx⟩,st',λb hb=>(hf b hb).1⟩⟩
 done:=by
  intro X hP hw hK hc i pins s σ H E I hf st hg;subst hP hw hK;obtain⟨xs,hq,hx⟩:=hg;obtain⟨its,rv,p,hz⟩:=I.list hq;obtain⟨f0,f1,f2,f3,f4,f5⟩:=hf it (by simp);have hl:=rv.length;exact Sb.Qi (I.qt hc) st p.isList (by simp;omega) λh' eb=>⟨rfl,I.turned (t':=s.toks) (λb o hb e=>eb b o hb e) f0 f1 f3 f4 f5⟩
 self:=λ_ _ _ _ _ st h=>wpAny_pyIter_listiter st h
theorem Ul {P:TR}(a it:Addr):Turn P w K tg (Itt K a) [it] it (λi h=>h.IsTupleIter it a i) where
 mem:=by simp
 obj:=λi h st b hb=>by
  have e:b=it:=by simpa using hb
  subst e;obtain⟨o,e,c,d⟩:=st;exact⟨o,e,λv z=>by rw[d] at z;cases z⟩
 keep:=λi h h' st k=>st.at λo e=>k it (by simp) o e
 item:=by
  intro X hP hw hK hc i pins s σ H E I hf st hg;subst hP hw hK;obtain⟨xs,x,hq,hx⟩:=hg;obtain⟨its,rv,p,hz⟩:=I.tuple hq;obtain⟨u,hu,ru⟩:=rv.get hx;obtain⟨f0,f1,f2,f3,f4,f5⟩:=hf it (by simp);refine wpAny_pyNext_tuple_item st (show s.heap.IsTuple a its.toArray from p) (x:=u) (by simpa using hu) λh' st' sb=>?_;have I1:Inv X pins σ H { s with heap:=h' }:=I.turned (t':=s.toks) (λb o hb e=>(sb.2 b hb).trans e) f0 f1 f3 f4 f5;obtain⟨o,e,c,d⟩:=id st';exact⟨u,rfl,Z0f (s:={ s with heap:=h' }) e c d (by decide) ⟨x,H,I1,ru,⟨rfl,λys hy=>by rw[I.tuple_inj hy hq];exact hx⟩,st',λb hb=>(hf b hb).1⟩⟩
 done:=by
  intro X hP hw hK hc i pins s σ H E I hf st hg;subst hP hw hK;obtain⟨xs,hq,hx⟩:=hg;obtain⟨its,rv,p,hz⟩:=I.tuple hq;obtain⟨f0,f1,f2,f3,f4,f5⟩:=hf it (by simp);have hl:=rv.length;exact Sb.Sn (I.qt hc) st (show s.heap.IsTuple a its.toArray from p) (by simp;omega) λh' eb=>⟨rfl,I.turned (t':=s.toks) (λb o hb e=>eb b o hb e) f0 f1 f3 f4 f5⟩
 self:=λ_ _ _ _ _ st h=>wpAny_pyIter_tupleiter st h
theorem Lm {P:TR}(it:Addr)(lo:Int)(n:Nat):Turn P w K tg (Itr lo n) [it] it (λi h=>IsRangeIter h it (lo+(i:Nat)*1) ((n:Int) - (i:Nat)) 1) where
 mem:=by simp
 obj:=λi h st b hb=>by
  have e:b=it:=by simpa using hb
  subst e;exact⟨_,st,λv z=>by
   have z':Data.fields _=Data.cell v:=z
   cases z'⟩
 keep:=λi h h' st k=>k it (by simp) _ st
 item:=by
  intro X hP hw hK hc i pins s σ H E I hf st hg;subst hP hw hK;obtain⟨f0,f1,f2,f3,f4,f5⟩:=hf it (by simp);refine Sb.Rz i s _ _ hg st λv h' tk hv st' kk=>?_;obtain⟨t,rfl⟩:=hv;have I1:Inv X pins σ H { s with heap:=h',toks:=tk }:=I.turned (λb o hb e=>kk b o (by simpa using hb) e) f0 f1 f3 f4 f5;refine⟨_,rfl,Z0f (s:={ s with heap:=h',toks:=tk }) (n:="range_iterator") st' rfl rfl (by decide) ⟨.int (lo+i),H,I1,⟨t,?_⟩,⟨rfl,rfl⟩,st',λb hb=>(hf b hb).1⟩⟩;rw[GK]
 done:=by
  intro X hP hw hK hc i pins s σ H E I hf st hg;subst hP hw hK;obtain⟨f0,f1,f2,f3,f4,f5⟩:=hf it (by simp);exact Sb.Sq (I.qt hc) st (by have:n<=i:=hg;omega) λh' eb=>⟨rfl,I.turned (t':=s.toks) (λb o hb e=>eb b o hb e) f0 f1 f3 f4 f5⟩
 self:=λ_ _ _ _ _ st h=>wpAny_pyIter_rangeiter st h
end L2
namespace L2
open PySem PySem.Spec PyProof.Rows
section
variable {X:Cx}{tg:Expr}
inductive iList_i (K:TQ) (R:(It->Hp->Prop)) (x:V) (H1:Hp):Prop
 | i (a:_) (_:x=.ref a) (_:(∃ xs,SqL K H1 a xs)) (_:R (Itl K a) H1)
def iList (K:TQ)(tl:TE):TI:=λσ H R=>tl σ H (iList_i K R)
inductive iTup_i (K:TQ) (R:(It->Hp->Prop)) (x:V) (H1:Hp):Prop
 | i (a:_) (_:x=.ref a) (_:(∃ xs,SqT K H1 a xs)) (_:R (Itt K a) H1)
def iTup (K:TQ)(tl:TE):TI:=λσ H R=>tl σ H (iTup_i K R)
theorem Xk {l:Expr}(hl:PE X l tl):PI X tg l (iList X.K tl):=by
 intro pins s σ H R I h;refine thn (hl pins s σ H _ I h) λv s1 ⟨x,H1,I1,r1,q1⟩=>?_;obtain⟨a,e,⟨xs,hq⟩,q⟩:=q1;subst e
 cases r1;obtain⟨its,rv,p,hz⟩:=I1.list hq;refine GN p.isList ?_;refine⟨s1.heap.objs.size,[s1.heap.objs.size],_,_,H1,rfl,I1.kept (t':=s1.toks) λb o e=>YB _ e,Tq a _,⟨_,YT _ rfl,rfl,rfl⟩,λb hb=>?_,q⟩;have e:b=s1.heap.objs.size:=by simpa using hb
 subst e;exact I1.fpOk (YD _) (I1.hok.fresh (YD _))
theorem V5 {l:Expr}(hl:PE X l tl):PI X tg l (iTup X.K tl):=by
 intro pins s σ H R I h;refine thn (hl pins s σ H _ I h) λv s1 ⟨x,H1,I1,r1,q1⟩=>?_;obtain⟨a,e,⟨xs,hq⟩,q⟩:=q1;subst e
 cases r1;obtain⟨its,rv,p,hz⟩:=I1.tuple hq;refine qj (show s1.heap.IsTuple a its.toArray from p) ?_;refine⟨s1.heap.objs.size,[s1.heap.objs.size],_,_,H1,rfl,I1.kept (t':=s1.toks) λb o e=>YB _ e,Ul a _,⟨_,YT _ rfl,rfl,rfl⟩,λb hb=>?_,q⟩;have e:b=s1.heap.objs.size:=by simpa using hb
 subst e;exact I1.fpOk (YD _) (I1.hok.fresh (YD _))
theorem Cf {R:It->Hp->Prop}{lo hi:Int}{t u v:Tok}{tk:Nat}(I:Inv X pins σ H s)(h1:-(2 ^ 62)<=lo)(h2:lo<2 ^ 62)(h3:-(2 ^ 62)<=hi)(h4:hi<2 ^ 62)
  (q:R (Itr lo (hi - lo).toNat) H):wpAny (model X.prog X.w) X.A (pyIter (.ref s.heap.objs.size)) (PIE X pins σ tg R) E { s with heap:=s.heap.push { cls:=.type "range",data:=.fields #[.int lo t,.int hi u,.int 1 v] },toks:=tk }:=by
 refine wpAny_pyIter_range (IsRange.new ..) (small_one h1 h2 h3 h4) ?_;have I1:Inv X pins σ H { s with heap:=s.heap.push { cls:=.type "range",data:=.fields #[.int lo t,.int hi u,.int 1 v] },toks:=tk }:=I.kept λb o e=>YB _ e;refine⟨(s.heap.push { cls:=.type "range",data:=.fields #[.int lo t,.int hi u,.int 1 v] }).objs.size,[(s.heap.push { cls:=.type "range",data:=.fields #[.int lo t,.int hi u,.int 1 v] }).objs.size],_,_,H,rfl,
  I1.kept (t':=tk) λb o e=>YB _ e,Lm _ lo (hi - lo).toNat,?_,λb hb=>?_,q⟩
 ·have e1:lo+((0:Nat):Int)*1=lo:=by simp
  have e2:(((hi - lo).toNat:Nat):Int) - ((0:Nat):Int)=Builtin.Range.rangeSize lo hi 1:=by rw[rangeSize_one];split <;> omega
  show IsRangeIter _ _ (lo+((0:Nat):Int)*1) ((((hi - lo).toNat:Nat):Int) - ((0:Nat):Int)) 1;rw[e1,e2];exact YT _ rfl
 have e:b=(s.heap.push { cls:=.type "range",data:=.fields #[.int lo t,.int hi u,.int 1 v] }).objs.size:=by simpa using hb
 subst e;exact I1.fpOk (YD _) (I1.hok.fresh (YD _))
inductive iRng1_i (R:(It->Hp->Prop)) (vs:TY) (H1:Hp):Prop
 | i (j:Int) (_:vs=[.int j]) (_:-(2 ^ 62)<=j) (_:j<2 ^ 62) (_:R (Itr 0 j.toNat) H1)
def iRng1 (ta:TA):TI:=λσ H R=>ta σ H (iRng1_i R)
theorem Yl {a:Expr}{ta:TA}{p pos:Pos}(hg:Gl X "range")(hm:X.mg "range"=none)(ha:PA X [a] ta)(hs:starEach [a] X.env=[(false,eval a X.env)]:=by rfl):PI X tg (.Call (.Name "range" p) [a] [] pos) (iRng1 ta):=by
 intro pins s σ H R I h;refine Call_ (Wy I hg hm boot_range (JB (thn (ha pos pins s σ H _ I h) λus s1 ⟨vs,H1,I1,r1,q1⟩=>?_) hs rfl));obtain⟨j,e,q1,q2,q⟩:=q1;subst e
 cases r1 with
 | cons r rr =>
  cases rr;obtain⟨t,rfl⟩:=r;exact call_range_1 (Cf I1 (by omega) (by omega) q1 q2 (by simpa using q))
def tFor (wi:TI)(g:TG)(tb:TS):TS:=λD σ H=>wi σ H λJ H1=>∃ W:Nat->Nat->St->Hp->Prop,(∃ m,W 0 m σ H1)/\∀ i m σ H,W i m σ H →
 (J.stop i H/\D.nx σ H) \/ (J.go i H/\∃ N:St->Hp->Prop,(∀ σ' H',N σ' H'->∃ m',m'<m/\W (i+1) m' σ' H')/\∀ x H',J.yld i H x H'->g x σ H' λσ2 H2=>tb { D with nx:=N,ct:=N,bk:=D.nx } σ2 H2)
def pinsAt (fp:TJ)(h:Heap):List (Addr × Obj):=fp.filterMap λb=>(h.get? b).map λo=>(b,o)
theorem Xw {fp:TJ}{b:Addr}{o:Obj}(hb:b∈fp)(e:h.get? b=some o):(b,o)∈pinsAt fp h:=zL.mpr ⟨b,hb,by rw[e];rfl⟩
theorem Gz {fp:TJ}{h:Heap}{p:Addr × Obj}(hp:p∈pinsAt fp h):p.1∈fp/\h.get? p.1=some p.2:=by
 obtain⟨b,hb,e⟩:=zL.mp hp
 cases q:h.get? b with
 | none=>rw[q] at e;cases e
 | some o =>
  rw[q] at e;have e':(b,o)=p:=YK e;subst e';exact⟨hb,q⟩
theorem Inv.pinned {fp:TJ}(I:Inv X pins σ H s)(hf:∀ b∈fp,FpOk X pins H b)(ho:∀ b∈fp,∃ o,s.heap.get? b=some o/\∀ v,o.data≠.cell v):Inv X (pins++pinsAt fp s.heap) σ H s :=
 I.pins_of λp hp=>(JF.mp hp).elim (λz=>I.pin p (XC _ z)) λz=>by
  obtain⟨hb,e⟩:=Gz z;obtain⟨f0,f1,f2,_⟩:=hf p.1 hb;obtain⟨o,e',d⟩:=ho p.1 hb;rw[e] at e';cases e';exact⟨e,f0,f1,f2,d⟩
theorem Inv.unpinned {pl:TD}(I:Inv X (pins++pl) σ H s):Inv X pins σ H s:=I.pins_of λp hp=>I.pin p (XC _ (YL _ hp))
theorem Xm {iter:Expr}{body:TL}{wi:TI}{g:TG}{tb:TS}{pos:Pos}(hp:PassesOwn (model X.prog X.w) X.A X.env X.xe)(hc:X.calm=true)(hi:PI X tg iter wi)(hg:PG X tg g)(hb:PSs X body tb)
  (hs:∀ x,foldedSetIterable iter X.env x=pure x:=by intro _;rfl):PS X (.For tg iter body [] pos) (tFor wi g tb):=by
 intro pins s σ H D I h;refine wpAny_For (thn (hi pins s σ H _ I h) λv s1 h1=>thn h1 λitv s2 h2=>?_) hs;obtain⟨it,fp,tn,J,H2,e,I2,T,st2,f2,W,⟨m0,w0⟩,turn⟩:=h2;subst e;have stat:∀ {H':Hp},(∀ b∈fp,H' b=none)->∀ b∈fp,FpOk X pins H' b:=λhn b hb=>⟨hn b hb,(f2 b hb).2⟩;refine codeAny_forLoop_any (λn s'=>∃ i σ' H',Inv X pins σ' H' s'/\tn i s'.heap/\(∀ b∈fp,H' b=none)/\W i n σ' H') ?_ m0 ⟨0,σ,H2,I2,st2,λb hb=>(f2 b hb).1,w0⟩;rintro n s3 ⟨i,σ3,H3,I3,st3,fr3,w3⟩;rcases turn i n σ3 H3 w3 with ⟨stop,qn⟩ | ⟨go,N,hN,step⟩
 ·refine qz hp (thn (T.done X rfl rfl rfl hc i pins s3 σ3 H3 X.xe I3 (stat fr3) st3 stop) λr s4 ⟨hr,I4⟩=>?_);subst hr;exact zE ⟨σ3,H3,I4,qn⟩
 refine qz hp (thn (T.item X rfl rfl rfl hc i pins s3 σ3 H3 X.xe I3 (stat fr3) st3 go) λr s4 ⟨u,hr,h4⟩=>?_);subst hr;refine qz hp (thn h4 λ_ s5 ⟨x,H5,I5,r5,y5,st5,fr5⟩=>?_);have I5':=I5.pinned (stat fr5) (T.obj _ _ st5);refine qz hp (thn (hg _ s5 σ3 H5 x u _ I5' r5 (step x H5 y5)) λ_ s6 ⟨σ6,H6,I6,q6⟩=>?_);refine qz hp (thn (hb _ s6 σ6 H6 _ I6 q6) λf s7 q7=>?_);have again:∀ {σ7:St} {H7:Hp},Inv X (pins++pinsAt fp s5.heap) σ7 H7 s7->N σ7 H7->∃ m,m<n/\∃ i σ' H',Inv X pins σ' H' s7/\tn i s7.heap/\(∀ b∈fp,H' b=none)/\W i m σ' H':=λ{σ7 H7} I7 n7=>by
  obtain⟨m',hm,w7⟩:=hN σ7 H7 n7;refine⟨m',hm,i+1,σ7,H7,I7.unpinned,T.keep _ _ _ st5 λb hb o e=>(I7.pin (b,o) (XC _ (XC _ (Xw hb e)))).1,λb hb=>?_,w7⟩;obtain⟨o,e,d⟩:=T.obj _ _ st5 b hb;exact (I7.pin (b,o) (XC _ (XC _ (Xw hb e)))).2.1
 cases f with
 | next=>obtain⟨σ7,H7,I7,n7⟩:=q7;exact again I7 n7
 | cont=>obtain⟨σ7,H7,I7,n7⟩:=q7;exact again I7 n7
 | brk=>obtain⟨σ7,H7,I7,q7⟩:=q7;exact⟨σ7,H7,I7.unpinned,q7⟩
 | ret v=>obtain⟨x7,σ7,H7,I7,r7,q7⟩:=q7;exact⟨x7,σ7,H7,I7.unpinned,r7,q7⟩
end
theorem Ub {a:Addr}{D:Ends}(Pv:Nat->St->Hp->Prop)(h0:Pv 0 σ H)(hl:∀ i σ H,i<=xs.length->Pv i σ H->SqL K H a xs)
  (hs:∀ i x σ H,xs[i]?=some x->Pv i σ H->g x σ H λσ2 H2=>tb { D with nx:=Pv (i+1),ct:=Pv (i+1),bk:=D.nx } σ2 H2) (hd:∀ σ H,Pv xs.length σ H->D.nx σ H) :
  ∃ W:Nat->Nat->St->Hp->Prop,(∃ m,W 0 m σ H)/\∀ i m σ H,W i m σ H →
   ((Itl K a).stop i H/\D.nx σ H) \/ ((Itl K a).go i H/\∃ N:St->Hp->Prop,(∀ σ' H',N σ' H'->∃ m',m'<m/\W (i+1) m' σ' H')/\∀ x H',(Itl K a).yld i H x H'->g x σ H' λσ2 H2=>tb { D with nx:=N,ct:=N,bk:=D.nx } σ2 H2):=by
 refine⟨λi m σ H=>m=xs.length - i/\i<=xs.length/\Pv i σ H,⟨xs.length,by simp,JH _,h0⟩,?_⟩;rintro i m σ H ⟨rfl,hi,p⟩;have q:=hl i σ H hi p;by_cases hlt:i<xs.length
 ·refine .inr ⟨⟨xs,xs[i],q,by simp[hlt]⟩,Pv (i+1),λσ' H' p'=>⟨xs.length - (i+1),by omega,rfl,hlt,p'⟩,λx H' y=>?_⟩;obtain⟨e,y⟩:=y;subst e;exact hs i x σ _ (y xs q) p
 have e:i=xs.length:=by omega
 subst e;exact .inl ⟨⟨xs,q,YD _⟩,hd σ H p⟩
theorem Rk {a:Addr}{D:Ends}(Pv:Nat->St->Hp->Prop)(h0:Pv 0 σ H)(hl:∀ i σ H,i<=xs.length->Pv i σ H->SqT K H a xs)
  (hs:∀ i x σ H,xs[i]?=some x->Pv i σ H->g x σ H λσ2 H2=>tb { D with nx:=Pv (i+1),ct:=Pv (i+1),bk:=D.nx } σ2 H2) (hd:∀ σ H,Pv xs.length σ H->D.nx σ H) :
  ∃ W:Nat->Nat->St->Hp->Prop,(∃ m,W 0 m σ H)/\∀ i m σ H,W i m σ H →
   ((Itt K a).stop i H/\D.nx σ H) \/ ((Itt K a).go i H/\∃ N:St->Hp->Prop,(∀ σ' H',N σ' H'->∃ m',m'<m/\W (i+1) m' σ' H')/\∀ x H',(Itt K a).yld i H x H'->g x σ H' λσ2 H2=>tb { D with nx:=N,ct:=N,bk:=D.nx } σ2 H2):=by
 refine⟨λi m σ H=>m=xs.length - i/\i<=xs.length/\Pv i σ H,⟨xs.length,by simp,JH _,h0⟩,?_⟩;rintro i m σ H ⟨rfl,hi,p⟩;have q:=hl i σ H hi p;by_cases hlt:i<xs.length
 ·refine .inr ⟨⟨xs,xs[i],q,by simp[hlt]⟩,Pv (i+1),λσ' H' p'=>⟨xs.length - (i+1),by omega,rfl,hlt,p'⟩,λx H' y=>?_⟩;obtain⟨e,y⟩:=y;subst e;exact hs i x σ _ (y xs q) p
 have e:i=xs.length:=by omega
 subst e;exact .inl ⟨⟨xs,q,YD _⟩,hd σ H p⟩
theorem Uh {lo:Int}{n:Nat}{D:Ends}(Pv:Nat->St->Hp->Prop)(h0:Pv 0 σ H)
  (hs:∀ i σ H,i<n->Pv i σ H->g (.int (lo+i)) σ H λσ2 H2=>tb { D with nx:=Pv (i+1),ct:=Pv (i+1),bk:=D.nx } σ2 H2) (hd:∀ σ H,Pv n σ H->D.nx σ H) :
  ∃ W:Nat->Nat->St->Hp->Prop,(∃ m,W 0 m σ H)/\∀ i m σ H,W i m σ H →
   ((Itr lo n).stop i H/\D.nx σ H) \/ ((Itr lo n).go i H/\∃ N:St->Hp->Prop,(∀ σ' H',N σ' H'->∃ m',m'<m/\W (i+1) m' σ' H')/\∀ x H',(Itr lo n).yld i H x H'->g x σ H' λσ2 H2=>tb { D with nx:=N,ct:=N,bk:=D.nx } σ2 H2):=by
 refine⟨λi m σ H=>m=n - i/\i<=n/\Pv i σ H,⟨n,by simp,JH _,h0⟩,?_⟩;rintro i m σ H ⟨rfl,hi,p⟩;by_cases hlt:i<n
 ·refine .inr ⟨hlt,Pv (i+1),λσ' H' p'=>⟨n - (i+1),by omega,rfl,hlt,p'⟩,λx H' y=>?_⟩;obtain⟨e,y⟩:=y;subst e y;exact hs i σ _ hlt p
 have e:i=n:=by omega
 subst e;exact .inl ⟨YD _,hd σ H p⟩
theorem M1 {c:TT}{tb:TS}{D:Ends}{σ:St}{H:Hp}(Pv:St->Hp->Prop)(μ:St->Hp->Nat)(h0:Pv σ H)
  (hs:∀ σ H,Pv σ H->c σ H λb H1=>if b=true then tb { D with nx:=λσ' H'=>Pv σ' H'/\μ σ' H'<μ σ H,ct:=λσ' H'=>Pv σ' H'/\μ σ' H'<μ σ H,bk:=D.nx } σ H1 else D.nx σ H1)
  (mono:∀ σ H Q Q',(∀ b H1,Q b H1->Q' b H1)->c σ H Q->c σ H Q'):tWhile c tb D σ H:=by
 refine⟨λm σ H=>m=μ σ H/\Pv σ H,⟨_,rfl,h0⟩,?_⟩;rintro m σ H ⟨rfl,p⟩;refine mono σ H _ _ (λb H1 q=>?_) (hs σ H p)
 cases b with
 | true=>exact⟨_,λσ' H' ⟨p',l⟩=>⟨_,l,rfl,p'⟩,q⟩
 | false=>exact q
end L2
namespace L2
open PySem PySem.Spec PyProof.Rows
abbrev R2:=V->V->Hp->VK->Prop
def OpR (X:Cx)(f:Value->Value->Sem Value)(r:R2):Prop :=
 ∀ (pins:TD) (s:Shared) (σ:St) (H:Hp) (x y:V) (v u:Value) (Q:VK),Inv X pins σ H s->RelV x v->RelV y u->r x y H Q →
  wpAny (model X.prog X.w) X.A (f v u) (EP X pins σ Q) X.xe s
def UnR (X:Cx)(f:Value->Sem Value)(r:V->Hp->VK->Prop):Prop :=
 ∀ (pins:TD) (s:Shared) (σ:St) (H:Hp) (x:V) (v:Value) (Q:VK),Inv X pins σ H s->RelV x v->r x H Q →
  wpAny (model X.prog X.w) X.A (f v) (EP X pins σ Q) X.xe s
def CallR (X:Cx)(f:Value)(r:List V->Hp->VK->Prop):Prop :=
 ∀ (pins:TD) (s:Shared) (σ:St) (H:Hp) (xs:TY) (us:TH) (Q:VK),Inv X pins σ H s->Vals xs us->r xs H Q →
  wpAny (model X.prog X.w) X.A (call f us) (EP X pins σ Q) X.xe s
def TruR (X:Cx)(r:V->Hp->(Bool->Hp->Prop)->Prop):Prop :=
 ∀ (pins:TD) (s:Shared) (σ:St) (H:Hp) (x:V) (v:Value) (Q:Bool->Hp->Prop),Inv X pins σ H s->RelV x v->r x H Q →
  wpAny (model X.prog X.w) X.A (truthy v) (TP X pins σ Q) X.xe s
def tOp (r:R2)(ta tb:TE):TE:=λσ H Q=>ta σ H λx H1=>tb σ H1 λy H2=>r x y H2 Q
def tUn (r:V->Hp->VK->Prop)(ta:TE):TE:=λσ H Q=>ta σ H λx H1=>r x H1 Q
inductive rI (C:Int->Int->Prop) (g:Int->Int->V) (x:V) (y:V) (H:Hp) (Q:VK):Prop
 | i (i j:_) (_:x=.int i) (_:y=.int j) (_:C i j) (_:Q (g i j) H)
inductive rI0 (g:Int->Int->V) (x:V) (y:V) (H:Hp) (Q:VK):Prop
 | i (i j:_) (_:x=.int i) (_:y=.int j) (_:Q (g i j) H)
inductive rU (g:Int->V) (x:V) (H:Hp) (Q:VK):Prop
 | i (i:_) (_:x=.int i) (_:Q (g i) H)
section
variable {X:Cx}{a b c:Expr}{ta tb tc:TE}{pos:Pos}
theorem Z57 (ha:PE X a ta)(hb:PE X b tb){pins:TD}{s:Shared}{σ:St}{H:Hp}{R:V->V->Hp->Prop}(I:Inv X pins σ H s)
  (h:ta σ H λx H1=>tb σ H1 λy H2=>R x y H2) {Q:TC} {f:Value->Value->Sem Value}
  (hf:∀ v u s2 x y H2,Inv X pins σ H2 s2->RelV x v->RelV y u->R x y H2->wpAny (model X.prog X.w) X.A (f v u) Q X.xe s2) :
  wpAny (model X.prog X.w) X.A (eval a X.env) (λv s₁=>wpAny (model X.prog X.w) X.A (eval b X.env) (λu s₂=>wpAny (model X.prog X.w) X.A (f v u) Q X.xe s₂) X.xe s₁) X.xe s:=by
 refine thn (ha pins s σ H _ I h) λv s1 ⟨x,H1,I1,r1,q1⟩=>?_;refine thn (hb pins s1 σ H1 _ I1 q1) λu s2 ⟨y,H2,I2,r2,q2⟩=>?_;exact hf v u s2 x y H2 I2 r1 r2 q2
theorem Zm {op:Operator}{r:R2}(ho:OpR X (binaryOp op) r)(ha:PE X a ta)(hb:PE X b tb):PE X (.BinOp a op b pos) (tOp r ta tb):=by
 intro pins s σ H Q I h;exact wpAny_BinOp (Z57 ha hb I h λv u s2 x y H2 I2 rx ry q=>ho pins s2 σ H2 x y v u Q I2 rx ry q)
theorem U4 {op:UnaryOp}{r:V->Hp->VK->Prop}(ho:UnR X (unaryOp op) r)(ha:PE X a ta):PE X (.UnaryOp op a pos) (tUn r ta):=by
 intro pins s σ H Q I h;exact UnaryOp_ (thn (ha pins s σ H _ I h) λv s1 ⟨x,H1,I1,r1,q1⟩=>ho pins s1 σ H1 x v Q I1 r1 q1)
theorem opI {f:Value->Value->Sem Value}{C:Int->Int->Prop}{g:Int->Int->Int}
  (rule:∀ (i j:Int) (t u:Tok) (s:Shared) (Q:TC) (E:TC),C i j->Q (.int (g i j) s.toks) { s with toks:=s.toks+1 }->wpAny (model X.prog X.w) X.A (f (.int i t) (.int j u)) Q E s) :
  OpR X f (rI C λi j=>.int (g i j)):=by
 intro pins s σ H x y v u Q I rx ry h;obtain⟨i,j,rfl,rfl,hc,q⟩:=h;obtain⟨t,rfl⟩:=rx;obtain⟨t',rfl⟩:=ry;exact rule i j t t' s _ _ hc ⟨.int (g i j),H,I.tok _,⟨_,rfl⟩,q⟩
theorem Z5k {f:Value->Value->Sem Value}{g:Int->Int->Int}
  (rule:∀ (i j:Int) (t u:Tok) (s:Shared) (Q:TC) (E:TC),Q (.int (g i j) s.toks) { s with toks:=s.toks+1 }->wpAny (model X.prog X.w) X.A (f (.int i t) (.int j u)) Q E s) :
  OpR X f (rI0 λi j=>.int (g i j)):=by
 intro pins s σ H x y v u Q I rx ry h;obtain⟨i,j,rfl,rfl,q⟩:=h;obtain⟨t,rfl⟩:=rx;obtain⟨t',rfl⟩:=ry;exact rule i j t t' s _ _ ⟨.int (g i j),H,I.tok _,⟨_,rfl⟩,q⟩
theorem Z4e {f:Value->Value->Sem Value}{g:Int->Int->Bool}
  (rule:∀ (i j:Int) (t u:Tok) (s:Shared) (Q:TC) (E:TC),Q (.bool (g i j)) s->wpAny (model X.prog X.w) X.A (f (.int i t) (.int j u)) Q E s) :
  OpR X f (rI0 λi j=>.bl (g i j)):=by
 intro pins s σ H x y v u Q I rx ry h;obtain⟨i,j,rfl,rfl,q⟩:=h;obtain⟨t,rfl⟩:=rx;obtain⟨t',rfl⟩:=ry;exact rule i j t t' s _ _ ⟨.bl (g i j),H,I,rfl,q⟩
def CPow (i j:Int):Prop:=0<=j/\j<=1000000/\i.natAbs<2 ^ 64
def CMul (i j:Int):Prop:=(-(2 ^ 64)<i/\i<2 ^ 64) \/ (-(2 ^ 64)<j/\j<2 ^ 64)
theorem Yx:OpR X (binaryOp .Add) (rI0 λi j=>.int (i+j)):=Z5k λ_ _ _ _ _ _ _ q=>add_int q
theorem Up:OpR X (binaryOp .Sub) (rI0 λi j=>.int (i - j)):=Z5k λ_ _ _ _ _ _ _ q=>sub_int q
theorem Vt:OpR X (binaryOp .Mod) (rI (λ_ j=>0<j) λi j=>.int (i % j)):=opI λi j _ _ _ _ _ hc q=>by
 have h1:(0:Int)<j:=hc;exact mod_int' (by omega) (by rw[Int.fmod_eq_emod_of_nonneg i (by omega)];exact q)
theorem Z23:OpR X (binaryOp .Mod) (rI (λ_ j=>j≠0) λi j=>.int (i.fmod j)):=opI λ_ _ _ _ _ _ _ hc q=>mod_int' hc q
theorem Nf:OpR X (binaryOp .Pow) (rI CPow λi j=>.int (i ^ j.toNat)):=opI λ_ _ _ _ _ _ _ hc q=>pow_int_small hc.1 hc.2.1 hc.2.2 q
theorem unI {f:Value->Sem Value}{g:Int->Int}
  (rule:∀ (i:Int) (t:Tok) (s:Shared) (Q:TC) (E:TC),Q (.int (g i) s.toks) { s with toks:=s.toks+1 }->wpAny (model X.prog X.w) X.A (f (.int i t)) Q E s) :
  UnR X f (rU λi=>.int (g i)):=by
 intro pins s σ H x v Q I rx h;obtain⟨i,rfl,q⟩:=h;obtain⟨t,rfl⟩:=rx;exact rule i t s _ _ ⟨.int (g i),H,I.tok _,⟨_,rfl⟩,q⟩
theorem Wt:UnR X (unaryOp .USub) (rU λi=>.int (-i)):=unI λ_ _ _ _ _ q=>neg_int q
end
def scal:V->V->Bool
 | .non,.non=>true | .non,.int _=>true | .int _,.non=>true | .non,.bl _=>true | .bl _,.non=>true | .non,.str _=>true | .str _,.non=>true
 | .int _,.int _=>true | .bl _,.bl _=>true | .str _,.str _=>true | .byt _,.byt _=>true
 | .int _,.str _=>true | .str _,.int _=>true | .bl _,.str _=>true | .str _,.bl _=>true
 | _,_=>false
def rEq:R2:=λx y H Q=>scal x y=true/\Q (.bl (decide (x=y))) H
def rNe:R2:=λx y H Q=>scal x y=true/\Q (.bl (!decide (x=y))) H
theorem Js {i j:Int}:decide (V.int i=V.int j)=(i == j):=by
 rw[qb];simp
theorem Z0w {i j:Bool}:decide (V.bl i=V.bl j)=(i == j):=by
 rw[qb];simp
theorem Jr {i j:Str}:decide (V.str i=V.str j)=(i == j):=by
 rw[qb];simp
theorem Jt {i j:Array UInt8}:decide (V.byt i=V.byt j)=(i.toList == j.toList):=by
 rw[qb]
 cases i
 cases j;simp
section
variable {X:Cx}{a b c:Expr}{ta tb tc:TE}{pos:Pos}
theorem Yg {Q:VK}{k k':Bool}(I:Inv X pins σ H s)(q:Q (.bl k) H)(e:k=k'):EP X pins σ Q (.bool k') s:=by
 subst e;exact⟨.bl k,H,I,rfl,q⟩
theorem Yy:OpR X (compareOp .Eq) rEq:=by
 intro pins s σ H x y v u Q I rx ry h;obtain⟨hs,q⟩:=h
 cases x with
 | non =>
  cases rx
  cases y with
  | non=>cases ry;exact PySem.EqNone.eq_none_none (Yg I q (by simp))
  | bl j=>cases ry;exact PySem.EqNone.eq_none_bool (Yg I q (by simp))
  | int j=>obtain⟨t',rfl⟩:=ry;exact PySem.EqNone.eq_none_int (Yg I q (by simp))
  | str j=>obtain⟨t',rfl⟩:=ry;exact PySem.EqNone.eq_none_str (Yg I q (by simp))
  | _=>exact absurd (show false=true from hs) YO
 | bl i =>
  cases rx
  cases y with
  | non=>cases ry;exact PySem.EqNone.eq_bool_none (Yg I q (by simp))
  | bl j=>cases ry;exact eq_bool (Yg I q Z0w)
  | str j=>obtain⟨t',rfl⟩:=ry;exact PySem.EqMixed.eq_bool_str (Yg I q (by simp))
  | _=>exact absurd (show false=true from hs) YO
 | int i =>
  obtain⟨t,rfl⟩:=rx
  cases y with
  | non=>cases ry;exact PySem.EqNone.eq_int_none (Yg I q (by simp))
  | int j=>obtain⟨t',rfl⟩:=ry;exact eq_int (Yg I q Js)
  | str j=>obtain⟨t',rfl⟩:=ry;exact PySem.EqMixed.eq_int_str (Yg I q (by simp))
  | _=>exact absurd (show false=true from hs) YO
 | str i =>
  obtain⟨t,rfl⟩:=rx
  cases y with
  | non=>cases ry;exact PySem.EqNone.eq_str_none (Yg I q (by simp))
  | bl j=>cases ry;exact PySem.EqMixed.eq_str_bool (Yg I q (by simp))
  | int j=>obtain⟨t',rfl⟩:=ry;exact PySem.EqMixed.eq_str_int (Yg I q (by simp))
  | str j=>obtain⟨t',rfl⟩:=ry;exact eq_str (Yg I q Jr)
  | _=>exact absurd (show false=true from hs) YO
 | byt i =>
  obtain⟨t,rfl⟩:=rx
  cases y with
  | byt j=>obtain⟨t',rfl⟩:=ry;exact W.eq_bytes (Yg I q Jt)
  | _=>exact absurd (show false=true from hs) YO
 | _=>cases y <;> exact absurd (show false=true from hs) YO
theorem Pg:OpR X (compareOp .NotEq) rNe:=by
 intro pins s σ H x y v u Q I rx ry h;obtain⟨hs,q⟩:=h
 cases x with
 | non =>
  cases rx
  cases y with
  | non=>cases ry;exact PySem.EqNone.ne_none_none (Yg I q (by simp))
  | bl j=>cases ry;exact PySem.EqNone.ne_none_bool (Yg I q (by simp))
  | int j=>obtain⟨t',rfl⟩:=ry;exact PySem.EqNone.ne_none_int (Yg I q (by simp))
  | str j=>obtain⟨t',rfl⟩:=ry;exact PySem.EqNone.ne_none_str (Yg I q (by simp))
  | _=>exact absurd (show false=true from hs) YO
 | bl i =>
  cases rx
  cases y with
  | non=>cases ry;exact PySem.EqNone.ne_bool_none (Yg I q (by simp))
  | bl j=>cases ry;exact ne_bool (Yg I q (congrArg not Z0w))
  | str j=>obtain⟨t',rfl⟩:=ry;exact PySem.EqMixed.ne_bool_str (Yg I q (by simp))
  | _=>exact absurd (show false=true from hs) YO
 | int i =>
  obtain⟨t,rfl⟩:=rx
  cases y with
  | non=>cases ry;exact PySem.EqNone.ne_int_none (Yg I q (by simp))
  | int j=>obtain⟨t',rfl⟩:=ry;exact ne_int (Yg I q (congrArg not Js))
  | str j=>obtain⟨t',rfl⟩:=ry;exact PySem.EqMixed.ne_int_str (Yg I q (by simp))
  | _=>exact absurd (show false=true from hs) YO
 | str i =>
  obtain⟨t,rfl⟩:=rx
  cases y with
  | non=>cases ry;exact PySem.EqNone.ne_str_none (Yg I q (by simp))
  | bl j=>cases ry;exact PySem.EqMixed.ne_str_bool (Yg I q (by simp))
  | int j=>obtain⟨t',rfl⟩:=ry;exact PySem.EqMixed.ne_str_int (Yg I q (by simp))
  | str j=>obtain⟨t',rfl⟩:=ry;exact ne_str (Yg I q (congrArg not Jr))
  | _=>exact absurd (show false=true from hs) YO
 | byt i =>
  obtain⟨t,rfl⟩:=rx
  cases y with
  | byt j=>obtain⟨t',rfl⟩:=ry;exact W.ne_bytes (Yg I q (congrArg not Jt))
  | _=>exact absurd (show false=true from hs) YO
 | _=>cases y <;> exact absurd (show false=true from hs) YO
theorem Ss:OpR X (compareOp .Lt) (rI0 λi j=>.bl (decide (i<j))):=Z4e λ_ _ _ _ _ _ _ q=>lt_int q
theorem Cw:OpR X (compareOp .LtE) (rI0 λi j=>.bl (decide (i<=j))):=Z4e λ_ _ _ _ _ _ _ q=>le_int q
theorem Q5:OpR X (compareOp .Gt) (rI0 λi j=>.bl (decide (j<i))):=Z4e λ_ _ _ _ _ _ _ q=>gt_int q
theorem Uq:OpR X (compareOp .Is) (λx y H Q=>y=.non/\Q (.bl (decide (x=.non))) H):=by
 intro pins s σ H x y v u Q I rx ry h;obtain⟨rfl,q⟩:=h
 cases ry;refine is_none_gen (Yg I q ?_)
 cases x <;> first
  | (cases rx;rfl)
  | (obtain⟨t,rfl⟩:=rx;rfl)
theorem Tf:OpR X (compareOp .IsNot) (λx y H Q=>y=.non/\Q (.bl (!decide (x=.non))) H):=by
 intro pins s σ H x y v u Q I rx ry h;obtain⟨rfl,q⟩:=h
 cases ry;refine isnot_none_gen (Yg I q ?_)
 cases x <;> first
  | (cases rx;rfl)
  | (obtain⟨t,rfl⟩:=rx;rfl)
theorem Zo (b:Expr){op:CmpOp}(h:op≠.In:=by decide)(h2:op≠.NotIn:=by decide):behindInMarks op b=false:=by
 have e1:(op == CmpOp.In)=false:=by cases op <;> first | rfl | exact absurd rfl h
 have e2:(op == CmpOp.NotIn)=false:=by cases op <;> first | rfl | exact absurd rfl h2
 cases b <;> simp[behindInMarks,e1,e2]
theorem Xb {op:CmpOp}{r:R2}(ho:OpR X (compareOp op) r)(ha:PE X a ta)(hb:PE X b tb)(hm:behindInMarks op b=false):PE X (.Compare a [op] [b] pos) (tOp r ta tb):=by
 intro pins s σ H Q I h;exact wpAny_Compare1 (Z57 ha hb I h λv u s2 x y H2 I2 rx ry q=>ho pins s2 σ H2 x y v u Q I2 rx ry q) hm
def tTest (t:TE):TT:=λσ H Q=>t σ H λx H'=>∃ k,x=.bl k/\Q k H'
theorem Zl {op:CmpOp}{r:R2}(ho:OpR X (compareOp op) r)(ha:PE X a ta)(hb:PE X b tb)(hm:behindInMarks op b=false):PT X (.Compare a [op] [b] pos) (tTest (tOp r ta tb)):=by
 intro pins s σ H Q I h;refine wpAny_isTrue_Compare1 (thn (ha pins s σ H _ I h) λv s1 ⟨x,H1,I1,r1,q1⟩=>thn (hb pins s1 σ H1 _ I1 q1) λu s2 ⟨y,H2,I2,r2,q2⟩ =>
  thn (ho pins s2 σ H2 x y v u _ I2 r1 r2 q2) λc s3 ⟨z,H3,I3,r3,k,e,q3⟩=>?_) hm
 subst e
 cases r3;exact qY ⟨H3,I3,q3⟩
def TruV (K:TQ)(x:V)(H:Hp)(k:Bool):Prop :=
 match x with
 | .non=>k=false
 | .bl b=>k=b
 | .int i=>k=(i != 0)
 | .str y=>y.length<=sizeLine/\k=((y.length:Int) != 0)
 | .byt y=>y.size<=sizeLine/\k=((y.size:Int) != 0)
 | .ref p=>(∃ xs,SqL K H p xs/\k=!xs.isEmpty) \/ (∃ xs,SqT K H p xs/\k=!xs.isEmpty) \/ ∃ kvs,H p=some (.dK kvs)/\k=!kvs.isEmpty
 | _=>False
theorem Ko {κ:Type}{kvs:List (κ × V)}{vs:List (κ × Value)}(r:KV kvs vs):(!vs.isEmpty)=!kvs.isEmpty:=by
 cases r <;> rfl
theorem Qk (r:Vals xs its):(!its.toArray.isEmpty)=!xs.isEmpty:=by
 cases r <;> simp
theorem Qj:(sizeLine:Nat)<2 ^ 63:=by rw[Y0f];decide
theorem Z3m:TruR X (λx H Q=>∃ k,TruV X.K x H k/\Q k H):=by
 intro pins s σ H x v Q I rx h;obtain⟨k,e,q⟩:=h;have hl:=Qj;have hs:sizeLine=16777216:=Y0f
 cases x with
 | non =>
  cases rx;have e':k=false:=e;subst e';exact truthy_none ⟨H,I,q⟩
 | bl b =>
  cases rx;have e':k=b:=e;subst e';exact qY ⟨H,I,q⟩
 | int i =>
  obtain⟨t,rfl⟩:=rx;have e':k=(i != 0):=e;subst e';exact PySem.P.truthy_int ⟨H,I,q⟩
 | str y =>
  obtain⟨t,rfl⟩:=rx;obtain⟨hy,e'⟩:y.length<=sizeLine/\k=((y.length:Int) != 0):=e;subst e';exact PySem.P.truthy_str (by omega) ⟨H,I.tok _,q⟩
 | byt y =>
  obtain⟨t,rfl⟩:=rx;obtain⟨hy,e'⟩:y.size<=sizeLine/\k=((y.size:Int) != 0):=e;subst e';exact W.truthy_bytes (by omega) ⟨H,I.tok _,q⟩
 | ref p =>
  cases rx;have e':(∃ xs,SqL X.K H p xs/\k=!xs.isEmpty) \/ (∃ xs,SqT X.K H p xs/\k=!xs.isEmpty) \/ ∃ kvs,H p=some (.dK kvs)/\k=!kvs.isEmpty:=e;rcases e' with ⟨xs,hx,e'⟩ | ⟨xs,hx,e'⟩ | ⟨kvs,hx,e'⟩
  ·subst e';obtain⟨its,r,pl,hz⟩:=I.list hx;have hlen:=r.length;exact wpAny_truthy_list pl.isList (by simp only [YV];omega) ⟨H,I.tok _,by rw[Qk r];exact q⟩
  ·subst e';obtain⟨its,r,pl,hz⟩:=I.tuple hx;have hlen:=r.length;exact truthy_tuple pl (by simp only [YV];omega) ⟨H,I.tok _,by rw[Qk r];exact q⟩
  subst e';obtain⟨hz,hS,vs,r,m⟩:kvs.length<=sizeLine/\(p == sysModules)=false/\∃ vs,KV kvs vs/\s.heap.DictOf (mixKind X.prog X.w) p vs:=I.hok p _ hx;have hlen:kvs.length=vs.length:=XG r;exact wpAny_truthy_dict hS m (by omega) ⟨H,I.tok _,by rw[Ko r];exact q⟩
 | _=>exact (show False from e).elim
theorem Cm (ha:PE X a ta)(he:∀ whole,isTrue a X.env whole=(do let v <-whole;standAt a.pos;holding [v] (truthy v))) :
  PT X a (λσ H Q=>ta σ H λx H'=>∃ k,TruV X.K x H' k/\Q k H'):=by
 intro pins s σ H Q I h;exact isTrue_plain (thn (ha pins s σ H _ I h) λv s1 ⟨x,H1,I1,r1,q1⟩=>Z3m pins s1 σ H1 x v Q I1 r1 q1) (he _)
theorem Uz {x:V}{us:TH}(r:Vals [x] us):∃ u,us=[u]/\RelV x u:=by
 cases r with
 | cons r1 r2=>cases r2;exact⟨_,rfl,r1⟩
theorem M2 {x y:V}{us:TH}(r:Vals [x,y] us):∃ u w',us=[u,w']/\RelV x u/\RelV y w':=by
 cases r with
 | cons r1 r2 =>
  cases r2 with
  | cons r3 r4=>cases r4;exact⟨_,_,rfl,r1,r3⟩
theorem Qw:CallR X (.builtin "abs") (λxs H Q=>∃ i,xs=[.int i]/\Q (.int (if i<0 then -i else i)) H):=by
 intro pins s σ H xs us Q I r h;obtain⟨i,rfl,q⟩:=h;obtain⟨u,rfl,t,rfl⟩:=Uz r;exact call_abs_int λu tk=>⟨.int (if i<0 then -i else i),H,I.tok _,⟨_,rfl⟩,q⟩
end
end L2
namespace L2
open PySem PySem.Spec PyProof.Rows
structure ObjM (h:Heap)(x dx C:Addr)(mA:TB):Prop where
 obj:h.get? x=some (W.instObj C dx)
 ns:h.Ns1 dx mA
 ne:dx≠x
theorem Fg {dx:Addr}{mA:TB}(n:h.Ns1 dx mA):∃ od,h.get? dx=some od/\∀ name,W.lookIn name od=some (mA name):=by
 obtain⟨o,es,ep,ho,hd,hk,_,hm⟩:=n;refine⟨o,ho,λname=>?_⟩;have e:=hm name;unfold nsFind findBy at e;rw[<-Y0R] at e;unfold W.lookIn;rw[hd];dsimp only;split
 ·rename_i y q
  rw[q] at e;exact congrArg some e
 rename_i q
 rw[q] at e;have a:es.toList.any (·.refKey)=false:=by
  rw[List.any_eq_false];intro y hy;obtain⟨z,t,hkey⟩:=hk y (Array.mem_toList_iff.mp hy);simp[DictEntry.refKey,hkey]
 have a':¬ es.toList.any (·.refKey)=true:=by rw[a];exact YO
 rw[YH a'];exact congrArg some e
theorem ObjM.look {x dx:Addr}{mA:TB}(I:ObjM h x dx C mA):∃ od,W.InstAt h x (W.instObj C dx) C (some od)/\∀ name,W.lookIn name od=some (mA name) :=
 let ⟨od,ho,hl⟩:=Fg I.ns
 ⟨od,⟨I.obj,rfl,rfl,ho⟩,hl⟩
section
variable {prog:TR}{w:World}{A:Around}{E:TC}{s:Shared}{K:TQ}{x dx C f:Addr}{mA:TB}{name:Str}{v:Value}
theorem Z31 {expr:Bool}{Q:TC}(X:K.In s.heap)(I:ObjM s.heap x dx C mA)(hg:W.plainGet K C name=true)(hh:W.hasDictIn K C=true)
  (ha:W.findIn K (.ref C) name=some none) (hv:mA name=some v) (hv':W.handedIn v=true) (h:Q v { s with toks:=s.toks+1 }) :
  wpAny (model prog w) A (getAttr (.ref x) name expr) Q E s:=by
 obtain⟨od,J,hl⟩:=I.look;exact W.get_value X J (W.plainGet_of hg).1 (W.findObj_own hh ha rfl (by rw[hl,hv])) hv' h
theorem Z15 {ns:TF}{Q:Unit->Shared->Prop}(X:K.In s.heap)(I:ObjM s.heap x dx C mA)
  (hs:W.findIn K (.ref C) "__setattr__"=some (some (.builtin "object.__setattr__"))) (hp:W.plainOver K C=true) (ht:W.takerIn K C name=some none) (hh:W.hasDictIn K C=true)
  (hw:PySem.Within mA ns) (hsz:ns.length<=sizeLine)
  (h:∀ h',ObjM h' x dx C (λy=>if y=name then some v else mA y)->Heap.SameBut dx s.heap h'->Q () { s with heap:=h',toks:=s.toks+2 }) :
  wpAny (model prog w) A (setAttr (.ref x) name v) Q E s:=by
 obtain⟨od,J,hl⟩:=I.look;refine W.set_plain X J hs (W.osa_open (s:={ s with toks:=s.toks+1 }) (r:=none) X J hp ht λb=>?_);obtain⟨cd,hc,hd'⟩:=W.any_some hh;have hx:s.heap.get? x=some ⟨.ref C,some dx,.plain,#[]⟩:=I.obj;refine YA (YN (YA (YA (wpAny_loadPart hx (YA (W.Looks.here (s:={ s with toks:=s.toks+1 }) (W.looks_clsIn X hc) ?_))))));rw[hd'];refine YN (a:=some dx) (YA (YN (YA ?_)));refine wpAny_nsSet1 (s:={ s with toks:=s.toks+1 }) I.ns λh' hn2 hs2=>?_;obtain⟨oD,esD,epD,hoD,hdD,hcD⟩:=hn2.count (PySem.Within.cons name v hw);refine YA (wpAny_lookBehind hoD (by rw[hdD];exact pastItsLine_dict (YX hcD (by rw[JT];omega))) ?_);exact YN (h _ ⟨(hs2.2 _ (XJ I.ne)).trans I.obj,hn2,I.ne⟩ hs2)
theorem Z04 {R:Result->Shared->Prop}{vs:TH}{kw:List (Str × Value)}(X:K.In s.heap)(hm:W.makesIn K C=true)
  (hi:W.findIn K (.ref C) "__init__"=some (some (.ref f))) (hf:W.typeIn K (.ref f)=some (.type "function"))
  (h:codeAny (model prog w) (A.under (.builtin "type.__call__" ⟨.ref C::vs,kw⟩)) (.call (.ref f) ⟨.ref (s.heap.objs.size+1)::vs,kw⟩) (W.InitBack (s.heap.objs.size+1) R)
   { s with heap:=(s.heap.push W.emptyDict).push (W.instObj C s.heap.objs.size) }) :
  codeAny (model prog w) A (.call (.ref C) ⟨vs,kw⟩) R s:=by
 obtain⟨hh,g,d,t,os⟩:=s;exact W.make_core (W.makes_of X hm) (GO X hi) (λself=>W.bind_fn X self hf) (.inl rfl) h
end
def putF (f:Str)(v:V):List (Str × V)->List (Str × V)
 | []=>[(f,v)]
 | (g,x)::r=>if g=f then (g,v)::r else (g,x)::putF f v r
theorem Y5 (f g:Str)(v:V):∀ fs:List (Str × V),(putF f v fs).lookup g=if g=f then some v else fs.lookup g
 | []=>by
  show List.lookup g [(f,v)]=_;by_cases h:g=f
  ·have hb:(g == f)=true:=GW.mpr h;simp only [List.lookup,hb,YJ h]
  have hb:(g == f)=false:=JJ.mpr h;simp only [List.lookup,hb,YH h]
 | (k,x)::r=>by
  have ih:=Y5 f g v r;rw[show putF f v ((k,x)::r)=(if k=f then (k,v)::r else (k,x)::putF f v r) from rfl];by_cases hk:k=f
  ·rw[YJ hk];by_cases h:g=k
   ·have hb:(g == k)=true:=GW.mpr h;simp only [List.lookup,hb,YJ (h.trans hk)]
   have hb:(g == k)=false:=JJ.mpr h;simp only [List.lookup,hb,YH (λe:g=f=>h (e.trans hk.symm))]
  rw[YH hk];by_cases h:g=k
  ·have hb:(g == k)=true:=GW.mpr h;simp only [List.lookup,hb,YH (λe:g=f=>hk (h.symm.trans e))]
  have hb:(g == k)=false:=JJ.mpr h;simp only [List.lookup,hb];exact ih
theorem Sc (f:Str)(v:V):∀ fs:List (Str × V),f∈(putF f v fs).map (·.1)/\∀ g,g∈fs.map (·.1)->g∈(putF f v fs).map (·.1)
 | []=>⟨by simp[putF],λg h=>by simp at h⟩
 | (k,x)::r=>by
  obtain⟨i1,i2⟩:=Sc f v r;rw[show putF f v ((k,x)::r)=(if k=f then (k,v)::r else (k,x)::putF f v r) from rfl];by_cases hk:k=f
  ·rw[YJ hk];subst hk;exact⟨by simp,λg h=>by simpa using h⟩
  rw[YH hk];refine⟨?_,λg h=>?_⟩
  ·rw[Y0k];exact YY _ i1
  rw[Y0k] at h ⊢;rcases YW.mp h with e | e
  ·exact YW.mpr (.inl e)
  exact YY _ (i2 g e)
theorem Su (f:Str)(v:V):∀ fs:List (Str × V),(putF f v fs).length<=fs.length+1
 | []=>by simp[putF]
 | (k,x)::r=>by
  have ih:=Su f v r;rw[show putF f v ((k,x)::r)=(if k=f then (k,v)::r else (k,x)::putF f v r) from rfl];by_cases hk:k=f
  ·rw[YJ hk,JT,JT];omega
  rw[YH hk,JT,JT];omega
theorem RelO.some_of {v:V}{o:Option Value}(r:RelO (some v) o):∃ u,o=some u/\RelV v u:=by
 cases o with
 | none=>exact (show False from r).elim
 | some u=>exact⟨u,rfl,r⟩
theorem Pp {v:V}{u:Value}(r:RelV v u):W.handedIn u=true:=by
 cases v with
 | non=>cases (show u=Value.none from r);rfl
 | bl b=>cases (show u=Value.bool b from r);rfl
 | int i=>obtain⟨t,e⟩:=(show ∃ t,u=Value.int i t from r);cases e;rfl
 | str x=>obtain⟨t,e⟩:=(show ∃ t,u=Value.str x t from r);cases e;rfl
 | byt b=>obtain⟨t,e⟩:=(show ∃ t,u=Value.bytes b t from r);cases e;rfl
 | flt b=>obtain⟨t,e⟩:=(show ∃ t,u=Value.float b t from r);cases e;rfl
 | ref a=>cases (show u=Value.ref a from r);rfl
 | ty n=>cases (show u=Value.type n from r);rfl
section
variable {P:TR}{w:World}{H H':Hp}{h h':Heap}{a C dx:Addr}{fs fs':List (Str × V)}
theorem Nm (hok:HOk P w H h)(e:H a=some (.ins C dx fs)):∃ mA,ObjM h a dx C mA/\(∀ f,RelO (fs.lookup f) (mA f))/\PySem.Within mA (fs.map (·.1))/\fs.length<=1000/\H dx=some (.own a):=by
 obtain⟨d,z,ne,ob,mA,n,r,q⟩:=(show ObjOk P w H h a (.ins C dx fs) from hok a _ e);exact⟨mA,⟨ob,n,ne⟩,r,q,z,d⟩
end
structure Cls (K:TQ)(C:Addr):Prop where
 pg:W.plainGet K C Str.empty=true
 hd:W.hasDictIn K C=true
 po:W.plainOver K C=true
 sa:W.findIn K (.ref C) "__setattr__"=some (some (.builtin "object.__setattr__"))
theorem Cls.get (c:Cls K C)(f:Str):W.plainGet K C f=true:=c.pg
def NoAttr (K:TQ)(C:Addr)(f:Str):Prop:=W.findIn K (.ref C) f=some none
theorem NoAttr.taker {f:Str}(n:NoAttr K C f):W.takerIn K C f=some none:=by
 unfold W.takerIn;rw[show W.findIn K (.ref C) f=some none from n];rfl
structure Con (K:TQ)(C:Addr)(f:Str)(v:V)(u:Value):Prop where
 at_:W.findIn K (.ref C) f=some (some u)
 rel:RelV v u
 get:W.specialIn K u "__get__"=some none
 cp:W.copiedNames.contains f=false
section
variable {X:Cx}{pins:TD}{σ:St}{H:Hp}{s:Shared}{a C dx:Addr}{fs:List (Str × V)}{f:Str}{v:V}{A:Around}{E:TC}
theorem Kp {b:Bool}{Q:TC}(I:Inv X pins σ H s)(e:H a=some (.ins C dx fs))(c:Cls X.K C)(n:NoAttr X.K C f)(l:fs.lookup f=some v)
  (h:∀ u s',Inv X pins σ H s'->RelV v u->Q u s'):wpAny (model X.prog X.w) A (getAttr (.ref a) f b) Q E s:=by
 obtain⟨mA,O,r,_,_,_⟩:=Nm I.hok e;obtain⟨u,hu,ru⟩:=RelO.some_of (v:=v) (o:=mA f) (by rw[<-l];exact r f);exact Z31 I.kIn O (c.get f) c.hd n hu (Pp ru) (h u _ (I.tok _) ru)
theorem Ly {y:V}{Q:Unit->Shared->Prop}(I:Inv X pins σ H s)(e:H a=some (.ins C dx fs))(c:Cls X.K C)(n:NoAttr X.K C f)(hl:fs.length<1000)(ry:RelV y u)
  (h:∀ s',Inv X pins σ (upd H a (.ins C dx (putF f y fs))) s'->Q () s'):wpAny (model X.prog X.w) A (setAttr (.ref a) f u) Q E s:=by
 obtain⟨mA,O,r,wi,_,ho⟩:=Nm I.hok e;have hz:(fs.map (·.1)).length<=sizeLine:=by rw[YC,Y0f];omega
 refine Z15 I.kIn O c.sa c.po n.taker c.hd wi hz λh' O' sb=>h _ ?_;have hd:∃ o,h'.get? dx=some o:=let ⟨o,_,_,e',_⟩:=O'.ns;⟨o,e'⟩;refine I.write (x:=a) (e:=dx) (by rw[e];exact True.intro) (.inr ho) (λb q hb z=>(sb.2 b hb).trans z) hd ?_;refine⟨by rw[Ze O.ne];exact ho,?_,O.ne,O'.obj,_,O'.ns,λg=>?_,λg hg=>?_⟩
 ·have:=Su f y fs;omega
 ·show RelO ((putF f y fs).lookup g) (if g=f then some u else mA g);rw[Y5];by_cases q:g=f
  ·rw[YJ q,YJ q];exact ry
  rw[YH q,YH q];exact r g
 by_cases q:g=f
 ·rw[q];exact (Sc f y fs).1
 refine (Sc f y fs).2 g (wi g λz=>hg ?_);show (if g=f then some u else mA g)=none;rw[YH q];exact z
theorem Inv.made (I:Inv X pins σ H s):Inv X pins σ (upd (upd H s.heap.objs.size (.own (s.heap.objs.size+1))) (s.heap.objs.size+1) (.ins C s.heap.objs.size []))
  { s with heap:=(s.heap.push W.emptyDict).push (W.instObj C s.heap.objs.size) }:=by
 have e1:(s.heap.push W.emptyDict).get? s.heap.objs.size=some W.emptyDict:=YT s.heap rfl;have e2:((s.heap.push W.emptyDict).push (W.instObj C s.heap.objs.size)).get? (s.heap.objs.size+1)=some (W.instObj C s.heap.objs.size):=by
  have:=YT (s.heap.push W.emptyDict) (o:=W.instObj C s.heap.objs.size) rfl
  rwa [JI] at this
 have e3:(s.heap.push W.emptyDict).Ns s.heap.objs.size (λ_=>none):=⟨W.emptyDict,#[],_,e1,rfl,(λe he=>absurd he (by simp)),λ_=>rfl⟩;have I1:=I.laid (a:=s.heap.objs.size) (o:=.own (s.heap.objs.size+1)) (h':=s.heap.push W.emptyDict) (t':=s.toks) (λb u q=>YB _ q) (YD _) ⟨_,e1⟩;refine I1.laid (a:=s.heap.objs.size+1) (o:=.ins C s.heap.objs.size []) (t':=s.toks) (λb u q=>YB _ q) (Y0t (JI _ _)) ?_;have ne:s.heap.objs.size≠s.heap.objs.size+1:=XD (Y0n _);refine⟨by rw[Ze ne,Zb],JH _,ne,e2,λ_=>none,(Heap.Ns1.of_empty e3).at λo q=>YB _ q,λ_=>True.intro,λy hy=>absurd rfl hy⟩
theorem Jv {e:Expr}{f:Str}{Q:TC}(hb:attributeBase e f env (eval e env)=eval e env)
  (h:wpAny (model prog w) A (eval e env) (λo s₁=>wpAny (model prog w) A (getAttr o f true) Q E s₁) E s):wpAny (model prog w) A (eval (.Attribute e f pos) env) Q E s :=
 Attribute_any_ h (by rw[arm_eval_Attribute,hb])
end
inductive tFld_i (K:TQ) (f:Str) (Q:VK) (x:V) (H1:Hp):Prop
 | i (a C dx fs v:_) (_:x=.ref a) (_:H1 a=some (.ins C dx fs)) (_:Cls K C) (_:NoAttr K C f) (_:fs.lookup f=some v) (_:Q v H1)
def tFld (K:TQ)(ta:TE)(f:Str):TE:=λσ H Q=>ta σ H (tFld_i K f Q)
inductive sFld_i (K:TQ) (f:Str) (D:Ends) (σ:L2.St) (y:V) (x:V) (H2:Hp):Prop
 | i (a C dx fs:_) (_:x=.ref a) (_:H2 a=some (.ins C dx fs)) (_:Cls K C) (_:NoAttr K C f) (_:fs.length<1000) (_:D.nx σ (upd H2 a (.ins C dx (putF f y fs))))
def sFld (K:TQ)(ta tv:TE)(f:Str):TS:=λD σ H=>tv σ H λy H1=>ta σ H1 (sFld_i K f D σ y)
section
variable {X:Cx}{o e value:Expr}{f:Str}{pos pos' tpos:Pos}{ta tv:TE}
theorem Yi (he:PE X e ta)(hb:attributeBase e f X.env (eval e X.env)=eval e X.env):PE X (.Attribute e f pos) (tFld X.K ta f):=by
 intro pins s σ H Q I h;refine Jv hb (thn (he pins s σ H _ I h) λu s1 ⟨x,H1,I1,rx,a,C,dx,fs,v,ex,ea,c,n,l,q⟩=>?_);subst ex;obtain rfl:u=Value.ref a:=rx;exact Kp I1 ea c n l λu' s2 I2 ru=>⟨v,H1,I2,ru,q⟩
theorem Q3 (ha:PE X o ta)(hv:PE X value tv)(hs:swapsWith value (some (.Attribute o f pos')) pos.line X.env=pure false):PS X (.Assign [.Attribute o f pos'] value pos) (sFld X.K ta tv f):=by
 intro pins s σ H D I h;refine jd (thn (hv pins s σ H _ I h) λu s1 ⟨y,H1,I1,ry,q⟩=>thn (ha pins s1 σ H1 _ I1 q) λov s2 ⟨x,H2,I2,rx,a,C,dx,fs,ex,ea,c,n,l,q2⟩=>?_) hs;subst ex;obtain rfl:ov=Value.ref a:=rx;exact Ly I2 ea c n l ry λs3 I3=>⟨σ,_,I3,q2⟩
end
section
variable {X:Cx}{pins:TD}{σ:St}{H:Hp}{s:Shared}{A:Around}{E:TC}{Q:TC}{c:Value}{b:Bool}
inductive TyOf (K:TQ) (H:Hp):V->Value->Prop where
 | non:TyOf K H .non (.type "NoneType")
 | bl (x:Bool):TyOf K H (.bl x) (.type "bool")
 | int (i:Int):TyOf K H (.int i) (.type "int")
 | str (x:Str):TyOf K H (.str x) (.type "str")
 | flt (x:UInt64):TyOf K H (.flt x) (.type "float")
 | lst {a:Addr} {xs:TY} (e:H a=some (.lst xs)):TyOf K H (.ref a) (.type "list")
 | frz {a:Addr} {o:Obj} {xs:TY} (e:H a=some (.frz o (.lst xs))):TyOf K H (.ref a) (.type "list")
 | tup {a:Addr} {xs:TY} (e:H a=some (.tup xs)):TyOf K H (.ref a) (.type "tuple")
 | dK {a:Addr} {kvs:List (Key × V)} (e:H a=some (.dK kvs)):TyOf K H (.ref a) (.type "dict")
 | dT {a:Addr} {kvs:List (List Key × V)} (e:H a=some (.dT kvs)):TyOf K H (.ref a) (.type "dict")
 | ins {a C dx:Addr} {fs:List (Str × V)} (e:H a=some (.ins C dx fs)) (cl:Cls K C) (ha:W.findIn K (.ref C) "__class__"=some (some (.builtin "object.__class__")))
   (hn:W.specialIn K (.builtin "object.__class__") "__get__"=some (some (.builtin "getset_descriptor.__get__"))) (htk:W.takesIn K (.builtin "object.__class__")=some true)
   (hm:W.mroIn K C (.type "object")=some true):TyOf K H (.ref a) (.ref C)
theorem Fj {x:V}{u t:Value}(I:Inv X pins σ H s)(rx:RelV x u)(ty:TyOf X.K H x t)(e:W.kitOne X.K t c=some b)(h:∀ tk,Q (.bool b) { s with toks:=tk }) :
  wpAny (model X.prog X.w) A (call (.builtin "isinstance") [u,c]) Q E s:=by
 cases ty with
 | non=>cases (show u=Value.none from rx);exact qU W.kitx_none I.kIn True.intro e (λz=>nomatch z) h
 | bl y=>cases (show u=Value.bool y from rx);exact qU W.kitx_bool I.kIn True.intro e (λz=>nomatch z) h
 | int i=>obtain⟨t,q⟩:=(show ∃ t,u=Value.int i t from rx);cases q;exact qU W.kitx_int I.kIn True.intro e (λz=>nomatch z) h
 | str y=>obtain⟨t,q⟩:=(show ∃ t,u=Value.str y t from rx);cases q;exact qU W.kitx_str I.kIn True.intro e (λz=>nomatch z) h
 | flt y=>obtain⟨t,q⟩:=(show ∃ t,u=Value.float y t from rx);cases q;exact qU W.kitx_float I.kIn True.intro e (λz=>nomatch z) h
 | @lst a xs ea =>
  cases (show u=Value.ref a from rx);obtain⟨_,_,n,_,h1⟩:=(show ObjOk X.prog X.w H s.heap a (.lst xs) from I.hok a _ ea);exact qU W.kitx_list I.kIn ⟨_,h1,rfl⟩ e (λz=>nomatch z) h
 | @frz a ob xs ea =>
  cases (show u=Value.ref a from rx);obtain⟨_,_,_,n,_,h1⟩:=(show ObjOk X.prog X.w H s.heap a (.frz ob (.lst xs)) from I.hok a _ ea);exact qU W.kitx_list I.kIn ⟨_,h1,rfl⟩ e (λz=>nomatch z) h
 | @tup a xs ea =>
  cases (show u=Value.ref a from rx);obtain⟨_,_,_,p⟩:=(show ObjOk X.prog X.w H s.heap a (.tup xs) from I.hok a _ ea);obtain⟨o,h1,h2,_⟩:=p;exact qU W.kitx_tuple I.kIn ⟨o,h1,h2⟩ e (λz=>nomatch z) h
 | @dK a kvs ea =>
  cases (show u=Value.ref a from rx);obtain⟨_,_,vs,_,p⟩:=(show ObjOk X.prog X.w H s.heap a (.dK kvs) from I.hok a _ ea);obtain⟨o,es,ep,h1,h2,_⟩:=p;exact qU W.kitx_dict I.kIn ⟨o,h1,h2.1⟩ e (λz=>nomatch z) h
 | @dT a kvs ea =>
  cases (show u=Value.ref a from rx);obtain⟨_,_,xs,_,o,es,ep,h1,h2,_⟩:=(show ObjOk X.prog X.w H s.heap a (.dT kvs) from I.hok a _ ea);exact qU W.kitx_dict I.kIn ⟨o,h1,h2.1⟩ e (λz=>nomatch z) h
 | @ins a C dx fs ea cl ha hn htk hm =>
  cases (show u=Value.ref a from rx);obtain⟨mA,O,_⟩:=Nm I.hok ea;obtain⟨od,J,_⟩:=O.look;exact qU (W.kitx_own (cl.get _) cl.hd ha hn htk hm) I.kIn J e (λz=>nomatch z) h
end
end L2
namespace L2
open PySem PySem.Spec PyProof.Rows
structure Room (k:Nat)(A:Around)(sr:Bool:=false):Prop where
 hd:sr=true->A.handled=none
 dp:A.depth+3*k+5<recursionLimit
 un:A.units+16*k+200<cLine
theorem Room.mono {k:Nat}(r:Room k A sr)(h:j<=k):Room j A sr:=⟨r.hd,by have:=r.dp;omega,by have:=r.un;omega⟩
theorem Room.deeper {k:Nat}{A:Around}{sr:Bool}(r:Room (k+1) A sr)(env:Env):Room k (A.deeper env) sr :=
 ⟨r.hd,by have:=r.dp;show A.depth+1+3*k+5<_;omega,by have:=r.un;show A.units+3+16*k+200<_;omega⟩
theorem Kk {us:TH}{kw:List (Str × Value)}:(A.under (.builtin "type.__call__" ⟨.ref C::us,kw⟩)).depth=A.depth+1:=by
 first | rfl | simp[Around.under,Code.weight,Code.isCreation,Code.isGuard,Code.isCaller,Code.frames,Code.isFrame,guardIds]
theorem Kj {us:TH}{kw:List (Str × Value)}:(A.under (.builtin "type.__call__" ⟨.ref C::us,kw⟩)).units=A.units+1:=by
 first | rfl | simp[Around.under,Code.cUnits,Code.frames,Code.isFrame]
theorem Room.make {k:Nat}(r:Room (k+1) A sr)(C:Addr)(us:TH)(kw:List (Str × Value)):Room k (A.under (.builtin "type.__call__" ⟨.ref C::us,kw⟩)) sr :=
 ⟨r.hd,by have:=r.dp;rw[Kk];omega,by have:=r.un;rw[Kj];omega⟩
theorem Room.depth {k:Nat}{A:Around}{sr:Bool}(r:Room k A sr):A.depth<recursionLimit:=by have:=r.dp;omega
theorem Room.units {k:Nat}{A:Around}{sr:Bool}(r:Room k A sr):A.units+64<cLine:=by have:=r.un;omega
theorem Room.loose {k:Nat}(r:Room k A sr):Room k A:=⟨(λz=>nomatch z),r.dp,r.un⟩
def tNil:TA:=λ_ H Q=>Q [] H
def tCons (ta:TE)(tr:TA):TA:=λσ H Q=>ta σ H λx H1=>tr σ H1 λxs H2=>Q (x::xs) H2
section
variable {X:Cx}{e:Expr}{es:TK}{te:TE}{t:TA}{pos:Pos}
theorem Z8:PA X [] tNil:=λ_ _ _ _ H Q I h=>Y0g ⟨[],H,I,.nil,h⟩
theorem Z0 (ha:PE X e te)(hr:PA X es t)(hs:starEach (e::es) X.env=(false,eval e X.env)::starEach es X.env:=by rfl):PA X (e::es) (tCons te t):=by
 intro pos pins s σ H Q I h;rw[hs];show wpAny _ _ (spliced ((false,eval e X.env)::backTo pos (starEach es X.env))) _ _ s;refine Y04 (thn (ha pins s σ H _ I h) λu s1 ⟨x,H1,I1,r1,q1⟩=>?_);exact thn (hr pos pins s1 σ H1 _ I1 q1) λus s2 ⟨xs,H2,I2,r2,q2⟩=>⟨x::xs,H2,I2,.cons r1 r2,q2⟩
def tTup (t:TA):TE:=λσ H Q=>t σ H λxs H1=>xs.length<=sizeLine/\∀ p,H1 p=none->Q (.ref p) (upd H1 p (.tup xs))
def tLst (t:TA):TE:=λσ H Q=>t σ H λxs H1=>xs.length<=sizeLine/\∀ p,H1 p=none->Q (.ref p) (upd H1 p (.lst xs))
theorem Yc {x1}(h:PA X es t):PE X (.Tuple es x1 pos) (tTup t):=by
 intro pins s σ H Q I hq;refine wpAny_Tuple_spliced (thn (h pos pins s σ H _ I hq) λus s1 ⟨xs,H1,I1,r,z,q⟩=>⟨by rw[<-r.length];exact z,?_⟩);have hf:H1 s1.heap.objs.size=none:=I1.hok.fresh (YD _);refine⟨.ref s1.heap.objs.size,upd H1 s1.heap.objs.size (.tup xs),I1.laid (t':=s1.toks) (λb u e=>YB _ e) (YD _) ?_,rfl,q _ hf⟩;exact⟨z,us,r,⟨_,YT _ rfl,rfl,_,rfl⟩⟩
theorem X4 (h:PA X es t):PE X (.List es pos) (tLst t):=by
 intro pins s σ H Q I hq;refine wpAny_List_spliced (thn (h pos pins s σ H _ I hq) λus s1 ⟨xs,H1,I1,r,z,q⟩=>⟨by rw[<-r.length];exact z,?_⟩);have hf:H1 s1.heap.objs.size=none:=I1.hok.fresh (YD _);refine⟨.ref s1.heap.objs.size,upd H1 s1.heap.objs.size (.lst xs),I1.laid (t':=s1.toks) (λb u e=>YB _ e) (YD _) ?_,rfl,q _ hf⟩;exact⟨z,us,0,r,YT _ rfl⟩
end
abbrev Sp:=List V->Hp->VK->XK->Prop
abbrev CXT:=List Env->Hp->Shared->XK->Value->Shared->Prop
structure Env0 (P:TR)(w:World)(K:TQ)(mg:TB)(base:Heap)(A:Around)(outer:TM)(s:Shared)(H:Hp):Prop where
 frames:A.frames=some outer
 mod:Mod K mg base
 bs:∀ b o,base.get? b=some o->s.heap.get? b=some o/\H b=none
 bsz:base.objs.size<=s.heap.objs.size
 funs:s.heap.FunFrames base outer
 frf:∀ b∈frs outer,H b=none
 hok:HOk P w H s.heap
 bare:AllBare s.gens
 qt:Sb.QtE A s.heap H (frs outer)
def CE (outer:TM)(P:TR)(w:World)(H:Hp)(s:Shared)(Q:VK)(u:Value)(s':Shared):Prop :=
 ∃ v H',s'.os=s.os/\AllBare s'.gens/\Un (frs outer) [] H H' s.heap s'.heap/\HOk P w H' s'.heap/\RelV v u/\Q v H'
def CR (CX:CXT)(outer:TM)(P:TR)(w:World)(H:Hp)(s:Shared)(Q:VK)(E:XK)(r:Result)(s':Shared):Prop :=
 match r with
 | .ok (.ret u)=>CE outer P w H s Q u s'
 | .ok _=>False
 | .error e=>CX outer H s E e s'
structure FnOk (P:TR)(w:World)(K:TQ)(mg:TB)(base:Heap)(CX:CXT)(k:Nat)(f:Addr)(fd:FuncData)(ps:TF)(sp:Sp)(sr:Bool:=false):Prop where
 len:∀ vs H Q E,sp vs H Q E->vs.length=ps.length
 run:∀ (A:Around) (outer:TM) (s:Shared) (H:Hp) (args:Args) (us:TH) (vs:TY) (Q:VK) (E:XK),Room k A sr->Env0 P w K mg base A outer s H->BindsTo s fd args (ps.zip us)->Vals vs us->sp vs H Q E →
  codeAny (model P w) A (.call (.ref f) args) (CR CX outer P w H s Q E) s
theorem Env0.make {P:TR}{base:Heap}{outer:TM}(e:Env0 P w K mg base A outer s H)(C:Addr)(us:TH)(kw:List (Str × Value)) :
  Env0 P w K mg base (A.under (.builtin "type.__call__" ⟨.ref C::us,kw⟩)) outer s H:=⟨by first | exact e.frames | (simpa [Around.under,Code.envs,Code.isFrame,pushEnvs] using e.frames),e.mod,e.bs,e.bsz,e.funs,e.frf,e.hok,e.bare,e.qt⟩
section
variable {X:Cx}{pins:TD}{σ:St}{H:Hp}{s s':Shared}
theorem Inv.env0 (I:Inv X pins σ H s)(hc:X.calm=true):Env0 X.prog X.w X.K X.mg X.base X.A X.stack s H :=
 ⟨I.ok.frames,I.ok.mod,I.bs,YX I.ok.bsz I.sz,I.stack,I.stkFree,I.hok,I.bare,(I.ok.hd hc).imp id λ⟨p,hp,e,n⟩=>by
  obtain⟨a1,a2,a3,a4,a5⟩:=I.pin p (YL _ hp);exact⟨p.1,p.2,e,a1,n,a2,λz=>(YW.mp (I.stkSub p.1 z)).elim a3 a4,a5⟩⟩
theorem Inv.after {Q:VK}(I:Inv X pins σ H s)(h:CE X.stack X.prog X.w H s Q u s'):EP X pins σ Q u s':=by
 obtain⟨v,H',os,bare,un,hok,r,q⟩:=h;obtain⟨hh,g,d,t,os'⟩:=s';obtain rfl:os'=s.os:=os;exact⟨v,H',I.call (h':=hh) (g':=g) (d':=d) (t':=t) (ch:=[]) un hok bare (λb z=>absurd z (by simp)),r,q⟩
end
def tCall (sp:Sp)(dvs:TY)(E:XK)(t:TA):TE:=λσ H Q=>t σ H λvs H1=>sp (vs++dvs) H1 Q E
def tMake (C:Addr)(sp:Sp)(dvs:TY)(E:XK)(t:TA):TE:=λσ H Q=>t σ H λvs H1=>∀ x dx,H1 x=none->H1 dx=none->dx≠x →
 sp (.ref x::(vs++dvs)) (upd (upd H1 dx (.own x)) x (.ins C dx [])) (λv H2=>v=.non/\Q (.ref x) H2) E
def Binds (K:TQ)(fd:FuncData)(ps:TF)(ds:TH):Prop :=
 ∀ (s:Shared) (us:TH),K.In s.heap->(us++ds).length=ps.length->BindsTo s fd ⟨us,[]⟩ (ps.zip (us++ds))
theorem Binds.all {fd:FuncData}(h:∀ us:List Value,us.length=ps.length->bindArgs fd ⟨us,[]⟩=pure (ps.zip us)):Binds K fd ps []:=λs us _ hl=>by
 rw[GS] at hl ⊢;exact .of_eq (h us hl)
def Passes (CX:CXT)(X:Cx)(E:XK):Prop:=∀ (pins:TD) (σ:St) (H:Hp) (s:Shared) (e:Value) (s':Shared),Inv X pins σ H s->CX X.stack H s E e s'->X.xe e s'
section
variable {X:Cx}{CX:CXT}{k:Nat}{f C:Addr}{fd:FuncData}{ps:TF}{sp:Sp}{dvs:TY}{ds:TH}{E:XK}{x m:Str}{p pos apos:Pos}{e o:Expr}{es:TK}{ta:TE}{t:TA}
theorem Z3z {pins:TD}{σ:St}{H:Hp}{s:Shared}{Q:VK}{us:TH}{vs:TY}{sr:Bool}(F:FnOk X.prog X.w X.K X.mg X.base CX k f fd ps sp sr)(hr:Room k X.A sr)(hb:Binds X.K fd ps ds)(hd:Vals dvs ds)(hx:Passes CX X E)(hc:X.calm=true)
  (I:Inv X pins σ H s) (r:Vals vs us) (h:sp (vs++dvs) H Q E):wpAny (model X.prog X.w) X.A (call (.ref f) us) (EP X pins σ Q) X.xe s:=by
 have r2:Vals (vs++dvs) (us++ds):=r.append hd;have hl:(us++ds).length=ps.length:=by rw[<-r2.length];exact F.len _ _ _ _ h
 refine zx (zU (F.run X.A X.stack s H ⟨us,[]⟩ (us++ds) (vs++dvs) Q E hr (I.env0 hc) (hb s us I.kIn hl) r2 h) λr s' hq=>?_)
 cases r with
 | error e=>exact hx pins σ H s e s' I hq
 | ok fl =>
  cases fl with
  | ret u=>exact I.after hq
  | next=>exact False.elim hq
  | brk=>exact False.elim hq
  | cont=>exact False.elim hq
theorem J9 (F:FnOk X.prog X.w X.K X.mg X.base CX k f fd ps sp sr)(hr:Room k X.A sr)(hg:Gl X x)(hm:X.mg x=some (.ref f))(hk:W.keepIn X.K (.ref f)=true)(hb:Binds X.K fd ps ds)(hd:Vals dvs ds)(hx:Passes CX X E)
  (ha:PA X (e::es) t) (hdb:(x == ("__debug__":Str))=false:=by decide) (he:starEach (e::es) X.env=(false,eval e X.env)::starEach es X.env:=by rfl) (hpl:(backTo pos (starEach es X.env)).any (·.1)=false:=by rfl) (hc:X.calm=true:=by rfl) :
  PE X (.Call (.Name x p) (e::es) [] pos) (tCall sp dvs E t):=by
 intro pins s σ H Q I h;refine GX (Vv I hg hm ?_ hdb);refine W.callWith_K (h₀:=X.base) I.ok.mod.kin hk (thn (ha pos pins s σ H _ I h) λus s1 ⟨vs,H1,I1,r,q⟩=>⟨I1.kIn,?_⟩) he hpl;exact Z3z F hr hb hd hx hc I1 r q
structure Mk (K:TQ)(C f:Addr):Prop where
 makes:W.makesIn K C=true
 init:W.findIn K (.ref C) "__init__"=some (some (.ref f))
 fn:W.isFn K (.ref f)=true
 kp:W.keepIn K (.ref C)=true
theorem Cd {pins:TD}{σ:St}{H:Hp}{s:Shared}{Q:VK}{us:TH}{vs:TY}(M:Mk X.K C f){sr:Bool}(F:FnOk X.prog X.w X.K X.mg X.base CX k f fd ps sp sr)(hr:Room (k+1) X.A sr)(hb:Binds X.K fd ps ds)(hd:Vals dvs ds)
  (hx:Passes CX X E) (hc:X.calm=true) (I:Inv X pins σ H s) (r:Vals vs us)
  (h:∀ x dx,H x=none->H dx=none->dx≠x->sp (.ref x::(vs++dvs)) (upd (upd H dx (.own x)) x (.ins C dx [])) (λv H2=>v=.non/\Q (.ref x) H2) E) :
  wpAny (model X.prog X.w) X.A (call (.ref C) us) (EP X pins σ Q) X.xe s:=by
 have hq:=h (s.heap.objs.size+1) s.heap.objs.size (I.hok.fresh (z9 _)) (I.hok.fresh (YD _)) (XD (Y0n _));have I2:=Inv.made (C:=C) I;have r2:Vals (V.ref (s.heap.objs.size+1)::(vs++dvs)) (Value.ref (s.heap.objs.size+1)::(us++ds)):=.cons rfl (r.append hd);have hl:(Value.ref (s.heap.objs.size+1)::us++ds).length=ps.length:=by
  have e:=r2.length;rw[F.len _ _ _ _ hq] at e;exact e.symm
 refine zx (Z04 (f:=f) I.kIn M.makes M.init (GW.mp M.fn) (zU (F.run _ X.stack _ _ ⟨Value.ref (s.heap.objs.size+1)::us,[]⟩ (Value.ref (s.heap.objs.size+1)::(us++ds)) _ _ E (hr.make C us [])
  ((I2.env0 hc).make C us []) (hb _ (Value.ref (s.heap.objs.size+1)::us) I2.kIn hl) r2 hq) λr s' hq'=>?_))
 cases r with
 | error e=>exact hx pins σ _ _ e s' I2 hq'
 | ok fl =>
  cases fl with
  | ret u =>
   obtain⟨v,H',I3,rv,ev,q3⟩:=I2.after hq';subst ev;exact⟨rv,⟨V.ref (s.heap.objs.size+1),H',I3,rfl,q3⟩⟩
  | next=>exact False.elim hq'
  | brk=>exact False.elim hq'
  | cont=>exact False.elim hq'
theorem J8 (M:Mk X.K C f){sr:Bool}(F:FnOk X.prog X.w X.K X.mg X.base CX k f fd ps sp sr)(hr:Room (k+1) X.A sr)(hg:Gl X x)(hm:X.mg x=some (.ref C))(hb:Binds X.K fd ps ds)(hd:Vals dvs ds)(hx:Passes CX X E)
  (ha:PA X (e::es) t) (hdb:(x == ("__debug__":Str))=false:=by decide) (he:starEach (e::es) X.env=(false,eval e X.env)::starEach es X.env:=by rfl) (hpl:(backTo pos (starEach es X.env)).any (·.1)=false:=by rfl) (hc:X.calm=true:=by rfl) :
  PE X (.Call (.Name x p) (e::es) [] pos) (tMake C sp dvs E t):=by
 intro pins s σ H Q I h;refine GX (Vv I hg hm ?_ hdb);refine W.callWith_K (h₀:=X.base) I.ok.mod.kin M.kp (thn (ha pos pins s σ H _ I h) λus s1 ⟨vs,H1,I1,r,q⟩=>⟨I1.kIn,?_⟩) he hpl;exact Cd M F hr hb hd hx hc I1 r q
end
section
variable {X:Cx}{CX:CXT}{k:Nat}{f C:Addr}{fd:FuncData}{ps ks:TF}{sp:Sp}{E:XK}{x m:Str}{p pos apos kpos:Pos}{e o:Expr}{es:TK}{kws:List Keyword}{te ta:TE}{t tk:TA}{nm:Option Str}
variable {g:List Value->List Value->List Value}{gV:List V->List V->List V}
end
structure FnScope (N P:TF)(sc:Scope):Prop where
 kind:sc.kind=.function
 co:sc.isCoroutine=false
 gen:sc.isGenerator=false
 nd:N.Nodup
 pre:N.take P.length=P
 par:∀ x∈P,sc.names.lookup x=some .local \/ sc.names.lookup x=some .cell
 nofree:∀ y∈sc.names,y.2≠.free
theorem fsc {N P:TF}{sc:Scope}(a:sc.kind=.function:=by rfl)(b:sc.isCoroutine=false:=by rfl)(c:sc.isGenerator=false:=by rfl)(d:N.Nodup:=by decide +kernel)(e:N.take P.length=P:=by rfl)(f:∀ x∈P,sc.names.lookup x=some .local ∨ sc.names.lookup x=some .cell:=by decide +kernel)(g:∀ y∈sc.names,y.2≠.free:=by decide +kernel):FnScope N P sc:=⟨a,b,c,d,e,f,g⟩
theorem Px {kindOf:Str->Option NameKind}{x:Str}:∀ {binds:List (Str × Value)} {m:TB},(∀ v,(x,v) ∉ binds)->bindL kindOf binds m x=m x
 | [],_,_=>rfl
 | (n,v)::r,m,h=>by
  unfold bindL;rw[Px λw hw=>h w (YY _ hw)];split
  ·have:x≠n:=by rintro rfl;exact h v XI
   simp[this]
  rfl
theorem Pz {kindOf:Str->Option NameKind}{x:Str}:∀ {binds:List (Str × Value)} {m:TB},(∀ v,(x,v) ∉ binds)->bindC kindOf binds m x=m x
 | [],_,_=>rfl
 | (n,v)::r,m,h=>by
  unfold bindC;rw[Pz λw hw=>h w (YY _ hw)];split
  ·rfl
  have:x≠n:=by rintro rfl;exact h v XI
  simp[this]
theorem Py {kindOf:Str->Option NameKind}{x:Str}{v:Value}:∀ {P:TF} {vs:TH} {i:Nat} {m:TB},P.Nodup->P[i]?=some x->vs[i]?=some v->kindOf x=some .local →
  bindL kindOf (P.zip vs) m x=some v
 | [],_,_,_,_,h,_,_=>by simp at h
 | _::_,[],_,_,_,_,h,_=>by simp at h
 | p::P,w::vs,0,m,nd,h1,h2,hk=>by
  simp at h1 h2;subst h1;subst h2;show bindL kindOf ((p,w)::P.zip vs) m p=_;unfold bindL;rw[Px λv hv=>(jr.mp nd).1 (Y0A hv).1,YJ hk];simp
 | p::P,w::vs,i+1,m,nd,h1,h2,hk=>by
  show bindL kindOf ((p,w)::P.zip vs) m x=_;unfold bindL;exact Py (i:=i) (jr.mp nd).2 (by simpa using h1) (by simpa using h2) hk
theorem N0 {kindOf:Str->Option NameKind}{x:Str}{v:Value}:∀ {P:TF} {vs:TH} {i:Nat} {m:TB},P.Nodup->P[i]?=some x->vs[i]?=some v->kindOf x≠some .local →
  bindC kindOf (P.zip vs) m x=some v
 | [],_,_,_,_,h,_,_=>by simp at h
 | _::_,[],_,_,_,_,h,_=>by simp at h
 | p::P,w::vs,0,m,nd,h1,h2,hk=>by
  simp at h1 h2;subst h1;subst h2;show bindC kindOf ((p,w)::P.zip vs) m p=_;unfold bindC;rw[Pz λv hv=>(jr.mp nd).1 (Y0A hv).1,YH hk];simp
 | p::P,w::vs,i+1,m,nd,h1,h2,hk=>by
  show bindC kindOf ((p,w)::P.zip vs) m x=_;unfold bindC;exact N0 (i:=i) (jr.mp nd).2 (by simpa using h1) (by simpa using h2) hk
def start (N:TF)(vs:TY):St:=vs.map some++List.replicate (N.length - vs.length) none
def cxOf (CX:CXT)(P:TR)(w:World)(K:TQ)(mg:TB)(base:Heap)(N:TF)(qual:Str)(scope:Scope)(f:Addr)(cd:Value)(A:Around)(outer:TM)(s:Shared)(H:Hp)(E:XK):Cx where
 prog:=P
 w:=w
 K:=K
 mg:=mg
 base:=base
 A:=A.deeper (envOfC qual scope s.heap.objs.size f cd)
 N:=N
 s₀:=s
 H₀:=H
 env:=envOfC qual scope s.heap.objs.size f cd
 outer:=outer
 stack:=envOfC qual scope s.heap.objs.size f cd::outer
 ex:=[]
 calm:=true
 fn:=λ_=>true
 pn:=Sb.qpin A s.heap
 xe:=λe s'=>wpAny (model P w) (A.deeper (envOfC qual scope s.heap.objs.size f cd)) (leaving (envOfC qual scope s.heap.objs.size f cd) e) (λ_ s''=>CX outer H s E e s'') (λe' s''=>CX outer H s E e' s'') s'
theorem Li {sc:Scope}{n:Nat}{x:Str}(h:sc.names.lookup x=some .cell):∃ c,(cellsFrom n sc.names []).lookup x=some c:=by
 have q:=W.cellsFrom_some sc.names n [] (.inl h);exact zB.mp q
theorem Fl {CX:CXT}{P:TR}{w:World}{K:TQ}{mg:TB}{base:Heap}{N ps:TF}{qual:Str}{scope:Scope}{f:Addr}{cd:Value}{A:Around}{outer:TM}{s s1:Shared}{H:Hp}{E:XK}{us:TH}{vs:TY}
  (S:FnScope N ps scope) (e0:Env0 P w K mg base A outer s H) (hl:vs.length=ps.length) (r:Vals vs us)
  (x:InCallC s s.heap.objs.size (bindL (envOfC qual scope s.heap.objs.size f cd).kindOf (ps.zip us) λ_=>none) (cellsFrom (s.heap.objs.size+1) scope.names []) (bindC (envOfC qual scope s.heap.objs.size f cd).kindOf (ps.zip us) λ_=>none) s1) :
  Inv (cxOf CX P w K mg base N qual scope f cd A outer s H E) [] (start N vs) H s1:=by
 have hpl:ps.length<=N.length:=by have:=congrArg List.length S.pre;rw[JU] at this;omega
 obtain⟨h1,tk,rfl,hk⟩:=x.done;have noA:∀ b:Addr,b ∉ (cxOf CX P w K mg base N qual scope f cd A outer s H E).ex:=λb z=>absurd (show b∈([]:TJ) from z) (by simp);refine⟨⟨e0.mod,S.kind,rfl,rfl,YD _,λy z c h1 h2=>?_,λy hy=>?_,λy c _ h=>?_,λ_=>e0.qt.pin,Around.frames_deeper e0.frames,.inr ⟨rfl,rfl⟩,λb z=>absurd z (noA b),e0.bs,e0.bsz,λb _ _=>noA b,λb z=>absurd z (noA b),e0.funs,e0.frf⟩,
  rfl,e0.bare,Un.kept hk,⟨_,x.toInCall.ns,λi y v h1 h2 h3=>?_⟩,λy c h=>⟨_,x.cell y c h⟩,e0.hok.fresh (YD _),λy c h=>?_,λp hp=>?_,e0.hok.kept hk,?_⟩
 rotate_right 2
 ·obtain⟨a1,a2,a3,a4⟩:=e0.qt.mem p ((JF.mp hp).elim id λz=>absurd z (by simp));exact⟨hk _ _ a1,a2,XD (YI a1),a3,a4⟩
 rotate_left 1
 ·exact name_of_addr x.apart (zf h1) (zf h2)
 ·have hy:scope.names.lookup y=some .cell \/ scope.names.lookup y=some .free:=hy;rcases hy with hy | hy
  ·exact Li hy
  exact absurd rfl (S.nofree _ (zf hy))
 ·exact XZ (x.above y c (zf h))
 ·have hi:i<vs.length:=by
   unfold start at h2;by_cases hi:i<vs.length
   ·exact hi
   rw[XW (by simpa using hi)] at h2;rw[zO] at h2;split at h2 <;> cases h2
  have ha:vs[i]?=some v:=by
   unfold start at h2;rw[JA (by simpa using hi),YF] at h2
   cases e:vs[i]? with
   | none=>rw[e] at h2;cases h2
   | some a=>rw[e] at h2;cases h2;rfl
  obtain⟨u,hu,rv⟩:=r.get ha;have hp:ps[i]?=some y:=by
   rw[<-S.pre,List.getElem?_take_of_lt (by omega)];exact h1
  have ndP:ps.Nodup:=by rw[<-S.pre];exact S.nd.sublist (List.take_sublist _ _)
  refine⟨u,rv,?_⟩;rcases S.par y (YG hp) with k | k
  ·exact .inl ⟨k,Py ndP hp hu k⟩
  obtain⟨c,e⟩:=Li (n:=s.heap.objs.size+1) k;refine .inr ⟨.inl k,c,e,?_⟩;have q:=x.cell y c e;rw[N0 ndP hp hu (by show scope.names.lookup y≠_;rw[k];decide)] at q;exact q
 ·exact e0.hok.fresh (XZ (x.above y c (zf h)))
 unfold start;show _=N.length;rw[YS,YC,GT];omega
theorem Z3j {CX:CXT}{P:TR}{w:World}{K:TQ}{mg:TB}{base:Heap}{k:Nat}{f:Addr}{name qual:Str}{params:Arguments}{body:TL}{scope:Scope}{dV kV doc pm cdv ct oc:Value}{an od:TN}
  {osl:Array (Option Value)} {N ps:TF} {sp:Sp} {sr:Bool} (lk:K.lookup f=some ⟨oc,od,.func (W.fnOf name qual params body scope dV kV doc pm an cdv ct),osl⟩) (hcd:W.codeIn K cdv qual=true) (S:FnScope N ps scope)
  (len:∀ vs H Q E,sp vs H Q E->vs.length=ps.length)
  (hbody:∀ (A:Around) (outer:TM) (s:Shared) (H:Hp) (vs:TY) (Q:VK) (E:XK),Room k (A.deeper (envOfC qual scope s.heap.objs.size f cdv)) sr->sp vs H Q E →
   ∃ t,PSs (cxOf CX P w K mg base N qual scope f cdv A outer s H E) body t/\t { nx:=λ_ H'=>Q .non H',rt:=Q } (start N vs) H) :
  FnOk P w K mg base CX (k+1) f (W.fnOf name qual params body scope dV kV doc pm an cdv ct) ps sp sr:=by
 refine⟨len,λA outer s H args us vs Q E hr e0 hb r hsp=>?_⟩;have hl:=len _ _ _ _ hsp;have KX:K.In s.heap:=e0.mod.kin.keeps λb o e=>(e0.bs b o e).1;have lim:s.heap.NoLimit:=e0.mod.nolimit.keeps λb o e=>(e0.bs b o e).1;have hkind:∀ y∈ps.zip us,scope.names.lookup y.1=some .local \/ (scope.names.lookup y.1=some .cell/\((cellsFrom (s.heap.objs.size+1) scope.names []).lookup y.1).isSome=true):=λ⟨n,v⟩ hy=>by
  rcases S.par n (Y0A hy).1 with q | q
  ·exact .inl q
  exact .inr ⟨q,W.cellsFrom_some _ _ _ (.inl q)⟩
 refine codeAny_call_function hr.depth (KX _ _ lk) rfl S.co S.gen rfl (W.codeRec_of KX hcd) (hb _ _ _ _ ?_);refine wpAny_newFunctionEnv_cells S.kind hkind λenv he s1 x=>?_;subst he;refine⟨lim.keeps x.toInCall.keep,codeAny_func ?_⟩;obtain⟨t,ht,hq⟩:=hbody A outer s H vs Q E (hr.deeper _) hsp;have I:Inv (cxOf CX P w K mg base N qual scope f cdv A outer s H E) [] (start N vs) H s1:=Fl S e0 hl r x;refine GM (ht [] s1 (start N vs) H _ I hq) (λfl s' hs=>?_) λe s' hs=>hs;have fin:∀ {σ':St} {H':Hp} {v:V} {u:Value},Inv (cxOf CX P w K mg base N qual scope f cdv A outer s H E) [] σ' H' s'->RelV v u->Q v H'->CE outer P w H s Q u s' :=
  λ{σ' H' v u} J rv q=>⟨v,H',J.os,J.bare,J.base,J.hok,rv,q⟩
 cases fl with
 | ret u =>
  obtain⟨v,σ',H',J,rv,q⟩:=hs;exact fin J rv q
 | next =>
  obtain⟨σ',H',J,q⟩:=hs;exact fin (v:=V.non) (u:=Value.none) J rfl q
 | brk =>
  obtain⟨_,_,_,q⟩:=hs;exact False.elim q
 | cont =>
  obtain⟨_,_,_,q⟩:=hs;exact False.elim q
end L2
variable {sp:L2.Sp}
namespace L2
open PySem PySem.Spec PyProof.Rows
section
variable {X:Cx}{x:Str}{p pos:Pos}{e:Expr}{es:TK}{t:TA}{id T:String}{r:List V->Hp->VK->Prop}
def tCB (r:List V->Hp->VK->Prop)(t:TA):TE:=λσ H Q=>t σ H λvs H1=>r vs H1 Q
theorem Zx (hc:CallR X (.builtin id) r)(hg:Gl X x)(hm:X.mg x=none)(hv:bootBuiltins x=some (.builtin id))(ha:PA X (e::es) t)(hn:x≠"__name__":=by decide)(hdb:(x == ("__debug__":Str))=false:=by decide)
  (he:starEach (e::es) X.env=(false,eval e X.env)::starEach es X.env:=by rfl) (hpl:(backTo pos (starEach es X.env)).any (·.1)=false:=by rfl):PE X (.Call (.Name x p) (e::es) [] pos) (tCB r t):=by
 intro pins s σ H Q I h;refine GX (Wy I hg hm hv ?_ hn hdb);exact ji (thn (ha pos pins s σ H _ I h) λus s1 ⟨vs,H1,I1,r1,q1⟩=>hc pins s1 σ H1 vs us Q I1 r1 q1) he hpl
theorem Zw (hc:CallR X (.type T) r)(hg:Gl X x)(hm:X.mg x=none)(hv:bootBuiltins x=some (.type T))(ha:PA X (e::es) t)(hn:x≠"__name__":=by decide)(hdb:(x == ("__debug__":Str))=false:=by decide)
  (he:starEach (e::es) X.env=(false,eval e X.env)::starEach es X.env:=by rfl) (hpl:(backTo pos (starEach es X.env)).any (·.1)=false:=by rfl):PE X (.Call (.Name x p) (e::es) [] pos) (tCB r t):=by
 intro pins s σ H Q I h;refine GX (Wy I hg hm hv ?_ hn hdb);exact JB (thn (ha pos pins s σ H _ I h) λus s1 ⟨vs,H1,I1,r1,q1⟩=>hc pins s1 σ H1 vs us Q I1 r1 q1) he hpl
end
end L2
namespace HT
open PySem PyProof.Rows
section
open PySem.SeqAt
open PySem.AutoSeq1 (wpAny_loadPart')
open PySem.MeetsSeq PySem.MeetsSeq2 PySem.MeetsSeq3
end
section
variable {prog:TR}{w:World}{A:Around}{E:TC}{s:Shared}
def sIx (n d:Nat):Option Int->Nat
 | none=>d
 | some v=>if v<0 then (v+(n:Int)).toNat else min v.toNat n
theorem sIx_none (n d:Nat):sIx n d none=d:=rfl
theorem sIx_nat (n d k:Nat):sIx n d (some (k:Int))=min k n:=by
 show (if (k:Int)<0 then ((k:Int)+(n:Int)).toNat else min (k:Int).toNat n)=min k n;rw[YH (by omega),qW]
end
end HT
namespace L2
open PySem PySem.Spec PyProof.Rows
abbrev TO:=St->Hp->(Option Int->Hp->Prop)->Prop
def PO (X:Cx)(e:Option Expr)(t:TO):Prop :=
 ∀ (pins:TD) (s:Shared) (σ:St) (H:Hp) (Q:Option Int->Hp->Prop),Inv X pins σ H s->t σ H Q →
  wpAny (model X.prog X.w) X.A (evalPart e X.env) (λu s'=>∃ o H',Inv X pins σ H' s'/\IsPart u o/\Q o H') X.xe s
def tNoPart:TO:=λ_ H Q=>Q none H
inductive tPart_i (Q:(Option Int->Hp->Prop)) (x:V) (H1:Hp):Prop
 | i (i:_) (_:x=.int i) (_:Q (some i) H1)
def tPart (t:TE):TO:=λσ H Q=>t σ H (tPart_i Q)
theorem Ql {ns:TU}:∀ {us:TH},Vals (ns.map V.int) us->IntsAre us ns:=by
 induction ns with
 | nil=>intro us r;rw[List.map_nil] at r;cases r;exact .nil
 | cons n ns ih =>
  intro us r;rw[Y0k] at r
  cases r with
  | cons r1 r2 =>
   obtain⟨t,e⟩:=r1;subst e;exact .cons n t (ih r2)
section
variable {X:Cx}{e:Expr}{te:TE}{lo hi:Option Expr}{tl th:TO}{pos p2:Pos}
theorem Z1w:PO X none tNoPart:=by
 intro pins s σ H Q I h;rw[evalPart_none];exact YN ⟨none,H,I,.none,h⟩
theorem Z1v (h:PE X e te):PO X (some e) (tPart te):=by
 intro pins s σ H Q I hw;rw[evalPart_some];refine thn (h pins s σ H _ I hw) λu s1 ⟨x,H1,I1,r1,q1⟩=>?_;obtain⟨i,rfl,q⟩:=q1;obtain⟨t,rfl⟩:=r1;exact⟨some i,H1,I1,.int i t,q⟩
def SlR (X:Cx)(r:V->Option Int->Option Int->Hp->VK->Prop):Prop :=
 ∀ (pins:TD) (s:Shared) (σ:St) (H:Hp) (x:V) (v vl vu:Value) (lo hi:Option Int) (sl:Addr) (Q:VK),Inv X pins σ H s->RelV x v->s.heap.IsSliceOf sl vl vu .none->IsPart vl lo->IsPart vu hi->r x lo hi H Q →
  ∃ T id,typeLookup (.type T) "__getitem__"=pure (some (.builtin id))/\s.TypeIs v T/\wpAny (model X.prog X.w) X.A (getItem v (.ref sl)) (EP X pins σ Q) X.xe s
def tSl (r:V->Option Int->Option Int->Hp->VK->Prop)(te:TE)(tl th:TO):TE:=λσ H Q=>te σ H λx H1=>tl σ H1 λl H2=>th σ H2 λu H3=>r x l u H3 Q
theorem Cq {r:V->Option Int->Option Int->Hp->VK->Prop}(hr:SlR X r)(he:PE X e te)(hl:PO X lo tl)(hu:PO X hi th):PE X (.Subscript e (.Slice lo hi none p2) pos) (tSl r te tl th):=by
 intro pins s σ H Q I h;refine Subscript_ (thn (he pins s σ H _ I h) λv s1 ⟨x,H1,I1,r1,q1⟩=>?_);refine wpAny_Slice (thn (hl pins s1 σ H1 _ I1 q1) λvl s2 ⟨l,H2,I2,pl,q2⟩=>thn (hu pins s2 σ H2 _ I2 q2) λvu s3 ⟨u,H3,I3,pu,q3⟩=>?_);rw[evalPart_none];refine YN ?_;have I4:Inv X pins σ H3 { s3 with heap:=s3.heap.push { cls:=.type "slice",data:=.fields #[vl,vu,.none] } }:=I3.kept (t':=s3.toks) λb ob q=>YB _ q;obtain⟨T,id,hT,ht,hg⟩:=hr pins { s3 with heap:=s3.heap.push { cls:=.type "slice",data:=.fields #[vl,vu,.none] } } σ H3 x v vl vu l u s3.heap.objs.size Q I4 r1 (Heap.IsSliceOf.new ..) pl pu q3;show wpAny (model X.prog X.w) X.A (subscriptTail e (.Slice lo hi none p2) v (.ref s3.heap.objs.size)) (EP X pins σ Q) X.xe { s3 with heap:=s3.heap.push { cls:=.type "slice",data:=.fields #[vl,vu,.none] } };exact tail_any (ops:=[.ref s3.heap.objs.size,v]) ht hT hg (by with_unfolding_all rfl)
def cutV (xs:TY)(lo hi:Option Int):List V:=(xs.drop (HT.sIx xs.length 0 lo)).take (HT.sIx xs.length xs.length hi - HT.sIx xs.length 0 lo)
theorem L9 (xs:TY)(lo hi:Option Int):(cutV xs lo hi).length<=xs.length:=by
 unfold cutV;rw[JU,List.length_drop];omega
end
end L2
namespace L2
open PySem PySem.Spec PyProof.Rows
def ixN (n:Nat)(i:Int):Option Nat:=if 0<=i then (if i<n then some i.toNat else none) else if -(n:Int)<=i then some (i+n).toNat else none
def atI {α:Type}(xs:List α)(i:Int):Option α:=(ixN xs.length i).bind λj=>xs[j]?
theorem Ji {n:Nat}{i:Int}(h:ixN n i=some j):seqIndex? i n=some j/\j<n/\-(n:Int)<=i/\i<n:=by
 unfold ixN at h;by_cases h0:0<=i
 ·rw[YJ h0] at h;by_cases h1:i<n
  ·rw[YJ h1] at h;have e:i.toNat=j:=YK h;exact⟨by rw[seqIndex_of h0 h1,e],by omega,by omega,h1⟩
  rw[YH h1] at h;cases h
 rw[YH h0] at h;by_cases h1:-(n:Int)<=i
 ·rw[YJ h1] at h;have e:(i+n).toNat=j:=YK h;exact⟨by rw[seqIndex_neg (by omega) h1,e],by omega,h1,by omega⟩
 rw[YH h1] at h;cases h
theorem Jx {α:Type}{xs:List α}{i:Int}{v:α}(h:atI xs i=some v):∃ j,seqIndex? i xs.length=some j/\xs[j]?=some v/\j<xs.length/\-(xs.length:Int)<=i/\i<xs.length:=by
 unfold atI at h
 cases e:ixN xs.length i with
 | none=>rw[e] at h;cases h
 | some j =>
  rw[e] at h;obtain⟨h1,h2,h3,h4⟩:=Ji e;exact⟨j,h1,h,h2,h3,h4⟩
theorem Zg {α:Type}{xs:List α}{v:α}(h:xs[j]?=some v):atI xs (j:Int)=some v:=by
 have hj:j<xs.length:=(YE.mp h).1;have e:ixN xs.length (j:Int)=some j:=by
  unfold ixN;rw[YJ (by omega),YJ (by omega)];simp
 unfold atI;rw[e];exact h
def PlainIx (b:Expr):Prop:=∀ o i,subscripted b false o i=operate [o,i] (getItem o i)
def IxR (X:Cx)(r:R2):Prop :=
 ∀ (value slice:Expr) (pins:TD) (s:Shared) (σ:St) (H:Hp) (x y:V) (v u:Value) (Q:VK),Inv X pins σ H s->RelV x v->RelV y u->r x y H Q →
  subscripted slice false v u=operate [v,u] (getItem v u)->wpAny (model X.prog X.w) X.A (subscriptTail value slice v u) (EP X pins σ Q) X.xe s
def MtR (X:Cx)(id:String)(r:V->List V->Hp->VK->Prop):Prop :=
 ∀ (pins:TD) (s:Shared) (σ:St) (H:Hp) (x:V) (xs:TY) (v:Value) (us:TH) (Q:VK),Inv X pins σ H s->RelV x v->Vals xs us->r x xs H Q →
  wpAny (model X.prog X.w) X.A (call (.builtin id) (v::us)) (EP X pins σ Q) X.xe s
section
variable {X:Cx}{a b:Expr}{ta tb:TE}{pos:Pos}
theorem Zj {r:R2}(hr:IxR X r)(ha:PE X a ta)(hb:PE X b tb)(hs:PlainIx b):PE X (.Subscript a b pos) (tOp r ta tb):=by
 intro pins s σ H Q I h;exact Subscript_ (Z57 ha hb I h λv u s2 x y H2 I2 rx ry q=>hr a b pins s2 σ H2 x y v u Q I2 rx ry q (hs _ _))
inductive rIxL (K:TQ) (x:V) (y:V) (H:Hp) (Q:VK):Prop
 | i (p xs i v:_) (_:x=.ref p) (_:y=.int i) (_:SqL K H p xs) (_:atI xs i=some v) (_:Q v H)
inductive rIxT (K:TQ) (x:V) (y:V) (H:Hp) (Q:VK):Prop
 | i (p xs i v:_) (_:x=.ref p) (_:y=.int i) (_:SqT K H p xs) (_:atI xs i=some v) (_:Q v H)
theorem Zv:IxR X (rIxL X.K):=by
 intro value slice pins s σ H x y v u Q I rx ry h hs;obtain⟨p,xs,i,z,rfl,rfl,hq,he,q⟩:=h
 cases rx;obtain⟨t,rfl⟩:=ry;obtain⟨its,r,pl,hz⟩:=I.list hq;obtain⟨j,h1,h2,h3,h4,h5⟩:=Jx he;obtain⟨w,ew,rw'⟩:=r.get h2;have hl:=r.length;have hn:=Qj;have fin:EP X pins σ Q w s:=⟨z,H,I,rw',q⟩;by_cases h0:0<=i
 ·have hj:i.toNat=j:=by
   rw[seqIndex_of h0 h5] at h1;exact YK h1
  exact item_listR pl.isList h0 (by omega) (by rw[hj];simpa using ew) fin hs
 have hj:(i+(its.toArray.size:Int)).toNat=j:=by
  rw[seqIndex_neg (by omega) h4] at h1;rw[YV,<-hl];exact YK h1
 exact subscriptTail_builtinR (x:=w) pl.isList.typeIs slot_list_getitem.lookup
  (wpAny_getItem_list_neg (Q:=λr s'=>r=w/\EP X pins σ Q r s') pl.isList (by omega) (by rw[YV] <;> omega) (by omega) (by rw[hj];simpa using ew) ⟨rfl,fin⟩) hs
theorem Yd:IxR X (rIxT X.K):=by
 intro value slice pins s σ H x y v u Q I rx ry h hs;obtain⟨p,xs,i,z,rfl,rfl,hq,he,q⟩:=h
 cases rx;obtain⟨t,rfl⟩:=ry;obtain⟨its,r,pl,hz⟩:=I.tuple hq;obtain⟨j,h1,h2,h3,h4,h5⟩:=Jx he;obtain⟨w,ew,rw'⟩:=r.get h2;have hl:=r.length;have hn:=Qj;have fin:EP X pins σ Q w s:=⟨z,H,I,rw',q⟩;exact subscriptTail_builtinR (x:=w) pl.typeIs slot_tuple_getitem.lookup
  (getItem_tuple (j:=j) (Q:=λr s'=>r=w/\EP X pins σ Q r s') pl (by omega) (by omega) (by rw[YV,<-hl];exact h1) (by simpa using ew) ⟨rfl,fin⟩) hs
theorem Ki (its:TH)(n j:Nat)(u:Value):Obj.mapSeq (·.setIfInBounds j u) { cls:=.type "list",data:=.seq its.toArray n }={ cls:=.type "list",data:=.seq (its.set j u).toArray n }:=by
 simp[Obj.mapSeq]
theorem Inv.lst {pins:TD}{σ:St}{H:Hp}{s:Shared}{p:Addr}{xs:TY}(I:Inv X pins σ H s)(h:H p=some (.lst xs)) :
  ∃ (its:TH) (n:Nat),Vals xs its/\s.heap.get? p=some { cls:=.type "list",data:=.seq its.toArray n }/\xs.length<=sizeLine:=by
 obtain⟨z,its,n,r,e⟩:=I.hok p _ h;exact⟨its,n,r,e,z⟩
theorem Inv.lstUpd {p:Addr}{ys:TY}{its its':TH}{n n':Nat}{f:Obj->Obj}(I:Inv X pins σ H s)(h:H p=some (.lst xs))
  (ho:s.heap.get? p=some { cls:=.type "list",data:=.seq its.toArray n }) (hf:f { cls:=.type "list",data:=.seq its.toArray n }={ cls:=.type "list",data:=.seq its'.toArray n' }) (r:Vals ys its') (hz:ys.length<=sizeLine) (t:Nat) :
  Inv X pins σ (upd H p (.lst ys)) { s with heap:=s.heap.update p f,toks:=t }:=by
 have e:(s.heap.update p f).get? p=some { cls:=.type "list",data:=.seq its'.toArray n' }:=by
  rw[JM f ho (by rw[hf] <;> rfl),hf]
 refine I.write (x:=p) (e:=p) (by rw[h];trivial) (.inl rfl) (λb u hb q=>(XV _ _ (XJ hb)).trans q) ⟨_,e⟩ ?_;exact⟨hz,its',n',r,e⟩
inductive rSetL (o:V) (i:V) (v:V) (H:Hp) (Q:(Hp->Prop)):Prop
 | i (p xs k j:_) (_:o=.ref p) (_:i=.int k) (_:H p=some (.lst xs)) (_:ixN xs.length k=some j) (_:Q (upd H p (.lst (xs.set j v))))
theorem V9:PSet X rSetL:=by
 intro pins s σ H o i v ov iv u Q I ro ri rv h;obtain⟨p,xs,k,j,rfl,rfl,hp,hj,q⟩:=h
 cases ro;obtain⟨t,rfl⟩:=ri;obtain⟨its,n,r,ho,hz⟩:=I.lst hp;obtain⟨h1,h2,h3,h4⟩:=Ji hj;have hl:=r.length;have hn:=Qj;have I':Inv X pins σ (upd H p (.lst (xs.set j v))) { s with heap:=s.heap.update p (Obj.mapSeq (·.setIfInBounds j u)) } :=
  I.lstUpd hp ho (Ki its n j u) (r.set rv j) (by rw[qc];exact hz) s.toks
 by_cases h0:0<=k
 ·have hk:k.toNat=j:=by
   rw[seqIndex_of h0 h4] at h1;exact YK h1
  exact W.ki_setAt ho h0 (by omega) (by rw[YV,<-hl];exact h4) (by rw[hk];exact⟨_,I',q⟩)
 have hk:(k+(its.toArray.size:Int)).toNat=j:=by
  rw[seqIndex_neg (by omega) h3] at h1;rw[YV,<-hl];exact YK h1
 exact W.ki_setBack ho (by omega) (by rw[YV,<-hl];exact h3) (by omega) (by rw[hk];exact⟨_,I',q⟩)
theorem N3 (lo hi:Option Int)(n:Nat):(sliceBounds lo hi none n).1=((HT.sIx n 0 lo:Nat):Int)/\(sliceBounds lo hi none n).2.1=((HT.sIx n n hi:Nat):Int)/\(sliceBounds lo hi none n).2.2=1:=by
 refine⟨?_,?_,rfl⟩
 ·cases lo with
  | none=>simp[sliceBounds,HT.sIx]
  | some i =>
   simp only [sliceBounds,HT.sIx,Option.getD_none,show (1:Int) > 0 by decide,jn];by_cases h:i<0
   ·simp only [h,jn] <;> omega
   simp only [h,Y02] <;> omega
 cases hi with
 | none=>simp[sliceBounds,HT.sIx]
 | some i =>
  simp only [sliceBounds,HT.sIx,Option.getD_none,show (1:Int) > 0 by decide,jn];by_cases h:i<0
  ·simp only [h,jn] <;> omega
  simp only [h,Y02] <;> omega
theorem Qz (its:TH)(lo hi:Option Int):slicePick its.toArray lo hi none=((its.drop (HT.sIx its.length 0 lo)).take (HT.sIx its.length its.length hi - HT.sIx its.length 0 lo)).toArray:=by
 obtain⟨h1,h2,h3⟩:=N3 lo hi its.toArray.size;unfold slicePick;rw[h1,h2,h3];simp only [sliceRange_one,pick_run,YV] <;> rfl
inductive rSlL (K:TQ) (x:V) (lo:Option Int) (hi:Option Int) (H:Hp) (Q:VK):Prop
 | i (a xs:_) (_:x=.ref a) (_:SqL K H a xs) (_:∀ p,H p=none->Q (.ref p) (upd H p (.lst (cutV xs lo hi))))
theorem Z14:SlR X (rSlL X.K):=by
 intro pins s σ H x v vl vu lo hi sl Q I rx hs pl pu h;obtain⟨a,xs,rfl,hx,q⟩:=h
 cases rx;obtain⟨its,r,ht,hz⟩:=I.list hx;have hlen:=r.length;refine⟨"list",_,slot_list_getitem.lookup,ht.isList.typeIs,?_⟩;refine wpAny_getItem_list_slice ht.isList hs pl pu .none (by simp) ?_ (by rw[YV] <;> omega);rw[Qz,<-hlen];refine⟨.ref s.heap.objs.size,_,I.laid (t':=s.toks) (o:=.lst (cutV xs lo hi)) (λb ob q=>YB _ q) (YD _) ?_,rfl,q _ (I.hok.fresh (YD _))⟩;exact⟨YX (L9 xs lo hi) hz,_,0,(r.drop (HT.sIx xs.length 0 lo)).take (HT.sIx xs.length xs.length hi - HT.sIx xs.length 0 lo),YT _ rfl⟩
def flatV:V->Bool
 | .non=>true
 | .bl _=>true
 | .int _=>true
 | .str _=>true
 | _=>false
def eqV:V->V->Bool
 | .non,.non=>true
 | .bl a,.bl b=>a == b
 | .bl a,.int b=>(if a then 1 else 0) == b
 | .int a,.bl b=>a == (if b then 1 else 0)
 | .int a,.int b=>a == b
 | .str a,.str b=>a == b
 | _,_=>false
theorem Z54 {A:Around}{s:Shared}{y x:V}{u v:Value}(ry:RelV y u)(rx:RelV x v)(fy:flatV y=true)(fx:flatV x=true):SeqAt.EqAt A s u v (eqV y x):=by
 cases y with
 | non =>
  cases ry
  cases x with
  | non=>cases rx;exact zF _
  | bl b=>cases rx;exact SeqAt.EqAt.none_bool b
  | int b=>obtain⟨t,rfl⟩:=rx;exact SeqAt.EqAt.none_int b t
  | str b=>obtain⟨t,rfl⟩:=rx;exact SeqAt.EqAt.none_str b t
  | _=>exact absurd (show false=true from fx) YO
 | bl a =>
  cases ry
  cases x with
  | non=>cases rx;exact SeqAt.EqAt.bool_none a
  | bl b=>cases rx;exact SeqAt.EqAt.bool_bool a b
  | int b=>obtain⟨t,rfl⟩:=rx;exact SeqAt.EqAt.bool_int a b t
  | str b=>obtain⟨t,rfl⟩:=rx;exact SeqAt.EqAt.bool_str a b t
  | _=>exact absurd (show false=true from fx) YO
 | int a =>
  obtain⟨t',rfl⟩:=ry
  cases x with
  | non=>cases rx;exact SeqAt.EqAt.int_none a t'
  | bl b=>cases rx;exact SeqAt.EqAt.int_bool a t' b
  | int b=>obtain⟨t,rfl⟩:=rx;exact zM a t' b t
  | str b=>obtain⟨t,rfl⟩:=rx;exact SeqAt.EqAt.int_str a t' b t
  | _=>exact absurd (show false=true from fx) YO
 | str a =>
  obtain⟨t',rfl⟩:=ry
  cases x with
  | non=>cases rx;exact SeqAt.EqAt.str_none a t'
  | bl b=>cases rx;exact SeqAt.EqAt.str_bool a t' b
  | int b=>obtain⟨t,rfl⟩:=rx;exact SeqAt.EqAt.str_int a t' b t
  | str b=>obtain⟨t,rfl⟩:=rx;exact SeqAt.EqAt.str_str a t' b t
  | _=>exact absurd (show false=true from fx) YO
 | _=>exact absurd (show false=true from fy) YO
def eqU (x:V)(u:Value):Bool:=match u with
 | .none=>eqV .non x
 | .bool b=>eqV (.bl b) x
 | .int i _=>eqV (.int i) x
 | .str z _=>eqV (.str z) x
 | _=>false
theorem Z0p {x y:V}{u:Value}(r:RelV y u)(f:flatV y=true):eqU x u=eqV y x:=by
 cases y with
 | non=>cases r;rfl
 | bl b=>cases r;rfl
 | int i=>obtain⟨t,rfl⟩:=r;rfl
 | str z=>obtain⟨t,rfl⟩:=r;rfl
 | _=>exact absurd (show false=true from f) YO
theorem M0 {x:V}:∀ {xs:TY} {us:TH},Vals xs us->xs.all flatV=true->us.any (eqU x)=xs.any λy=>eqV y x
 | _,_,.nil,_=>rfl
 | y::xs,u::us,.cons r t,f=>by
  rw[List.all_cons,JZ] at f;rw[List.any_cons,List.any_cons,Z0p r f.1,M0 t f.2]
theorem Qd {A:Around}{s:Shared}{x:V}{v:Value}(rx:RelV x v)(fx:flatV x=true):∀ {xs:TY} {us:TH},Vals xs us->xs.all flatV=true->∀ u∈us,SeqAt.EqAt A s u v (eqU x u)
 | _,_,.nil,_=>λu hu=>by cases hu
 | y::xs,u::us,.cons r t,f=>λu' hu=>by
  rw[List.all_cons,JZ] at f;rcases YW.mp hu with rfl | hu
  ·rw[Z0p r f.1];exact Z54 r rx f.1 fx
  exact Qd rx fx t f.2 u' hu
def inV (x:V)(xs:TY):Bool:=xs.any λy=>eqV y x
inductive rIn (K:TQ) (neg:Bool) (x:V) (y:V) (H:Hp) (Q:VK):Prop
 | i (p xs:_) (_:y=.ref p) (_:(SqL K H p xs \/ SqT K H p xs)) (_:flatV x=true) (_:xs.all flatV=true) (_:Q (.bl (if neg then !inV x xs else inV x xs)) H)
theorem Wo:OpR X (compareOp .In) (rIn X.K false):=by
 intro pins s σ H x y v u Q I rx ry h;obtain⟨p,xs,rfl,hq,fx,fs,q⟩:=h
 cases ry;rcases hq with hq | hq
 ·obtain⟨its,r,pl,hz⟩:=I.list hq;refine SeqAt.in_listAt (eqU x) pl.isList (λw hw=>Qd rx fx r fs w (by simpa using hw)) ⟨.bl _,H,I,rfl,?_⟩;rw[show its.toArray.any (eqU x)=its.any (eqU x) by simp,M0 r fs];exact q
 obtain⟨its,r,pl,hz⟩:=I.tuple hq;refine SeqAt.in_tupleAt (eqU x) pl (λw hw=>Qd rx fx r fs w (by simpa using hw)) ⟨.bl _,H,I,rfl,?_⟩;rw[show its.toArray.any (eqU x)=its.any (eqU x) by simp,M0 r fs];exact q
theorem Y2:CallR X (.builtin "len") (λxs H Q=>∃ p ys,xs=[.ref p]/\(SqL X.K H p ys \/ SqT X.K H p ys)/\Q (.int ys.length) H):=by
 intro pins s σ H xs us Q I r h;obtain⟨p,ys,rfl,hq,q⟩:=h;obtain⟨u,rfl,rx⟩:=Uz r
 cases rx;have hn:=Qj;rcases hq with hq | hq
 ·obtain⟨its,r',pl,hz⟩:=I.list hq;have hlen:=r'.length;exact Calls.call_len_list pl.isList (by simp only [YV] <;> omega) ⟨.int ys.length,H,I.tok _,⟨s.toks+1,by rw[YV,hlen]⟩,q⟩
 obtain⟨its,r',pl,hz⟩:=I.tuple hq;have hlen:=r'.length;exact len_tuple pl (by simp only [YV] <;> omega) ⟨.int ys.length,H,I.tok _,⟨s.toks+1,by rw[YV,hlen]⟩,q⟩
theorem Y9:CallR X (.type "list") (λxs H Q=>∃ p ys,xs=[.ref p]/\(SqL X.K H p ys \/ SqT X.K H p ys)/\∀ l,H l=none->Q (.ref l) (upd H l (.lst ys))):=by
 intro pins s σ H xs us Q I r h;obtain⟨p,ys,rfl,hq,q⟩:=h;obtain⟨u,rfl,rx⟩:=Uz r
 cases rx;have fin:∀ (its:TH),Vals ys its->ys.length<=sizeLine->∀ (h':Heap) (c':Nat),(∀ b o',s.heap.get? b=some o'->h'.get? b=some o') →
   h'.get? s.heap.objs.size=some { cls:=.type "list",dict:=none,data:=.seq its.toArray c',slots:=#[] }->EP X pins σ Q (.ref s.heap.objs.size) { s with heap:=h' }:=λits r' hz h' c' kp e =>
  ⟨.ref s.heap.objs.size,_,I.laid (t':=s.toks) kp (YD _) (show ObjOk X.prog X.w _ h' _ (.lst ys) from ⟨hz,its,c',r',e⟩),rfl,q _ (I.hok.fresh (YD _))⟩
 rcases hq with hq | hq
 ·obtain⟨its,r',pl,hz⟩:=I.list hq;have hlen:=r'.length;obtain⟨o,ho,hc,n,hd⟩:=pl.isList;exact call_list_seq p (.inl rfl) ho hc hd (λh' c' kp e=>fin its r' hz h' c' kp e) (by simp only [YV] <;> omega)
 obtain⟨its,r',pl,hz⟩:=I.tuple hq;have hlen:=r'.length;obtain⟨o,ho,hc,n,hd⟩:=pl;exact call_list_seq p (.inr rfl) ho hc hd (λh' c' kp e=>fin its r' hz h' c' kp e) (by simp only [YV] <;> omega)
theorem Zy:CallR X (.type "tuple") (λxs H Q=>∃ p ys,xs=[.ref p]/\((SqL X.K H p ys/\∀ l,H l=none->Q (.ref l) (upd H l (.tup ys))) \/ (SqT X.K H p ys/\Q (.ref p) H))):=by
 intro pins s σ H xs us Q I r h;obtain⟨p,ys,rfl,h⟩:=h;obtain⟨u,rfl,rx⟩:=Uz r
 cases rx;rcases h with ⟨hq,q⟩ | ⟨hq,q⟩
 ·obtain⟨its,r',pl,hz⟩:=I.list hq;have hlen:=r'.length;refine call_tuple_list pl.isList (λh' kp=>?_) (by simp only [YV] <;> omega);have I1:Inv X pins σ H { s with heap:=h' }:=I.kept (t':=s.toks) kp;have I2:Inv X pins σ (upd H h'.objs.size (.tup ys)) { s with heap:=h'.push { cls:=.type "tuple",data:=.seq its.toArray } } :=
   I1.laid (t':=s.toks) (λb o e=>YB _ e) (YD _) (show ObjOk X.prog X.w _ _ _ (.tup ys) from ⟨hz,its,r',IsTup.new _ _⟩)
  exact⟨.ref h'.objs.size,_,I2,rfl,q _ (I1.hok.fresh (YD _))⟩
 obtain⟨its,r',pl,hz⟩:=I.tuple hq;exact call_tuple_same pl ⟨.ref p,H,I,rfl,q⟩
def tyV (K:TQ)(T:String)(x:V)(H:Hp):Prop:=match x with
 | .str _=>T="str"
 | .int _=>T="int"
 | .ref p=>(T="list"/\∃ xs,SqL K H p xs) \/ (T="tuple"/\∃ o,K.lookup p=some o/\o.cls=.type "tuple"/\o.dict=none) ∨
   (T="dict"/\((∃ kvs,H p=some (.dK kvs)) \/ ∃ kvs,H p=some (.dT kvs))) \/ (T="set"/\∃ S n,H p=some (.set S n))
 | _=>False
theorem Z3l {pins:TD}{σ:St}{H:Hp}{s:Shared}{T:String}{x:V}{v:Value}(I:Inv X pins σ H s)(r:RelV x v)(ty:tyV X.K T x H) :
  s.TypeIs v T/\∀ a,v=.ref a->∃ ob,s.heap.get? a=some ob/\ob.dict=none:=by
 cases x with
 | str z =>
  obtain⟨t,rfl⟩:=r
  cases (show T="str" from ty);exact⟨typeIs_str s z t,λ_ e=>nomatch e⟩
 | int i =>
  obtain⟨t,rfl⟩:=r
  cases (show T="int" from ty);exact⟨Y0u s i t,λ_ e=>nomatch e⟩
 | ref p =>
  cases r;rcases ty with ⟨rfl,xs,hq⟩ | ⟨rfl,o,hk,hc,hd⟩ | ⟨rfl,hk⟩ | ⟨rfl,S,n,hk⟩
  ·obtain⟨its,_,pl,_⟩:=I.list hq;refine⟨pl.isList.typeIs,λa e=>?_⟩
   cases e;obtain⟨o,n,e,c,hd,_⟩:=pl;exact⟨o,e,hd⟩
  ·refine⟨⟨o,I.kIn p o hk,hc⟩,λa e=>?_⟩
   cases e;exact⟨o,I.kIn _ o hk,hd⟩
  ·have z:∃ o,s.heap.get? p=some o/\o.ExactDict:=by
    rcases hk with ⟨kvs,hk⟩ | ⟨kvs,hk⟩
    ·obtain⟨_,_,_,_,o,_,_,e,ex,_⟩:=I.hok p _ hk;exact⟨o,e,ex⟩
    obtain⟨_,_,_,_,o,_,_,e,ex,_⟩:=I.hok p _ hk;exact⟨o,e,ex⟩
   obtain⟨o,e,ex⟩:=z;refine⟨⟨o,e,ex.1⟩,λa e2=>?_⟩
   cases e2;exact⟨o,e,ex.2.1⟩
  obtain⟨o,_,_,_,e,ex,_⟩:=I.hok p _ hk;refine⟨⟨o,e,ex.1⟩,λa e2=>?_⟩
  cases e2;exact⟨o,e,ex.2.1⟩
 | _=>exact False.elim ty
def tBM (K:TQ)(T:String)(r:V->List V->Hp->VK->Prop)(to:TE)(t:TA):TE:=λσ H Q=>to σ H λx H1=>tyV K T x H1/\t σ H1 λxs H2=>r x xs H2 Q
variable {o e:Expr}{es:TK}{to:TE}{t:TA}{name:Str}{apos cpos:Pos}{T id:String}{r:V->List V->Hp->VK->Prop}
theorem Wu (pa:PlainAttrs T)(slot:Slot T name id)(hty:typeOf (.builtin id)=pure (.type "method_descriptor"))(hm:MtR X id r)(ho:PE X o to)(ha:PA X (e::es) t)
  (hbase:attributeBase o name X.env (eval o X.env)=eval o X.env:=by rfl)
  (hfew:((backTo cpos (starEach (e::es) X.env)).all (λx=>!x.1) && (backToKw cpos (keywordEach [] X.env)).all (λx=>x.1.isSome)
   && decide ((e::es).length+([]:List Keyword).length+(if ([]:List Keyword).isEmpty then 0 else 1)<30))=true:=by rfl)
  (hline:(apos.endLine == cpos.line)=true:=by rfl) (hs:starEach (e::es) X.env=(false,eval e X.env)::starEach es X.env:=by rfl) (hplain:(backTo cpos (starEach es X.env)).any (·.1)=false:=by rfl) :
  PE X (.Call (.Attribute o name apos) (e::es) [] cpos) (tBM X.K T r to t):=by
 intro pins s σ H Q I h;refine wpAny_Call_method_late hbase hfew hline rfl (thn (ho pins s σ H _ I h) λv s1 ⟨x,H1,I1,r1,ty,q1⟩=>?_);obtain⟨h1,h2⟩:=Z3l I1 r1 ty;refine⟨T,id,pa,slot,hty,h1,h2,?_⟩;have hA:=ha cpos pins s1 σ H1 _ I1 q1;rw[hs] at hA ⊢;refine Calls.callWith_builtin (by show (false || (backTo cpos (starEach es X.env)).any (·.1))=false;rw[hplain] <;> rfl) (Calls.evalArgs_plain ?_);exact thn hA λus s2 ⟨vs,H2,I2,r2,q2⟩=>hm pins s2 σ H2 x vs v us Q I2 r1 r2 q2
end
end L2
namespace L2
open PySem PySem.Spec PyProof.Rows
def MtM (X:Cx)(id:String)(r:V->List V->Hp->VK->Prop):Prop :=
 ∀ (pins:TD) (s:Shared) (σ:St) (H:Hp) (x:V) (xs:TY) (v:Value) (us:TH) (Q:VK),Inv X pins σ H s->RelV x v->Vals xs us->r x xs H Q →
  wpAny (model X.prog X.w) X.A (call (.builtin id) (v::us)) (EP X pins σ Q) X.xe s
theorem Vals.one:∀ {x:V} {us:TH},Vals [x] us->∃ u,us=[u]/\RelV x u
 | _,_,.cons r .nil=>⟨_,rfl,r⟩
theorem Vals.rep {xs:TY}{us:TH}(h:Vals xs us):∀ k:Nat,Vals (List.replicate k xs).flatten (List.replicate k us).flatten
 | 0=>.nil
 | k+1=>by
  rw[zg,zg,zV,zV];exact Vals.append h (Vals.rep h k)
theorem Pq (its:TH):∀ (k:Nat) (acc:TH),
  List.foldl (λx1 x2=>x1++x2) acc.toArray (List.replicate k its.toArray)=(acc++(List.replicate k its).flatten).toArray
 | 0,acc=>by simp
 | k+1,acc=>by
  have e:acc.toArray++its.toArray=(acc++its).toArray:=by simp
  have e2:(acc++its)++(List.replicate k its).flatten=acc++(List.replicate (k+1) its).flatten:=by
   rw[zg,zV,List.append_assoc]
  rw[<-e2,<-Pq its k (acc++its),<-e,zg,List.foldl_cons]
section
variable {X:Cx}{pins:TD}{σ:St}{H:Hp}{s:Shared}{l b:Addr}{xs ys zs:TY}
theorem Inv.lset {its its':TH}{n:Nat}{f:Array Value->Array Value}{t':Nat}(I:Inv X pins σ H s)(hH:H l=some (.lst xs))
  (e:s.heap.get? l=some { cls:=.type "list",data:=.seq its.toArray n }) (hf:f its.toArray=its'.toArray) (hv:Vals ys its') (hz:ys.length<=sizeLine) :
  Inv X pins σ (upd H l (.lst ys)) { s with heap:=s.heap.update l (Obj.mapSeq f),toks:=t' }:=by
 have q:=PySem.IsL.update e f;rw[hf] at q;refine I.write (x:=l) (e:=l) (by rw[hH];exact trivial) (.inl rfl) (λb' u hb hu=>(XV s.heap (Obj.mapSeq f) (XJ hb)).trans hu) ⟨_,q⟩ ?_;exact⟨hz,its',_,hv,q⟩
theorem Inv.lnew {t':Nat}(I:Inv X pins σ H s)(hv:Vals ys its)(hz:ys.length<=sizeLine) :
  Inv X pins σ (upd H s.heap.objs.size (.lst ys)) { s with heap:=s.heap.push { cls:=.type "list",data:=.seq its.toArray },toks:=t' } :=
 I.laid (λ_ _ q=>YB _ q) (YD _) ⟨hz,its,0,hv,YT _ rfl⟩
theorem Inv.fresh (I:Inv X pins σ H s):H s.heap.objs.size=none:=I.hok.fresh (YD _)
theorem Inv.lstM (I:Inv X pins σ H s)(hH:H l=some (.lst xs)):xs.length<=sizeLine/\∃ (its:TH) (n:Nat),Vals xs its/\xs.length=its.length/\s.heap.get? l=some { cls:=.type "list",data:=.seq its.toArray n }:=by
 obtain⟨z,its,n,r,e⟩:=I.hok l _ hH;exact⟨z,its,n,r,r.length,e⟩
theorem Br {n:Nat}(h:n<=sizeLine):Builtin.List.listTooLong n=false:=by
 unfold Builtin.List.listTooLong;exact JD (by omega)
end
section
variable {X:Cx}
inductive rAppend (x:V) (vs:TY) (H:Hp) (Q:VK):Prop
 | i (l xs y:_) (_:x=.ref l) (_:vs=[y]) (_:H l=some (.lst xs)) (_:xs.length<sizeLine) (_:Q .non (upd H l (.lst (xs++[y]))))
theorem Yn:MtM X "list.append" rAppend:=by
 intro pins s σ H x vs v us Q I rx rv h;obtain⟨l,xs,y,rfl,rfl,hH,hz,q⟩:=h
 cases rx;obtain⟨u,rfl,ru⟩:=rv.one;obtain⟨z,its,n,r,hl,e⟩:=I.lstM hH;refine jj F.slot_list_append ⟨_,e,rfl⟩ F.entry_list_append (F.args_list_append_2 _ _) (PySem.list_append l its.toArray n u (by rw[YV];omega)) ⟨e,?_⟩;refine⟨.non,_,I.lset (its':=its++[u]) hH e (by simp) (r.append (.cons ru .nil)) ?_,rfl,q⟩;rw[YS,List.length_singleton];omega
inductive rExtend (x:V) (vs:TY) (H:Hp) (Q:VK):Prop
 | i (l b xs zs:_) (_:x=.ref l) (_:vs=[.ref b]) (_:H l=some (.lst xs)) (_:H b=some (.lst zs)) (_:xs.length+zs.length<=sizeLine) (_:Q .non (upd H l (.lst (xs++zs))))
theorem Fe:MtM X "list.extend" rExtend:=by
 intro pins s σ H x vs v us Q I rx rv h;obtain⟨l,b,xs,zs,rfl,rfl,hH,hB,hz,q⟩:=h
 cases rx;obtain⟨u,rfl,ru⟩:=rv.one
 cases ru;obtain⟨z,its,n,r,hl,e⟩:=I.lstM hH;obtain⟨z2,its2,n2,r2,hl2,e2⟩:=I.lstM hB;have hsz:its.toArray.size+its2.toArray.size<=sizeLine:=by rw[YV,YV];omega
 have hlong:¬ (!its.toArray.isEmpty && Builtin.List.listTooLong (its.toArray.size+its2.toArray.size))=true:=by
  rw[Br hsz,Bool.and_false];exact YO
 refine jj F.slot_list_extend ⟨_,e,rfl⟩ F.entry_list_extend (F.args_list_extend_2 _ _)
  (AutoSeq1.list_extend_list_list_0 l its.toArray n b its2.toArray n2 hlong (by rw[YV];omega) (by omega)) ⟨e,e2,?_⟩
 refine⟨.non,_,I.lset (its':=its++its2) hH e (by simp) (r.append r2) ?_,rfl,q⟩;rw[YS];omega
inductive rCat (x:V) (y:V) (H:Hp) (Q:VK):Prop
 | i (l b xs zs:_) (_:x=.ref l) (_:y=.ref b) (_:H l=some (.lst xs)) (_:H b=some (.lst zs)) (_:xs.length+zs.length<=sizeLine) (_:∀ p,H p=none->Q (.ref p) (upd H p (.lst (xs++zs))))
theorem Tu:OpR X (binaryOp .Add) rCat:=by
 intro pins s σ H x y v u Q I rx ry h;obtain⟨l,b,xs,zs,rfl,rfl,hH,hB,hz,q⟩:=h
 cases rx
 cases ry;obtain⟨z,its,n,r,hl,e⟩:=I.lstM hH;obtain⟨z2,its2,n2,r2,hl2,e2⟩:=I.lstM hB;refine PySem.P.add_list e e2 ?_ (by rw[YV,YV];omega);have ea:its.toArray++its2.toArray=(its++its2).toArray:=by simp
 rw[ea];exact⟨.ref _,_,I.lnew (t':=s.toks) (r.append r2) (by rw[YS];omega),rfl,q _ I.fresh⟩
theorem Z2x {α:Type}(xs:List α)(k:Nat):(List.replicate k xs).flatten.length=k*xs.length:=by
 induction k with
 | zero=>simp
 | succ k ih=>rw[zg,zV,YS,ih,Y0v,zW]
end
section
variable {prog:TR}{w:World}{A:Around}{E:TC}{s:Shared}
end
section
variable {X:Cx}
end
end L2
namespace Att
open PySem PySem.W PySem.Calls PyProof.Rows
theorem R9 {P:Params}{h:Heap}:∀ (ns:TU) (vs:TH),WellAll P h vs (ns.map WData.int)->IntsAre vs ns:=by
 intro ns
 induction ns with
 | nil =>
  intro vs w;rw[List.map_nil] at w
  cases w;exact .nil
 | cons n ns ih =>
  intro vs w;rw[Y0k] at w
  cases w with
  | cons a b =>
   cases a;exact .cons _ _ (ih _ b)
theorem G7 {l:OpenLaw}{n:Nat}(hn:l.most=some n){P:Params}{h:Heap}{args:List WData}{vals:TH}
  (hpre:l.row.toRowW.claim.pre args=true) (hwl:WellAll P h vals args) :
  ∃ a vs ns,vals=[Value.ref a]/\args=[WData.list (ns.map WData.int)]/\h.get? a=some { cls:=.type "list",data:=.seq vs.toArray }/\IntsAre vs ns/\ns.length<=n:=by
 have hsh:WShape.hasAll [] args [.list .int]=true:=(pre_splitW hpre).1;have hc:l.pre.holds [] { args:=args }=true:=(pre_splitW hpre).2;obtain⟨d,r,rfl,h1,h2⟩:=hasAllW_cons hsh;obtain rfl:=hasAllW_nil h2;obtain⟨xs,rfl,h3⟩:=hasW_list h1;obtain⟨ns,rfl⟩:=items_int h3;have hlen:ns.length<=n:=by
  unfold OpenLaw.pre at hc;have h4:(WTm.not (.lt (.lit (.int (n:Int))) (.len (.arg 0)))).holds [] { args:=[.list (ns.map .int)] }=true:=by
   have h4:=(holds_andW hc).1;rw[hn] at h4;exact h4
  have h5:=condW_of h4 (w_not (w_lt w_lit (w_len_list (w_arg rfl))));rw[YC] at h5;refine Y0o λq=>?_;have q':(n:Int)<((ns.length:Nat):Int):=by omega
  first
   | (rw[XQ q'] at h5;exact absurd h5 (by decide))
   | (simp at h5;omega)
 cases hwl with
 | cons w1 w2 =>
  cases w2
  cases w1 with
  | list ho hall=>exact⟨_,_,ns,rfl,rfl,ho,R9 ns _ hall,hlen⟩
theorem Gk (l:OpenLaw)(args:List WData):l.row.toRowW.claim.post args (.bool true) args=true :=
 postW_of (r:=l.row.toRowW) (X:=(true == true))
  (show WShape.has [] (.bool true) .bool=true by first | rfl | decide | simp[WShape.has,WShape.arms,WShape.armsAll])
  (show (WTm.eq .res (.lit (.bool true))).value [] { args:=args,res:=some (.bool true),after:=args }=some (.bool (true == true)) from w_eq_bool (w_res rfl) w_lit) rfl
theorem attach_call {l:OpenLaw}{n:Nat}{q:TR}{loose:TF}{XP:(Str->Option Value)->Heap->Prop}{YP:World->Heap->Prop}{d:DefRec}
  (hn:l.most=some n) (hdf:d.params.defaults=[])
  (call:∀ (w:World) (s₀ s₁:Shared) (mg mb:TB) (fa:Addr) (o:Obj) (pm cd doc:Value) (a:Addr) (vs:TH) (ns:TU),
   Ground q loose [] XP w s₀ mg mb s₁.heap->YP w s₁.heap →
   s₁.heap.get? fa=some o->o.data=.func (docDef d.name d.params d.body d.scope pm cd doc)->s₁.heap.CodeRec cd d.name->mg d.name=some (.ref fa) →
   s₁.heap.get? a=some { cls:=.type "list",data:=.seq vs.toArray }->IntsAre vs ns->ns.length<=n->s₁.gens=#[] →
   codeAny (model l.prog w) callerA (.call (.ref fa) ⟨[.ref a],[]⟩) (λr s'=>r=.ok (.ret (.bool true))/\OldK s₁.heap s'.heap/\s'.os=s₁.os/\AllBare s'.gens) s₁) :
  WalkO q loose XP YP l.row.toRowW d [] (λf vs=>PySem.call f vs):=by
 intro w s₀ s₁ mg mb G Y fa o pm cd doc dV kV ho hd hcd hD hmg hg args vals as hpre hlay hrd hwl hlo;obtain rfl:dV=.none:=Dflts.none hD hdf;obtain rfl:kV=.none:=Dflts.noKw hD;obtain⟨a,vs,ns,rfl,rfl,hobj,hints,hlen⟩:=G7 hn hpre hwl;refine enter_call (zU (call w s₀ s₁ mg mb fa o pm cd doc a vs ns G Y ho (fd_plain hd) hcd hmg hobj hints hlen hg) λr s' hq=>?_);obtain⟨rfl,h2,h3,h4⟩:=hq;exact⟨.inl ⟨.bool true,.bool true,[],rfl,λ_=>rfl,.bool true,Gk l _,λ_=>⟨List.Pairwise.nil,λ_ hm=>(nomatch hm)⟩⟩,h2,h3,h4⟩
section
variable {prog:TR}{w:World}{A:Around}{E:TC}{s:Shared}{K:Frag}
def ledger (h:Heap)(L d:Addr):List (Addr × Obj):=(List.range h.objs.size).filterMap λa=>if a=L \/ a=d then none else (h.get? a).map λo=>(a,o)
end
end Att
namespace L2
open PySem PySem.Spec PyProof.Rows
theorem Pb:∀ {vs:TH} {ns:TU},IntsAre vs ns->Vals (ns.map V.int) vs
 | _,_,.nil=>.nil
 | _,_,.cons n t h=>.cons ⟨t,rfl⟩ (Pb h)
def Only (H:Hp):Prop:=∀ b,H b=none \/ ∃ o xs,H b=some (.frz o (.lst xs))
theorem Z07 {P:TR}{w:World}{K:TQ}{mg mb:TB}{CX:CXT}{k:Nat}{fa a:Addr}{fd:FuncData}{x:Str}{sp:Sp}{s₁:Shared}{vs:TH}{ns:TU}
  (KX:K.In s₁.heap) (hns:s₁.heap.Ns mainGlobals mg) (hb:s₁.heap.Ns builtinsNs mb) (hbb:∀ x:Str,x≠"__name__"->mb x=bootBuiltins x) (hlim:s₁.heap.NoLimit) (hg:s₁.gens=#[])
  (ha:s₁.heap.get? a=some { cls:=.type "list",data:=.seq vs.toArray }) (hi:IntsAre vs ns) (hl:ns.length<=sizeLine) {sr:Bool} (hr:Room k callerA sr)
  (F:∀ base:Heap,K.In base->base.Ns mainGlobals mg->FnOk P w K mg base CX k fa fd [x] sp sr) (hbind:∀ (s:Shared) (u:Value),BindsTo s fd ⟨[u],[]⟩ [(x,u)])
  (hsp:∀ H:Hp,Only H->SqL K H a (ns.map V.int)->sp [.ref a] H (λv _=>v=.bl true) λ_ _ _=>False)
  (hCX:∀ H e s',CX [] H s₁ (λ_ _ _=>False) e s'->False) :
  codeAny (model P w) callerA (.call (.ref fa) ⟨[.ref a],[]⟩) (λr s'=>r=.ok (.ret (.bool true))/\OldK s₁.heap s'.heap/\s'.os=s₁.os/\AllBare s'.gens) s₁:=by
 have rv:=Pb hi;have lenV:=hi.length;have core:∀ H:Hp,Only H->SqL K H a (ns.map V.int)->HOk P w H s₁.heap->(∀ b,H b≠none->b=a)->(H a≠none->K.lookup a=none) →
   codeAny (model P w) callerA (.call (.ref fa) ⟨[.ref a],[]⟩) (λr s'=>r=.ok (.ret (.bool true))/\OldK s₁.heap s'.heap/\s'.os=s₁.os/\AllBare s'.gens) s₁:=by
  intro H hO hS hok hA hK;have base_of:∀ {b:Addr} {o:Obj},s₁.heap.get? b=some o->H b=none->(hidT s₁.heap H).get? b=some o:=λe n=>Z0e e n;have noA:∀ {b:Addr} {o:Obj} {es:Array DictEntry} {ep:Nat},s₁.heap.get? b=some o->o.data=.dict es ep->H b=none:=λ{b o es ep} e d=>by
   cases q:H b with
   | none=>rfl
   | some u =>
    have e':b=a:=hA b (by rw[q];simp);subst e';rw[ha] at e;cases e;have d':Data.seq vs.toArray _=Data.dict es ep:=d
    cases d'
  have nsK:∀ {b:Addr} {m:TB},s₁.heap.Ns b m->(hidT s₁.heap H).Ns b m:=λ{b m} ⟨o,es,ep,e,d,r⟩=>⟨o,es,ep,base_of e (noA e d),d,r⟩;have hKb:K.In (hidT s₁.heap H):=λb o e=>base_of (KX b o e) (by
   cases q:H b with
   | none=>rfl
   | some u =>
    have e':b=a:=hA b (by rw[q];simp);subst e';rw[hK (by rw[q];simp)] at e;cases e)
  have hM:Mod K mg (hidT s₁.heap H):=⟨hKb,nsK hns,⟨mb,nsK hb,hbb⟩,let ⟨mc,h1,h2⟩:=hlim;⟨mc,nsK h1,h2⟩⟩;have e0:Env0 P w K mg (hidT s₁.heap H) callerA [] s₁ H:=⟨rfl,hM,λb o e=>Z2r e,Y0t (Fm _ _),trivial,λb hb=>absurd (show b∈([]:TJ) from hb) (by simp),hok,.of_eq hg,.inl rfl⟩;refine zU ((F _ hKb (nsK hns)).run callerA [] s₁ H ⟨[.ref a],[]⟩ [.ref a] [.ref a] _ _ hr e0 (hbind s₁ (.ref a)) (.cons rfl .nil) (hsp H hO hS)) λr s' h=>?_
  cases r with
  | error e=>exact (hCX H e s' h).elim
  | ok fl =>
   cases fl with
   | next=>exact False.elim h
   | brk=>exact False.elim h
   | cont=>exact False.elim h
   | ret u =>
    obtain⟨v,H',os,bare,un,hok',r',q⟩:=h;have q':v=.bl true:=q;subst q';obtain rfl:u=Value.bool true:=r';refine⟨rfl,OldK.of_keep λb o e=>?_,os,bare⟩
    cases q:H b with
    | none=>exact un.keep b o e q (by intro z;exact absurd (show b∈([]:TJ) from z) (by simp)) (by simp)
    | some u =>
     rcases hO b with z | ⟨ob,xs,z⟩
     ·rw[q] at z;cases z
     have z2:=un.frzs b ob _ z;obtain⟨e1,_⟩:=hok b _ z;obtain⟨e2,_⟩:=hok' b _ z2;rw[e] at e1;cases e1;exact e2
 cases hk:K.lookup a with
 | some o =>
  have e:=KX a o hk;rw[ha] at e
  cases e;refine core (λ_=>none) (λ_=>.inl rfl) (.inr ⟨_,vs.toArray,_,hk,rfl,rfl,rfl,by rw[YV,lenV];exact hl,by simpa using rv⟩) (λb u z=>by have z':(none:Option HO)=some u:=z;cases z') (λb z=>absurd rfl z) λz=>absurd rfl z
 | none =>
  refine core (λb=>if b=a then some (.frz { cls:=.type "list",data:=.seq vs.toArray } (.lst (ns.map V.int))) else none) (λb=>?_) (.inl (.inr ⟨{ cls:=.type "list",data:=.seq vs.toArray },YJ rfl⟩)) (λb u z=>?_) (λb z=>?_) λ_=>hk
  ·by_cases hb:b=a
   ·exact .inr ⟨_,_,YJ hb⟩
   exact .inl (YH hb)
  ·by_cases hb:b=a
   ·have z':=(YJ hb).symm.trans z
    cases z';subst hb;exact⟨ha,by rw[YC];exact hl,vs,_,rv,ha⟩
   have z':=(YH hb).symm.trans z
   cases z'
  by_cases hb:b=a
  ·exact hb
  exact absurd (YH hb) z
end L2
namespace L2
open PySem PySem.Spec PyProof.Rows
abbrev KOf {K:TQ}{h:Heap}(_:K.In h):W.Frag:=K
theorem Z12 {l:W.OpenLaw}{n k:Nat}{q:TR}{loose:TF}{XP:(Str->Option Value)->Heap->Prop}{YP:World->Heap->Prop}{d:DefRec}{K:Params->W.Frag}{CX:World->CXT}{sp:World->Sp}{x:Str}
  (hn:l.most=some n) (hn2:n<=sizeLine) (hdf:d.params.defaults=[]) {sr:Bool} (hr:Room k callerA sr)
  (hY:∀ (w:World) (h:Heap),YP w h->(K w.params).In h)
  (F:∀ (w:World) (mg:TB) (fa:Addr) (h:Heap),(K w.params).In h->h.Ns mainGlobals mg->mg d.name=some (.ref fa) →
   ∃ fd:FuncData,(∀ (s:Shared) (u:Value),BindsTo s fd ⟨[u],[]⟩ [(x,u)]) ∧
    ∀ base:Heap,(K w.params).In base->base.Ns mainGlobals mg->FnOk l.prog w (K w.params) mg base (CX w) k fa fd [x] (sp w) sr)
  (hsp:∀ (w:World) (H:Hp) (a:Addr) (ns:TU),ns.length<=n->Only H->SqL (K w.params) H a (ns.map V.int)->sp w [.ref a] H (λv _=>v=.bl true) λ_ _ _=>False)
  (hCX:∀ (w:World) (H:Hp) (s:Shared) (e:Value) (s':Shared),CX w [] H s (λ_ _ _=>False) e s'->False) :
  W.WalkO q loose XP YP l.row.toRowW d [] (λf vs=>PySem.call f vs):=by
 refine Att.attach_call hn hdf λw s₀ s₁ mg mb fa o pm cd doc a vs ns G Y ho hd hcd hmg hobj hints hlen hg=>?_;have KX:=hY w _ Y;obtain⟨fd,hb,hF⟩:=F w mg fa _ KX G.T.g hmg;exact Z07 KX G.T.g G.T.b G.T.builtins G.T.nolimit hg hobj hints (YX hlen hn2) hr hF hb (λH hO hS=>hsp w H a ns hlen hO hS) λH e s'=>hCX w H s₁ e s'
theorem D5 {l:W.OpenLaw}{n k:Nat}{q:TR}{loose:TF}{XP:(Str->Option Value)->Heap->Prop}{YP:World->Heap->Prop}{d:DefRec}{K:Params->W.Frag}{CX:CXT}{sp:W.Frag->Sp}{x:Str}
  (hn:l.most=some n) (hn2:n<=sizeLine) (hdf:d.params.defaults=[]) {sr:Bool} (hr:Room k callerA sr)
  (hY:∀ (w:World) (h:Heap),YP w h->(K w.params).In h)
  (F:∀ (w:World) (mg:TB) (fa:Addr) (h:Heap),(K w.params).In h->h.Ns mainGlobals mg->mg d.name=some (.ref fa) →
   ∃ fd:FuncData,(∀ (s:Shared) (u:Value),BindsTo s fd ⟨[u],[]⟩ [(x,u)]) ∧
    ∀ base:Heap,(K w.params).In base->base.Ns mainGlobals mg->FnOk l.prog w (K w.params) mg base CX k fa fd [x] (sp (K w.params)) sr)
  (hsp:∀ (K:TQ) (H:Hp) (a:Addr) (ns:TU),ns.length<=n->Only H->SqL K H a (ns.map V.int)->sp K [.ref a] H (λv _=>v=.bl true) λ_ _ _=>False)
  (hCX:∀ (H:Hp) (s:Shared) (e:Value) (s':Shared),CX [] H s (λ_ _ _=>False) e s'->False) :
  W.WalkO q loose XP YP l.row.toRowW d [] (λf vs=>PySem.call f vs) :=
 Z12 (K:=K) (CX:=λ_=>CX) (sp:=λw=>sp (K w.params)) hn hn2 hdf hr hY F (λw H a ns h1 h2 h3=>hsp (K w.params) H a ns h1 h2 h3) λ_ H s e s'=>hCX H s e s'
end L2
namespace L2
open PySem PySem.Spec PyProof.Rows
def inClass (s:Stmt)(j:Nat):Stmt:=match s with
 | .ClassDef _ _ _ body _ _ _ _ _ _ _=>body.getD j (.Pass ⟨0,0,0,0⟩)
 | _=>.Pass ⟨0,0,0,0⟩
def defArgs (s:Stmt):Arguments:=match s with
 | .FunctionDef _ a _ _ _ _ _ _ _ _=>a
 | _=>{ posonlyargs:=[],args:=[],vararg:=none,kwonlyargs:=[],kw_defaults:=[],kwarg:=none,defaults:=[] }
def defBody (s:Stmt):List Stmt:=match s with
 | .FunctionDef _ _ b _ _ _ _ _ _ _=>b
 | _=>[]
def defScope (s:Stmt):Scope:=match s with
 | .FunctionDef _ _ _ _ _ _ sc _ _ _=>sc
 | _=>{ kind:=.function,names:=[],isGenerator:=false,isCoroutine:=false }
abbrev CX0:CXT:=λ_ _ _ _ _ _=>False
abbrev E0:XK:=λ_ _ _=>False
theorem Ja:Passes CX0 X E0:=λ_ _ _ _ _ _ _ h=>h.elim
structure Fun (K:TQ)(x qual:Str)(st:Stmt)(f:Addr)(fd:FuncData):Prop where
 ex:∃ (oc:Value) (od:TN) (kV doc pm:Value) (an:TN) (cdv ct:Value) (osl:Array (Option Value)),
  fd=W.fnOf x qual (defArgs st) (defBody st) (defScope st) .none kV doc pm an cdv ct/\K.lookup f=some ⟨oc,od,.func fd,osl⟩/\W.codeIn K cdv qual=true
 kp:W.keepIn K (.ref f)=true
section
variable {P:TR}{w:World}{K:TQ}{mg:TB}{base:Heap}
theorem Fun.ok {x:Str}{fd:FuncData}{N:TF}{k:Nat}(F:Fun K x qual st f fd)(S:FnScope N ps (defScope st))(len:∀ vs H Q E,sp vs H Q E->vs.length=ps.length)
  (hbody:∀ (cdv:Value) (A:Around) (outer:TM) (s:Shared) (H:Hp) (vs:TY) (Q:VK) (E:XK),Room k (A.deeper (envOfC qual (defScope st) s.heap.objs.size f cdv)) sr->sp vs H Q E →
   ∃ t,PSs (cxOf CX0 P w K mg base N qual (defScope st) f cdv A outer s H E).nox (defBody st) t/\t { nx:=λ_ H'=>Q .non H',rt:=Q } (start N vs) H):FnOk P w K mg base CX0 (k+1) f fd ps sp sr:=by
 obtain⟨oc,od,kV,doc,pm,an,cdv,ct,osl,rfl,lk,hcd⟩:=F.ex;refine Z3j lk hcd S len λA outer s H vs Q E hr hsp=>?_;obtain⟨t,h,q⟩:=hbody cdv A outer s H vs Q E hr hsp;exact⟨t,h.nox,q⟩
theorem Fun.binds {x:Str}{fd:FuncData}(F:Fun K x qual st f fd)
  (h:∀ (kV doc pm:Value) (an:TN) (cdv ct:Value) (us:TH),us.length=ps.length->bindArgs (W.fnOf x qual (defArgs st) (defBody st) (defScope st) .none kV doc pm an cdv ct) ⟨us,[]⟩=pure (ps.zip us)):Binds K fd ps []:=by
 obtain⟨oc,od,kV,doc,pm,an,cdv,ct,osl,rfl,lk,hcd⟩:=F.ex;exact .all (h kV doc pm an cdv ct)
theorem Sg {x:Str}{osl:Array (Option Value)}{kV doc cdv:Value}(l:K.lookup f=some ⟨oc,od,.func (W.fnOf x qual (defArgs st) (defBody st) (defScope st) .none kV doc pm an cdv ct),osl⟩)
  (c:W.codeIn K cdv qual=true) (k:W.keepIn K (.ref f)=true):Fun K x qual st f (W.fnOf x qual (defArgs st) (defBody st) (defScope st) .none kV doc pm an cdv ct):=⟨⟨oc,od,kV,doc,pm,an,cdv,ct,osl,rfl,l,c⟩,k⟩
end
theorem Z0d {k:Nat}(hr:Room k A sr):A.units+1<cLine:=JL (Nat.add_le_add_left (by decide:1<=64) _) hr.units
theorem Xo {n:Nat}(h:n<=1000):n<sizeLine:=JL h (by decide)
section
variable {X:Cx}
theorem pv (i:Nat){x:Str}{pos:Pos}(hN:X.N[i]?=some x:=by rfl)(hv:Vis X.env.scope x:=by first | exact Or.inl rfl | exact Or.inr (Or.inl rfl) | exact Or.inr (Or.inr rfl))(hd:(x == ("__debug__":Str))=false:=by decide)
  (hcd:(x == ("__classdict__":Str))=false:=by decide):PE X (.Name x pos) (tVar i):=Z4a hN hv hd hcd
end
theorem X9 {A B:Prop}(h:B):if false=true then A else B:=by
 rw[YH YO];exact h
theorem Vf {A B:Prop}(h:A):if true=true then A else B:=by
 rw[YJ rfl];exact h
theorem X6 {c A B:Prop}[Decidable c](h1:c->A)(h2:¬ c->B):if c then A else B:=by
 by_cases h:c
 ·rw[YJ h];exact h1 h
 rw[YH h];exact h2 h
theorem Pm {c A B:Prop}[Decidable c](hc:c)(h:B):if (!decide c)=true then A else B:=by
 rw[XQ hc];exact X9 h
def Same (H H':Hp):Prop:=∀ b o,H b=some o->H' b=some o
theorem Same.refl (H:Hp):Same H H:=λ_ _ h=>h
theorem Same.trans (a:Same H H1)(b:Same H1 H2):Same H H2:=λc o h=>b c o (a c o h)
end L2
namespace Sb
def Bd (n:Nat)(x:Int):Prop:=x.natAbs<2 ^ n
theorem Bd.mono {m n:Nat}{x:Int}(h:Bd m x)(k:m<=n):Bd n x:=YU h (GF (by decide) k)
theorem Bd.mul {m n:Nat}{x y:Int}(h:Bd m x)(k:Bd n y):Bd (m+n) (x*y):=by
 unfold Bd at *
 rw[JY,zP];exact Nat.mul_lt_mul'' h k
theorem Bd.add {n:Nat}{x y:Int}(h:Bd n x)(k:Bd n y):Bd (n+1) (x+y):=by
 unfold Bd at *
 rw[Y0w];omega
theorem Bd.sub {n:Nat}{x y:Int}(h:Bd n x)(k:Bd n y):Bd (n+1) (x - y):=by
 unfold Bd at *
 rw[Y0w];omega
theorem Bd.neg {n:Nat}{x:Int}(h:Bd n x):Bd n (-x):=by
 unfold Bd at *
 omega
theorem Bd.of_le {n:Nat}{x y:Int}(h:x.natAbs<=y.natAbs)(k:Bd n y):Bd n x:=JL h k
theorem Bd.of_le' {n:Nat}{x y:Int}(k:Bd n y)(h:x.natAbs<=y.natAbs):Bd n x:=JL h k
theorem Bd.log {n:Nat}{x:Int}(h:Bd n x)(k:n<9000):x.natAbs.log2<9000:=by
 rcases Y0S x.natAbs with h0 | hp
 ·rw[h0];decide
 have:=(Y0D (qZ hp)).mpr h;omega
def gI (p q:Int):Int:=(Int.gcd p q:Int)
def sg (p q:Int):Int:=if q<0 then -(gI p q) else gI p q
def nT (p q:Int):Int:=p.fdiv (sg p q)
def nB (p q:Int):Int:=q.fdiv (sg p q)
theorem Ks {p q:Int}(h:q≠0):0<gI p q:=by
 have:=Int.gcd_pos_of_ne_zero_right p h;unfold gI;omega
theorem Pe {p q:Int}(h:q≠0):sg p q≠0:=by
 have:=Ks (p:=p) h;unfold sg;split <;> omega
theorem Lw (p q:Int):sg p q ∣ p:=by
 unfold sg gI;split
 ·exact Int.neg_dvd.mpr (Y0p ..)
 exact Y0p ..
theorem Lx (p q:Int):sg p q ∣ q:=by
 unfold sg gI;split
 ·exact Int.neg_dvd.mpr (zX ..)
 exact zX ..
theorem Uw {a:Int}(h:b ∣ a):a.fdiv b*b=a:=by
 rw[Int.fdiv_eq_ediv_of_dvd h];exact Int.ediv_mul_cancel h
theorem Kg (p q:Int):nT p q*sg p q=p:=Uw (Lw p q)
theorem Tw (p q:Int):nB p q*sg p q=q:=Uw (Lx p q)
theorem Nk {p q:Int}(h:q≠0):0<nB p q:=by
 have e:=Tw p q;have g:=Ks (p:=p) h;by_cases hq:q<0
 ·have s:sg p q=-(gI p q):=by unfold sg;rw[YJ hq]
  rw[s] at e;rcases Int.lt_trichotomy 0 (nB p q) with k | k | k
  ·exact k
  ·rw[<-k] at e;simp at e;omega
  have:=Int.mul_pos_of_neg_of_neg k (show -(gI p q)<0 by omega);omega
 have s:sg p q=gI p q:=by unfold sg;rw[YH hq]
 rw[s] at e;rcases Int.lt_trichotomy 0 (nB p q) with k | k | k
 ·exact k
 ·rw[<-k] at e;simp at e;omega
 have:=Int.mul_neg_of_neg_of_pos k g;omega
theorem Xc (p q:Int):nT p q*q=p*nB p q:=by
 have h1:=Kg p q;have h2:=Tw p q
 calc nT p q*q=nT p q*(nB p q*sg p q):=by rw[h2]
  _=(nT p q*sg p q)*nB p q:=by rw[XL (nB p q),JW]
  _=p*nB p q:=by rw[h1]
theorem Bz {p q:Int}(h:q≠0):Int.gcd (nT p q) (nB p q)=1:=by
 have g:=Ks (p:=p) h;have e1:=Kg p q;have e2:=Tw p q;have e:Int.gcd p q=Int.gcd (nT p q) (nB p q)*(sg p q).natAbs:=by
  have z:=Int.gcd_mul_right (nT p q) (sg p q) (nB p q);rw[e1,e2] at z;exact z
 have s:(sg p q).natAbs=Int.gcd p q:=by
  unfold sg gI;split <;> simp
 rw[s] at e;have gp:0<Int.gcd p q:=by unfold gI at g;omega
 have e':1*Int.gcd p q=Int.gcd (nT p q) (nB p q)*Int.gcd p q:=by omega
 exact (Y05 gp e').symm
theorem Dm {p q:Int}(h:q≠0):1<=(sg p q).natAbs:=by
 have:=Pe (p:=p) h;omega
theorem Sa {a c:Int}(h:a*b=c)(hb:1<=b.natAbs):a.natAbs<=c.natAbs:=by
 rw[<-h,JY];exact zQ _ hb
theorem Z5r {p q:Int}(h:q≠0):(nT p q).natAbs<=p.natAbs:=Sa (Kg p q) (Dm h)
theorem Z5s {p q:Int}(h:q≠0):(nB p q).natAbs<=q.natAbs:=Sa (Tw p q) (Dm h)
theorem Z5c {p q:Int}(h:q≠0):(sg p q).natAbs<=q.natAbs:=by
 have e:=Tw p q;rw[XL] at e;have:=Nk (p:=p) h;exact Sa e (by omega)
theorem gcd_step {a:Int}:Int.gcd b (a % b)=Int.gcd a b:=by
 rw[zY b,Int.emod_def];rw[Y0a]
theorem Fn (a b:Int):Int.gcd b (a.fmod b)=Int.gcd a b:=by
 rw[zY b,Int.fmod_def];rw[Y0a]
theorem Z0j (a:Int){b:Int}(h:b≠0):(a.fmod b).natAbs<b.natAbs:=by
 rcases Int.lt_or_gt_of_ne h with k | k
 ·have h0:=Int.neg_fmod_neg a b;have h1:=Y0x (-a) (show 0 < -b by omega);have h2:=Y0T (-a) (show 0 < -b by omega);omega
 have h1:=Y0x a k;have h2:=Y0T a k;omega
theorem Z52 (a b:Int)(ha:0<=a)(h:b=0):a=(Int.gcd a b:Int):=by
 subst h;simp;omega
end Sb
namespace Sb
open PySem PySem.Spec PyProof.Rows L2
theorem Bd.bits {n:Nat}{x:Int}(h:Bd n x):Builtin.Int.intBits x<=n:=by
 unfold Builtin.Int.intBits;split
 ·exact JH _
 rename_i h0
 have hn:x.natAbs≠0:=by
  intro z;have:x=0:=by omega
  exact h0 (by simp[this])
 have:=(Y0D hn).mpr h;omega
theorem Bd.mulOk {m n:Nat}{x y:Int}(h:Bd m x)(k:Bd n y)(hm:m<=1048576)(hn:n<=1048576):IntMulOk x y :=
 IntMulOk.of_bits (YX h.bits (YX hm (by decide))) (YX k.bits (YX hn (by decide)))
theorem Fc {x y:Int}(h1:-(2 ^ 64)<x)(h2:x<2 ^ 64):IntMulOk x y:=IntMulOk.of_left (intBits_le_64 h1 h2)
theorem F9 {x y:Int}(h1:-(2 ^ 64)<y)(h2:y<2 ^ 64):IntMulOk x y:=IntMulOk.of_right (intBits_le_64 h1 h2)
section
variable {X:Cx}
theorem Y1:OpR X (binaryOp .Mult) (rI IntMulOk λi j=>.int (i*j)):=opI λ_ _ _ _ _ _ _ hc q=>mul_int q hc
def DivOk (_ j:Int):Prop:=j≠0/\j.natAbs.log2<9000
theorem Wj:OpR X (binaryOp .FloorDiv) (rI DivOk λi j=>.int (i.fdiv j)):=opI λ_ _ _ _ _ _ _ hc q=>floordiv_int hc.1 q (.inl (PyProof.noPylong_of_log2 hc.2))
inductive rP0 (K:TQ) (x:V) (y:V) (H:Hp) (Q:VK):Prop
 | i (p u v:_) (_:x=.ref p) (_:y=.int 0) (_:SqT K H p [u,v]) (_:Q u H)
inductive rP1 (K:TQ) (x:V) (y:V) (H:Hp) (Q:VK):Prop
 | i (p u v:_) (_:x=.ref p) (_:y=.int 1) (_:SqT K H p [u,v]) (_:Q v H)
inductive rL0 (K:TQ) (x:V) (y:V) (H:Hp) (Q:VK):Prop
 | i (p u v:_) (_:x=.ref p) (_:y=.int 0) (_:SqL K H p [u,v]) (_:Q u H)
inductive rL1 (K:TQ) (x:V) (y:V) (H:Hp) (Q:VK):Prop
 | i (p u v:_) (_:x=.ref p) (_:y=.int 1) (_:SqL K H p [u,v]) (_:Q v H)
theorem at0 {α:Type}(x:α)(xs:List α):atI (x::xs) 0=some x:=Zg (j:=0) rfl
theorem at1 {α:Type}(x y:α)(xs:List α):atI (x::y::xs) 1=some y:=Zg (j:=1) rfl
theorem Xt:IxR X (rP0 X.K):=λvl sl pins s σ H x y v u Q I rx ry ⟨p,a,b,e1,e2,h,q⟩ hs=>Yd vl sl pins s σ H x y v u Q I rx ry ⟨p,_,_,_,e1,e2,h,at0 _ _,q⟩ hs
theorem Xe:IxR X (rP1 X.K):=λvl sl pins s σ H x y v u Q I rx ry ⟨p,a,b,e1,e2,h,q⟩ hs=>Yd vl sl pins s σ H x y v u Q I rx ry ⟨p,_,_,_,e1,e2,h,at1 _ _ _,q⟩ hs
theorem Jh:IxR X (rL0 X.K):=λvl sl pins s σ H x y v u Q I rx ry ⟨p,a,b,e1,e2,h,q⟩ hs=>Zv vl sl pins s σ H x y v u Q I rx ry ⟨p,_,_,_,e1,e2,h,at0 _ _,q⟩ hs
theorem Jg:IxR X (rL1 X.K):=λvl sl pins s σ H x y v u Q I rx ry ⟨p,a,b,e1,e2,h,q⟩ hs=>Zv vl sl pins s σ H x y v u Q I rx ry ⟨p,_,_,_,e1,e2,h,at1 _ _ _,q⟩ hs
theorem Td {x:Str}{T:String}{pos:Pos}(hm:X.mg x=none)(hv:bootBuiltins x=some (.type T))(hg:Gl X x:=by rfl)(hn:x≠"__name__":=by decide)(hd:(x == ("__debug__":Str))=false:=by decide):PE X (.Name x pos) (tC (.ty T)) :=
 Z1z hg hm hv rfl hn hd
theorem W6:CallR X (.builtin "isinstance") (λxs H Q=>∃ x T t b,xs=[x,.ty T]/\TyOf X.K H x t/\W.kitOne X.K t (.type T)=some b/\Q (.bl b) H):=by
 intro pins s σ H xs us Q I r h;obtain⟨x,T,t,b,rfl,ty,k,q⟩:=h;obtain⟨u,w',rfl,rx,ry⟩:=M2 r
 cases (show w'=Value.type T from ry);exact Fj I rx ty k λtk=>⟨.bl b,H,I.tok tk,rfl,q⟩
theorem Vy:CallR X (.builtin "isinstance") (λxs H Q=>∃ a ys T b,xs=[.ref a,.ty T]/\SqT X.K H a ys/\W.kitOne X.K (.type "tuple") (.type T)=some b/\Q (.bl b) H):=by
 intro pins s σ H xs us Q I r h;obtain⟨a,ys,T,b,rfl,hs,k,q⟩:=h;obtain⟨u,w',rfl,rx,ry⟩:=M2 r
 cases (show w'=Value.type T from ry)
 cases (show u=Value.ref a from rx);obtain⟨its,_,tup,_⟩:=I.tuple hs;obtain⟨o,h1,h2,_⟩:=tup;exact qU W.kitx_tuple I.kIn ⟨o,h1,h2⟩ k (λz=>nomatch z) λtk=>⟨.bl b,H,I.tok tk,rfl,q⟩
end
theorem Ve {T:String}:W.kitOne K (.type T) (.type T)=some true:=by
 unfold W.kitOne;rw[YJ (by simp)]
theorem Tk:W.kitOne K (.type "int") (.type "bool")=some false:=by
 show (if (Value.type "int" == Value.type "bool")=true then some true else (if W.kitMeta "bool"=true then (fastBuiltinMro "int").map (·.contains (Value.type "bool")) else none))=some false
 decide +kernel
def Has (P:TR)(w:World)(K:TQ)(mg:TB)(base:Heap)(k:Nat)(x:Str)(ps:TF)(sp:Sp)(sr:Bool:=false):Prop :=
 ∃ (f:Addr) (fd:FuncData),FnOk P w K mg base CX0 k f fd ps sp sr/\mg x=some (.ref f)/\W.keepIn K (.ref f)=true/\Binds K fd ps []
def Def (K:TQ)(mg:TB)(x:Str)(st:Stmt)(ps:TF):Prop :=
 ∃ (f:Addr) (fd:FuncData),Fun K x x st f fd/\mg x=some (.ref f)/\Binds K fd ps []
theorem Def.has {P:TR}{base:Heap}{k:Nat}{x:Str}(D:Def K mg x st ps)
  (h:∀ (f:Addr) (fd:FuncData),Fun K x x st f fd->FnOk P w K mg base CX0 k f fd ps sp sr):Has P w K mg base k x ps sp sr:=by
 obtain⟨f,fd,F,hm,b⟩:=D;exact⟨f,fd,h f fd F,hm,F.kp,b⟩
section
variable {X:Cx}{k:Nat}{x:Str}{ps:TF}{sp:Sp}{e:Expr}{es:TK}{t:TA}{p pos:Pos}
theorem Cp (h:Has X.prog X.w X.K X.mg X.base k x ps sp)(hr:Room k X.A sr)(hg:Gl X x)(ha:PA X (e::es) t)(hdb:(x == ("__debug__":Str))=false:=by decide)
  (he:starEach (e::es) X.env=(false,eval e X.env)::starEach es X.env:=by rfl) (hpl:(backTo pos (starEach es X.env)).any (·.1)=false:=by rfl) (hc:X.calm=true:=by rfl):PE X (.Call (.Name x p) (e::es) [] pos) (tCall sp [] E0 t):=by
 obtain⟨f,fd,F,hm,hk,hb⟩:=h;exact J9 F hr.loose hg hm hk hb .nil Ja ha hdb he hpl hc
theorem Tc (h:Has X.prog X.w X.K X.mg X.base k x ps sp true)(hr:Room k X.A true)(hg:Gl X x)(ha:PA X (e::es) t)(hdb:(x == ("__debug__":Str))=false:=by decide)
  (he:starEach (e::es) X.env=(false,eval e X.env)::starEach es X.env:=by rfl) (hpl:(backTo pos (starEach es X.env)).any (·.1)=false:=by rfl) (hc:X.calm=true:=by rfl):PE X (.Call (.Name x p) (e::es) [] pos) (tCall sp [] E0 t):=by
 obtain⟨f,fd,F,hm,hk,hb⟩:=h;exact J9 F hr hg hm hk hb .nil Ja ha hdb he hpl hc
theorem Zf (h:Has X.prog X.w X.K X.mg X.base k x ps sp)(hr:Room j X.A sr)(ha:PA X (e::es) t)(hg:Gl X x:=by rfl)(hj:k<=j:=by decide)(hdb:(x == ("__debug__":Str))=false:=by decide)
  (he:starEach (e::es) X.env=(false,eval e X.env)::starEach es X.env:=by rfl) (hpl:(backTo pos (starEach es X.env)).any (·.1)=false:=by rfl) (hc:X.calm=true:=by rfl):PE X (.Call (.Name x p) (e::es) [] pos) (tCall sp [] E0 t):=Cp h (hr.mono hj) hg ha hdb he hpl hc
end
section
variable {X:Cx}{st:Stmt}{t:TS}{e:Expr}{te:TE}{tt:TT}
inductive tJ (t:TS) (D:Ends) (σ:L2.St) (H:Hp):Prop
 | i (J:L2.St->Hp->Prop) (_:t { D with nx:=J } σ H) (_:∀ σ' H',J σ' H'->D.nx σ' H')
theorem Yk (h:PS X st t):PS X st (tJ t):=by
 intro pins s σ H D I ⟨J,a,b⟩;refine thn (h pins s σ H _ I a) λf s' q=>?_
 cases f with
 | next=>obtain⟨σ',H',I',q⟩:=q;exact⟨σ',H',I',b _ _ q⟩
 | brk=>exact q
 | cont=>exact q
 | ret v=>exact q
end
def SameX (a:Addr)(H H':Hp):Prop:=∀ b o,H b=some o->b≠a->H' b=some o
theorem SameX.refl (a:Addr)(H:Hp):SameX a H H:=λ_ _ h _=>h
theorem SameX.trans {a:Addr}(x:SameX a H H1)(y:SameX a H1 H2):SameX a H H2:=λb o h n=>y b o (x b o h n) n
theorem SameX.of {a:Addr}(x:Same H H'):SameX a H H':=λb o h _=>x b o h
theorem SameX.upd (a:Addr)(H:Hp)(o:HO):SameX a H (upd H a o):=λb u h n=>by rw[Ze n];exact h
theorem Same.new {a:Addr}{o:HO}(h:H a=none):Same H (upd H a o):=λb u e=>by rw[Ze (Zd e h)];exact e
theorem Zt {a:Addr}(e:Same H H')(h:SqT K H a xs):SqT K H' a xs:=by
 rcases h with (h | ⟨o,h⟩) | h
 ·exact .inl (.inl (e _ _ h))
 ·exact .inl (.inr ⟨o,e _ _ h⟩)
 exact .inr h
def BagAt (H:Hp)(a:Addr)(n:Nat):Prop:=∃ x y:Int,H a=some (.lst [.int x,.int y])/\0<=y/\y<=n
theorem BagAt.mono {a:Addr}{m n:Nat}(h:BagAt H a m)(k:m<=n):BagAt H a n:=by
 obtain⟨x,y,e,h1,h2⟩:=h;exact⟨x,y,e,h1,by omega⟩
theorem BagAt.same {a:Addr}{n:Nat}(h:BagAt H a n)(x:Same H H'):BagAt H' a n:=by
 obtain⟨p,q,e,r⟩:=h;exact⟨p,q,x _ _ e,r⟩
theorem BagAt.upd {H:Hp}{a l:Addr}{o:HO}{n:Nat}(h:BagAt H a n)(k:a≠l):BagAt (L2.upd H l o) a n:=by
 obtain⟨p,q,e,r⟩:=h;exact⟨p,q,by rw[Ze k];exact e,r⟩
theorem BagAt.lst {H:Hp}{a:Addr}{n:Nat}(h:BagAt H a n):∃ ys,H a=some (.lst ys):=by
 obtain⟨x,y,e,_⟩:=h;exact⟨_,e⟩
theorem Zn {x:Str}{sl:Array (Option Value)}{kV:Value}(X:K.In h)(G:h.Ns mainGlobals mg)
  (a:W.nsIn K mainGlobals x=some (some (.ref f))) (l:K.lookup f=some ⟨oc,od,.func (W.fnOf x x (defArgs st) (defBody st) (defScope st) .none kV dc pm an cd ct),sl⟩) (c:W.codeIn K cd x=true) (k:W.keepIn K (.ref f)=true)
  (b:∀ (kV doc pm:Value) (an:TN) (cdv ct:Value) (us:TH),us.length=ps.length->bindArgs (W.fnOf x x (defArgs st) (defBody st) (defScope st) .none kV doc pm an cdv ct) ⟨us,[]⟩=pure (ps.zip us)):Def K mg x st ps :=
 ⟨f,_,Sg l c k,zu X G a,(Sg l c k).binds b⟩
theorem Z4u {P:TR}{x:Str}{fa:Addr}{sl:Array (Option Value)}{kV:Value}{n:Nat}(X:K.In h)(G:h.Ns mainGlobals mg)(hfa:mg "law"=some (.ref fa))
  (a:W.nsIn K mainGlobals "law"=some (some (.ref f))) (l:K.lookup f=some ⟨oc,od,.func (W.fnOf "law" "law" (defArgs st) (defBody st) (defScope st) .none kV dc pm an cd ct),sl⟩) (c:W.codeIn K cd "law"=true) (k:W.keepIn K (.ref f)=true)
  (b:∀ (s:Shared) (v:Value),BindsTo s (W.fnOf "law" "law" (defArgs st) (defBody st) (defScope st) .none kV dc pm an cd ct) ⟨[v],[]⟩ [(x,v)])
  (ok:∀ (fd:FuncData) (base:Heap),Fun K "law" "law" st fa fd->FnOk P w K mg base CX0 n fa fd [x] sp sr) :
  ∃ fd:FuncData,(∀ (s:Shared) (v:Value),BindsTo s fd ⟨[v],[]⟩ [(x,v)])/\∀ base:Heap,K.In base->base.Ns mainGlobals mg->FnOk P w K mg base CX0 n fa fd [x] sp sr:=by
 have e:=hfa.symm.trans (zu X G a)
 cases e;exact⟨_,b,λbase _ _=>ok _ base (Sg l c k)⟩
theorem Ux (env:Env):∀ (ns:List (Str × NameKind)) (cs:List (Str × Addr)),(∀ y∈ns,y.2=.free->∃ c,env.cells.lookup y.1=some c)->(∀ y c,cs.lookup y=some c->env.cells.lookup y=some c) →
  ∃ cl,(forIn ns cs (λ(x:Str × NameKind) (r:List (Str × Addr))=>(if (x.2 == .free)=true then do let a <-cellOf env x.1;pure (ForInStep.yield ((x.1,a)::r)) else pure (ForInStep.yield r):Sem (ForInStep (List (Str × Addr))))))=pure cl ∧
   (∀ y c,cl.lookup y=some c->env.cells.lookup y=some c)/\(∀ y c,cs.lookup y=some c->∃ c',cl.lookup y=some c')/\∀ y∈ns,y.2=.free->∃ c,cl.lookup y.1=some c
 | [],cs,_,hs=>⟨cs,by simp,hs,λy c e=>⟨c,e⟩,λy hy=>nomatch hy⟩
 | (n,k)::r,cs,hf,hs=>by
  have hr:∀ y∈r,y.2=.free->∃ c,env.cells.lookup y.1=some c:=λy hy=>hf y (YY _ hy);by_cases hk:k=.free
  ·subst hk;obtain⟨c,hc⟩:=hf (n,.free) XI rfl;have hc':env.cells.lookup n=some c:=hc;have hs':∀ y d,((n,c)::cs).lookup y=some d->env.cells.lookup y=some d:=λy d e=>by
    by_cases hy:y=n
    ·subst hy;simp only [JE,GY] at e
     cases e;exact hc'
    have hb:(y == n)=false:=JJ.mpr hy;simp only [JE,hb] at e;exact hs y d e
   obtain⟨cl,h1,h2,h3,h4⟩:=Ux env r ((n,c)::cs) hr hs';have up:∃ c',cl.lookup n=some c':=h3 n c (by simp[JE]);refine⟨cl,?_,h2,λy d e=>?_,λy hy hyf=>?_⟩
   ·have e:cellOf env n=pure c:=by unfold cellOf;rw[hc']
    simp only [zG,GY,jn,e];exact h1
   ·by_cases hy:y=n
    ·subst hy;exact up
    have hb:(y == n)=false:=JJ.mpr hy;exact h3 y d (by simp only [JE,hb];exact e)
   rcases YW.mp hy with z | z
   ·subst z;exact up
   exact h4 y z hyf
  obtain⟨cl,h1,h2,h3,h4⟩:=Ux env r cs hr hs;refine⟨cl,?_,h2,h3,λy hy hyf=>?_⟩
  ·have hb:(k == NameKind.free)=false:=JJ.mpr hk;simp only [zG,hb,qh,Y02];exact h1
  rcases YW.mp hy with z | z
  ·subst z;exact absurd hyf hk
  exact h4 y z hyf
theorem V7 (hf:∀ y∈scope.names,y.2=.free->∃ c,env.cells.lookup y.1=some c) :
  ∃ cl,closureFor scope env=pure cl/\(∀ y c,cl.lookup y=some c->env.cells.lookup y=some c)/\∀ y∈scope.names,y.2=.free->∃ c,cl.lookup y.1=some c:=by
 obtain⟨cl,h1,h2,_,h4⟩:=Ux env scope.names [] hf (λy c e=>by simp at e);refine⟨cl,?_,h2,h4⟩;have e:closureFor scope env=((forIn scope.names ([]:List (Str × Addr)) (λ(x:Str × NameKind) (r:List (Str × Addr))=>(if (x.2 == .free)=true then do let a <-cellOf env x.1;pure (ForInStep.yield ((x.1,a)::r)) else pure (ForInStep.yield r):Sem (ForInStep (List (Str × Addr)))))) >>= λr=>pure r):=by
  unfold closureFor
  congr 1
 rw[e,h1];rfl
theorem Qc {l:List (Str × NameKind)}{x:Str}{q:NameKind}(h:l.lookup x=some q):(x,q)∈l:=by
 obtain⟨a,b,e,_⟩:=List.lookup_eq_some_iff.mp h;rw[e];simp
theorem Vp {env:Env}(hf:env.scope.kind=.function):∀ {names:List (Str × NameKind)} {x:Str},names.lookup x=some .free->env.kindOf x=some .cell →
  (names.map λ(n,k)=>if (k == .free && env.scope.kind == .function && env.kindOf n == some .cell) then (n,NameKind.cell) else (n,k)).lookup x=some .cell
 | [],_,h,_=>by simp at h
 | (n,k)::r,x,h,hx=>by
  by_cases e:x=n
  ·subst e;simp only [JE,GY] at h
   cases h;simp[JE,hf,hx]
  have hb:(x == n)=false:=JJ.mpr e;simp only [JE,hb] at h;have ih:=Vp hf h hx;show List.lookup x ((if (k == .free && env.scope.kind == .function && env.kindOf n == some .cell)=true then (n,NameKind.cell) else (n,k))::_)=_;by_cases c:(k == .free && env.scope.kind == .function && env.kindOf n == some .cell)=true
  ·rw[YJ c];simp only [JE,hb];exact ih
  rw[YH c];simp only [JE,hb];exact ih
theorem Xq {env:Env}:∀ {names:List (Str × NameKind)} {x:Str} {q:NameKind},(q=.cell \/ q=.free) →
  (names.map λ(n,k)=>if (k == .free && env.scope.kind == .function && env.kindOf n == some .cell) then (n,NameKind.cell) else (n,k)).lookup x=some q →
  ∃ y∈names,y.1=x/\(y.2=.free \/ y.2=.cell)
 | [],_,_,_,h=>by simp at h
 | (n,k)::r,x,q,hq,h=>by
  by_cases e:x=n
  ·subst e;refine⟨(x,k),XI,rfl,?_⟩;replace h:List.lookup x ((if (k == .free && env.scope.kind == .function && env.kindOf x == some .cell)=true then (x,NameKind.cell) else (x,k))::_)=some q:=h;by_cases c:(k == .free && env.scope.kind == .function && env.kindOf x == some .cell)=true
   ·have:k=.free:=by
     rw[JZ,JZ] at c;exact GW.mp c.1.1
    exact .inl this
   rw[YH c] at h;simp only [JE,GY] at h
   cases h;rcases hq with z | z
   ·exact .inr z
   exact .inl z
  have hb:(x == n)=false:=JJ.mpr e;replace h:List.lookup x ((if (k == .free && env.scope.kind == .function && env.kindOf n == some .cell)=true then (n,NameKind.cell) else (n,k))::_)=some q:=h;have h':(r.map λ(n,k)=>if (k == .free && env.scope.kind == .function && env.kindOf n == some .cell) then (n,NameKind.cell) else (n,k)).lookup x=some q:=by
   by_cases c:(k == .free && env.scope.kind == .function && env.kindOf n == some .cell)=true
   ·rw[YJ c] at h;simp only [JE,hb] at h;exact h
   rw[YH c] at h;simp only [JE,hb] at h;exact h
  obtain⟨y,hy,z⟩:=Xq hq h';exact⟨y,YY _ hy,z⟩
section
variable {prog:TR}{w:World}{A:Around}{R:Result->Shared->Prop}{s:Shared}
abbrev noX:Value->Shared->Prop:=λ_ _=>False
theorem Pu {elt tg iter:Expr}{ifs:TK}{scope:Scope}{pos:Pos}{it acc:Value}{env:Env}(J:Nat->Shared->Prop)
  (turn:∀ n s,J n s->wpAny (model prog w) A (pyNext it) (λr s1=>match r with
   | none=>R (.ok .next) s1
   | some v=>wpAny (model prog w) A (letOwnedTupleGo tg it v) (λ_ s2=>wpAny (model prog w) A (assign tg env v) (λ_ s3 =>
     wpAny (model prog w) A (forIn ifs true λc r=>if r=true then do let ok <-isTrue c env (eval c env);pure (ForInStep.yield ok) else pure (ForInStep.yield r)) (λok s4 =>
      if ok=true then wpAny (model prog w) A (eval elt env) (λx s5=>wpAny (model prog w) A (call (.builtin "list.append") [acc,x]) (λ_ s6=>∃ m,m<n/\J m s6) noX s5) noX s4
      else ∃ m,m<n/\J m s4) noX s3) noX s2) noX s1) noX s)
  (n:Nat) (h:J n s):codeAny (model prog w) A (.compLoop (.ListComp elt [⟨tg,iter,ifs,0⟩] scope pos) 0 it acc env) R s:=by
 have no:∀ {Z:TC} (a:Value) (b:Shared),noX a b->Z a b:=λ_ _ f=>f.elim;refine codeAny_loop rfl J (λn s hJ=>?_) n h;show wpAny _ A ((compTurn (.ListComp elt [⟨tg,iter,ifs,0⟩] scope pos) 0 it acc env).onRaise (λx=>do noteFrame x env;theTreesLotGoes x)) _ _ s;refine wpAny_noted ?_;rw[compTurn_list];refine YA (zm (YA (GM (turn n s hJ) (λr s1 h1=>?_) no)))
 cases r with
 | none=>exact YN h1
 | some v =>
  refine YA (GM h1 (λ_ s2 h2=>YA (GM h2 (λ_ s3 h3=>YA (GM h3 (λok s4 h4=>?_) no)) no)) no)
  cases ok with
  | false=>exact YN ⟨rfl,h4⟩
  | true=>exact YA (YA (GM h4 (λx s5 h5=>YA (GM h5 (λ_ s6 h6=>YN (YN ⟨rfl,h6⟩)) no)) no))
end
def compCx (X:Cx)(N:TF)(scope:Scope)(cl:List (Str × Addr))(C:Addr)(fp:TJ)(s:Shared)(H:Hp):Cx where
 prog:=X.prog
 w:=X.w
 K:=X.K
 mg:=X.mg
 base:=X.base
 A:=X.A
 N:=N
 s₀:=s
 H₀:=H
 env:=compEnvC scope cl C X.env
 outer:=X.stack
 stack:=X.stack
 ex:=fp
 fn:=λ_=>false
 calm:=true
 pn:=X.pn
 xe:=noX
def comp0 (k:Nat)(fv:List Nat)(σ:L2.St):L2.St:=List.replicate k none++fv.map λj=>σ.getD j none
def PTs (X:Cx)(ifs:TK)(t:TT):Prop :=
 ∀ (pins:TD) (s:Shared) (σ:L2.St) (H:Hp) (Q:Bool->Hp->Prop),Inv X pins σ H s->t σ H Q →
  wpAny (model X.prog X.w) X.A (forIn ifs true λc r=>if r=true then do let ok <-isTrue c X.env (eval c X.env);pure (ForInStep.yield ok) else pure (ForInStep.yield r)) (TP X pins σ Q) X.xe s
def tYes:TT:=λ_ H Q=>Q true H
theorem Ya:PTs X [] tYes:=λ_ _ _ H _ I h=>wpAny_tests_nil ⟨H,I,h⟩
theorem J7 {c:Expr}{t:TT}(h:PT X c t):PTs X [c] t:=λpins s σ H Q I q=>wpAny_tests_one (h pins s σ H Q I q)
def Weaker (σ4 σ0:L2.St):Prop:=σ0.length=σ4.length/\∀ (i:Nat) (v:V),σ0[i]?=some (some v)->σ4[i]?=some (some v)
def tComp (wi:TI)(g:TG)(tt:TT)(te:TE)(k:Nat)(fv:List Nat):TE:=λσ H Q=>wi σ H λJ H1=>∀ d,H1 d=none->∃ (n:Nat) (W:Nat->List V->Hp->Prop),n<=sizeLine/\W 0 [] (upd H1 d (.lst [])) ∧
 (∀ i ys H2,i<n->W i ys H2->H2 d=some (.lst ys)->J.go i H2/\∀ x H3,J.yld i H2 x H3->g x (comp0 k fv σ) H3 λσ4 H4=>tt σ4 H4 λb H5 =>
  if b=true then te σ4 H5 λy H6=>H6 d=some (.lst ys)/\W (i+1) (ys++[y]) (upd H6 d (.lst (ys++[y]))) else H5 d=some (.lst ys)/\W (i+1) ys H5) ∧
 (∀ ys H2,W n ys H2->H2 d=some (.lst ys)->J.stop n H2/\Q (.ref d) H2)
theorem Jn {P:TR}{h':Heap}(x:HOk P w H h)(hn:H C=none)(k:∀ b,b≠C->h'.get? b=h.get? b):HOk P w H h':=λa o e =>
 (x a o e).stay (λb u hb q=>by
  rw[k b]
  ·exact q
  rintro rfl;rcases hb with rfl | hb
  ·rw[hn] at e;cases e
  rw[hn] at hb;cases hb) (λ_ q=>q) λ_ _ q=>q
theorem D7 {fs ex:TJ}{h1 h2:Heap}(u:Un fs ex H H' h h1)(hC:h.get? C=none)(k:∀ b,b≠C->h2.get? b=h1.get? b):Un fs ex H H' h h2:=by
 have ne:∀ b o,h.get? b=some o->b≠C:=λb o e z=>by rw[z,hC] at e;cases e
 exact⟨λb o e n hf hx=>by rw[k b (ne b o e)];exact u.keep b o e n hf hx,λb o e n hf hx=>by rw[k b (ne b o e)];exact u.slot b o e n hf hx,u.free,λb o e hx=>by rw[k b (ne b o e)];exact u.there b o e hx,u.tups,u.frzs,u.tbls⟩
section
variable {X:Cx}{pins:TD}{σ:L2.St}{H:Hp}{s:Shared}{N:TF}{scope:Scope}{cl:List (Str × Addr)}{fp:TJ}{k:Nat}{fv:List Nat}
theorem Z3a (I:Inv X pins σ H s)(hc:X.calm=true)(hf:∀ b∈fp,FpOk X pins H b)(hl:∀ b∈fp,b<s.heap.objs.size)(hkind:scope.kind=.function)(hcell:∀ y∈scope.names,y.2≠.cell)
  (h1:∀ y c,cl.lookup y=some c->X.env.cells.lookup y=some c) (h2:∀ y∈scope.names,y.2=.free->∃ c,cl.lookup y.1=some c):(compCx X N scope cl s.heap.objs.size fp s H).Ok where
 mod:=I.ok.mod
 kind:=hkind
 glob:=I.ok.glob
 blt:=I.ok.blt
 above:=YD _
 inj:=λx y c a b=>I.ok.inj x y c (h1 x c a) (h1 y c b)
 has:=λx hx=>by
  have:∃ y∈scope.names,y.1=x/\(y.2=.free \/ y.2=.cell):=by
   rcases hx with z | z
   ·exact Xq (.inl rfl) z
   exact Xq (.inr rfl) z
  obtain⟨y,hy,e,z⟩:=this;rcases z with z | z
  ·obtain⟨c,hcl⟩:=h2 y hy z;exact⟨c,by rw[<-e];exact hcl⟩
  exact absurd z (hcell y hy)
 cab:=λx c z=>by cases z
 hd:=λ_=>I.ok.hd hc
 frames:=I.ok.frames
 stk:=.inl rfl
 exf:=λb hb=>⟨XD (hl b hb),λx c e=>(hf b hb).2.2.2.2.1 x c (h1 x c e)⟩
 bs:=I.bs
 bsz:=YX I.ok.bsz I.sz
 noex:=λb o e hb=>by
  rcases (hf b hb).2.2.2.1 with z | z
  ·exact I.ok.noex b o e z
  exact absurd (YU (YI (I.ok.bs b o e).1) z) (XO _)
 exfs:=λb hb z=>(YW.mp (I.stkSub b z)).elim (λe=>(hf b hb).2.1 e) λe=>(hf b hb).2.2.1 e
 funs:=I.stack
 frf:=I.stkFree
theorem Z0z (I:Inv X pins σ H s)(hc:X.calm=true)(hf:∀ b∈fp,FpOk X pins H b)(hl:∀ b∈fp,b<s.heap.objs.size)(hkind:scope.kind=.function)(hcell:∀ y∈scope.names,y.2≠.cell)
  (h1:∀ y c,cl.lookup y=some c->X.env.cells.lookup y=some c) (h2:∀ y∈scope.names,y.2=.free->∃ c,cl.lookup y.1=some c)
  (hN:N.length=k+fv.length) (hfv:fv.map (λj=>X.N[j]?)=(N.drop k).map some) (hk:(N.drop k).map X.env.kindOf=(N.drop k).map λ_=>some .cell) (hfl:∀ y∈N.drop k,scope.names.lookup y=some .free)
  {h':Heap} {tk:Nat} (hn:h'.Ns s.heap.objs.size λ_=>none) (hb:∀ b o,s.heap.get? b=some o->h'.get? b=some o) :
  Inv (compCx X N scope cl s.heap.objs.size fp s H) [] (comp0 k fv σ) H { s with heap:=h',toks:=tk } where
 ok:=Z3a I hc hf hl hkind hcell h1 h2
 os:=rfl
 bare:=I.bare
 base:=Un.kept hb
 loc:=⟨_,hn,λi x v e1 e2 e3=>by
  have hik:k<=i:=by
   apply Y0o;intro z;have:(comp0 k fv σ)[i]?=some none:=by
    unfold comp0;rw[JA (by simpa using z)];simp[z]
   rw[this] at e2
   cases e2
  obtain⟨j,rfl⟩:∃ j,i=k+j:=⟨i - k,by omega⟩;have e2':(fv.map λj=>σ.getD j none)[j]?=some (some v):=by
   have:(comp0 k fv σ)[k+j]?=(fv.map λj=>σ.getD j none)[j]?:=by
    unfold comp0;rw[XW (by simp)];simp
   rw[<-this];exact e2
  rw[YF] at e2'
  cases hj:fv[j]? with
  | none=>rw[hj] at e2';cases e2'
  | some m =>
   rw[hj] at e2';have e4:σ.getD m none=some v:=YK e2';have e5:(N.drop k)[j]?=some x:=by rw[Y0U];exact e1
   have e6:X.N[m]?=some x:=by
    have a:=congrArg (λl=>l[j]?) hfv;simp only [YF,hj,e5,qd] at a;exact YK a
   have e7:X.env.kindOf x=some .cell:=by
    have a:=congrArg (λl=>l[j]?) hk;simp only [YF,e5,qd] at a;exact YK a
   have e8:σ[m]?=some (some v):=by
    cases q:σ[m]? with
    | none=>rw[List.getD,q] at e4;cases e4
    | some o=>rw[List.getD,q] at e4;rw[show o=some v from e4]
   obtain⟨m0,hm0,hl0⟩:=I.loc;obtain⟨u,ru,lk⟩:=hl0 m x v e6 e8 (.inr (.inl e7));refine⟨u,ru,?_⟩;rcases lk with ⟨z,_⟩ | ⟨_,c,hcc,ic⟩
   ·rw[e7] at z;cases z
   have mem:x∈N.drop k:=YG e5;have fr:=hfl x mem;obtain⟨c',hc'⟩:=h2 (x,.free) (Qc fr) rfl;have ec:=h1 x c' hc';rw[hcc] at ec
   cases ec;refine .inr ⟨.inl (Vp I.ok.kind fr e7),c,hc',?_⟩;obtain⟨o,ho,hd⟩:=ic;exact⟨o,hb _ _ ho,hd⟩⟩
 cell:=λx c e=>by
  obtain⟨v,o,ho,hd⟩:=I.cell x c (h1 x c e);exact⟨v,o,hb _ _ ho,hd⟩
 free:=I.hok.fresh (YD _)
 freeC:=λx c e=>I.freeC x c (h1 x c e)
 pin:=λp hp=>by
  obtain⟨a1,a2,a3,a4,a5⟩:=I.pin p (YL _ ((JF.mp hp).elim id λz=>nomatch z));exact⟨hb _ _ a1,a2,XD (YI a1),λz=>(YW.mp (I.stkSub p.1 z)).elim a3 a4,a5⟩
 hok:=I.hok.kept hb
 len:=by
  show (comp0 k fv σ).length=N.length;unfold comp0;simp[hN]
end
section
variable {X:Cx}
theorem Qs {elt iter tg:Expr}{ifs:TK}{scope:Scope}{pos:Pos}{g:TG}{tt:TT}{te:TE}{N:TF}{k:Nat}{fv:List Nat}{cl:List (Str × Addr)}
  {pins:TD} {σ:L2.St} {H:Hp} {s:Shared} {it:Addr} {fp:TJ} {tn:Nat->Heap->Prop} {J:It} {Q:VK} {RR:Value->Addr->Result->Shared->Prop} {E:TC}
  (hc:X.calm=true) (hg:∀ cl C fp s H,PG (compCx X N scope cl C fp s H) tg g) (ht:∀ cl C fp s H,PTs (compCx X N scope cl C fp s H) ifs tt) (he:∀ cl C fp s H,PE (compCx X N scope cl C fp s H) elt te)
  (hw:∀ r x H Q,g x (List.replicate k none++r) H Q->g x (List.replicate k none++r) H λσ4 H4=>Q σ4 H4/\Weaker σ4 (List.replicate k none++r))
  (hN:N.length=k+fv.length) (hfv:fv.map (λj=>X.N[j]?)=(N.drop k).map some) (hk:(N.drop k).map X.env.kindOf=(N.drop k).map λ_=>some .cell) (hfl:∀ y∈N.drop k,scope.names.lookup y=some .free)
  (hcell:∀ y∈scope.names,y.2≠.cell) (hkind:scope.kind=.function) (h1:∀ y c,cl.lookup y=some c->X.env.cells.lookup y=some c) (h2:∀ y∈scope.names,y.2=.free->∃ c,cl.lookup y.1=some c)
  (I:Inv X pins σ H s) (T:Turn X.prog X.w X.K tg J fp it tn) (st:tn 0 s.heap) (f:∀ b∈fp,FpOk X pins H b)
  (body:∀ d,H d=none->∃ (n:Nat) (W:Nat->List V->Hp->Prop),n<=sizeLine/\W 0 [] (upd H d (.lst [])) ∧
   (∀ i ys H2,i<n->W i ys H2->H2 d=some (.lst ys)->J.go i H2/\∀ x H3,J.yld i H2 x H3->g x (comp0 k fv σ) H3 λσ4 H4=>tt σ4 H4 λb H5 =>
    if b=true then te σ4 H5 λy H6=>H6 d=some (.lst ys)/\W (i+1) (ys++[y]) (upd H6 d (.lst (ys++[y]))) else H5 d=some (.lst ys)/\W (i+1) ys H5) ∧
   (∀ ys H2,W n ys H2->H2 d=some (.lst ys)->J.stop n H2/\Q (.ref d) H2))
  (hR:∀ (D C:Addr) (H':Hp) (s':Shared),(∃ m,s'.heap.Ns C m)->FpOk X pins H' C->Q (.ref D) H'->(∀ h',Heap.SameBut C s'.heap h'->Inv X pins σ H' { s' with heap:=h' })->RR (.ref D) C (.ok .next) s') :
  wpAny (model X.prog X.w) X.A (newList []) (λacc s3=>wpAny (model X.prog X.w) X.A (newFunctionEnv scope X.env.globals cl [] X.env.qual none .none (some X.env)) (λcenv s4 =>
   codeAny (model X.prog X.w) X.A (.compStart (.ListComp elt [⟨tg,iter,ifs,0⟩] scope pos) 0 (.ref it) acc { cenv with scope:=relabel scope X.env }) (RR acc cenv.locals) s4) E s3) E s:=by
 refine qV ?_;have I3:=I.lnew (its:=[]) (ys:=[]) (t':=s.toks) .nil (JH _);have fresh:=I.fresh;generalize hD:s.heap.objs.size=D at I3 fresh ⊢;have f3:∀ b∈fp,FpOk X pins (upd H D (.lst [])) b:=λb hb=>by
  refine⟨?_,(f b hb).2⟩;have hne:b≠D:=by
   obtain⟨o,e,_⟩:=T.obj 0 _ st b hb;rw[<-hD];exact XD (YI e)
  rw[Ze hne];exact (f b hb).1
 have up3:∀ b o,s.heap.get? b=some o->(s.heap.push { cls:=.type "list",data:=.seq ([]:TH).toArray }).get? b=some o:=λb o e=>YB _ e;have st3:tn 0 (s.heap.push { cls:=.type "list",data:=.seq ([]:TH).toArray }):=T.keep 0 _ _ st λb _ o e=>up3 b o e;have hl3:∀ b∈fp,b<(s.heap.push { cls:=.type "list",data:=.seq ([]:TH).toArray }).objs.size:=λb hb=>by
  obtain⟨o,e,_⟩:=T.obj 0 _ st3 b hb;exact YI e
 obtain⟨n,W,hn,w0,step,fin⟩:=body D fresh;generalize hS3:({ s with heap:=s.heap.push { cls:=.type "list",data:=.seq ([]:TH).toArray },toks:=s.toks }:Shared)=s3 at I3;have eS3:s3.heap=s.heap.push { cls:=.type "list",data:=.seq ([]:TH).toArray }:=by rw[<-hS3]
 rw[<-eS3] at st3 hl3;refine wpAny_newFunctionEnv hcell (λy hy=>nomatch hy) (λh4 hns hsb=>?_) hkind;have old:∀ b o,s3.heap.get? b=some o->h4.get? b=some o:=λb o e=>(hsb.2 b (XD (YI e))).trans (YB _ e);have I4:=Z0z (N:=N) (tk:=s3.toks+([]:List (Str × Value)).length) I3 hc f3 hl3 hkind hcell h1 h2 hN hfv hk hfl (h':=h4) hns old;have st4:tn 0 h4:=T.keep 0 _ _ st3 λb _ o e=>old b o e;have hCn:s3.heap.get? s3.heap.objs.size=none:=by
  cases e:s3.heap.get? s3.heap.objs.size with
  | none=>rfl
  | some o=>exact absurd (YI e) (XO _)
 generalize hC:s3.heap.objs.size=C at I4 hCn ⊢;have stat:∀ {H':Hp} {ps:TD},(∀ b∈fp,H' b=none)->(∀ p∈ps,p.1 ∉ fp)->∀ b∈fp,FpOk (compCx X N scope cl C fp s3 (upd H D (.lst []))) ps H' b:=λ{H' ps} hn hp b hb =>
  ⟨hn b hb,by rw[<-hC];exact XD (hl3 b hb),λz=>(YW.mp (I3.stkSub b z)).elim (λe=>(f3 b hb).2.1 e) λe=>(f3 b hb).2.2.1 e,.inl hb,λx c e=>(f3 b hb).2.2.2.2.1 x c (h1 x c e),λp q z=>(JF.mp q).elim (λq=>(f3 b hb).2.2.2.2.2 p (YL _ q) z) λq=>hp p q (by rw[z];exact hb)⟩
 have loop:∀ s4:Shared,s4={ s3 with heap:=h4,toks:=s3.toks+([]:List (Str × Value)).length } →
   codeAny (model X.prog X.w) X.A (.compLoop (.ListComp elt [⟨tg,iter,ifs,0⟩] scope pos) 0 (.ref it) (.ref D) (compEnvC scope cl C X.env)) (RR (.ref D) C) s4:=by
  rintro s4 rfl;refine Pu (λm s'=>∃ i ys H',Inv (compCx X N scope cl C fp s3 (upd H D (.lst []))) [] (comp0 k fv σ) H' s'/\tn i s'.heap/\(∀ b∈fp,H' b=none)/\i<=n/\m=n+1 - i/\ys.length<=i/\H' D=some (.lst ys)/\W i ys H') ?_ (n+1)
   ⟨0,[],_,I4,st4,λb hb=>(f3 b hb).1,JH _,rfl,YD _,Zb,w0⟩
  rintro m s5 ⟨i,ys,H5,I5,st5,fr5,hi,rfl,hys,hD5,w5⟩;by_cases hlt:i<n
  ·obtain⟨go,stp⟩:=step i ys H5 hlt w5 hD5;refine thn (T.item (compCx X N scope cl C fp s3 (upd H D (.lst []))) rfl rfl rfl rfl i [] s5 _ H5 noX I5 (stat fr5 (by simp)) st5 go) λr s6 ⟨u,er,h6⟩=>?_;subst er;refine thn h6 λ_ s7 ⟨x,H7,I7,r7,y7,st7,fr7⟩=>?_;have I7':=I7.pinned (stat fr7 (by simp)) (T.obj _ _ st7);refine thn (hg cl C fp s3 _ _ s7 _ H7 x u _ I7' r7 (hw _ x H7 _ (stp x H7 y7))) λ_ s8 ⟨σ8,H8,I8,q8,wk⟩=>?_;refine thn (ht cl C fp s3 _ _ s8 σ8 H8 _ I8 q8) λok s9 ⟨H9,I9,q9⟩=>?_;have back:∀ {σ':L2.St} {H':Hp} {s':Shared},Inv (compCx X N scope cl C fp s3 (upd H D (.lst []))) ([]++pinsAt fp s7.heap) σ' H' s'->Weaker σ' (comp0 k fv σ) →
     Inv (compCx X N scope cl C fp s3 (upd H D (.lst []))) [] (comp0 k fv σ) H' s'/\tn (i+1) s'.heap/\∀ b∈fp,H' b=none:=λ{σ' H' s'} I' wk'=>by
    refine⟨I'.unpinned.weak wk'.1 wk'.2,T.keep _ _ _ st7 λb hb o e=>(I'.pin (b,o) (XC _ (XC _ (Xw hb e)))).1,λb hb=>?_⟩;obtain⟨o,e,_⟩:=T.obj _ _ st7 b hb;exact (I'.pin (b,o) (XC _ (XC _ (Xw hb e)))).2.1
   cases ok with
   | false =>
    rw[YH YO] at q9 ⊢;obtain⟨hD9,w9⟩:=q9;obtain⟨a1,a2,a3⟩:=back I9 wk;exact⟨n+1 - (i+1),by omega,i+1,ys,H9,a1,a2,a3,hlt,rfl,Nat.le_succ_of_le hys,hD9,w9⟩
   | true =>
    rw[YJ rfl] at q9 ⊢;refine thn (he cl C fp s3 _ _ s9 σ8 H9 _ I9 q9) λy s10 ⟨yv,H10,I10,r10,hD10,w10⟩=>?_;refine thn (Yn _ s10 σ8 H10 (.ref D) [yv] (.ref D) [y] (λ_ H'=>H'=upd H10 D (.lst (ys++[yv]))) I10 rfl (.cons r10 .nil) ⟨D,ys,yv,rfl,rfl,hD10,JL hys (YU hlt hn),rfl⟩) λ_ s11 ⟨_,H11,I11,_,e11⟩=>?_;subst e11;obtain⟨a1,a2,a3⟩:=back I11 wk;exact⟨n+1 - (i+1),by omega,i+1,ys++[yv],_,a1,a2,a3,hlt,rfl,by rw[YS];show ys.length+1<=i+1;omega,Zb,w10⟩
  obtain rfl:i=n:=Nat.le_antisymm hi (jk.mp hlt);obtain⟨stop,q⟩:=fin ys H5 w5 hD5;refine thn (T.done (compCx X N scope cl C fp s3 (upd H D (.lst []))) rfl rfl rfl rfl i [] s5 _ H5 noX I5 (stat fr5 (by simp)) st5 stop) λr s6 ⟨er,I6⟩=>?_;subst er;refine hR D C H5 s6 ?_ (I3.fpOk (by rw[hC];exact YD _) I6.free) q λh' hs'=>?_
  ·obtain⟨m,hm,_⟩:=I6.loc;exact⟨m,hm⟩
  have hs2:∀ b,b≠C->h'.get? b=s6.heap.get? b:=λb hb=>hs'.2 b hb;refine I3.call' (s':={ s6 with heap:=h' }) (ch:=fp) ?_ (D7 I6.base hCn hs2) (Jn I6.hok I6.free hs2) I6.bare λb hb=>?_
  ·exact I6.os
  exact⟨(f3 b hb).2.2.2.1,(f3 b hb).2.1,(f3 b hb).2.2.2.2.1,(f3 b hb).2.2.2.2.2⟩
 exact codeAny_compStart_list (loop _ rfl) (T.self _ 0 _ _ _ st4 (loop _ rfl))
theorem Ym {elt iter:Expr}{ifs:TK}{pos:Pos}{wi:TI}{tt:TT}{N:TF}{k:Nat}{fv:List Nat}
  (hc:X.calm=true) (hi:PI X tg iter wi) (hg:∀ cl C fp s H,PG (compCx X N scope cl C fp s H) tg g) (ht:∀ cl C fp s H,PTs (compCx X N scope cl C fp s H) ifs tt) (he:∀ cl C fp s H,PE (compCx X N scope cl C fp s H) elt te)
  (hw:∀ r x H Q,g x (List.replicate k none++r) H Q->g x (List.replicate k none++r) H λσ4 H4=>Q σ4 H4/\Weaker σ4 (List.replicate k none++r))
  (hN:N.length=k+fv.length:=by rfl) (hfv:fv.map (λj=>X.N[j]?)=(N.drop k).map some:=by rfl) (hk:(N.drop k).map X.env.kindOf=(N.drop k).map (λ_=>some .cell):=by rfl)
  (hfl:∀ y∈N.drop k,scope.names.lookup y=some .free:=by decide +kernel) (hfr:∀ y∈scope.names,y.2=.free->y.1∈N.drop k:=by decide +kernel)
  (hcell:∀ y∈scope.names,y.2≠.cell:=by decide +kernel) (hkind:scope.kind=.function:=by rfl) (hnames:∀ y∈scope.names,y.2=.local->scope.names.lookup y.1=some .local:=by decide +kernel)
  (hs:∀ x,foldedSetIterable iter X.env x=pure x:=by intro _;rfl):PE X (.ListComp elt [⟨tg,iter,ifs,0⟩] scope pos) (tComp wi g tt te k fv):=by
 intro pins s σ H Q I h;have kc:∀ y∈N.drop k,X.env.kindOf y=some .cell:=λy hy=>by
  obtain⟨j,hj⟩:=XN hy;have a:=congrArg (λl=>l[j]?) hk;simp only [YF,hj,qd] at a;exact YK a
 obtain⟨cl,hclos,h1,h2⟩:=V7 (env:=X.env) (scope:=scope) λy hy hf=>I.ok.has y.1 (.inl (kc y.1 (hfr y hy hf)));rw[eval_ListComp];refine zC (use:=none) rfl hs hclos hkind hnames (thn (hi pins s σ H _ I h) λxv s1 h1'=>thn h1' λitv s2 h2'=>?_);obtain⟨it,fp,tn,J,H2,e,I2,T,st2,f2,body⟩:=h2';subst e;exact Qs (RR:=λacc C=>compPost (model X.prog X.w) X.A X.xe none (EP X pins σ Q) acc C) hc hg ht he hw hN hfv hk hfl hcell hkind h1 h2 I2 T st2 f2 body λD C H' s' ⟨m,hm⟩ _ q iv=>⟨m,hm,λh' hs'=>⟨.ref D,H',iv h' hs',rfl,q⟩⟩
theorem Y0:∀ (r:L2.St) (x:V) (H:Hp) (Q:L2.St->Hp->Prop),gName 0 x (List.replicate 1 none++r) H Q->gName 0 x (List.replicate 1 none++r) H λσ4 H4=>Q σ4 H4/\Weaker σ4 (List.replicate 1 none++r):=λr x H Q h =>
 ⟨h,by simp,λi v e=>by
  cases i with
  | zero=>cases e
  | succ j=>exact e⟩
theorem V8 {K:TQ}:∀ (r:L2.St) (x:V) (H:Hp) (Q:L2.St->Hp->Prop),gTup K 2 (gCons (gName 0) (gCons (gName 1) gNil)) x (List.replicate 2 none++r) H Q →
  gTup K 2 (gCons (gName 0) (gCons (gName 1) gNil)) x (List.replicate 2 none++r) H λσ4 H4=>Q σ4 H4/\Weaker σ4 (List.replicate 2 none++r):=by
 rintro r x H Q ⟨a,xs,e1,hq,hl,v,t,e2,v',t',e3,e4,q⟩;refine⟨a,xs,e1,hq,hl,v,t,e2,v',t',e3,e4,q,by simp,λi z e=>?_⟩
 cases i with
 | zero=>cases e
 | succ j =>
  cases j with
  | zero=>cases e
  | succ j=>exact e
end
theorem Yh {x:V}{σ:L2.St}{A B:L2.St->Hp->Prop}(h:A (σ.set 0 (some x)) H):gName 0 x σ H λσ4 H4=>tYes σ4 H4 λb H5=>if b=true then A σ4 H5 else B σ4 H5:=by
 show if true=true then A (σ.set 0 (some x)) H else B (σ.set 0 (some x)) H
 exact Vf h
section
variable {X:Cx}
inductive rIxA (K:TQ) (x:V) (y:V) (H:Hp) (Q:VK):Prop
 | i (p xs i v:_) (_:x=.ref p) (_:y=.int i) (_:(SqL K H p xs \/ SqT K H p xs)) (_:atI xs i=some v) (_:Q v H)
theorem Z09:IxR X (rIxA X.K):=λvl sl pins s σ H x y v u Q I rx ry ⟨p,xs,i,z,e1,e2,h,ea,q⟩ hs=>by
 rcases h with h | h
 ·exact Zv vl sl pins s σ H x y v u Q I rx ry ⟨p,xs,i,z,e1,e2,h,ea,q⟩ hs
 exact Yd vl sl pins s σ H x y v u Q I rx ry ⟨p,xs,i,z,e1,e2,h,ea,q⟩ hs
end
section
variable {X:Cx}{K:TQ}
theorem Mw (h:X.K=K:=by rfl):IxR X (rIxT K):=h ▸ Yd
theorem Jf (h:X.K=K:=by rfl):IxR X (rIxL K):=h ▸ Zv
theorem Z50 (h:X.K=K:=by rfl):IxR X (rP0 K):=h ▸ Xt
theorem Z4z (h:X.K=K:=by rfl):IxR X (rP1 K):=h ▸ Xe
end
theorem By {x:V}{σ:L2.St}{A B:L2.St->Hp->Prop}{t:TT}(h:t (σ.set 0 (some x)) H λb H5=>if b=true then A (σ.set 0 (some x)) H5 else B (σ.set 0 (some x)) H5) :
  gName 0 x σ H λσ4 H4=>t σ4 H4 λb H5=>if b=true then A σ4 H5 else B σ4 H5:=h
theorem Ri {p:Addr}{u:V}{σ:L2.St}{A B:L2.St->Hp->Prop}(hp:SqT K H p [u,v])(h:A ((σ.set 0 (some u)).set 1 (some v)) H) :
  gTup K 2 (gCons (gName 0) (gCons (gName 1) gNil)) (.ref p) σ H λσ4 H4=>tYes σ4 H4 λb H5=>if b=true then A σ4 H5 else B σ4 H5:=by
 refine⟨p,[u,v],rfl,hp,rfl,u,[v],rfl,v,[],rfl,rfl,?_⟩;show if true=true then A ((σ.set 0 (some u)).set 1 (some v)) H else B ((σ.set 0 (some u)).set 1 (some v)) H
 exact Vf h
section
variable {X:Cx}
end
end Sb
namespace Sb
open PySem PySem.Builtin.SmallTypes
section
variable {prog:TR}{w:World}{A:Around}{E:TC}{s:Shared}
theorem Bv {ys:Array Value}{y:Value}{Q:TC}(ti:s.heap.IsTupleIter it t j)(tt:s.heap.IsTuple t ys)(ey:ys[j]?=some y)
  (hQ:∀ h',h'.IsTupleIter it t (j+1)->Heap.SameBut it s.heap h'->Q y { s with heap:=h' }):wpAny (model prog w) A (nextOf (.ref it)) Q E s:=by
 obtain⟨oi,ei,ci,di⟩:=id ti;obtain⟨ot,et,_,nt,dt⟩:=tt;unfold nextOf;refine YA (JS (name:=Str.ofString "__next__") ti.typeIs GD (GV GD ti.typeIs zt ?_ (zl _)));show wpAny _ _ (field (.ref it) 0 >>= _) _ _ _;refine YA (XS ei di (x:=.ref t) rfl ?_);show wpAny _ _ (if (Value.ref t == Value.none)=true then _ else _) _ _ _;rw[YH (show ¬ ((Value.ref t == Value.none)=true) from λq=>YO q)];show wpAny _ _ (field (.ref it) 1 >>= _) _ _ _;refine YA (XS ei di (x:=.int j 0) rfl ?_);show wpAny _ _ (seqItems? (.ref t) >>= _) _ _ _;refine YA (GH et dt ?_);simp only [qW,ey];refine YA (qa ei di (by simp) (YN ⟨y,rfl,YN (hQ _ ?_ (GR ..))⟩));refine⟨_,JM _ ei (zn (qg di _)),(Y0e ..).trans ci,?_⟩;rw[qg di];simp[rawInt]
theorem Nj {ys:Array Value}{Q:TC}(hq:Qt A s.heap)(ti:s.heap.IsTupleIter it t j)(tt:s.heap.IsTuple t ys)(ey:ys[j]?=none)
  (hE:∀ h' e,Heap.ExtBut it s.heap h'->(∃ o,h'.get? e=some o/\o.cls=.type "StopIteration")->E (.ref e) { s with heap:=h' }):wpAny (model prog w) A (nextOf (.ref it)) Q E s:=by
 obtain⟨oi,ei,ci,di⟩:=id ti;obtain⟨ot,et,_,nt,dt⟩:=tt;unfold nextOf;refine YA (JS (name:=Str.ofString "__next__") ti.typeIs GD (GV GD ti.typeIs zt ?_ (zl _)));show wpAny _ _ (field (.ref it) 0 >>= _) _ _ _;refine YA (XS ei di (x:=.ref t) rfl ?_);show wpAny _ _ (if (Value.ref t == Value.none)=true then _ else _) _ _ _;rw[YH (show ¬ ((Value.ref t == Value.none)=true) from λq=>YO q)];show wpAny _ _ (field (.ref it) 1 >>= _) _ _ _;refine YA (XS ei di (x:=.int j 0) rfl ?_);show wpAny _ _ (seqItems? (.ref t) >>= _) _ _ _;refine YA (GH et dt ?_);simp only [qW,ey];refine YA (zK (YA (qa ei di (by simp) ?_)));refine Rx (hq:=(hq.but ei λn=>?_)) λh' e k he=>hE _ _ (λb o hb e=>k b o ((GR ..).extBut b o hb e)) he;obtain⟨vs,e1,e2⟩:=n;rw[di] at e1
 cases e1;simp at e2
theorem Pt (hq:QtP A qs)(it t:Addr)(ne:t≠it)(hqs:∀ p∈qs,p.1≠it)(ys:Array Value) :
  Draws prog w A it (it::t::qs.map Prod.fst) ys.size (λi x=>ys[i]?=some x) (λi h=>h.IsTupleIter it t i/\h.IsTuple t ys/\∀ p∈qs,h.get? p.1=some p.2) where
 live:=λi h st=>by
  obtain⟨⟨o,e,_⟩,_⟩:=st;exact⟨o,e⟩
 frame:=λi h h' st k=>by
  obtain⟨⟨o,e,r⟩,⟨o',e',r'⟩,st⟩:=st;exact⟨⟨o,k it (by simp) o e,r⟩,⟨o',k t (by simp) o' e',r'⟩,λp hp=>k p.1 (by simp;exact .inr (.inr ⟨p.2,hp⟩)) p.2 (st p hp)⟩
 item:=λi s Q E lt st hQ=>Bv st.1 st.2.1 (Y0b lt) λh' a b=>hQ _ h' s.toks (Y0b lt) ⟨a,st.2.1.extBut b.extBut ne,λp hp=>b.extBut p.1 p.2 (hqs p hp) (st.2.2 p hp)⟩ b
 done:=λs Q E st hE=>Nj (hq.at st.2.2) st.1 st.2.1 (Array.getElem?_eq_none (YD _)) hE
end
structure Off (z TI TO i1 i2:Addr)(f1 f2:TJ):Prop where
 a1:TI≠z
 a2:TO≠z
 a3:i1≠z
 a4:i2≠z
 a5:TI≠TO
 a6:TI≠i1
 a7:TI≠i2
 a8:TO≠i1
 a9:TO≠i2
 b1:i1≠i2
 z1:z ∉ f1
 o1:TO ∉ f1
 n1:i2 ∉ f1
 z2:z ∉ f2
 o2:TO ∉ f2
 n2:i1 ∉ f2
section
variable {prog:TR}{w:World}{A:Around}{E:TC}{s:Shared}{z TI TO i1 i2:Addr}{f1 f2:TJ}{n1 n2:Nat}{P1 P2:Nat->Value->Prop}{S1 S2:Nat->Heap->Prop}
theorem G0 {k:Nat}{a b:Value}{Q:TC}(D:Off z TI TO i1 i2 f1 f2)(D1:Draws prog w A i1 f1 n1 P1 S1)(D2:Draws prog w A i2 f2 n2 P2 S2)
  (hz:IsZip s.heap z TI TO .none) (hTI:IsPair s.heap TI (.ref i1) (.ref i2)) (hTO:IsPair s.heap TO a b) (c1:S1 k s.heap) (c2:S2 k s.heap) (l1:k<n1) (l2:k<n2)
  (hQ:∀ x y h' tk,P1 k x->P2 k y->IsZip h' z TI TO (rawInt s.heap.objs.size)->IsPair h' TO x y->S1 (k+1) h'->S2 (k+1) h'->IsPair h' s.heap.objs.size x y->h'.objs.size=s.heap.objs.size+1 →
   (∀ c o,c≠z->c≠TO->c≠i1->c≠i2->s.heap.get? c=some o->h'.get? c=some o)->Q (.ref s.heap.objs.size) { s with heap:=h',toks:=tk }) :
  wpAny (model prog w) A (Builtin.«zip.__next__» ⟨[.ref z],[]⟩) (λfin s'=>∃ v,fin=.done (.ret v)/\Q v s') E s:=by
 show wpAny _ _ (field (.ref z) 2 >>= _) _ _ _;refine YA (XS hz rfl (x:=.bool false) rfl ?_);show wpAny _ _ (field (.ref z) 3 >>= _) _ _ _;refine YA (XS hz rfl (x:=.ref TI) rfl ?_);refine YA (GH hTI rfl ?_);show wpAny _ _ (ownedTupleIsFree (.ref z) >>= _) _ _ _;refine YA ?_;unfold ownedTupleIsFree;refine YA (XS hz rfl (x:=.none) rfl (YN ?_));simp only [jn];refine YA (zK ?_);refine YA (XS hz rfl (x:=.ref TO) rfl ?_);refine YA (zk hz (by simp) λg1 z1 s1=>?_);replace z1:IsZip g1 z TI TO .ellipsis:=z1;refine YA ?_;simp only [List.zipIdx_cons,List.zipIdx_nil,zG,Y06];refine YA (YA (Y0M ?_));show wpAny _ _ (nextOf (.ref i1) >>= _) _ _ _;have c11:S1 k g1:=D1.frame _ _ _ c1 λb hb o e=>s1.extBut b o (λq=>D.z1 (q ▸ hb)) e;refine YA (D1.item k _ _ _ l1 c11 λx g2 tk2 p1 c12 s2=>YN ?_);replace s2:Heap.SameBut i1 g1 g2:=s2;have t2:IsPair g2 TO a b:=s2.extBut _ _ D.a8 (s1.extBut _ _ D.a2 hTO);refine YA (GH t2 rfl ?_);refine YA (wpAny_updateSeq_pair t2 λg3 t3 s3=>?_);replace t3:IsPair g3 TO x b:=t3;replace s3:Heap.SameBut TO g2 g3:=s3;refine YA (Y0C (YN ?_));refine YA (YA (Y0M ?_));show wpAny _ _ (nextOf (.ref i2) >>= _) _ _ _;have c23:S2 k g3:=D2.frame _ _ _ c2 λb hb o e=>s3.extBut b o (λq=>D.o2 (q ▸ hb)) (s2.extBut b o (λq=>D.n2 (q ▸ hb)) (s1.extBut b o (λq=>D.z2 (q ▸ hb)) e));have c13:S1 (k+1) g3:=D1.frame _ _ _ c12 λb hb o e=>s3.extBut b o (λq=>D.o1 (q ▸ hb)) e;refine YA (D2.item k _ _ _ l2 c23 λy g4 tk4 p2 c24 s4=>YN ?_);replace s4:Heap.SameBut i2 g3 g4:=s4;have t4:IsPair g4 TO x b:=s4.extBut _ _ D.a9 t3;refine YA (GH t4 rfl ?_);refine YA (wpAny_updateSeq_pair t4 λg5 t5 s5=>?_);replace t5:IsPair g5 TO x y:=t5;replace s5:Heap.SameBut TO g4 g5:=s5;refine YA (Y0C (YN (YN ?_)));refine YA (GH t5 rfl ?_);refine YA (wpAny_newTuple ?_);have sz:g5.objs.size=s.heap.objs.size:=by rw[s5.1,s4.1,s3.1,s2.1,s1.1]
 have z5:IsZip g5 z TI TO .ellipsis:=s5.extBut _ _ D.a2.symm (s4.extBut _ _ D.a4.symm (s3.extBut _ _ D.a2.symm (s2.extBut _ _ D.a3.symm z1)));have k5:∀ c o,c≠z->c≠TO->c≠i1->c≠i2->s.heap.get? c=some o->g5.get? c=some o:=λc o q1 q2 q3 q4 e =>
  s5.extBut _ _ q2 (s4.extBut _ _ q4 (s3.extBut _ _ q2 (s2.extBut _ _ q3 (s1.extBut _ _ q1 e))))
 have c15:S1 (k+1) g5:=D1.frame _ _ _ c13 λb hb o e=>s5.extBut b o (λq=>D.o1 (q ▸ hb)) (s4.extBut b o (λq=>D.n1 (q ▸ hb)) e);have c25:S2 (k+1) g5:=D2.frame _ _ _ c24 λb hb o e=>s5.extBut b o (λq=>D.o2 (q ▸ hb)) e;have zlt:z<g5.objs.size:=YI z5;show wpAny _ _ (ownedTupleHandOut (.ref z) (.ref g5.objs.size) >>= _) _ _ _;refine YA ?_;unfold ownedTupleHandOut;have z6:IsZip (g5.push { cls:=.type "tuple",data:=.seq #[x,y] }) z TI TO .ellipsis:=YB _ z5;refine YA (zk z6 (by simp) λg7 z7 s7=>?_);replace z7:IsZip g7 z TI TO (rawInt g5.objs.size):=z7;refine zk z7 (by simp) λg8 z8 s8=>?_;replace z8:IsZip g8 z TI TO (rawInt g5.objs.size):=z8;have up:∀ c o,c≠z->g5.get? c=some o->g8.get? c=some o:=λc o q e=>s8.extBut _ _ q (s7.extBut _ _ q (YB _ e));have t8:IsPair g8 g5.objs.size x y:=s8.extBut _ _ (qZ zlt) (s7.extBut _ _ (qZ zlt) (YT _ rfl));have sz8:g8.objs.size=g5.objs.size+1:=by rw[s8.1,s7.1,JI]
 rw[sz] at z8 t8 sz8;refine YN ⟨_,rfl,?_⟩;show Q (.ref g5.objs.size) _;rw[sz];exact hQ x y g8 tk4 p1 p2 z8 (up _ _ D.a2 t5) (D1.frame _ _ _ c15 λb hb o e=>up b o (λq=>D.z1 (q ▸ hb)) e) (D2.frame _ _ _ c25 λb hb o e=>up b o (λq=>D.z2 (q ▸ hb)) e) t8 sz8
  λc o q1 q2 q3 q4 e=>up c o q1 (k5 c o q1 q2 q3 q4 e)
theorem Jz {k:Nat}{a b:Value}{Q:Fin->Shared->Prop}(D:Off z TI TO i1 i2 f1 f2)(D1:Draws prog w A i1 f1 n1 P1 S1)(hz:IsZip s.heap z TI TO .none)(hTI:IsPair s.heap TI (.ref i1) (.ref i2))(c1:S1 n1 s.heap)
  (hE:∀ h' e,(∀ c o,c≠z->c≠i1->s.heap.get? c=some o->h'.get? c=some o)->(∃ o,h'.get? e=some o/\o.cls=.type "StopIteration")->E (.ref e) { s with heap:=h' }) :
  wpAny (model prog w) A (Builtin.«zip.__next__» ⟨[.ref z],[]⟩) Q E s:=by
 show wpAny _ _ (field (.ref z) 2 >>= _) _ _ _;refine YA (XS hz rfl (x:=.bool false) rfl ?_);show wpAny _ _ (field (.ref z) 3 >>= _) _ _ _;refine YA (XS hz rfl (x:=.ref TI) rfl ?_);refine YA (GH hTI rfl ?_);show wpAny _ _ (ownedTupleIsFree (.ref z) >>= _) _ _ _;refine YA ?_;unfold ownedTupleIsFree;refine YA (XS hz rfl (x:=.none) rfl (YN ?_));simp only [jn];refine YA (zK ?_);refine YA (XS hz rfl (x:=.ref TO) rfl ?_);refine YA (zk hz (by simp) λg1 z1 s1=>?_);replace z1:IsZip g1 z TI TO .ellipsis:=z1;refine YA ?_;simp only [List.zipIdx_cons,List.zipIdx_nil,zG,Y06];refine YA (YA (Y0M ?_));show wpAny _ _ (nextOf (.ref i1) >>= _) _ _ _;have c11:S1 n1 g1:=D1.frame _ _ _ c1 λb hb o e=>s1.extBut b o (λq=>D.z1 (q ▸ hb)) e;refine YA (D1.done _ _ _ c11 λg2 e s2 he=>?_);obtain⟨oe,eo,ce⟩:=he;replace s2:Heap.ExtBut i1 g1 g2:=s2;have z2:IsZip g2 z TI TO .ellipsis:=s2 _ _ D.a3.symm z1;have ez:e≠z:=λq=>by
  subst q;rw[z2] at eo
  cases eo;simp at ce
 exact zk z2 (by simp) λg3 _ s3=>hE g3 e (λc o q1 q3 h=>s3.extBut _ _ q1 (s2 _ _ q3 (s1.extBut _ _ q1 h))) ⟨oe,s3.extBut _ _ ez eo,ce⟩
theorem Me {k:Nat}{a b:Value}{Q:Option Value->Shared->Prop}(D:Off z TI TO i1 i2 f1 f2)(D1:Draws prog w A.in1 i1 f1 n1 P1 S1)(D2:Draws prog w A.in1 i2 f2 n2 P2 S2)
  (hz:IsZip s.heap z TI TO .none) (hTI:IsPair s.heap TI (.ref i1) (.ref i2)) (hTO:IsPair s.heap TO a b) (c1:S1 k s.heap) (c2:S2 k s.heap) (l1:k<n1) (l2:k<n2)
  (hQ:∀ x y h' tk,P1 k x->P2 k y->IsZip h' z TI TO (rawInt s.heap.objs.size)->IsPair h' TO x y->S1 (k+1) h'->S2 (k+1) h'->IsPair h' s.heap.objs.size x y->h'.objs.size=s.heap.objs.size+1 →
   (∀ c o,c≠z->c≠TO->c≠i1->c≠i2->s.heap.get? c=some o->h'.get? c=some o)->Q (some (.ref s.heap.objs.size)) { s with heap:=h',toks:=tk }):wpAny (model prog w) A (pyNext (.ref z)) Q E s:=by
 have hT:s.TypeIs (.ref z) "zip":=⟨_,hz,rfl⟩;unfold pyNext;exact YA (zd (JS (name:=Str.ofString "__next__") hT js (GV js hT F.entry_zip_next
   (G0 D D1 D2 hz hTI hTO c1 c2 l1 l2 λx y h' tk p1 p2 q1 q2 q3 q4 q5 q6 q7=>YN (hQ x y h' tk p1 p2 q1 q2 q3 q4 q5 q6 q7)) (F.args_zip_next_1 _))))
theorem R8 {Q:Option Value->Shared->Prop}(D:Off z TI TO i1 i2 f1 f2)(D1:Draws prog w A.in1 i1 f1 n1 P1 S1)(hz:IsZip s.heap z TI TO .none)(hTI:IsPair s.heap TI (.ref i1) (.ref i2))(c1:S1 n1 s.heap)
  (hQ:∀ h',(∀ c o,c≠z->c≠i1->s.heap.get? c=some o->h'.get? c=some o)->Q none { s with heap:=h' }):wpAny (model prog w) A (pyNext (.ref z)) Q E s:=by
 have hT:s.TypeIs (.ref z) "zip":=⟨_,hz,rfl⟩;unfold pyNext;refine YA (zd (JS (name:=Str.ofString "__next__") hT js (GV js hT F.entry_zip_next
  (Jz (k:=0) (a:=.none) (b:=.none) D D1 hz hTI c1 λh' e hk he=>?_) (F.args_zip_next_1 _))))
 obtain⟨o,ho,hc⟩:=he;exact YA (jh (T:="StopIteration") (b:=true) ⟨o,ho,hc⟩ Y00 (YN (hQ _ hk)))
end
abbrev zH1 (h:Heap)(t:Addr):Heap:=h.push { cls:=.type "tuple_iterator",data:=.fields #[.ref t,.int 0 0] }
theorem Mp (t:Addr)(ys:Array Value)(n:Nat)(dd:TN)(sl:Array (Option Value)):Meets (Builtin.«enumerate.__new__» ⟨[.type "enumerate",.ref t],[]⟩) (λ_ R s=>s.heap.get? t=some { cls:=.type "tuple",dict:=dd,data:=.seq ys n,slots:=sl } ∧
  R (.ok (.ret (.ref (zH1 s.heap t).objs.size))) { s with heap:=(zH1 s.heap t).push { cls:=.type "enumerate",data:=.fields #[.none,.bool false,.ref s.heap.objs.size,rawInt 0,.none,.none] } }) :=
 .of_wp λprog w A R s h=>by
  obtain⟨hp,g,d,tk,os⟩:=s;obtain⟨hl,h⟩:=h;have hsub:=sub_enumerate;have hL:Heap.IsTuple (Shared.heap ⟨hp,g,d,tk,os⟩) t ys:=⟨_,hl,rfl,n,rfl⟩
  wp_walk using JO hl
  refine wpAny_stack_any λst=>YN ?_;split
  ·rename_i c _ _ _ _ _
   cases (c == Value.type "enumerate")
   ·wp_walk using JO hl,qj hL
    exact⟨_,rfl,h⟩
   wp_walk using JO hl,qj hL
   exact⟨_,rfl,h⟩
  wp_walk using JO hl,qj hL
  exact⟨_,rfl,h⟩
theorem Kv {prog:TR}{w:World}{A:Around}{E:TC}{ys:Array Value}{Q:TC}(ht:s.heap.IsTuple t ys)
  (h:∀ h',IsEnum h' (s.heap.objs.size+1) s.heap.objs.size 0 .none->h'.IsTupleIter s.heap.objs.size t 0->h'.objs.size=s.heap.objs.size+2->(∀ b o,s.heap.get? b=some o->h'.get? b=some o)->Q (.ref (s.heap.objs.size+1)) { s with heap:=h' }) :
  wpAny (model prog w) A (call (.type "enumerate") [.ref t]) Q E s:=by
 obtain⟨⟨c,dd,dt,sl⟩,e,c1,n,d1⟩:=ht
 cases c1
 cases d1;refine callType_new F.called_enumerate (by decide) (F.typeCall_enumerate_1 _) (F.newCall_enumerate_1 _) (λobj=>F.args_object_init_2 obj _) F.entry_enumerate_new (Mp t ys n dd sl) ⟨e,?_⟩;have hz:(zH1 s.heap t).objs.size=s.heap.objs.size+1:=JI ..;show _/\_;rw[hz];have he:IsEnum ((zH1 s.heap t).push { cls:=.type "enumerate",data:=.fields #[.none,.bool false,.ref s.heap.objs.size,rawInt 0,.none,.none] }) (s.heap.objs.size+1) s.heap.objs.size 0 .none:=by
  have q:=YT (zH1 s.heap t) (o:={ cls:=.type "enumerate",data:=.fields #[.none,.bool false,.ref s.heap.objs.size,rawInt 0,.none,.none] }) rfl;rw[hz] at q;exact q
 exact⟨⟨_,he,rfl⟩,h _ he ⟨_,YB _ (YT _ rfl),rfl,rfl⟩ (by rw[JI,hz]) λb o x=>YB _ (YB _ x)⟩
end Sb
namespace Sb
open PySem PySem.Spec PyProof.Rows L2
section
variable {X:Cx}{pins:TD}{σ:L2.St}{H:Hp}{s:Shared}{h':Heap}{t':Nat}{ch:TJ}
theorem Mx (I:Inv X pins σ H s)(hn:∀ b∈ch,H b=none)(k:∀ b o,b ∉ ch->s.heap.get? b=some o->h'.get? b=some o):HOk X.prog X.w H h':=λa o e =>
 (I.hok a o e).stay (λb u hb q=>k b u (λz=>by
  have n:=hn b z;rcases hb with rfl | hb
  ·rw[n] at e;cases e
  rw[n] at hb;cases hb) q) (λ_ q=>q) λ_ _ q=>q
theorem Tl (I:Inv X pins σ H s)(hf:∀ b∈ch,FpOk X pins H b)(k:∀ b o,b ∉ ch->s.heap.get? b=some o->h'.get? b=some o):Inv X pins σ H { s with heap:=h',toks:=t' }:=by
 refine I.step (g':=s.gens) (d':=s.drawn) (ch:=ch) (λb hb=>?_) (λb o _ _ hc e _=>k b o hc e) (λb o _ _ hc e _=>⟨o.slots,k b o hc e⟩) (λ_ _ _ _ n=>n) (λb o hc e=>⟨o,k b o hc e⟩) (λ_ _ e=>e) (λ_ _ _ e=>e)
  (λb ps e=>⟨#[],by rw[e];simp⟩) (λm hm=>?_) (Mx I (λb hb=>(hf b hb).1) k) I.bare
 ·exact⟨(hf b hb).2.2.2.1,(hf b hb).2.1,(hf b hb).2.2.2.2.1,(hf b hb).2.2.2.2.2⟩
 obtain⟨o,es,ep,ho,r⟩:=hm;exact⟨o,es,ep,k _ o (λz=>(hf _ z).2.1 rfl) ho,r⟩
theorem Vw {p:Addr}{u:HO}(I:Inv X pins σ H s)(hf:∀ b∈ch,FpOk X pins H b)(k:∀ b o,b ∉ ch->s.heap.get? b=some o->h'.get? b=some o)(hp:s.heap.objs.size<=p)(new:ObjOk X.prog X.w (upd H p u) h' p u) :
  Inv X pins σ (upd H p u) { s with heap:=h',toks:=t' }:=by
 have lt:∀ b o,s.heap.get? b=some o->b≠p:=λb o e z=>absurd (YU (YI e) hp) (by rw[z];exact XO _);have ltH:∀ b o,H b=some o->b≠p:=λb o e z=>absurd (YU (I.hok.lt e) hp) (by rw[z];exact XO _);have hk:=Mx I (λb hb=>(hf b hb).1) k;refine I.step (g':=s.gens) (d':=s.drawn) (ch:=ch) (λb hb=>?_) (λb o _ _ hc e _=>k b o hc e) (λb o _ _ hc e _=>⟨o.slots,k b o hc e⟩) (λb o _ e n=>by rw[Ze (lt b o e)];exact n) (λb o hc e=>⟨o,k b o hc e⟩)
  (λb _ e=>by rw[Ze (ltH b _ e)];exact e) (λb _ _ e=>by rw[Ze (ltH b _ e)];exact e) (λb ps e=>⟨#[],by rw[Ze (ltH b _ e),e];simp⟩) (λm hm=>?_) (λb o e=>?_) I.bare
 ·exact⟨(hf b hb).2.2.2.1,(hf b hb).2.1,(hf b hb).2.2.2.2.1,(hf b hb).2.2.2.2.2⟩
 ·obtain⟨o,es,ep,ho,r⟩:=hm;exact⟨o,es,ep,k _ o (λz=>(hf _ z).2.1 rfl) ho,r⟩
 by_cases hb:b=p
 ·subst hb;rw[Zb] at e
  cases e;exact new
 rw[Ze hb] at e;exact (hk b o e).stay (λ_ _ _ q=>q) (λc q=>by rw[Ze (ltH c _ q)];exact q) λc xs q=>by rw[Ze (ltH c _ q)];exact q
theorem D9 {b:Addr}(I:Inv X pins σ H s)(hf:FpOk X pins H b)(h:SqT X.K H t xs):t≠b:=by
 rintro rfl;rcases h with (h | ⟨o,h⟩) | ⟨o,its,n,h,_⟩
 ·rw[hf.1] at h;cases h
 ·rw[hf.1] at h;cases h
 have e:=I.ok.mod.kin _ _ h;rcases hf.2.2.2.1 with z | z
 ·exact I.ok.noex _ _ e z
 exact absurd (YU (YI (I.ok.bs _ _ e).1) z) (XO _)
end
structure ZOff (z TI TO i1 i2:Addr):Prop where
 a1:TI≠z
 a2:TO≠z
 a3:i1≠z
 a4:i2≠z
 a5:TI≠TO
 a6:TI≠i1
 a7:TI≠i2
 a8:TO≠i1
 a9:TO≠i2
 b1:i1≠i2
section
variable {X:Cx}
end
def Ite (K:TQ)(t:Addr):It :=
 ⟨λi H=>∃ xs,SqT K H t xs/\i<xs.length,
   λi H v H'=>∃ p x,v=.ref p/\H p=none/\H'=upd H p (.tup [.int (i:Int),x])/\∀ xs,SqT K H t xs->xs[i]?=some x,
   λi H=>∃ xs,SqT K H t xs/\i=xs.length⟩
theorem G2 {P:TR}(O:e≠it)(t:Addr) :
  Turn P w K (.Tuple es kk tp) (Ite K t) [e,it] e (λi h=>(∃ old,IsEnum h e it (i:Int) old)/\h.IsTupleIter it t i) where
 mem:=by simp
 obj:=λi h ⟨⟨old,he⟩,⟨o1,e1,_,d1⟩⟩ b hb=>by
  simp only [YW,JC,qk] at hb;rcases hb with rfl | rfl
  ·exact⟨_,he,λv q=>by have q':Data.fields _=Data.cell v:=q;cases q'⟩
  exact⟨_,e1,λv q=>by rw[d1] at q;cases q⟩
 keep:=λi h h' ⟨⟨old,he⟩,⟨o1,e1,r1⟩⟩ k=>⟨⟨old,k e (by simp) _ he⟩,⟨o1,k it (by simp) _ e1,r1⟩⟩
 item:=by
  intro X hP hw hK hc i pins s σ H E I hf st hg;subst hP hw hK;obtain⟨xs,hx,lx⟩:=hg;obtain⟨⟨old,he⟩,c1⟩:=st;obtain⟨u1,v1,p1,_⟩:=I.tuple hx;have n1:=v1.length;have ne:∀ b∈[e,it],t≠b:=λb hb=>D9 I (hf b hb) hx;have off:∀ b∈[e,it],∀ x,(b,x) ∉ X.pn:=λb hb x m=>(hf b hb).2.2.2.2.2 _ (YL _ m) rfl;have qI:∀ p∈X.pn,s.heap.get? p.1=some p.2:=λp hp=>(I.pin p (YL _ hp)).1;have qO:∀ b∈[e,it],∀ p∈X.pn,p.1≠b:=λb hb p hp=>(hf b hb).2.2.2.2.2 p (YL _ hp);have D1:=Pt (prog:=X.prog) (w:=X.w) (A:=X.A.in1) (I.ok.hd hc) it t (ne it (by simp)) (qO it (by simp)) u1.toArray;refine wpAny_pyNext_enum_itemD D1 he ⟨c1,p1,qI⟩ (by simp;omega) O (by simp[O,(ne e (by simp)).symm,off e (by simp)]) λx g tk px out s1 pr sz kp=>?_;refine⟨_,rfl,Y07 out λg2 z2 sb=>?_⟩;obtain⟨x0,ex⟩:∃ x0,xs[i]?=some x0:=⟨xs[i],by simp[lx]⟩;obtain⟨x1,ex1,rx⟩:=v1.get ex;have qx:x1=x:=by
   have:u1.toArray[i]?=some x:=px;rw[zo,ex1] at this;exact YK this
  subst qx;have elt:e<s.heap.objs.size:=YI he;have pe:s.heap.objs.size≠e:=qZ elt;have sb2:∀ b,b≠e->g2.get? b=g.get? b:=λb hb=>sb.2 b hb;have keep:∀ b o,b ∉ [e,it]->s.heap.get? b=some o->g2.get? b=some o:=λb o hb q=>by
   simp only [YW,JC,qk,Y16] at hb;rw[sb2 b hb.1];exact kp b o hb.1 hb.2 q
  have new:ObjOk X.prog X.w (upd H s.heap.objs.size (.tup [.int (i:Int),x0])) g2 s.heap.objs.size (.tup [.int (i:Int),x0]) :=
   ⟨by show 2<=sizeLine;decide,[.int (i:Int) tk,x1],.cons ⟨tk,rfl⟩ (.cons rx .nil),⟨_,by rw[sb2 _ pe];exact pr,rfl,0,rfl⟩⟩
  have I2:=Vw (t':=tk+1) I hf keep (YD _) new;have nn:∀ b∈[e,it],upd H s.heap.objs.size (.tup [.int (i:Int),x0]) b=none:=λb hb=>by
   have:b≠s.heap.objs.size:=by
    have ob:∃ o,s.heap.get? b=some o:=by
     simp only [YW,JC,qk] at hb;obtain⟨o1,e1,_⟩:=c1;rcases hb with rfl | rfl
     ·exact⟨_,he⟩
     exact⟨_,e1⟩
    obtain⟨o,q⟩:=ob;exact XD (YI q)
   rw[Ze this];exact (hf b hb).1
  refine⟨.ref s.heap.objs.size,_,I2,rfl,⟨_,x0,rfl,I.fresh,rfl,λxs' h1=>by rw[I.tuple_inj h1 hx];exact ex⟩,⟨⟨x1,?_⟩,?_⟩,nn⟩
  ·exact z2
  exact s1.1.extBut sb.extBut O.symm
 done:=by
  intro X hP hw hK hc i pins s σ H E I hf st hg;subst hP hw hK;obtain⟨xs,hx,rfl⟩:=hg;obtain⟨⟨old,he⟩,c1⟩:=st;obtain⟨u1,v1,p1,_⟩:=I.tuple hx;have n1:=v1.length;have ne:∀ b∈[e,it],t≠b:=λb hb=>D9 I (hf b hb) hx;have off:∀ b∈[e,it],∀ x,(b,x) ∉ X.pn:=λb hb x m=>(hf b hb).2.2.2.2.2 _ (YL _ m) rfl;have qI:∀ p∈X.pn,s.heap.get? p.1=some p.2:=λp hp=>(I.pin p (YL _ hp)).1;have qO:∀ b∈[e,it],∀ p∈X.pn,p.1≠b:=λb hb p hp=>(hf b hb).2.2.2.2.2 p (YL _ hp);have D1:=Pt (prog:=X.prog) (w:=X.w) (A:=X.A.in1) (I.ok.hd hc) it t (ne it (by simp)) (qO it (by simp)) u1.toArray;have c1':s.heap.IsTupleIter it t u1.toArray.size:=by
   rw[YV,<-n1];exact c1
  refine wpAny_pyNext_enum_endD D1 he ⟨c1',p1,qI⟩ λg kp=>⟨rfl,?_⟩;exact Tl (t':=s.toks) I hf λb o hb q=>by
   simp only [YW,JC,qk,Y16] at hb;exact kp b o hb.2 q
 self:=λ_ _ _ _ _ st h=>by
  obtain⟨⟨old,he⟩,_⟩:=st;exact zZ he h
section
variable {X:Cx}
inductive iEnum_i (K:TQ) (R:(It->Hp->Prop)) (vs:TY) (H1:Hp):Prop
 | i (t:_) (_:vs=[.ref t]) (_:(∃ xs,SqT K H1 t xs)) (_:R (Ite K t) H1)
def iEnum (K:TQ)(ta:TA):TI:=λσ H R=>ta σ H (iEnum_i K R)
theorem Z1x {a:Expr}{p pos:Pos}{es:TK}{kk:Nat}{tp:Pos}(hg:Gl X "enumerate")(hm:X.mg "enumerate"=none)(ha:PA X [a] ta)(hs:starEach [a] X.env=[(false,eval a X.env)]:=by rfl) :
  PI X (.Tuple es kk tp) (.Call (.Name "enumerate" p) [a] [] pos) (iEnum X.K ta):=by
 intro pins s σ H R I h;refine Call_ (Wy I hg hm boot_enumerate (JB (thn (ha pos pins s σ H _ I h) λus s1 ⟨vs,H1,I1,r1,q1⟩=>?_) hs rfl));obtain⟨t,e,⟨xs,hx⟩,q⟩:=q1;subst e;obtain⟨t0,e0,rt⟩:=Uz r1
 cases (show t0=Value.ref t from rt);subst e0;obtain⟨u1,v1,p1,_⟩:=I1.tuple hx;refine Kv (ys:=u1.toArray) p1 λg z0 i1 sz kp=>?_;refine zZ z0 ?_;have I2:Inv X pins σ H1 { s1 with heap:=g }:=I1.kept (t':=s1.toks) kp;refine⟨s1.heap.objs.size+1,[s1.heap.objs.size+1,s1.heap.objs.size],_,Ite X.K t,H1,rfl,I2,G2 (O:=?_) t,⟨⟨_,z0⟩,i1⟩,λb hb=>?_,q⟩
 ·show @Ne Nat _ _;omega
 have hb':s1.heap.objs.size<=b:=by
  simp only [YW,JC,qk] at hb;rcases hb with rfl | rfl
  ·exact GZ _ _
  exact YD _
 exact I1.fpOk hb' (I1.hok.fresh hb')
end
end Sb
namespace Sb
open PySem L2
structure Ext (H H':Hp):Prop where
 tup:∀ b xs,H b=some (.tup xs)->H' b=some (.tup xs)
 frz:∀ b o u,H b=some (.frz o u)->H' b=some (.frz o u)
theorem Ext.trans (a:Ext H H1)(b:Ext H1 H2):Ext H H2:=⟨λc xs h=>b.tup c xs (a.tup c xs h),λc o u h=>b.frz c o u (a.frz c o u h)⟩
theorem Ext.same (x:Same H H'):Ext H H':=⟨λb _ h=>x b _ h,λb _ _ h=>x b _ h⟩
theorem Ext.x {a:Addr}{ys:TY}(x:SameX a H H')(ha:H a=some (.lst ys)):Ext H H' :=
 ⟨λb _ h=>x b _ h (Z3h h ha (by intro z;cases z)),λb _ _ h=>x b _ h (Z3h h ha (by intro z;cases z))⟩
theorem Ext.bag {a:Addr}{n:Nat}(x:SameX a H H')(ha:BagAt H a n):Ext H H':=by
 obtain⟨ys,e⟩:=ha.lst;exact Ext.x x e
theorem Ext.upd {l:Addr}{H:Hp}{ys:TY}{o:HO}(hl:H l=some (.lst ys)):Ext H (L2.upd H l o):=Ext.x (SameX.upd l H o) hl
theorem Ext.new {l:Addr}{H:Hp}{o:HO}(hl:H l=none):Ext H (L2.upd H l o):=Ext.same (Same.new hl)
theorem Ext.sq {a:Addr}(e:Ext H H')(h:SqT K H a xs):SqT K H' a xs:=by
 rcases h with (h | ⟨o,h⟩) | h
 ·exact .inl (.inl (e.tup _ _ h))
 ·exact .inl (.inr ⟨o,e.frz _ _ _ h⟩)
 exact .inr h
abbrev Rat:=Int × Int
abbrev _root_.UB:=List (List Rat)
abbrev _root_.UA:=List Rat
def IsR (K:TQ)(H:Hp)(r:Rat)(v:V):Prop:=∃ b,v=.ref b/\SqT K H b [.int r.1,.int r.2]
theorem IsR.ext {r:Rat}(h:IsR K H r v)(e:Ext H H'):IsR K H' r v:=by
 obtain⟨b,q,h⟩:=h;exact⟨b,q,e.sq h⟩
def Rs (K:TQ)(H:Hp)(rs:UA)(xs:TY):Prop:=Paired (IsR K H) rs xs
theorem Rs.ext {K:TQ}{H H':Hp}{rs:UA}{xs:TY}(h:Rs K H rs xs)(e:Ext H H'):Rs K H' rs xs:=Paired.mapP h λ_ _ q=>q.ext e
theorem Rs.snoc {rs:UA}{r:Rat}(h:Rs K H rs xs)(q:IsR K H r v):Rs K H (rs++[r]) (xs++[v]):=zR h q
theorem Rs.len {rs:UA}(h:Rs K H rs xs):rs.length=xs.length:=XG h
theorem Rs.at {K:TQ}{H:Hp}:∀ {rs:UA} {xs:TY} {i:Nat} {r:Rat},Rs K H rs xs->rs[i]?=some r->∃ v,xs[i]?=some v/\IsR K H r v
 | _,_,_,_,.nil,e=>by simp at e
 | _,_,0,_,.cons q _,e=>by
  simp at e;subst e;exact⟨_,rfl,q⟩
 | _,_,i+1,r,.cons _ t,e=>by
  obtain⟨v,h1,h2⟩:=Rs.at (i:=i) (r:=r) t (by simpa using e);exact⟨v,by simpa using h1,h2⟩
theorem Rs.back {rs:UA}{i:Nat}(h:Rs K H rs xs)(e:xs[i]?=some v):∃ r,rs[i]?=some r/\IsR K H r v:=by
 have hi:i<xs.length:=(YE.mp e).1;have hr:i<rs.length:=by rw[h.len];exact hi
 obtain⟨w,h1,h2⟩:=h.at (i:=i) (r:=rs[i]) (by simp[hr]);rw[e] at h1
 cases h1;exact⟨_,by simp[hr],h2⟩
def RowAt (K:TQ)(H:Hp)(a:Addr)(rs:UA):Prop:=∃ xs,SqT K H a xs/\Rs K H rs xs
theorem RowAt.ext {K:TQ}{H H':Hp}{a:Addr}{rs:UA}(h:RowAt K H a rs)(e:Ext H H'):RowAt K H' a rs:=by
 obtain⟨xs,h1,h2⟩:=h;exact⟨xs,e.sq h1,h2.ext e⟩
structure Good (n:Nat)(r:Rat):Prop where
 b1:Bd n r.1
 b2:Bd n r.2
 pos:0<r.2
 cop:Int.gcd r.1 r.2=1
theorem Good.mono {m n:Nat}{r:Rat}(h:Good m r)(k:m<=n):Good n r:=⟨h.b1.mono k,h.b2.mono k,h.pos,h.cop⟩
def nrm (p q:Int):Rat:=(nT p q,nB p q)
theorem Wv {n:Nat}{p q:Int}(hp:Bd n p)(hq:Bd n q)(h:q≠0):Good n (nrm p q):=⟨hp.of_le' (Z5r h),hq.of_le' (Z5s h),Nk h,Bz h⟩
def addR (r s:Rat):Rat:=nrm (r.1*s.2+s.1*r.2) (r.2*s.2)
def subR (r s:Rat):Rat:=nrm (r.1*s.2 - s.1*r.2) (r.2*s.2)
def mulR' (r s:Rat):Rat:=nrm (r.1*s.1) (r.2*s.2)
theorem Xs {a:Int}(ha:0<a)(hb:0<b):a*b≠0:=by
 have:=XX ha hb;omega
theorem Tr {m n:Nat}{r s:Rat}(hr:Good m r)(hs:Good n s):Good (m+n+1) (subR r s):=by
 refine Wv ?_ ((hr.b2.mul hs.b2).mono (by omega)) (Xs hr.pos hs.pos);have a:=hr.b1.mul hs.b2;have b:=hs.b1.mul hr.b2;rw[zW n m] at b;exact a.sub b
end Sb
variable {as gs l ms rs:UA}{rss:UB}
namespace Sb
open PySem PySem.Spec PyProof.Rows L2
set_option maxRecDepth 100000
theorem Vd:fillsNumberSlot (.type "tuple") "mul"=pure false :=
 PySem.fillsNumberSlot_seq (id:="tuple.__mul__") (r:=some (.builtin "tuple.__rmul__")) jm.lookup (by decide +kernel) F.slot_tuple_rmul.lookup (by decide +kernel)
theorem Ta:seqRepeat? (.type "tuple")=pure (some (.builtin "tuple.__mul__")):=by
 unfold seqRepeat?;rw[PySem.seqSlot_of (T:="tuple") (name:="__mul__") (id:="tuple.__mul__") jm.lookup (by decide +kernel),PySem.seqSlot_of (T:="tuple") (name:="__rmul__") (id:="tuple.__rmul__") F.slot_tuple_rmul.lookup (by decide +kernel)];rfl
theorem Ui (a:Int)(t:Tok)(l:Addr)(items:Array Value)(n:Nat)(dd:TN)(sl:Array (Option Value)) :
  Meets (Builtin.«int.__rmul__» ⟨[.int a t,.ref l],[]⟩) (λ_ R s=>s.heap.get? l=some { cls:=.type "tuple",dict:=dd,data:=.seq items n,slots:=sl }/\R (.ok (.ret Value.notImplemented)) s) :=
 .of_wp λprog w A R s h=>by obtain⟨hp,g,d,tk,os⟩:=s;obtain⟨hl,h⟩:=h;wp_walk;exact⟨_,rfl,h⟩
theorem G3 (l:Addr)(items:Array Value)(n:Nat)(dd:TN)(sl:Array (Option Value))(x:Int)(u:Tok)(h1:2<=x)(h2:items.isEmpty=false)(h3:items.size*x.toNat<=1000) :
  Meets (Builtin.«tuple.__mul__» ⟨[.ref l,.int x u],[]⟩) (λ_ R s=>s.heap.get? l=some { cls:=.type "tuple",dict:=dd,data:=.seq items n,slots:=sl } ∧
   R (.ok (.ret (Value.ref s.heap.objs.size))) { s with heap:=s.heap.push { cls:=Value.type "tuple",data:=Data.seq (List.foldl (·++·) #[] (List.replicate x.toNat items)) } }) :=
 .of_wp λprog w A R s h=>by
  obtain⟨hp,g,d,tk,os⟩:=s;obtain⟨hl,h⟩:=h;have f1:=AutoSeq1.idx_int;have f2:=Y0l;have b1:(items.size:Int)*x<=1000:=by
   have e:x=(x.toNat:Int):=by omega
   rw[e,<-Int.natCast_mul];omega
  have b2:0<items.size:=by
   cases items with
   | mk l=>cases l with
    | nil=>simp at h2
    | cons a r=>simp
  have b3:x<=1000:=by
   have:(1:Int)*x<=(items.size:Int)*x:=JV (by omega) (by omega);omega
  have c0:¬ (decide (x < -2 ^ 63) || decide (x ≥ 2 ^ 63))=true:=by simp;omega
  have c1:¬ (items.isEmpty || x == 1)=true:=by rw[h2];simp;omega
  have c2:¬ (decide (x<=0) || items.isEmpty)=true:=by rw[h2];simp;omega
  have c3:¬ ((items.size:Int)*x > (2 ^ 63 - 1) / 8):=by
   have:(1000:Int)<=(2 ^ 63 - 1) / 8:=by decide
   omega
  have c4:¬ Builtin.Tuple.tupleTooMany ((items.size:Int)*x)=true:=by
   unfold Builtin.Tuple.tupleTooMany;have:((items.size:Int)*x).toNat<=1000:=by omega
   have:(1000:Nat)<=sizeLine:=by decide
   simp;omega
  have c5:(List.foldl (λx1 x2=>x1++x2) #[] (List.replicate x.toNat items)).size<=sizeLine:=by
   rw[AutoSeq1.size_joined];have:(1000:Nat)<=sizeLine:=by decide
   have e:x.toNat*items.size=items.size*x.toNat:=qf ..;simp;omega
  wp_walk using JO hl
  refine jt (JD c0) ?_
  wp_walk using JO hl
  refine jt (JD c1) ?_
  wp_walk using JO hl
  refine jt (JD c2) ?_
  wp_walk using JO hl
  refine jt (JD c3) ?_
  wp_walk using JO hl
  exact⟨_,rfl,h⟩
section
variable {X:Cx}{K:TQ}
inductive rRepT (K:TQ) (x:V) (y:V) (H:Hp) (Q:VK):Prop
 | i (a k xs:_) (_:x=.ref a) (_:y=.int k) (_:SqT K H a xs) (_:2<=k) (_:xs≠[]) (_:xs.length*k.toNat<=1000) (_:∀ p,H p=none->Q (.ref p) (upd H p (.tup (List.replicate k.toNat xs).flatten)))
theorem Jb:OpR X (binaryOp .Mult) (rRepT X.K):=by
 intro pins s σ H x y v u Q I rx ry h;obtain⟨l,k,xs,rfl,rfl,hq,h1,h2,h3,q⟩:=h
 cases rx;obtain⟨t,rfl⟩:=ry;obtain⟨its,r,pl,hz⟩:=I.tuple hq;obtain⟨⟨cls,dd,data,sl⟩,ho,hc,n,hd⟩:=id pl;simp only at hc hd;subst hc hd;have hl:=r.length;have he:its.toArray.isEmpty=false:=by
  cases its with
  | nil=>cases r;exact absurd rfl h2
  | cons a b=>rfl
 have hnew:List.foldl (λx1 x2=>x1++x2) #[] (List.replicate k.toNat its.toArray)=(List.replicate k.toNat its).flatten.toArray:=by
  have:=Pq its k.toNat [];rw[List.nil_append] at this;exact this
 refine Y0c (T:="tuple") (U:="int") (by decide) ⟨_,ho,rfl⟩ (λs'=>Y0u s' k t) Vd F.fills_int_mul ju Ta F.slot_int_index.lookup
  (jj ju (Y0u s k t) F.entry_int_rmul (F.args_int_rmul_2 _ _) (Ui k t l its.toArray n dd sl)
   ⟨ho,rfl,⟨_,ho,rfl⟩,jj jm ⟨_,ho,rfl⟩ F.entry_tuple_mul (F.args_tuple_mul_2 _ _) (G3 l its.toArray n dd sl k t h1 he (by rw[YV,<-hl];exact h3)) ⟨ho,?_⟩⟩)
 rw[hnew];refine⟨.ref s.heap.objs.size,_,I.laid (t':=s.toks) (o:=.tup (List.replicate k.toNat xs).flatten) (λb ob q=>YB _ q) (YD _) ?_,rfl,q _ (I.hok.fresh (YD _))⟩;exact⟨by rw[Z2x,qf];exact YX h3 (by decide),_,r.rep k.toNat,IsTup.new _ _⟩
inductive rEqI (K:TQ) (x:V) (y:V) (H:Hp) (Q:VK):Prop
 | i (a b:Addr) (ns ms:TU) (_:x=.ref a) (_:y=.ref b) (_:SqT K H a (ns.map V.int)) (_:SqT K H b (ms.map V.int)) (_:Q (.bl (decide (ns=ms))) H)
theorem Z58 (ns ms:TU):((List.range (min ns.length ms.length)).all (λj=>ns.getD j 0 == ms.getD j 0) && ns.length == ms.length)=decide (ns=ms):=by
 rw[qb];simp only [JZ,List.all_eq_true,qi,GW,zv];constructor
 ·rintro ⟨h,hl⟩;refine List.ext_getElem hl λi h1 h2=>?_;have:=h i (by omega)
  simpa [List.getD,h1,h2] using this
 rintro rfl;exact⟨λ_ _=>rfl,rfl⟩
theorem Jm {us:TH}(r:Vals (ns.map V.int) us){j:Nat}(h:j<us.length):∃ t,us[j]=Value.int (ns.getD j 0) t:=by
 have hl:=r.length;rw[YC] at hl;have hj:j<ns.length:=by omega
 obtain⟨u,e,q⟩:=r.get (i:=j) (show (ns.map V.int)[j]?=some (V.int ns[j]) by simp[hj]);obtain⟨t,rfl⟩:=q;have e2:us[j]?=some us[j]:=by simp[h]
 rw[e2] at e;refine⟨t,?_⟩;rw[YK e];simp[List.getD,hj]
theorem Ng (hu:X.A.units<cLine)(hK:X.K=K:=by rfl):OpR X (compareOp .Eq) (rEqI K):=by
 subst hK;intro pins s σ H x y v u Q I rx ry h;obtain⟨a,b,ns,ms,rfl,rfl,ha,hb,q⟩:=h
 cases rx
 cases ry;obtain⟨its,r1,p1,_⟩:=I.tuple ha;obtain⟨its2,r2,p2,_⟩:=I.tuple hb;have l1:=r1.length;have l2:=r2.length;rw[YC] at l1 l2;refine SeqAt.eq_tupleAt (e:=λj=>ns.getD j 0 == ms.getD j 0) p1 p2 hu (λj h1 h2=>?_) ?_
 ·obtain⟨t,e1⟩:=Jm r1 (j:=j) (by simpa using h1);obtain⟨t',e2⟩:=Jm r2 (j:=j) (by simpa using h2);have e1':its.toArray[j]=Value.int (ns.getD j 0) t:=by simpa using e1
  have e2':its2.toArray[j]=Value.int (ms.getD j 0) t':=by simpa using e2
  rw[e1',e2'];exact zM _ _ _ _
 rw[YV,YV,<-l1,<-l2,Z58];exact⟨.bl _,H,I,rfl,q⟩
end
theorem Qm (i:Int)(ns:TU):inV (.int i) (ns.map V.int)=decide (i∈ns):=by
 unfold inV;rw[List.any_map,qb];simp only [List.any_eq_true,zv,Function.comp];constructor
 ·rintro ⟨x,hx,e⟩;have:x=i:=by simpa [eqV] using e
  exact this ▸ hx
 intro h;exact⟨i,h,by simp[eqV]⟩
theorem Si (ns:TU):(ns.map V.int).all flatV=true:=by
 rw[List.all_map,List.all_eq_true];intro x _;rfl
end Sb
namespace Sb
open PySem L2
def Con (K:TQ)(mg:TB)(x:Str)(r:Rat):Prop:=∃ a:Addr,mg x=some (.ref a)/\∀ H,SqT K H a [.int r.1,.int r.2]
theorem Z0x {x:Str}{a:Addr}{i j:Int}{t1 t2:Tok}{n:Nat}{sl:Array (Option Value)}(X:K.In h)(G:h.Ns mainGlobals mg)
  (e:W.nsIn K mainGlobals x=some (some (.ref a))) (l:K.lookup a=some ⟨.type "tuple",dd,.seq #[.int i t1,.int j t2] n,sl⟩):Con K mg x (i,j) :=
 ⟨a,zu X G e,λH=>.inr ⟨_,_,_,l,rfl,rfl,sz2,.cons ⟨_,rfl⟩ (.cons ⟨_,rfl⟩ .nil)⟩⟩
def evI (c:Nat)(p:Nat->Bool):List Int:=((List.range c).filter p).map λ(w:Nat)=>(w:Int)
def EvAt (K:TQ)(H:Hp)(c:Nat)(o:TV)(v:V):Prop:=match o with
 | none=>v=.non
 | some p=>∃ a,v=.ref a/\SqT K H a ((evI c p).map V.int)
theorem EvAt.ext {K:TQ}{H H':Hp}{c:Nat}{o:TV}{v:V}(h:EvAt K H c o v)(e:Ext H H'):EvAt K H' c o v:=by
 cases o with
 | none=>exact h
 | some p=>obtain⟨a,q,h⟩:=h;exact⟨a,q,e.sq h⟩
theorem EvAt.same {K:TQ}{H H':Hp}{c:Nat}{o:TV}{v:V}(h:EvAt K H c o v)(e:Same H H'):EvAt K H' c o v:=h.ext (Ext.same e)
def inE (o:TV)(i:Nat):Bool:=match o with
 | none=>true
 | some p=>p i
theorem Jc {c:Nat}{p:Nat->Bool}{i:Nat}:((i:Int)∈evI c p) ↔ i<c/\p i=true:=by
 unfold evI;simp only [XM,zD,qi];constructor
 ·rintro ⟨j,h,e⟩;have:j=i:=by omega
  exact this ▸ h
 intro h;exact⟨i,h,rfl⟩
theorem Z0n (c:Nat)(p:Nat->Bool):evI (c+1) p=evI c p++if p c then [(c:Int)] else []:=by
 unfold evI;rw[zH,Y0V,XR]
 congr 1
 cases h:p c <;> simp[h]
theorem Jj {c A B:Prop}[Decidable c](hc:c)(h:A):if decide c=true then A else B:=by rw[XQ hc];exact Vf h
theorem Pn {c A B:Prop}[Decidable c](hc:¬ c)(h:B):if decide c=true then A else B:=by rw[JD hc];exact X9 h
theorem Z2z {b:Bool}{A B:Prop}(h1:b=true->A)(h0:b=false->B):if b=true then A else B:=by
 cases b with
 | true=>exact Vf (h1 rfl)
 | false=>exact X9 (h0 rfl)
theorem Yf {α:Type}{l:List α}{i:Nat}{x:α}(h:l[i]?=some x):l.take (i+1)=l.take i++[x]:=by rw[List.take_add_one,h];rfl
def cutR (o:TV)(rs:UA):List Rat:=rs.mapIdx λi r=>if inE o i then r else (0,1)
theorem V2 {o:TV}{i:Nat}{r:Rat}(h:rs[i]?=some r):(cutR o rs)[i]?=some (if inE o i then r else (0,1)):=by
 unfold cutR;rw[jp,h];rfl
theorem Yp (o:TV)(rs:UA):(cutR o rs).length=rs.length:=by unfold cutR;simp
def mapR {α:Type}(op:Rat->α)(rs:UA)(i:Nat):List α:=(rs.take i).map op
theorem Ff {α:Type}(op:Rat->α){rs:UA}{i:Nat}{r:Rat}(hr:rs[i]?=some r):mapR op rs (i+1)=mapR op rs i++[op r]:=by
 unfold mapR;rw[List.take_add_one,hr,XR];rfl
theorem Z03 {α:Type}(op:Rat->α){rs:UA}{n:Nat}(hr:rs.length=n):mapR op rs n=rs.map op:=by
 unfold mapR;rw[YM (by omega)]
def ltR (r s:Rat):Bool:=decide (r.1*s.2<s.1*r.2)
theorem Z56 {i:Nat}(h:i<=xs.length):cutV xs none (some (i:Int))=xs.take i:=by
 unfold cutV;rw[HT.sIx_none,HT.sIx_nat,Nat.min_eq_left h];simp
end Sb
namespace Sb
open PySem PySem.Spec PyProof.Rows L2
section
variable {X:Cx}{tg:Expr}{K:TQ}
def iSeq (K:TQ)(tl:TE):TI:=λσ H R=>tl σ H λx H1=>∃ a,x=.ref a/\(((∃ xs,SqL K H1 a xs)/\R (Itl K a) H1) \/ ((∃ xs,SqT K H1 a xs)/\R (Itt K a) H1))
theorem Z48 {l:Expr}(hl:PE X l tl):PI X tg l (iSeq X.K tl):=by
 intro pins s σ H R I h;refine thn (hl pins s σ H _ I h) λv s1 ⟨x,H1,I1,r1,q1⟩=>?_;obtain⟨a,e,⟨⟨xs,hq⟩,q⟩ | ⟨⟨xs,hq⟩,q⟩⟩:=q1
 ·subst e
  cases r1;obtain⟨its,rv,p,hz⟩:=I1.list hq;refine GN p.isList ?_;refine⟨s1.heap.objs.size,[s1.heap.objs.size],_,_,H1,rfl,I1.kept (t':=s1.toks) λb o e=>YB _ e,Tq a _,⟨_,YT _ rfl,rfl,rfl⟩,λb hb=>?_,q⟩;have e:b=s1.heap.objs.size:=by simpa using hb
  subst e;exact I1.fpOk (YD _) (I1.hok.fresh (YD _))
 subst e
 cases r1;obtain⟨its,rv,p,hz⟩:=I1.tuple hq;refine qj (show s1.heap.IsTuple a its.toArray from p) ?_;refine⟨s1.heap.objs.size,[s1.heap.objs.size],_,_,H1,rfl,I1.kept (t':=s1.toks) λb o e=>YB _ e,Ul a _,⟨_,YT _ rfl,rfl,rfl⟩,λb hb=>?_,q⟩;have e:b=s1.heap.objs.size:=by simpa using hb
 subst e;exact I1.fpOk (YD _) (I1.hok.fresh (YD _))
theorem Z33 {a:Addr}{D:Ends}{σ:L2.St}(Pv:Nat->L2.St->Hp->Prop)(hx:SqL K H a xs \/ SqT K H a xs)(h0:Pv 0 σ H)(hS:∀ i σ H',i<=xs.length->Pv i σ H'->Same H H')
  (hs:∀ i x σ H,xs[i]?=some x->Pv i σ H->g x σ H λσ2 H2=>tb { D with nx:=Pv (i+1),ct:=Pv (i+1),bk:=D.nx } σ2 H2) (hd:∀ σ H,Pv xs.length σ H->D.nx σ H) :
  ∃ b,V.ref a=.ref b/\(((∃ xs,SqL K H b xs)/\∃ W:Nat->Nat->L2.St->Hp->Prop,(∃ m,W 0 m σ H)/\∀ i m σ H,W i m σ H →
   ((Itl K b).stop i H/\D.nx σ H) \/ ((Itl K b).go i H/\∃ N:L2.St->Hp->Prop,(∀ σ' H',N σ' H'->∃ m',m'<m/\W (i+1) m' σ' H')/\∀ x H',(Itl K b).yld i H x H'->g x σ H' λσ2 H2=>tb { D with nx:=N,ct:=N,bk:=D.nx } σ2 H2)) ∨
   ((∃ xs,SqT K H b xs)/\∃ W:Nat->Nat->L2.St->Hp->Prop,(∃ m,W 0 m σ H)/\∀ i m σ H,W i m σ H →
   ((Itt K b).stop i H/\D.nx σ H) \/ ((Itt K b).go i H/\∃ N:L2.St->Hp->Prop,(∀ σ' H',N σ' H'->∃ m',m'<m/\W (i+1) m' σ' H')/\∀ x H',(Itt K b).yld i H x H'->g x σ H' λσ2 H2=>tb { D with nx:=N,ct:=N,bk:=D.nx } σ2 H2))):=by
 refine⟨a,rfl,?_⟩;rcases hx with hx | hx
 ·exact .inl ⟨⟨_,hx⟩,Ub (K:=K) (a:=a) (xs:=xs) Pv h0 (λi σ H' hi p=>by
   rcases hx with (z | ⟨o,z⟩) | z
   ·exact .inl (.inl (hS i σ H' hi p _ _ z))
   ·exact .inl (.inr ⟨o,hS i σ H' hi p _ _ z⟩)
   exact .inr z) hs hd⟩
 exact .inr ⟨⟨_,hx⟩,Rk (K:=K) (a:=a) (xs:=xs) Pv h0 (λi σ H' hi p=>Zt (hS i σ H' hi p) hx) hs hd⟩
theorem Sl (hc:X.calm=true)(hK:X.K=K:=by rfl):CallR X (.builtin "sum") (λxs H Q=>∃ (p:Addr) (ns:TU),xs=[.ref p]/\SqL K H p (ns.map V.int)/\Q (.int ns.sum) H):=by
 subst hK;intro pins s σ H xs us Q I r h;obtain⟨p,ns,rfl,hs,q⟩:=h;obtain⟨u,e0,rx⟩:=Uz r
 cases (show u=Value.ref p from rx);subst e0;obtain⟨its,rv,pl,hz⟩:=I.list hs;have hi:IntsAre its ns:=Ql rv;obtain⟨ys,ey⟩:=hi.allInts.items;have en:(numsOf its.toArray.toList)=ns:=hi.numsOf;have lp:s.heap.IsList p (intItems ys):=by rw[<-ey];exact pl.isList
 rw[ey,nums_intItems] at en;refine Z5a (I.ok.hd hc) (λp hp=>(I.pin p (YL _ hp)).1) lp λh' tk t' hk=>⟨.int ns.sum,H,I.kept (t':=tk) hk,⟨t',?_⟩,q⟩;rw[preSum_eq,YM (by simp),en]
end
end Sb
namespace Sb
open PySem L2
theorem M7 {a:Addr}(e:Same H H')(h:SqL K H a xs):SqL K H' a xs:=by
 rcases h with (h | ⟨o,h⟩) | h
 ·exact .inl (.inl (e _ _ h))
 ·exact .inl (.inr ⟨o,e _ _ h⟩)
 exact .inr h
end Sb
namespace Sb
open PySem PySem.Spec PyProof.Rows L2
abbrev bmV:List Value:=[.type "ValueError",.type "Exception",.type "BaseException",.type "object"]
theorem Ml {P:TR}{w:World}{H:Hp}{h:Heap}{a:Addr}{o:HO}(x:ObjOk P w H h a o):∃ ob,h.get? a=some ob:=by
 cases o with
 | lst xs=>obtain⟨_,_,_,_,e⟩:=x;exact⟨_,e⟩
 | tup xs=>obtain⟨_,_,_,ob,e,_⟩:=x;exact⟨_,e⟩
 | dK kvs=>obtain⟨_,_,_,_,ob,_,_,e,_⟩:=x;exact⟨_,e⟩
 | dT kvs=>obtain⟨_,_,_,_,ob,_,_,e,_⟩:=x;exact⟨_,e⟩
 | set S n=>obtain⟨ob,_,_,_,e,_⟩:=x;exact⟨_,e⟩
 | ins C dx fs=>obtain⟨_,_,_,e,_⟩:=x;exact⟨_,e⟩
 | own y=>obtain⟨_,e⟩:=x;exact⟨_,e⟩
 | xd fs=>obtain⟨_,⟨_,_,_,e,_⟩,_⟩:=x;exact⟨_,e⟩
 | rng lo hi=>obtain⟨_,_,_,e⟩:=x;exact⟨_,e⟩
 | frz ob u=>obtain⟨e,_⟩:=x;exact⟨_,e⟩
 | tbl ps=>exact⟨_,(show h.get? a=some _ from x)⟩
 | met f y=>exact⟨_,(show h.get? a=some _ from x)⟩
 | ext φ=>obtain⟨_,e,_⟩:=x;exact e
theorem Ll {P:TR}{w:World}{fs:TJ}{h0 h1 h2 B:Heap}(u:Un fs [] H H' h0 h1)(hB:∀ b o,h0.get? b=some o->b ∉ fs->(∃ o',B.get? b=some o')/\(H b=none->B.get? b=some o))(st:B.StaysIn h2)(up:h1.UpToSlots h2)
  (nf:∀ b∈fs,∃ o,h1.get? b=some o/\∀ vs,o.data≠.fields vs):Un fs [] H H' h0 h2 where
 keep:=λb o e n hf _=>st b o ((hB b o e hf).2 n)
 slot:=λb o e n hf hx=>by
  obtain⟨sl,e1⟩:=u.slot b o e n hf hx;obtain⟨o1,e2,d⟩:=nf b hf;rw[e1] at e2
  cases e2;obtain⟨sl2,e3⟩:=up b _ e1 d;exact⟨sl2,e3⟩
 free:=u.free
 there:=λb o e hx=>by
  by_cases hf:b∈fs
  ·obtain⟨o1,e2,d⟩:=nf b hf;obtain⟨sl,e3⟩:=up b _ e2 d;exact⟨_,e3⟩
  obtain⟨o',e'⟩:=(hB b o e hf).1;exact⟨o',st b o' e'⟩
 tups:=u.tups
 frzs:=u.frzs
 tbls:=u.tbls
section
variable {P:TR}{w:World}{K:TQ}{mg:TB}{base:Heap}{N:TF}{qual:Str}{scope:Scope}{f:Addr}{cd:Value}{A:Around}{outer:TM}{s:Shared}{H:Hp}{E:XK}
end
structure CatchBy (K:TQ)(C D:Addr):Prop where
 nt:W.instIn K (.ref D) (.type "tuple")=some false
 be:W.subIn K (.ref D) (.type "BaseException")=some true
 it:W.kitOne K (.type "int") (.ref D)=some false
 sub:W.subIn K (.ref C) (.ref D)=some true
theorem CatchBy.cls {D:Addr}(c:CatchBy K C D):W.kitCls K (.type "int") (.ref D)=some false:=by
 have e:=c.it;unfold W.kitOne at e;rw[YH (by intro z;cases (GW.mp z))] at e;exact e
theorem L4 {M:Model}{D:Addr}{g:Array GenState}{d:Drawn}{tk:Nat}{os:OsState}{Q:Bool->Shared->Prop}(X:K.In h)(c:CatchBy K C D)
  (he:h.get? e=some oe) (hc:oe.cls=.ref C) (q:Q true ⟨h,g,d,tk,os⟩):wpAny M A (excMatches (.ref e) (.ref D)) Q E ⟨h,g,d,tk,os⟩:=by
 obtain⟨_,l2,_⟩:=W.kit_cls (M:=M) X c.cls;have l3:=Y0N (M:=M) X c.sub;have l1:=W.looks_instIn (M:=M) X c.nt;have l4:=Y0N (M:=M) X c.be;unfold excMatches;refine YA (l1.at ?_);simp only [qh,Y02];refine YA (YN ?_);simp only [zG,Y06];unfold isExcClass;refine YA (YA (YA (YA (l2.at ?_))));simp only [jn];refine l4.at ?_;simp only [Bool.not_true,qh,Y02];refine YN ?_;refine YN ?_;refine YA ?_;refine W.Looks.at (r:=Value.ref C) ?_ ?_
 ·exact hc ▸ (W.Looks.ld he).andThen .now
 refine YA (YA (YA (l3.at ?_)));simp only [jn]
 repeat (first | exact q | refine YN ?_ | refine YA ?_)
section
variable {X:Cx}{k:Nat}{x:Str}{ps:TF}{sp:Sp}{e:Expr}{es:TK}{t:TA}{p pos:Pos}{EX:L2.St->XK}
def tUseX (sp:Sp)(EX:L2.St->XK)(t:TA):TE:=λσ H Q=>t σ H λvs H1=>sp vs H1 Q (EX σ)
end
abbrev tryCx (X:Cx)(pn:TD)(E:TC):Cx:={ X with pn:=pn,xe:=E }
abbrev sutCx (X:Cx)(a:Addr)(pn:TD)(E:TC):Cx:={ X with A:=X.A.mark (some (.ref a)),calm:=false,pn:=pn,xe:=E }
section
variable {X:Cx}{pins pins' pn:TD}{σ:L2.St}{H:Hp}{s:Shared}{E:TC}{a:Addr}
theorem Z4f (ok:X.Ok)(hp:∀ p∈X.pn,p∈pn):(tryCx X pn E).Ok:=⟨ok.mod,ok.kind,ok.glob,ok.blt,ok.above,ok.inj,ok.has,ok.cab,(λhc=>(ok.hd hc).sub hp),ok.frames,ok.stk,ok.exf,ok.bs,ok.bsz,ok.noex,ok.exfs,ok.funs,ok.frf⟩
theorem Z4g (ok:X.Ok):(sutCx X a pn E).Ok:=⟨ok.mod,ok.kind,ok.glob,ok.blt,ok.above,ok.inj,ok.has,ok.cab,(λz=>nomatch z),ok.frames,ok.stk,ok.exf,ok.bs,ok.bsz,ok.noex,ok.exfs,ok.funs,ok.frf⟩
theorem Z30 (I:Inv X pins σ H s):Inv (tryCx X (X.pn++pins) E) [] σ H s :=
 ⟨Z4f I.ok (λp hp=>YL _ hp),I.os,I.bare,I.base,I.loc,I.cell,I.free,I.freeC,λp hp=>I.pin p (by simpa using hp),I.hok,I.len⟩
theorem Vg (ok:X.Ok)(I:Inv (tryCx X (X.pn++pins) E) pins' σ H s):Inv X pins σ H s :=
 ⟨ok,I.os,I.bare,I.base,I.loc,I.cell,I.free,I.freeC,λp hp=>I.pin p (YL _ hp),I.hok,I.len⟩
theorem Jl (I:Inv X pins σ H s):Inv (sutCx X a (X.pn++pins) E) [] σ H s :=
 ⟨Z4g I.ok,I.os,I.bare,I.base,I.loc,I.cell,I.free,I.freeC,λp hp=>I.pin p (by simpa using hp),I.hok,I.len⟩
theorem Ug (ok:X.Ok)(I:Inv (sutCx X a (X.pn++pins) E) pins' σ H s):Inv X pins σ H s :=
 ⟨ok,I.os,I.bare,I.base,I.loc,I.cell,I.free,I.freeC,λp hp=>I.pin p (YL _ hp),I.hok,I.len⟩
theorem Dk {D:Ends}{f:Flow}{s':Shared}(ok:X.Ok)(h:SP (tryCx X (X.pn++pins) E) pins' D f s'):SP X pins D f s':=by
 cases f with
 | next=>obtain⟨σ',H',I,q⟩:=h;exact⟨σ',H',Vg ok I,q⟩
 | brk=>obtain⟨σ',H',I,q⟩:=h;exact⟨σ',H',Vg ok I,q⟩
 | cont=>obtain⟨σ',H',I,q⟩:=h;exact⟨σ',H',Vg ok I,q⟩
 | ret u=>obtain⟨v,σ',H',I,r,q⟩:=h;exact⟨v,σ',H',Vg ok I,r,q⟩
end
section
variable {X:Cx}{x:Str}{C D:Addr}{body:TL}{b₀:Stmt}{suite:TL}{np hp pos:Pos}{tb:(L2.St->XK)->TS}{ts:TS}
end
open PySem.W (Looks findIn specialIn takesIn mroIn clsIn InstAt findObj KitX)
structure ExcRead (K:TQ)(C:Addr):Prop where
 ga:findIn K (.ref C) "__getattribute__"=some (some (.builtin "BaseException.__getattribute__"))
 gh:findIn K (.ref C) "__getattr__"=some none
 cl:findIn K (.ref C) "__class__"=some (some (.builtin "object.__class__"))
 gt:specialIn K (.builtin "object.__class__") "__get__"=some (some (.builtin "getset_descriptor.__get__"))
 tk:takesIn K (.builtin "object.__class__")=some true
 mo:mroIn K C (.type "object")=some true
 be:W.subIn K (.ref C) (.type "BaseException")=some true
def ExAt (h:Heap)(x C:Addr):Prop:=∃ ox,h.get? x=some ox/\ox.cls=.ref C
theorem ExAt.type {M:Model}{x:Addr}(I:ExAt h x C):Looks M h (typeOf (.ref x)) (.ref C):=by
 obtain⟨ox,e,c⟩:=I;rw[<-c];exact (Looks.ld e).andThen .now
section
variable {K:TQ}{C x:Addr}{prog:TR}{w:World}{A:Around}{E:TC}{h:Heap}{g:Array GenState}{d:Drawn}{t:Nat}{os:OsState}
theorem ExcRead.find {M:Model}(R:ExcRead K C)(X:K.In h):Looks M h (Builtin.ObjectAttr.find (.ref x) (.ref C) "__class__") (.bind (.builtin "getset_descriptor.__get__") (.builtin "object.__class__")):=by
 have l1:=GO (M:=M) X R.cl;have l2:Looks M h (Builtin.ObjectAttr.getOf (some (.builtin "object.__class__"))) (some (.builtin "getset_descriptor.__get__")):=W.looks_specialIn (M:=M) X R.gt;have l3:=W.looks_takesIn (M:=M) X R.tk;have l4:Looks M h (Builtin.ObjectAttr.dataDescriptor? (some (.builtin "object.__class__")) (some (.builtin "getset_descriptor.__get__"))) (some (.builtin "getset_descriptor.__get__",.builtin "object.__class__")):=l3.andThen .now;exact l1.andThen (l2.andThen (l4.andThen (Looks.tag .now)))
theorem Z35 {tp:Value}{R':Result->Shared->Prop}(R:ExcRead K C)(X:K.In h)(I:ExAt h x C)(hq:R' (.ok (.ret (.ref C))) ⟨h,g,d,t,os⟩) :
  codeAny (model prog w) A (.call (.builtin "getset_descriptor.__get__") ⟨[.builtin "object.__class__",.ref x,tp],[]⟩) R' ⟨h,g,d,t,os⟩:=by
 have lt:=I.type (M:=model prog w);have lm:=W.looks_mroIn (M:=model prog w) X R.mo;have ty:(⟨h,g,d,t,os⟩:Shared).TypeIs (.builtin "object.__class__") "getset_descriptor":=W.KF.type_class;refine zc (s:=⟨h,g,d,t,os⟩) W.KF.slot_gs.plain W.KF.entry_gs ?_;refine W.KF.slot_gs.check _ _ _ _ _ _ _ _ ty (W.KF.args_gs _ _ _) ?_;unfold Builtin.«getset_descriptor.__get__»;unfold Builtin.Getset_descriptor.descrGet;rw[W.dga_obj];apply YA;apply YN;unfold Builtin.Getset_descriptor.descrGetter Builtin.Getset_descriptor.descrCheckInstance;unfold Builtin.Getset_descriptor.descrNameAndClass isInstance;simp only [W.KF.owner_class]
 repeat lk
 refine⟨?_,?_⟩
 ·exact Y08 _ (by decide +kernel)
 refine codeAny_builtin W.KF.entry_class ?_;unfold Builtin.«object.__class__»;unfold shownTypeOf
 repeat lk
 exact hq
theorem Fp {tk:Tok}{Q:Fin->Shared->Prop}(R:ExcRead K C)(X:K.In h)(I:ExAt h x C)(hq:Q (.done (.ret (.ref C))) ⟨h,g,d,t,os⟩) :
  wpAny (model prog w) A (Builtin.«object.__getattribute__» ⟨[.ref x,.str "__class__" tk],[]⟩) Q E ⟨h,g,d,t,os⟩:=by
 have L0:=I.type (M:=model prog w);have L1:=R.find (M:=model prog w) (x:=x) X;refine YA (YN (YA (YN (YA (L0.at (YA (L1.at ?_)))))));show wpAny _ _ (holding [.builtin "object.__class__"] (call (.builtin "getset_descriptor.__get__") [.builtin "object.__class__",.ref x,.ref C]) >>= ret) _ _ _;refine YA (JN (zx (Z35 R X I ?_)));exact YN hq
theorem Pr {M:Model}{nv:Value}{Q:Unit->Shared->Prop}(R:ExcRead K C)(X:K.In h)(I:ExAt h x C)(hq:Q () ⟨h,g,d,t,os⟩):wpAny M A (checkBuiltinCall "BaseException.__getattribute__" ⟨[.ref x,nv],[]⟩) Q E ⟨h,g,d,t,os⟩:=by
 have L0:=I.type (M:=M);have L1:=Y0N (M:=M) X R.be;have hk:builtinKind "BaseException.__getattribute__"=some .slot:=by decide +kernel
 have hs:splitId "BaseException.__getattribute__"=some ("BaseException","__getattribute__"):=by decide +kernel
 have ha:=F.args_bexc_ga (.ref x) nv;simp only [checkBuiltinCall,hk,hs];refine YA ((show Looks M h (isInstance (.ref x) (.type "BaseException")) true from L0.andThen L1).at ?_)
 repeat (first | assumption | wp_step)
theorem Z0m {tk:Tok}{R':Result->Shared->Prop}(R:ExcRead K C)(X:K.In h)(I:ExAt h x C)(hq:R' (.ok (.ret (.ref C))) ⟨h,g,d,t,os⟩) :
  codeAny (model prog w) A (.call (.builtin "BaseException.__getattribute__") ⟨[.ref x,.str "__class__" tk],[]⟩) R' ⟨h,g,d,t,os⟩ :=
 zc zh.ga.plain F.entry_bexc_ga (Pr R X I (Fp R X I hq))
theorem Fq {Q:Option Value->Shared->Prop}(R:ExcRead K C)(X:K.In h)(I:ExAt h x C)(hq:Q (some (.ref C)) ⟨h,g,d,t+1,os⟩):wpAny (model prog w) A (getAttr? (.ref x) "__class__") Q E ⟨h,g,d,t,os⟩:=by
 have L0:=I.type (M:=model prog w);have L1:=GO (M:=model prog w) X R.ga;have L2:=GO (M:=model prog w) X R.gh;have f3:=zh.ga.bind (.ref x);have e2:(onTheHeap (Value.ref C) && Value.builtin "BaseException.__getattribute__" == Value.builtin "object.__getattribute__")=false:=by
  show (true && (Value.builtin "BaseException.__getattribute__" == Value.builtin "object.__getattribute__"))=false
  decide +kernel
 unfold getAttr? getAttrBy? getAttrBy;refine YA (wpAny_mkText (YA (zd (JN (YA (L0.at (YA (L1.at ?_))))))));show wpAny _ _ (if (onTheHeap (Value.ref C) && Value.builtin "BaseException.__getattribute__" == Value.builtin "object.__getattribute__")=true then _ else _) _ _ _;rw[e2,YH YO];unfold getAttrByItsOwn;refine YA ((show Looks (model prog w) h (hookBefore (.ref C)) none from L2).at ?_);refine YA (zd (JN ?_));show wpAny _ _ (boundAndCalled (.builtin "BaseException.__getattribute__") (.ref x) _) _ _ _;unfold boundAndCalled;rw[f3];refine YA (YN ?_);refine zx (Z0m R X I ?_);exact YN (YN hq)
theorem Mv (R:ExcRead K C):KitX K (.ref x) (.ref C) (λh=>ExAt h x C) where
 ty:=λ_ _ _ I=>I.type
 it:=λ_ _ X _=>by
  have e:=R.mo;unfold mroIn at e;obtain⟨cd,hc,_⟩:=Y0q.mp e;unfold clsIn at hc;split at hc
  ·rename_i ho
   intro A' Q' E' s' k q;unfold isType loadHead;exact YA (wpAny_loadPart (k _ _ (X _ _ ho)) (YN q))
  cases hc
 ne:=λh tp dd its n sl X htp=>by
  have e:=R.mo;unfold mroIn at e;obtain⟨cd,hc,_⟩:=Y0q.mp e;refine Bool.eq_false_iff.mpr λz=>?_
  cases Value.ref.inj (GW.mp z);unfold clsIn at hc;split at hc
  ·rename_i ho
   have z:=(X _ _ ho).symm.trans htp
   cases z
  cases hc
 ca:=λ{_ _ _ _ _ s} X I k=>by
  obtain⟨h,g,d,t,os⟩:=s;exact Fq R X I k
end
section
variable {X:Cx}{K:TQ}
end
end Sb
namespace Sb
open PySem PySem.Spec PyProof.Rows L2
section
variable {X:Cx}{pins:TD}{σ:L2.St}{H:Hp}{s:Shared}
theorem Po {a:Addr}{o:HO}(I:Inv X pins σ H s)(hn:H a=none)(ok:ObjOk X.prog X.w (upd H a o) s.heap a o)(h0:∀ ob,X.s₀.heap.get? a=some ob->False)(hl:a≠X.env.locals)(hc:∀ x c,X.env.cells.lookup x=some c->c≠a)(hp:∀ p∈X.pn++pins,p.1≠a):Inv X pins σ (upd H a o) s where
 ok:=I.ok
 os:=I.os
 bare:=I.bare
 base:=by
  have u:=I.base;exact⟨u.keep,u.slot,λb ob e n hx=>by rw[Ze (show b≠a from λz=>h0 ob (by rw[<-z];exact e))];exact u.free b ob e n hx,u.there,λb xs e=>by
   have:=u.tups b xs e;rw[Ze (λz=>by rw[z,hn] at this;cases this)];exact this,λb ob v e=>by
   have:=u.frzs b ob v e;rw[Ze (λz=>by rw[z,hn] at this;cases this)];exact this,λb ps e=>by
   obtain⟨m,this⟩:=u.tbls b ps e;exact⟨m,by rw[Ze (λz=>by rw[z,hn] at this;cases this)];exact this⟩⟩
 loc:=I.loc
 cell:=I.cell
 free:=by rw[Ze hl.symm];exact I.free
 freeC:=λx c e=>by rw[Ze (hc x c e)];exact I.freeC x c e
 pin:=λp q=>by
  obtain⟨h1,h2,h3⟩:=I.pin p q;exact⟨h1,by rw[Ze (hp p q)];exact h2,h3⟩
 hok:=λb ob e=>by
  by_cases z:b=a
  ·subst z;rw[Zb] at e
   cases e;exact ok
  rw[Ze z] at e;exact (I.hok b ob e).stay (λc u _ q=>q) (λc q=>by rw[Ze (λz=>by rw[z,hn] at q;cases q)];exact q) λc xs q=>by rw[Ze (λz=>by rw[z,hn] at q;cases q)];exact q
 len:=I.len
theorem Z0b {i:Nat}{n:Str}{v:Option Value}{h':Heap}{m:TB}(I:Inv X pins σ H s)(hi:X.N[i]?=some n)(hN:X.N.Nodup)(hk:X.env.kindOf n=some .local)(hm:∀ (j:Nat) (x:Str) (w:V),X.N[j]?=some x->σ[j]?=some (some w)->Vis X.env.scope x->∃ u,RelV w u/\Look X.env s.heap m x u)
  (hn:h'.Ns X.env.locals (λx=>if x=n then v else m x)) (sb:Heap.SameBut X.env.locals s.heap h') (tk:Nat):Inv X pins (σ.set i none) H { s with heap:=h',toks:=tk } where
 ok:=I.ok
 os:=I.os
 bare:=I.bare
 base:=by
  have u:=I.base;have k:∀ b o,b≠X.env.locals->s.heap.get? b=some o->h'.get? b=some o:=λb o hb e=>(sb.2 b hb).trans e;have nl:∀ b o,X.s₀.heap.get? b=some o->b≠X.env.locals:=λb o e z=>by
   rw[z] at e;exact absurd (YU (YI e) I.ok.above) (XO _)
  exact⟨λb o e n1 f x=>k b o (nl b o e) (u.keep b o e n1 f x),λb o e n1 f x=>by
    obtain⟨sl,q⟩:=u.slot b o e n1 f x;exact⟨sl,k b _ (nl b o e) q⟩,u.free,λb o e x=>by
    obtain⟨o',q⟩:=u.there b o e x;exact⟨o',k b _ (nl b o e) q⟩,u.tups,u.frzs,u.tbls⟩
 loc:=⟨_,hn,λj x w e1 e2 e3=>by
  have hj:j≠i:=by
   rintro rfl;have:j<σ.length:=by
    have:=(YE.mp e2).1
    simpa using this
   rw[JP this] at e2
   cases e2
  rw[GE (XJ hj)] at e2;obtain⟨u,ru,lk⟩:=hm j x w e1 e2 e3;refine⟨u,ru,?_⟩;have hx:x≠n:=by
   rintro rfl;exact hj (Q7 hN e1 hi)
  rcases lk with ⟨z,q⟩ | ⟨z,c,hc,ic⟩
  ·exact .inl ⟨z,by show (if x=n then v else m x)=some u;rw[YH hx];exact q⟩
  refine .inr ⟨z,c,hc,?_⟩;obtain⟨o,ho,hd⟩:=ic;have cl:c≠X.env.locals:=by
   rintro rfl;obtain⟨oo,es,ep,e,d,_⟩:=hn;obtain⟨m0,⟨oo',es',ep',e',d',_⟩,_⟩:=I.loc;rw[ho] at e'
   cases e';rw[hd] at d'
   cases d'
  exact⟨o,(sb.2 c cl).trans ho,hd⟩⟩
 cell:=λx c e=>by
  obtain⟨v',o,ho,hd⟩:=I.cell x c e;have cl:c≠X.env.locals:=by
   rintro rfl;obtain⟨m0,⟨oo',es',ep',e',d',_⟩,_⟩:=I.loc;rw[ho] at e'
   cases e';rw[hd] at d'
   cases d'
  exact⟨v',o,(sb.2 c cl).trans ho,hd⟩
 free:=I.free
 freeC:=I.freeC
 pin:=λp q=>by
  obtain⟨h1,h2,h3,h4⟩:=I.pin p q;exact⟨(sb.2 p.1 h3).trans h1,h2,h3,h4⟩
 hok:=λb ob e=>(I.hok b ob e).stay (λc u hc q=>by
  have:c≠X.env.locals:=by
   rintro rfl;rcases hc with rfl | hc
   ·rw[I.free] at e;cases e
   rw[I.free] at hc;cases hc
  exact (sb.2 c this).trans q) (λ_ q=>q) λ_ _ q=>q
 len:=by rw[qc];exact I.len
end
section
variable {X:Cx}{x n:Str}{i:Nat}{C D:Addr}{body:TL}{b₀:Stmt}{suite:TL}{np hp pos:Pos}{tb:(L2.St->XK)->TS}{ts:TS}
def unN (i:Nat)(Ds:Ends):Ends:={ nx:=λσ H=>Ds.nx (σ.set i none) H,rt:=Ds.rt,bk:=λσ H=>Ds.bk (σ.set i none) H,ct:=λσ H=>Ds.ct (σ.set i none) H }
end
def flatE:V->Bool
 | .non | .bl _ | .int _ | .str _ | .ref _=>true
 | _=>false
def EqU (K:TQ)(H:Hp):Nat->V->V->Prop
 | 0,x,y=>x=y/\flatE x=true
 | n+1,x,y=>(x=y/\flatE x=true) \/ ∃ (a b:Addr) (xs ys:TY),x=.ref a/\y=.ref b/\((SqL K H a xs/\SqL K H b ys) \/ (SqT K H a xs/\SqT K H b ys))/\Paired (EqU K H n) xs ys
theorem EqU.flat {K:TQ}{H:Hp}{n:Nat}{x:V}(h:flatE x=true):EqU K H n x x:=by
 cases n with
 | zero=>exact⟨rfl,h⟩
 | succ n=>exact .inl ⟨rfl,h⟩
theorem Paired.getB {α β:Type}{R:α->β->Prop}:∀ {xs:List α} {ys:List β} {i:Nat} {x:α} {y:β},Paired R xs ys->xs[i]?=some x->ys[i]?=some y->R x y
 | _,_,_,_,_,.nil,e,_=>by simp at e
 | _,_,0,_,_,.cons q _,e,e'=>by
  simp at e e';subst e e';exact q
 | _,_,i+1,x,y,.cons _ t,e,e'=>Paired.getB (i:=i) t (by simpa using e) (by simpa using e')
section
variable {X:Cx}{pins:TD}{σ:L2.St}{H:Hp}{s:Shared}{K:TQ}
theorem Ps {A:Around}{x:V}{u v:Value}(h:flatE x=true)(ru:RelV x u)(rv:RelV x v):SeqAt.EqAt A s u v true:=by
 cases x with
 | non=>cases ru;cases rv;exact zF _
 | bl b=>cases ru;cases rv;exact zF _
 | int i =>
  obtain⟨t,rfl⟩:=ru;obtain⟨t',rfl⟩:=rv;have:=zM (A:=A) (s:=s) i t i t'
  rwa [GY] at this
 | str z =>
  obtain⟨t,rfl⟩:=ru;obtain⟨t',rfl⟩:=rv;have:=SeqAt.EqAt.str_str (A:=A) (s:=s) z t z t'
  rwa [GY] at this
 | ref a=>cases ru;cases rv;exact zF _
 | byt b=>cases h
 | flt b=>cases h
 | ty b=>cases h
theorem Vl (n:Nat):(List.range n).all (λ_=>true)=true:=by simp
theorem Ku (I:Inv X pins σ H s):∀ (n:Nat) (A:Around) (x y:V) (u v:Value),A.units+n<cLine->EqU X.K H n x y->RelV x u->RelV y v->SeqAt.EqAt A s u v true
 | 0,A,x,y,u,v,_,⟨e,h⟩,ru,rv=>by
  subst e;exact Ps h ru rv
 | n+1,A,x,y,u,v,hu,h,ru,rv=>by
  rcases h with ⟨e,h⟩ | ⟨a,b,xs,ys,rfl,rfl,h,p⟩
  ·subst e;exact Ps h ru rv
  cases ru
  cases rv;by_cases hab:a=b
  ·subst hab;exact zF _
  refine SeqAt.EqAt.of_refs hab ?_;have lp:=XG p;rcases h with ⟨h1,h2⟩ | ⟨h1,h2⟩
  ·obtain⟨i1,r1,p1,_⟩:=I.list h1;obtain⟨i2,r2,p2,_⟩:=I.list h2;have l1:=r1.length;have l2:=r2.length;have:=SeqAt.RcAt.lists (A:=A) (e:=λ_=>true) p1.isList p2.isList (by simp;omega) (by omega) λj h1 h2=>by
    have h1':j<i1.length:=by simpa using h1
    have h2':j<i2.length:=by simpa using h2
    obtain⟨w1,e1,q1⟩:=r1.get (i:=j) (x:=xs[j]'(by omega)) (by simp);obtain⟨w2,e2,q2⟩:=r2.get (i:=j) (x:=ys[j]'(by omega)) (by simp);have g1:i1.toArray[j]=w1:=by
     have:i1[j]?=some i1[j]:=by simp[h1']
     rw[this] at e1
     simpa using YK e1
    have g2:i2.toArray[j]=w2:=by
     have:i2[j]?=some i2[j]:=by simp[h2']
     rw[this] at e2
     simpa using YK e2
    rw[g1,g2];exact Ku I n A.in1 _ _ _ _ (by show A.units+1+n<cLine;omega) (Paired.getB p (i:=j) (by simp) (by simp)) q1 q2
   rwa [Vl] at this
  obtain⟨i1,r1,p1,_⟩:=I.tuple h1;obtain⟨i2,r2,p2,_⟩:=I.tuple h2;have l1:=r1.length;have l2:=r2.length;have:=SeqAt.RcAt.tuples (A:=A) (e:=λ_=>true) p1 p2 (by omega) λj h1 h2=>by
   have h1':j<i1.length:=by simpa using h1
   have h2':j<i2.length:=by simpa using h2
   obtain⟨w1,e1,q1⟩:=r1.get (i:=j) (x:=xs[j]'(by omega)) (by simp);obtain⟨w2,e2,q2⟩:=r2.get (i:=j) (x:=ys[j]'(by omega)) (by simp);have g1:i1.toArray[j]=w1:=by
    have:i1[j]?=some i1[j]:=by simp[h1']
    rw[this] at e1
    simpa using YK e1
   have g2:i2.toArray[j]=w2:=by
    have:i2[j]?=some i2[j]:=by simp[h2']
    rw[this] at e2
    simpa using YK e2
   rw[g1,g2];exact Ku I n A.in1 _ _ _ _ (by show A.units+1+n<cLine;omega) (Paired.getB p (i:=j) (by simp) (by simp)) q1 q2
  rw[Vl] at this;have e:(i1.toArray.size == i2.toArray.size)=true:=by simp;omega
  rw[e] at this;exact this
inductive rAlike (K:TQ) (ans:Bool) (x:V) (y:V) (H:Hp) (Q:VK):Prop
 | i (n:Nat) (a b:Addr) (xs ys:TY) (_:x=.ref a) (_:y=.ref b) (_:n<=60) (_:((SqL K H a xs/\SqL K H b ys) \/ (SqT K H a xs/\SqT K H b ys))) (_:Paired (EqU K H n) xs ys) (_:Q (.bl ans) H)
theorem V3 (I:Inv X pins σ H s){n:Nat}{A:Around}{xs ys:TY}{i1 i2:TH}(hu:A.units+n<cLine)(p:Paired (EqU X.K H n) xs ys)(r1:Vals xs i1)(r2:Vals ys i2)(j:Nat)(h1:j<i1.toArray.size)(h2:j<i2.toArray.size):SeqAt.EqAt A s i1.toArray[j] i2.toArray[j] true:=by
 have l1:=r1.length;have l2:=r2.length;have h1':j<i1.length:=by simpa using h1
 have h2':j<i2.length:=by simpa using h2
 obtain⟨w1,e1,q1⟩:=r1.get (i:=j) (x:=xs[j]'(by omega)) (by simp);obtain⟨w2,e2,q2⟩:=r2.get (i:=j) (x:=ys[j]'(by omega)) (by simp);have g1:i1.toArray[j]=w1:=by
  have:i1[j]?=some i1[j]:=by simp[h1']
  rw[this] at e1
  simpa using YK e1
 have g2:i2.toArray[j]=w2:=by
  have:i2[j]?=some i2[j]:=by simp[h2']
  rw[this] at e2
  simpa using YK e2
 rw[g1,g2];exact Ku I n A _ _ _ _ hu (Paired.getB p (i:=j) (by simp) (by simp)) q1 q2
theorem Z4c (hu:X.A.units+64<cLine)(hK:X.K=K:=by rfl):OpR X (compareOp .NotEq) (rAlike K false):=by
 subst hK;intro pins s σ H x y v u Q I rx ry h;obtain⟨n,a,b,xs,ys,rfl,rfl,hn,h,p,q⟩:=h
 cases rx
 cases ry;have lp:=XG p;rcases h with ⟨h1,h2⟩ | ⟨h1,h2⟩
 ·obtain⟨i1,r1,p1,_⟩:=I.list h1;obtain⟨i2,r2,p2,_⟩:=I.list h2;have l1:=r1.length;have l2:=r2.length;refine SeqAt.RcNeAt.lists (A:=X.A) (e:=λ_=>true) p1.isList p2.isList (by simp;omega) (by omega) (λj h1 h2=>V3 I (by show X.A.units+1+n<cLine;omega) p r1 r2 j h1 h2) _ _ _ _ ?_;rw[Vl];exact⟨.bl false,H,I,rfl,q⟩
 obtain⟨i1,r1,p1,_⟩:=I.tuple h1;obtain⟨i2,r2,p2,_⟩:=I.tuple h2;have l1:=r1.length;have l2:=r2.length;refine SeqAt.RcNeAt.tuples (A:=X.A) (e:=λ_=>true) p1 p2 (by omega) (λj h1 h2=>V3 I (by show X.A.units+1+n<cLine;omega) p r1 r2 j h1 h2) _ _ _ _ ?_;have e:(i1.toArray.size == i2.toArray.size)=true:=by simp;omega
 rw[Vl,e];exact⟨.bl false,H,I,rfl,q⟩
inductive rIndex (K:TQ) (x:V) (vs:TY) (H:Hp) (Q:VK):Prop
 | i (l:Addr) (ns:TU) (i:Int) (j:Nat) (_:x=.ref l) (_:vs=[.int i]) (_:SqL K H l (ns.map V.int)) (_:ns[j]?=some i) (_:(∀ m,m<j->ns[m]?≠some i)) (_:ns.length<=1000) (_:Q (.int j) H)
def eInt (i:Int):Value->Bool
 | .int a _=>a == i
 | _=>false
theorem Qa (hK:X.K=K:=by rfl):MtM X "list.index" (rIndex K):=by
 subst hK;intro pins s σ H x vs v us Q I rx rv h;obtain⟨l,ns,i,j,rfl,rfl,hq,hj,hno,hl,q⟩:=h
 cases rx;obtain⟨u,rfl,ru⟩:=rv.one;obtain⟨t,rfl⟩:=ru;obtain⟨its,r,pl,hz⟩:=I.list hq;obtain⟨⟨cls,dd,data,sl⟩,ho,hc,n,hd⟩:=pl.isList;simp only at hc hd;subst hc hd;have lr:=r.length;rw[YC] at lr;have at_:∀ (m:Nat) (hm:m<its.toArray.size),∃ t',its.toArray[m]=Value.int (ns[m]'(by simp at hm;omega)) t':=λm hm=>by
  have hm':m<its.length:=by simpa using hm
  obtain⟨w,e,q⟩:=r.get (i:=m) (x:=V.int (ns[m]'(by omega))) (by simp);obtain⟨t',rfl⟩:=q;refine⟨t',?_⟩;have:its[m]?=some its[m]:=by simp[hm']
  rw[this] at e
  simpa using YK e
 have hjn:j<ns.length:=(YE.mp hj).1;have hjs:j<its.toArray.size:=by simp;omega
 refine jj F.slot_list_index ⟨_,ho,rfl⟩ F.entry_list_index (F.args_list_index_2 _ _) (SeqAt.list_indexAt l its.toArray n dd sl (.int i t) (eInt i) j hjs (by omega) ?_ ?_) ⟨ho,λy hy=>?_,?_⟩
 ·obtain⟨t',e⟩:=at_ j hjs;rw[e];have:ns[j]=i:=by
   have:=(YE.mp hj).2;exact this
  show (ns[j] == i)=true;rw[this];exact GY i
 ·intro m hm hmj;obtain⟨t',e⟩:=at_ m hm;rw[e];have hm':m<ns.length:=by simp at hm;omega
  show (ns[m] == i)=false;apply beq_false_of_ne;intro z;exact hno m hmj (by rw[<-z];simp[hm'])
 ·obtain⟨m,hm,e⟩:=Array.mem_iff_getElem.mp hy;obtain⟨t',e'⟩:=at_ m hm;rw[<-e,e'];exact zM _ _ _ _
 exact⟨.int j,H,I.tok _,⟨_,rfl⟩,q⟩
theorem Fy (hc:X.calm=true)(hK:X.K=K:=by rfl):CallR X (.builtin "min") (λxs H Q=>∃ (p:Addr) (ns:TU),xs=[.ref p]/\SqL K H p (ns.map V.int)/\ns≠[]/\∀ M,M∈ns->(∀ a∈ns,M<=a)->Q (.int M) H):=by
 subst hK;intro pins s σ H xs us Q I r h;obtain⟨p,ns,rfl,hs,hne,q⟩:=h;obtain⟨u,e0,rx⟩:=Uz r
 cases (show u=Value.ref p from rx);subst e0;obtain⟨its,rv,pl,hz⟩:=I.list hs;have hi:IntsAre its ns:=Ql rv;obtain⟨ys,ey⟩:=hi.allInts.items;have hns:ns=ys.toList.map (·.1):=by
  rw[<-hi.numsOf,<-nums_intItems,<-ey]
 have hsz:0<ys.size:=by
  have h3:0<ns.length:=List.length_pos_iff.mpr hne;rw[hns,YC,ze] at h3;exact h3
 have lp:s.heap.IsList p (intItems ys):=by rw[<-ey];exact pl.isList
 refine Z5t (I.ok.hd hc) (λp hp=>(I.pin p (YL _ hp)).1) lp hsz λv h' tk hv hk=>?_;obtain⟨t,rfl⟩:=intItems_at hv;obtain⟨h1,h2⟩:=argBest_lt (numAt ys) (ys.size - 1);refine⟨.int _,H,I.kept (t':=tk) hk,⟨t,rfl⟩,q _ ?_ λa ha=>?_⟩
 ·rw[hns,numAt_eq];exact getD_mem (by rw[YC,ze];omega)
 rw[hns] at ha;obtain⟨j,hj,rfl⟩:=mem_getD ha;rw[YC,ze] at hj;rw[<-numAt_eq];exact h2 j (by omega)
end
end Sb
namespace Sb
open PySem PySem.Builtin.SmallTypes
abbrev yH1 (h:Heap)(t:Addr):Heap:=h.push { cls:=.type "list_iterator",data:=.fields #[.ref t,.int 0 0] }
abbrev yH2 (h:Heap)(t u:Addr):Heap:=(yH1 h t).push { cls:=.type "list_iterator",data:=.fields #[.ref u,.int 0 0] }
abbrev yH3 (h:Heap)(t u:Addr):Heap:=(yH2 h t u).push { cls:=.type "tuple",data:=.seq #[.ref h.objs.size,.ref (yH1 h t).objs.size] }
abbrev yH4 (h:Heap)(t u:Addr):Heap:=(yH3 h t u).push { cls:=.type "tuple",data:=.seq #[.none,.none] }
abbrev yH5 (h:Heap)(t u:Addr):Heap:=(yH4 h t u).push { cls:=.type "zip",data:=.fields #[.none,.bool false,.bool false,.ref (yH2 h t u).objs.size,.ref (yH3 h t u).objs.size] }
theorem Kh (t u:Addr)(xs ys:Array Value):Meets (Builtin.«zip.__new__» ⟨[.type "zip",.ref t,.ref u],[]⟩) (λ_ R s=>s.heap.IsList t xs/\s.heap.IsList u ys ∧
  R (.ok (.ret (.ref (yH4 s.heap t u).objs.size))) { s with heap:=yH5 s.heap t u }) :=
 .of_wp λprog w A R s h=>by
  obtain⟨hp,g,d,tk,os⟩:=s;obtain⟨h1,h2,h⟩:=h;have hsub:=sub_zip;have T1:Heap.IsList (Shared.heap ⟨hp,g,d,tk,os⟩) t xs:=h1;have T2:Heap.IsList (Shared.heap ⟨hp.push { cls:=.type "list_iterator",data:=.fields #[.ref t,.int 0 0] },g,d,tk,os⟩) u ys:=Heap.IsList.push h2 _
  wp_walk using GN T1,GN T2
  exact⟨_,rfl,h⟩
theorem Fx {prog:TR}{w:World}{A:Around}{E:TC}{u:Addr}{xs ys:Array Value}{Q:TC}(h1:s.heap.IsList t xs)(h2:s.heap.IsList u ys)
  (h:∀ h',IsZip h' (s.heap.objs.size+4) (s.heap.objs.size+2) (s.heap.objs.size+3) .none->IsPair h' (s.heap.objs.size+2) (.ref s.heap.objs.size) (.ref (s.heap.objs.size+1))->IsPair h' (s.heap.objs.size+3) .none .none →
   h'.IsListIter s.heap.objs.size t 0->h'.IsListIter (s.heap.objs.size+1) u 0->h'.objs.size=s.heap.objs.size+5->(∀ c o,s.heap.get? c=some o->h'.get? c=some o)->Q (.ref (s.heap.objs.size+4)) { s with heap:=h' }) :
  wpAny (model prog w) A (call (.type "zip") [.ref t,.ref u]) Q E s:=by
 refine callType_new F.called_zip (by decide) (F.typeCall_zip_2 _ _) (F.newCall_zip_2 _ _) (λobj=>F.args_object_init_3 obj _ _) F.entry_zip_new (Kh t u xs ys) ⟨h1,h2,?_⟩;have e1:(yH1 s.heap t).objs.size=s.heap.objs.size+1:=JI ..;have e2:(yH2 s.heap t u).objs.size=s.heap.objs.size+2:=by rw[JI,e1]
 have e3:(yH3 s.heap t u).objs.size=s.heap.objs.size+3:=by rw[JI,e2]
 have e4:(yH4 s.heap t u).objs.size=s.heap.objs.size+4:=by rw[JI,e3]
 have e5:(yH5 s.heap t u).objs.size=s.heap.objs.size+5:=by rw[JI,e4]
 have p5:(yH5 s.heap t u).get? (yH4 s.heap t u).objs.size=some _:=YT _ rfl;have p4:(yH5 s.heap t u).get? (yH3 s.heap t u).objs.size=some _:=YB _ (YT _ rfl);have p3:(yH5 s.heap t u).get? (yH2 s.heap t u).objs.size=some _:=YB _ (YB _ (YT _ rfl));have p2:(yH5 s.heap t u).get? (yH1 s.heap t).objs.size=some _:=YB _ (YB _ (YB _ (YT _ rfl)));have p1:(yH5 s.heap t u).get? s.heap.objs.size=some _:=YB _ (YB _ (YB _ (YB _ (YT _ rfl))));show _/\_;rw[e2,e3,e4] at p5;rw[e1,e2] at p3;rw[e3] at p4;rw[e1] at p2;rw[e4];refine⟨⟨_,p5,rfl⟩,h _ p5 p3 p4 ⟨_,p1,rfl,rfl⟩ ⟨_,p2,rfl,rfl⟩ e5 λc o x=>?_⟩;exact YB _ (YB _ (YB _ (YB _ (YB _ x))))
theorem Mq (t:Addr)(ys:Array Value)(n:Nat)(dd:TN)(sl:Array (Option Value)):Meets (Builtin.«enumerate.__new__» ⟨[.type "enumerate",.ref t],[]⟩) (λ_ R s=>s.heap.get? t=some { cls:=.type "list",dict:=dd,data:=.seq ys n,slots:=sl } ∧
  R (.ok (.ret (.ref (yH1 s.heap t).objs.size))) { s with heap:=(yH1 s.heap t).push { cls:=.type "enumerate",data:=.fields #[.none,.bool false,.ref s.heap.objs.size,rawInt 0,.none,.none] } }) :=
 .of_wp λprog w A R s h=>by
  obtain⟨hp,g,d,tk,os⟩:=s;obtain⟨hl,h⟩:=h;have hsub:=sub_enumerate;have hL:Heap.IsList (Shared.heap ⟨hp,g,d,tk,os⟩) t ys:=⟨_,hl,rfl,n,rfl⟩
  wp_walk using JO hl
  refine wpAny_stack_any λst=>YN ?_;split
  ·rename_i c _ _ _ _ _
   cases (c == Value.type "enumerate")
   ·wp_walk using JO hl,GN hL
    exact⟨_,rfl,h⟩
   wp_walk using JO hl,GN hL
   exact⟨_,rfl,h⟩
  wp_walk using JO hl,GN hL
  exact⟨_,rfl,h⟩
theorem Kw {prog:TR}{w:World}{A:Around}{E:TC}{ys:Array Value}{Q:TC}(ht:s.heap.IsList t ys)
  (h:∀ h',IsEnum h' (s.heap.objs.size+1) s.heap.objs.size 0 .none->h'.IsListIter s.heap.objs.size t 0->h'.objs.size=s.heap.objs.size+2->(∀ b o,s.heap.get? b=some o->h'.get? b=some o)->Q (.ref (s.heap.objs.size+1)) { s with heap:=h' }) :
  wpAny (model prog w) A (call (.type "enumerate") [.ref t]) Q E s:=by
 obtain⟨⟨c,dd,dt,sl⟩,e,c1,n,d1⟩:=ht
 cases c1
 cases d1;refine callType_new F.called_enumerate (by decide) (F.typeCall_enumerate_1 _) (F.newCall_enumerate_1 _) (λobj=>F.args_object_init_2 obj _) F.entry_enumerate_new (Mq t ys n dd sl) ⟨e,?_⟩;have hz:(yH1 s.heap t).objs.size=s.heap.objs.size+1:=JI ..;show _/\_;rw[hz];have he:IsEnum ((yH1 s.heap t).push { cls:=.type "enumerate",data:=.fields #[.none,.bool false,.ref s.heap.objs.size,rawInt 0,.none,.none] }) (s.heap.objs.size+1) s.heap.objs.size 0 .none:=by
  have q:=YT (yH1 s.heap t) (o:={ cls:=.type "enumerate",data:=.fields #[.none,.bool false,.ref s.heap.objs.size,rawInt 0,.none,.none] }) rfl;rw[hz] at q;exact q
 exact⟨⟨_,he,rfl⟩,h _ he ⟨_,YB _ (YT _ rfl),rfl,rfl⟩ (by rw[JI,hz]) λb o x=>YB _ (YB _ x)⟩
end Sb
namespace Sb
open PySem PySem.Spec PyProof.Rows L2
section
variable {X:Cx}{pins:TD}{σ:L2.St}{H:Hp}{s:Shared}
theorem Ty {b:Addr}(I:Inv X pins σ H s)(hf:FpOk X pins H b)(h:SqL X.K H t xs):t≠b:=by
 rintro rfl;rcases h with (h | ⟨o,h⟩) | ⟨o,its,n,h,_⟩
 ·rw[hf.1] at h;cases h
 ·rw[hf.1] at h;cases h
 have e:=I.ok.mod.kin _ _ h;rcases hf.2.2.2.1 with z | z
 ·exact I.ok.noex _ _ e z
 exact absurd (YU (YI (I.ok.bs _ _ e).1) z) (XO _)
end
def ItzL (K:TQ)(t u:Addr):It :=
 ⟨λi H=>∃ xs ys,SqL K H t xs/\SqL K H u ys/\i<xs.length/\i<ys.length,
   λi H v H'=>∃ p x y,v=.ref p/\H p=none/\H'=upd H p (.tup [x,y])/\(∀ xs,SqL K H t xs->xs[i]?=some x)/\∀ ys,SqL K H u ys->ys[i]?=some y,
   λi H=>∃ xs ys,SqL K H t xs/\SqL K H u ys/\i=xs.length⟩
theorem G1 {P:TR}{z TI TO i1 i2:Addr}(O:ZOff z TI TO i1 i2)(t u:Addr) :
  Turn P w K (.Tuple es kk tp) (ItzL K t u) [z,TI,TO,i1,i2] z (λi h=>IsZip h z TI TO .none/\IsPair h TI (.ref i1) (.ref i2)/\(∃ a b,IsPair h TO a b)/\h.IsListIter i1 t i/\h.IsListIter i2 u i) where
 mem:=by simp
 obj:=λi h ⟨hz,hTI,⟨a,b,hTO⟩,⟨o1,e1,_,d1⟩,⟨o2,e2,_,d2⟩⟩ b hb=>by
  simp only [YW,JC,qk] at hb;rcases hb with rfl | rfl | rfl | rfl | rfl
  ·exact⟨_,hz,λv q=>by have q':Data.fields _=Data.cell v:=q;cases q'⟩
  ·exact⟨_,hTI,λv q=>by have q':Data.seq _ _=Data.cell v:=q;cases q'⟩
  ·exact⟨_,hTO,λv q=>by have q':Data.seq _ _=Data.cell v:=q;cases q'⟩
  ·exact⟨_,e1,λv q=>by rw[d1] at q;cases q⟩
  exact⟨_,e2,λv q=>by rw[d2] at q;cases q⟩
 keep:=λi h h' ⟨hz,hTI,⟨a,b,hTO⟩,⟨o1,e1,r1⟩,⟨o2,e2,r2⟩⟩ k=>⟨k z (by simp) _ hz,k TI (by simp) _ hTI,⟨a,b,k TO (by simp) _ hTO⟩,⟨o1,k i1 (by simp) _ e1,r1⟩,⟨o2,k i2 (by simp) _ e2,r2⟩⟩
 item:=by
  intro X hP hw hK hc i pins s σ H E I hf st hg;subst hP hw hK;obtain⟨xs,ys,hx,hy,lx,ly⟩:=hg;obtain⟨hz,hTI,⟨a,b,hTO⟩,c1,c2⟩:=st;obtain⟨u1,v1,p1',_⟩:=I.list hx;have p1:=p1'.isList;obtain⟨u2,v2,p2',_⟩:=I.list hy;have p2:=p2'.isList;have n1:=v1.length;have n2:=v2.length;have ne:∀ b∈[z,TI,TO,i1,i2],t≠b/\u≠b:=λb hb=>⟨Ty I (hf b hb) hx,Ty I (hf b hb) hy⟩;have off:∀ b∈[z,TI,TO,i1,i2],∀ x,(b,x) ∉ X.pn:=λb hb x m=>(hf b hb).2.2.2.2.2 _ (YL _ m) rfl;have qI:∀ p∈X.pn,s.heap.get? p.1=some p.2:=λp hp=>(I.pin p (YL _ hp)).1;have qO:∀ b∈[z,TI,TO,i1,i2],∀ p∈X.pn,p.1≠b:=λb hb p hp=>(hf b hb).2.2.2.2.2 p (YL _ hp);have D:Off z TI TO i1 i2 (i1::t::X.pn.map Prod.fst) (i2::u::X.pn.map Prod.fst):=⟨O.a1,O.a2,O.a3,O.a4,O.a5,O.a6,O.a7,O.a8,O.a9,O.b1,
   by simp[O.a3.symm,(ne z (by simp)).1.symm,off z (by simp)],by simp[O.a8,(ne TO (by simp)).1.symm,off TO (by simp)],by simp[O.b1.symm,(ne i2 (by simp)).1.symm,off i2 (by simp)],
   by simp[O.a4.symm,(ne z (by simp)).2.symm,off z (by simp)],by simp[O.a9,(ne TO (by simp)).2.symm,off TO (by simp)],by simp[O.b1,(ne i1 (by simp)).2.symm,off i1 (by simp)]⟩
  have D1:=Sb.Draws.listQ (prog:=X.prog) (w:=X.w) (A:=X.A.in1) (I.ok.hd hc) i1 t (ne i1 (by simp)).1 (qO i1 (by simp)) u1.toArray;have D2:=Sb.Draws.listQ (prog:=X.prog) (w:=X.w) (A:=X.A.in1) (I.ok.hd hc) i2 u (ne i2 (by simp)).2 (qO i2 (by simp)) u2.toArray;refine Me D D1 D2 hz hTI hTO ⟨c1,p1,qI⟩ ⟨c2,p2,qI⟩ (by simp;omega) (by simp;omega) λx y g tk px py z' to' s1 s2 pr sz kp=>?_;refine⟨_,rfl,wpAny_letOwnedTupleGo_zip z' λg2 z2 sb=>?_⟩;obtain⟨x0,ex⟩:∃ x0,xs[i]?=some x0:=⟨xs[i],by simp[lx]⟩;obtain⟨y0,ey⟩:∃ y0,ys[i]?=some y0:=⟨ys[i],by simp[ly]⟩;obtain⟨x1,ex1,rx⟩:=v1.get ex;obtain⟨y1,ey1,ry⟩:=v2.get ey;have qx:x1=x:=by
   have:u1.toArray[i]?=some x:=px;rw[zo,ex1] at this;exact YK this
  have qy:y1=y:=by
   have:u2.toArray[i]?=some y:=py;rw[zo,ey1] at this;exact YK this
  subst qx qy;have zlt:z<s.heap.objs.size:=YI hz;have pz:s.heap.objs.size≠z:=qZ zlt;have sb2:∀ b,b≠z->g2.get? b=g.get? b:=λb hb=>sb.2 b hb;have keep:∀ b o,b ∉ [z,TI,TO,i1,i2]->s.heap.get? b=some o->g2.get? b=some o:=λb o hb e=>by
   simp only [YW,JC,qk,Y16] at hb;rw[sb2 b hb.1];exact kp b o hb.1 hb.2.2.1 hb.2.2.2.1 hb.2.2.2.2 e
  have new:ObjOk X.prog X.w (upd H s.heap.objs.size (.tup [x0,y0])) g2 s.heap.objs.size (.tup [x0,y0]) :=
   ⟨by show 2<=sizeLine;decide,[x1,y1],.cons rx (.cons ry .nil),⟨_,by rw[sb2 _ pz];exact pr,rfl,0,rfl⟩⟩
  have I2:=Vw (t':=tk) I hf keep (YD _) new;have nn:∀ b∈[z,TI,TO,i1,i2],upd H s.heap.objs.size (.tup [x0,y0]) b=none:=λb hb=>by
   have:b≠s.heap.objs.size:=by
    have ob:∃ o,s.heap.get? b=some o:=by
     simp only [YW,JC,qk] at hb;obtain⟨o1,e1,_⟩:=c1;obtain⟨o2,e2,_⟩:=c2;rcases hb with rfl | rfl | rfl | rfl | rfl
     ·exact⟨_,hz⟩
     ·exact⟨_,hTI⟩
     ·exact⟨_,hTO⟩
     ·exact⟨_,e1⟩
     exact⟨_,e2⟩
    obtain⟨o,e⟩:=ob;exact XD (YI e)
   rw[Ze this];exact (hf b hb).1
  refine⟨.ref s.heap.objs.size,_,I2,rfl,⟨_,x0,y0,rfl,I.fresh,rfl,λxs' h1=>by rw[I.list_inj h1 hx];exact ex,λys' h2=>by rw[I.list_inj h2 hy];exact ey⟩,⟨z2,?_,⟨x1,y1,?_⟩,?_,?_⟩,nn⟩
  ·exact (sb2 TI O.a1).trans (kp _ _ O.a1 O.a5 O.a6 O.a7 hTI)
  ·exact (sb2 TO O.a2).trans to'
  ·exact s1.1.extBut sb.extBut O.a3
  exact s2.1.extBut sb.extBut O.a4
 done:=by
  intro X hP hw hK hc i pins s σ H E I hf st hg;subst hP hw hK;obtain⟨xs,ys,hx,hy,rfl⟩:=hg;obtain⟨hz,hTI,⟨a,b,hTO⟩,c1,c2⟩:=st;obtain⟨u1,v1,p1',_⟩:=I.list hx;have p1:=p1'.isList;have n1:=v1.length;have ne:∀ b∈[z,TI,TO,i1,i2],t≠b/\u≠b:=λb hb=>⟨Ty I (hf b hb) hx,Ty I (hf b hb) hy⟩;have off:∀ b∈[z,TI,TO,i1,i2],∀ x,(b,x) ∉ X.pn:=λb hb x m=>(hf b hb).2.2.2.2.2 _ (YL _ m) rfl;have qI:∀ p∈X.pn,s.heap.get? p.1=some p.2:=λp hp=>(I.pin p (YL _ hp)).1;have qO:∀ b∈[z,TI,TO,i1,i2],∀ p∈X.pn,p.1≠b:=λb hb p hp=>(hf b hb).2.2.2.2.2 p (YL _ hp);have D:Off z TI TO i1 i2 (i1::t::X.pn.map Prod.fst) (i2::u::X.pn.map Prod.fst):=⟨O.a1,O.a2,O.a3,O.a4,O.a5,O.a6,O.a7,O.a8,O.a9,O.b1,
   by simp[O.a3.symm,(ne z (by simp)).1.symm,off z (by simp)],by simp[O.a8,(ne TO (by simp)).1.symm,off TO (by simp)],by simp[O.b1.symm,(ne i2 (by simp)).1.symm,off i2 (by simp)],
   by simp[O.a4.symm,(ne z (by simp)).2.symm,off z (by simp)],by simp[O.a9,(ne TO (by simp)).2.symm,off TO (by simp)],by simp[O.b1,(ne i1 (by simp)).2.symm,off i1 (by simp)]⟩
  have D1:=Sb.Draws.listQ (prog:=X.prog) (w:=X.w) (A:=X.A.in1) (I.ok.hd hc) i1 t (ne i1 (by simp)).1 (qO i1 (by simp)) u1.toArray;have c1':s.heap.IsListIter i1 t u1.toArray.size:=by
   rw[YV,<-n1];exact c1
  refine R8 D D1 hz hTI ⟨c1',p1,qI⟩ λg kp=>⟨rfl,?_⟩;exact Tl (t':=s.toks) I hf λb o hb e=>by
   simp only [YW,JC,qk,Y16] at hb;exact kp b o hb.1 hb.2.2.2.1 e
 self:=λ_ _ _ _ _ st h=>wpAny_pyIter_zip st.1 h
section
variable {X:Cx}
inductive iZipL_i (K:TQ) (R:(It->Hp->Prop)) (vs:TY) (H1:Hp):Prop
 | i (t u:_) (_:vs=[.ref t,.ref u]) (_:(∃ xs,SqL K H1 t xs)) (_:(∃ ys,SqL K H1 u ys)) (_:R (ItzL K t u) H1)
def iZipL (K:TQ)(ta:TA):TI:=λσ H R=>ta σ H (iZipL_i K R)
theorem Nb {a b:Expr}{p pos:Pos}{es:TK}{kk:Nat}{tp:Pos}(hg:Gl X "zip")(hm:X.mg "zip"=none)(ha:PA X [a,b] ta)(hs:starEach [a,b] X.env=[(false,eval a X.env),(false,eval b X.env)]:=by rfl)
  (hs2:starEach [b] X.env=[(false,eval b X.env)]:=by rfl):PI X (.Tuple es kk tp) (.Call (.Name "zip" p) [a,b] [] pos) (iZipL X.K ta):=by
 intro pins s σ H R I h;refine Call_ (Wy I hg hm boot_zip (JB (thn (ha pos pins s σ H _ I h) λus s1 ⟨vs,H1,I1,r1,q1⟩=>?_) (by rw[hs,hs2]) (by rw[hs2];rfl)));obtain⟨t,u,e,⟨xs,hx⟩,⟨ys,hy⟩,q⟩:=q1;subst e;obtain⟨t0,u0,e0,rt,ru⟩:=M2 r1
 cases (show t0=Value.ref t from rt)
 cases (show u0=Value.ref u from ru);subst e0;obtain⟨u1,v1,p1',_⟩:=I1.list hx;have p1:=p1'.isList;obtain⟨u2,v2,p2',_⟩:=I1.list hy;have p2:=p2'.isList;refine Fx (xs:=u1.toArray) (ys:=u2.toArray) p1 p2 λg z0 ti to i1 i2 sz kp=>?_;refine wpAny_pyIter_zip z0 ?_;have I2:Inv X pins σ H1 { s1 with heap:=g }:=I1.kept (t':=s1.toks) kp;refine⟨s1.heap.objs.size+4,[s1.heap.objs.size+4,s1.heap.objs.size+2,s1.heap.objs.size+3,s1.heap.objs.size,s1.heap.objs.size+1],_,ItzL X.K t u,H1,rfl,I2,G1 (O:=?_) t u,⟨z0,ti,⟨_,_,to⟩,i1,i2⟩,λb hb=>?_,q⟩
 ·refine⟨?_,?_,?_,?_,?_,?_,?_,?_,?_,?_⟩ <;> (show @Ne Nat _ _;omega)
 have hb':s1.heap.objs.size<=b:=by
  simp only [YW,JC,qk] at hb;rcases hb with rfl | rfl | rfl | rfl | rfl
  ·exact GZ _ _
  ·exact GZ _ _
  ·exact GZ _ _
  ·exact YD _
  exact GZ _ _
 exact I1.fpOk hb' (I1.hok.fresh hb')
end
def IteL (K:TQ)(t:Addr):It :=
 ⟨λi H=>∃ xs,SqL K H t xs/\i<xs.length,
   λi H v H'=>∃ p x,v=.ref p/\H p=none/\H'=upd H p (.tup [.int (i:Int),x])/\∀ xs,SqL K H t xs->xs[i]?=some x,
   λi H=>∃ xs,SqL K H t xs/\i=xs.length⟩
theorem Ln {P:TR}(O:e≠it)(t:Addr) :
  Turn P w K (.Tuple es kk tp) (IteL K t) [e,it] e (λi h=>(∃ old,IsEnum h e it (i:Int) old)/\h.IsListIter it t i) where
 mem:=by simp
 obj:=λi h ⟨⟨old,he⟩,⟨o1,e1,_,d1⟩⟩ b hb=>by
  simp only [YW,JC,qk] at hb;rcases hb with rfl | rfl
  ·exact⟨_,he,λv q=>by have q':Data.fields _=Data.cell v:=q;cases q'⟩
  exact⟨_,e1,λv q=>by rw[d1] at q;cases q⟩
 keep:=λi h h' ⟨⟨old,he⟩,⟨o1,e1,r1⟩⟩ k=>⟨⟨old,k e (by simp) _ he⟩,⟨o1,k it (by simp) _ e1,r1⟩⟩
 item:=by
  intro X hP hw hK hc i pins s σ H E I hf st hg;subst hP hw hK;obtain⟨xs,hx,lx⟩:=hg;obtain⟨⟨old,he⟩,c1⟩:=st;obtain⟨u1,v1,p1',_⟩:=I.list hx;have p1:=p1'.isList;have n1:=v1.length;have ne:∀ b∈[e,it],t≠b:=λb hb=>Ty I (hf b hb) hx;have off:∀ b∈[e,it],∀ x,(b,x) ∉ X.pn:=λb hb x m=>(hf b hb).2.2.2.2.2 _ (YL _ m) rfl;have qI:∀ p∈X.pn,s.heap.get? p.1=some p.2:=λp hp=>(I.pin p (YL _ hp)).1;have qO:∀ b∈[e,it],∀ p∈X.pn,p.1≠b:=λb hb p hp=>(hf b hb).2.2.2.2.2 p (YL _ hp);have D1:=Sb.Draws.listQ (prog:=X.prog) (w:=X.w) (A:=X.A.in1) (I.ok.hd hc) it t (ne it (by simp)) (qO it (by simp)) u1.toArray;refine wpAny_pyNext_enum_itemD D1 he ⟨c1,p1,qI⟩ (by simp;omega) O (by simp[O,(ne e (by simp)).symm,off e (by simp)]) λx g tk px out s1 pr sz kp=>?_;refine⟨_,rfl,Y07 out λg2 z2 sb=>?_⟩;obtain⟨x0,ex⟩:∃ x0,xs[i]?=some x0:=⟨xs[i],by simp[lx]⟩;obtain⟨x1,ex1,rx⟩:=v1.get ex;have qx:x1=x:=by
   have:u1.toArray[i]?=some x:=px;rw[zo,ex1] at this;exact YK this
  subst qx;have elt:e<s.heap.objs.size:=YI he;have pe:s.heap.objs.size≠e:=qZ elt;have sb2:∀ b,b≠e->g2.get? b=g.get? b:=λb hb=>sb.2 b hb;have keep:∀ b o,b ∉ [e,it]->s.heap.get? b=some o->g2.get? b=some o:=λb o hb q=>by
   simp only [YW,JC,qk,Y16] at hb;rw[sb2 b hb.1];exact kp b o hb.1 hb.2 q
  have new:ObjOk X.prog X.w (upd H s.heap.objs.size (.tup [.int (i:Int),x0])) g2 s.heap.objs.size (.tup [.int (i:Int),x0]) :=
   ⟨by show 2<=sizeLine;decide,[.int (i:Int) tk,x1],.cons ⟨tk,rfl⟩ (.cons rx .nil),⟨_,by rw[sb2 _ pe];exact pr,rfl,0,rfl⟩⟩
  have I2:=Vw (t':=tk+1) I hf keep (YD _) new;have nn:∀ b∈[e,it],upd H s.heap.objs.size (.tup [.int (i:Int),x0]) b=none:=λb hb=>by
   have:b≠s.heap.objs.size:=by
    have ob:∃ o,s.heap.get? b=some o:=by
     simp only [YW,JC,qk] at hb;obtain⟨o1,e1,_⟩:=c1;rcases hb with rfl | rfl
     ·exact⟨_,he⟩
     exact⟨_,e1⟩
    obtain⟨o,q⟩:=ob;exact XD (YI q)
   rw[Ze this];exact (hf b hb).1
  refine⟨.ref s.heap.objs.size,_,I2,rfl,⟨_,x0,rfl,I.fresh,rfl,λxs' h1=>by rw[I.list_inj h1 hx];exact ex⟩,⟨⟨x1,?_⟩,?_⟩,nn⟩
  ·exact z2
  exact s1.1.extBut sb.extBut O.symm
 done:=by
  intro X hP hw hK hc i pins s σ H E I hf st hg;subst hP hw hK;obtain⟨xs,hx,rfl⟩:=hg;obtain⟨⟨old,he⟩,c1⟩:=st;obtain⟨u1,v1,p1',_⟩:=I.list hx;have p1:=p1'.isList;have n1:=v1.length;have ne:∀ b∈[e,it],t≠b:=λb hb=>Ty I (hf b hb) hx;have off:∀ b∈[e,it],∀ x,(b,x) ∉ X.pn:=λb hb x m=>(hf b hb).2.2.2.2.2 _ (YL _ m) rfl;have qI:∀ p∈X.pn,s.heap.get? p.1=some p.2:=λp hp=>(I.pin p (YL _ hp)).1;have qO:∀ b∈[e,it],∀ p∈X.pn,p.1≠b:=λb hb p hp=>(hf b hb).2.2.2.2.2 p (YL _ hp);have D1:=Sb.Draws.listQ (prog:=X.prog) (w:=X.w) (A:=X.A.in1) (I.ok.hd hc) it t (ne it (by simp)) (qO it (by simp)) u1.toArray;have c1':s.heap.IsListIter it t u1.toArray.size:=by
   rw[YV,<-n1];exact c1
  refine wpAny_pyNext_enum_endD D1 he ⟨c1',p1,qI⟩ λg kp=>⟨rfl,?_⟩;exact Tl (t':=s.toks) I hf λb o hb q=>by
   simp only [YW,JC,qk,Y16] at hb;exact kp b o hb.2 q
 self:=λ_ _ _ _ _ st h=>by
  obtain⟨⟨old,he⟩,_⟩:=st;exact zZ he h
section
variable {X:Cx}
inductive iEnumL_i (K:TQ) (R:(It->Hp->Prop)) (vs:TY) (H1:Hp):Prop
 | i (t:_) (_:vs=[.ref t]) (_:(∃ xs,SqL K H1 t xs)) (_:R (IteL K t) H1)
def iEnumL (K:TQ)(ta:TA):TI:=λσ H R=>ta σ H (iEnumL_i K R)
theorem Q4 {a:Expr}{p pos:Pos}{es:TK}{kk:Nat}{tp:Pos}(hg:Gl X "enumerate")(hm:X.mg "enumerate"=none)(ha:PA X [a] ta)(hs:starEach [a] X.env=[(false,eval a X.env)]:=by rfl) :
  PI X (.Tuple es kk tp) (.Call (.Name "enumerate" p) [a] [] pos) (iEnumL X.K ta):=by
 intro pins s σ H R I h;refine Call_ (Wy I hg hm boot_enumerate (JB (thn (ha pos pins s σ H _ I h) λus s1 ⟨vs,H1,I1,r1,q1⟩=>?_) hs rfl));obtain⟨t,e,⟨xs,hx⟩,q⟩:=q1;subst e;obtain⟨t0,e0,rt⟩:=Uz r1
 cases (show t0=Value.ref t from rt);subst e0;obtain⟨u1,v1,p1',_⟩:=I1.list hx;have p1:=p1'.isList;refine Kw (ys:=u1.toArray) p1 λg z0 i1 sz kp=>?_;refine zZ z0 ?_;have I2:Inv X pins σ H1 { s1 with heap:=g }:=I1.kept (t':=s1.toks) kp;refine⟨s1.heap.objs.size+1,[s1.heap.objs.size+1,s1.heap.objs.size],_,IteL X.K t,H1,rfl,I2,Ln (O:=?_) t,⟨⟨_,z0⟩,i1⟩,λb hb=>?_,q⟩
 ·show @Ne Nat _ _;omega
 have hb':s1.heap.objs.size<=b:=by
  simp only [YW,JC,qk] at hb;rcases hb with rfl | rfl
  ·exact GZ _ _
  exact YD _
 exact I1.fpOk hb' (I1.hok.fresh hb')
end
end Sb
namespace Sv
def sm:Nat->(Nat->Int)->Int
 | 0,_=>0
 | n+1,f=>sm n f+f n
theorem Y6 {n:Nat}{f g:TX}(h:∀ i,i<n->f i=g i):sm n f=sm n g:=by
 induction n with
 | zero=>rfl
 | succ n ih =>
  show sm n f+f n=sm n g+g n;rw[ih λi hi=>h i (by omega),h n (by omega)]
theorem V4 (n:Nat)(f g:TX):sm n (λi=>f i+g i)=sm n f+sm n g:=by
 induction n with
 | zero=>rfl
 | succ n ih=>show sm n _+(f n+g n)=(sm n f+f n)+(sm n g+g n);rw[ih];omega
theorem Xa (a:Int)(n:Nat)(f:TX):sm n (λi=>a*f i)=a*sm n f:=by
 induction n with
 | zero=>show (0:Int)=a*0;simp
 | succ n ih=>show sm n _+_=a*(sm n f+f n);rw[ih,Y11]
theorem sm_zero {n:Nat}{f:TX}(h:∀ i,i<n->f i=0):sm n f=0:=by
 induction n with
 | zero=>rfl
 | succ n ih=>show sm n f+f n=0;rw[ih λi hi=>h i (by omega),h n (by omega)];rfl
theorem Y8 {n k:Nat}{f:TX}(hk:k<n):sm n f=f k+sm n (λi=>if i=k then 0 else f i):=by
 induction n with
 | zero=>omega
 | succ n ih =>
  show sm n f+f n=f k+(sm n (λi=>if i=k then 0 else f i)+if n=k then 0 else f n);by_cases e:n=k
  ·subst e;rw[YJ rfl,Y6 (f:=λi=>if i=n then 0 else f i) (g:=f) λi hi=>YH (by omega)];omega
  rw[YH e,ih (by omega)];omega
theorem sm_one {n k:Nat}{f:TX}(hk:k<n)(h:∀ i,i<n->i≠k->f i=0):sm n f=f k:=by
 rw[Y8 hk,sm_zero λi hi=>?_]
 ·omega
 by_cases e:i=k
 ·rw[YJ e]
 rw[YH e];exact h i hi e
theorem Dl {n p q:Nat}{f:TX}(hp:p<n)(hq:q<n)(hpq:p≠q)(h:∀ i,i<n->i≠p->i≠q->f i=0):sm n f=f p+f q:=by
 rw[Y8 hp,sm_one (k:=q) hq λi hi hne=>?_]
 ·rw[YH (XJ hpq)]
 by_cases e:i=p
 ·rw[YJ e]
 rw[YH e];exact h i hi e hne
theorem Yb {n:Nat}{f:TX}(h:∀ i,i<n->0<=f i):0<=sm n f:=by
 induction n with
 | zero=>exact Y12 _
 | succ n ih =>
  show 0<=sm n f+f n;have:=ih λi hi=>h i (by omega);have:=h n (by omega);omega
theorem T7 {n:Nat}{f g:TX}(h:∀ i,i<n->f i<=g i):sm n f<=sm n g:=by
 induction n with
 | zero=>exact Y12 _
 | succ n ih =>
  show sm n f+f n<=sm n g+g n;have:=ih λi hi=>h i (by omega);have:=h n (by omega);omega
theorem Lu {n:Nat}{f:TX}(h:0<sm n f):∃ i,i<n/\0<f i:=by
 apply YR;intro hn;have:sm n f<=sm n (λ_=>0):=T7 λi hi=>by
  have:¬ 0<f i:=λz=>hn ⟨i,hi,z⟩;omega
 rw[sm_zero (f:=λ_=>0) λ_ _=>rfl] at this;omega
theorem Lv (n m:Nat)(f:TX):sm (n+m) f=sm n f+sm m (λi=>f (n+i)):=by
 induction m with
 | zero=>show sm n f=sm n f+0;omega
 | succ m ih =>
  show sm (n+m) f+f (n+m)=sm n f+(sm m (λi=>f (n+i))+f (n+m));rw[ih];omega
theorem sm_abs {n M:Nat}{f:TX}(h:∀ i,i<n->(f i).natAbs<=M):(sm n f).natAbs<=n*M:=by
 induction n with
 | zero=>show (0:Int).natAbs<=0*M;simp
 | succ n ih =>
  show (sm n f+f n).natAbs<=(n+1)*M;have h1:=ih λi hi=>h i (by omega);have h2:=h n (by omega);rw[Y0v];omega
abbrev Vec:=Nat->Int
abbrev Mat:=Nat->Vec
def skip (k i:Nat):Nat:=if i<k then i else i+1
def sgn:Nat->Int
 | 0=>1
 | n+1=>- sgn n
def minor (v:Mat)(k:Nat):Mat:=λi r=>v (skip k i) (r+1)
def det:Nat->Mat->Int
 | 0,_=>1
 | m+1,v=>sm (m+1) (λk=>sgn k*v k 0*det m (minor v k))
def put (v:Mat)(c:Nat)(x:Vec):Mat:=λi=>if i=c then x else v i
theorem Ye (v:Mat)(c:Nat)(x:Vec):put v c x c=x:=YJ rfl
theorem Y7 {v:Mat}{c i:Nat}{x:Vec}(h:i≠c):put v c x i=v i:=YH h
theorem U3 (v:Mat)(c:Nat):put v c (v c)=v:=by
 funext i
 by_cases e:i=c
 ·subst e;exact Ye ..
 exact Y7 e
theorem Xz {v:Mat}{c d:Nat}{x y:Vec}(h:c≠d):put (put v c x) d y=put (put v d y) c x:=by
 funext i
 by_cases e:i=c
 ·subst e;rw[Y7 h,Ye,Ye]
 by_cases e':i=d
 ·subst e';rw[Ye,Y7 e,Ye]
 rw[Y7 e',Y7 e,Y7 e,Y7 e']
theorem Xp:∀ {m:Nat} {v w:Mat},(∀ k r,k<m->r<m->v k r=w k r)->det m v=det m w
 | 0,_,_,_=>rfl
 | m+1,v,w,h=>by
  refine Y6 λk hk=>?_;rw[h k 0 hk (by omega),Xp (m:=m) (v:=minor v k) (w:=minor w k) λi r hi hr=>?_];exact h _ _ (by unfold skip;split <;> omega) (by omega)
def unskip (k c:Nat):Nat:=if c<k then c else c - 1
theorem Ur (v:Mat)(c:Nat)(z:Vec):minor (put v c z) c=minor v c:=by
 funext i r
 show put v c z (skip c i) (r+1)=v (skip c i) (r+1);rw[Y7 (by unfold skip;split <;> omega)]
theorem Tx {v:Mat}{k c:Nat}{z:Vec}(h:k≠c):minor (put v c z) k=put (minor v k) (unskip k c) (λr=>z (r+1)):=by
 funext i r
 show put v c z (skip k i) (r+1)=_;by_cases e:skip k i=c
 ·have e':i=unskip k c:=by
   unfold skip at e;unfold unskip;split at e <;> split <;> omega
  rw[e,e',Ye,Ye]
 have e':i≠unskip k c:=by
  unfold skip at e;unfold unskip;split at e <;> split <;> omega
 rw[Y7 e,Y7 e'];rfl
theorem To:∀ {m:Nat} {v:Mat} {c:Nat} {a b:Int} {x y:Vec},c<m->det m (put v c (λr=>a*x r+b*y r))=a*det m (put v c x)+b*det m (put v c y)
 | 0,_,_,_,_,_,_,h=>by omega
 | m+1,v,c,a,b,x,y,h=>by
  show sm (m+1) _=a*sm (m+1) _+b*sm (m+1) _;rw[<-Xa,<-Xa,<-V4];refine Y6 λk hk=>?_;by_cases e:k=c
  ·subst e;rw[Ur,Ur,Ur,Ye,Ye,Ye];grind
  rw[Tx e,Tx e,Tx e,Y7 e,Y7 e,Y7 e];have:=To (m:=m) (v:=minor v k) (c:=unskip k c) (a:=a) (b:=b) (x:=λr=>x (r+1)) (y:=λr=>y (r+1)) (by unfold unskip;split <;> omega);rw[this];grind
theorem L5 {m:Nat}{v:Mat}{c:Nat}(h:c<m):det m (put v c (λ_=>0))=0:=by
 have:=To (m:=m) (v:=v) (c:=c) (a:=0) (b:=0) (x:=λ_=>0) (y:=λ_=>0) h
 simpa using this
theorem Tn {m:Nat}{v:Mat}{c:Nat}(h:c<m)(a:TX)(u:Nat->Vec):∀ n,det m (put v c (λr=>sm n (λk=>a k*u k r)))=sm n (λk=>a k*det m (put v c (u k)))
 | 0=>L5 h
 | n+1=>by
  have:=To (m:=m) (v:=v) (c:=c) (a:=1) (b:=a n) (x:=λr=>sm n (λk=>a k*u k r)) (y:=u n) h;show _=sm n (λk=>a k*det m (put v c (u k)))+a n*det m (put v c (u n));rw[<-Tn h a u n];rw[qX] at this;rw[<-this]
  congr 2
  funext r
  show sm n _+_=_;rw[qX]
theorem L6 {m:Nat}{v:Mat}{c:Nat}(h:c<m)(a:Int)(x:Vec):det m (put v c (λr=>a*x r))=a*det m (put v c x):=by
 have:=To (m:=m) (v:=v) (c:=c) (a:=a) (b:=0) (x:=x) (y:=x) h
 simpa using this
theorem Nw {m:Nat}{v:Mat}{c:Nat}(h:c<m)(x y:Vec):det m (put v c (λr=>x r+y r))=det m (put v c x)+det m (put v c y):=by
 have:=To (m:=m) (v:=v) (c:=c) (a:=1) (b:=1) (x:=x) (y:=y) h
 simpa using this
theorem Rm:∀ {m:Nat} {v:Mat} {p:Nat},p+1<m->v p=v (p+1)->det m v=0
 | 0,_,_,h,_=>by omega
 | m+1,v,p,h,e=>by
  show sm (m+1) _=0;rw[Dl (p:=p) (q:=p+1) (by omega) h (by omega) λk hk h1 h2=>?_]
  ·have e2:minor v p=minor v (p+1):=by
    funext i r
    show v (skip p i) (r+1)=v (skip (p+1) i) (r+1);by_cases q:i=p
    ·have a1:skip p i=p+1:=by unfold skip;split <;> omega
     have a2:skip (p+1) i=p:=by unfold skip;split <;> omega
     rw[a1,a2,e]
    have a1:skip p i=skip (p+1) i:=by unfold skip;split <;> split <;> omega
    rw[a1]
   rw[e2,e];show sgn p*_*_ + -sgn p*_*_=0;grind
  have:det m (minor v k)=0:=by
   by_cases q:k<p
   ·refine Rm (p:=p - 1) (by omega) ?_
    funext r
    show v (skip k (p - 1)) (r+1)=v (skip k (p - 1+1)) (r+1);have a1:skip k (p - 1)=p:=by unfold skip;split <;> omega
    have a2:skip k (p - 1+1)=p+1:=by unfold skip;split <;> omega
    rw[a1,a2,e]
   refine Rm (p:=p) (by omega) ?_
   funext r
   show v (skip k p) (r+1)=v (skip k (p+1)) (r+1);have a1:skip k p=p:=by unfold skip;split <;> omega
   have a2:skip k (p+1)=p+1:=by unfold skip;split <;> omega
   rw[a1,a2,e]
  rw[this,GP]
theorem L7 {m:Nat}{v:Mat}{p q:Nat}(hp:p<m)(hq:q<m)(hpq:p≠q)(h0:∀ z:Vec,det m (put (put v p z) q z)=0)(x y:Vec):det m (put (put v p x) q y)=- det m (put (put v p y) q x):=by
 have e:=h0 (λr=>x r+y r);rw[Nw hq,Xz hpq,Nw hp,Xz (c:=p) hpq,Nw hp] at e;rw[Xz (XJ hpq),Xz (XJ hpq),Xz (XJ hpq),Xz (XJ hpq),h0 x,h0 y] at e;omega
theorem Nu:∀ (d:Nat) {m:Nat} {v:Mat} {p q:Nat},q=p+1+d->q<m->v p=v q->det m v=0
 | 0,m,v,p,q,h,hq,e=>Rm (p:=p) (by omega) (by rw[e,h])
 | d+1,m,v,p,q,h,hq,e=>by
  have hz:∀ z:Vec,det m (put (put v (q - 1) z) q z)=0:=λz=>by
   refine Rm (p:=q - 1) (by omega) ?_;have a:q - 1+1=q:=by omega
   rw[a,Ye,Y7 (by omega),Ye]
  have s:=L7 (m:=m) (v:=v) (p:=q - 1) (q:=q) (by omega) hq (by omega) hz (v (q - 1)) (v q);rw[U3,U3] at s;have:det m (put (put v (q - 1) (v q)) q (v (q - 1)))=0:=by
   refine Nu d (p:=p) (q:=q - 1) (by omega) (by omega) ?_;rw[Y7 (by omega),Y7 (by omega),Y7 (by omega),Ye,e]
  rw[s,this];rfl
theorem Qq {m:Nat}{v:Mat}{p q:Nat}(hp:p<m)(hq:q<m)(hpq:p≠q)(e:v p=v q):det m v=0:=by
 by_cases h:p<q
 ·exact Nu (q - p - 1) (p:=p) (q:=q) (by omega) hq e
 exact Nu (p - q - 1) (p:=q) (q:=p) (by omega) hp e.symm
theorem Z0t {m:Nat}{v:Mat}{p q:Nat}(hp:p<m)(hq:q<m)(hpq:p≠q)(x y:Vec):det m (put (put v p x) q y)=- det m (put (put v p y) q x) :=
 L7 hp hq hpq (λz=>Qq hp hq hpq (by rw[Y7 hpq,Ye,Ye])) x y
def idm:Mat:=λk r=>if k=r then 1 else 0
theorem Z0v:∀ m:Nat,det m idm=1
 | 0=>rfl
 | m+1=>by
  show sm (m+1) _=1;rw[sm_one (k:=0) (by omega) λk hk h=>?_]
  ·have e:minor idm 0=idm:=by
    funext i r
    show (if skip 0 i=r+1 then (1:Int) else 0)=if i=r then 1 else 0
    have:skip 0 i=i+1:=by unfold skip;split <;> omega
    rw[this];by_cases q:i=r
    ·rw[YJ q,YJ (by omega)]
    rw[YH q,YH (by omega)]
   rw[e,Z0v m];show (1:Int)*(if (0:Nat)=0 then 1 else 0)*1=1;rfl
  show sgn k*(if k=0 then 1 else 0)*_=0;rw[YH h];simp
theorem Rb:∀ k,(sgn k).natAbs=1
 | 0=>rfl
 | k+1=>by show (-sgn k).natAbs=1;rw[Y0E];exact Rb k
theorem Sj {M:Nat}:∀ {m:Nat} {v:Mat},(∀ k r,k<m->r<m->(v k r).natAbs<=M)->(det m v).natAbs<=(m*M) ^ m
 | 0,_,_=>by show (1:Int).natAbs<=1;decide
 | m+1,v,h=>by
  have key:(sm (m+1) (λk=>sgn k*v k 0*det m (minor v k))).natAbs<=(m+1)*(M*(m*M) ^ m):=sm_abs λk hk=>by
   rw[JY,JY,Rb,Y13];exact Y0F (h k 0 hk (by omega)) (Sj (m:=m) λi r hi hr=>h _ _ (by unfold skip;split <;> omega) (by omega))
  refine YX key ?_;rw[<-Y0O,Y0w,qf];exact GL _ (Y0J (GL _ (by omega)) _)
end Sv
namespace Sb
theorem Nt {a c:Int}(h:a ∣ b*c)(g:Int.gcd a b=1):a ∣ c:=by
 have h1:a.natAbs ∣ b.natAbs*c.natAbs:=by
  rw[<-JY];exact GU.mpr h
 exact GU.mp (Nat.Coprime.dvd_of_dvd_mul_left g h1)
theorem Xv {r s:Rat}(hr:0<r.2)(hs:0<s.2)(cr:Int.gcd r.1 r.2=1)(cs:Int.gcd s.1 s.2=1)(h:r.1*s.2=s.1*r.2):r=s:=by
 have d1:r.2 ∣ s.2:=by
  have:r.2 ∣ r.1*s.2:=⟨s.1,by rw[h,XL]⟩;exact Nt this (by rw[zY];exact cr)
 have d2:s.2 ∣ r.2:=by
  have:s.2 ∣ s.1*r.2:=⟨r.1,by rw[<-h,XL]⟩;exact Nt this (by rw[zY];exact cs)
 have e:r.2=s.2:=Int.dvd_antisymm (by omega) (by omega) d1 d2;have e1:r.1=s.1:=by
  rw[e] at h;exact ql (by omega) h
 obtain⟨a,b⟩:=r;obtain⟨c,d⟩:=s;simp only at e e1;rw[e,e1]
theorem Qp {r:Rat}{W:Int}(hr:0<r.2)(cr:Int.gcd r.1 r.2=1)(h:r.1*D=W*r.2):r.2 ∣ D :=
 Nt (show r.2 ∣ r.1*D from ⟨W,by rw[h,XL]⟩) (by rw[zY];exact cr)
theorem Xi {a:Int}(hb:0<b)(h:a ∣ b):a.natAbs<=b.natAbs:=by
 have:=GU.mpr h;exact Nat.le_of_dvd (by omega) this
theorem Ce {r:Rat}{W:Int}(hD:0<D)(hr:0<r.2)(cr:Int.gcd r.1 r.2=1)(h:r.1*D=W*r.2):r.1.natAbs<=W.natAbs/\r.2.natAbs<=D.natAbs:=by
 have d:=Qp hr cr h;refine⟨?_,Xi hD d⟩;obtain⟨k,e⟩:=d;have:W=r.1*k:=by
  rw[e] at h;have:(r.1*k)*r.2=W*r.2:=by rw[<-h];rw[JW,XL k]
  exact (ql (by omega) this).symm
 rw[this,JY];refine zQ _ ?_;have:k≠0:=by
  intro z;rw[z] at e;simp at e;omega
 omega
theorem U9 {n:Nat}{r:Rat}{W:Int}(hD:0<D)(hr:0<r.2)(cr:Int.gcd r.1 r.2=1)(h:r.1*D=W*r.2)(bD:Bd n D)(bW:Bd n W):Good n r :=
 ⟨bW.of_le' (Ce hD hr cr h).1,bD.of_le' (Ce hD hr cr h).2,hr,cr⟩
theorem J5 {p q:Int}(_:q≠0):(nrm p q).1*q=p*(nrm p q).2:=Xc p q
theorem N9 {r s:Rat}{D1 D2 W1 W2:Int}(hr:0<r.2)(hs:0<s.2)(h1:r.1*D1=W1*r.2)(h2:s.1*D2=W2*s.2):(mulR' r s).1*(D1*D2)=(W1*W2)*(mulR' r s).2:=by
 have h3:(mulR' r s).1*(r.2*s.2)=(r.1*s.1)*(mulR' r s).2:=Xc _ _;generalize mulR' r s=m at *
 have:(r.2*s.2)*(m.1*(D1*D2))=(r.2*s.2)*(W1*W2*m.2):=by grind
 exact JX (Xs hr hs) this
theorem Rf {r s:Rat}{W1 W2:Int}(hr:0<r.2)(hs:0<s.2)(h1:r.1*D=W1*r.2)(h2:s.1*D=W2*s.2):(addR r s).1*D=(W1+W2)*(addR r s).2:=by
 have h3:(addR r s).1*(r.2*s.2)=(r.1*s.2+s.1*r.2)*(addR r s).2:=Xc _ _;generalize addR r s=m at *
 have:(r.2*s.2)*(m.1*D)=(r.2*s.2)*((W1+W2)*m.2):=by grind
 exact JX (Xs hr hs) this
theorem Vo {r s:Rat}{W1 W2:Int}(hr:0<r.2)(hs:0<s.2)(h1:r.1*D=W1*r.2)(h2:s.1*D=W2*s.2):(subR r s).1*D=(W1 - W2)*(subR r s).2:=by
 have h3:(subR r s).1*(r.2*s.2)=(r.1*s.2 - s.1*r.2)*(subR r s).2:=Xc _ _;generalize subR r s=m at *
 have:(r.2*s.2)*(m.1*D)=(r.2*s.2)*((W1 - W2)*m.2):=by grind
 exact JX (Xs hr hs) this
structure Low (r:Rat):Prop where
 pos:0<r.2
 cop:Int.gcd r.1 r.2=1
theorem Good.low {n:Nat}{r:Rat}(h:Good n r):Low r:=⟨h.pos,h.cop⟩
theorem X8 {p q:Int}(h:q≠0):Low (nrm p q):=⟨Nk h,Bz h⟩
theorem Uf {r s:Rat}(hr:Low r)(hs:Low s):Low (addR r s):=X8 (Xs hr.pos hs.pos)
theorem Xx {r s:Rat}(hr:Low r)(hs:Low s):Low (subR r s):=X8 (Xs hr.pos hs.pos)
theorem Wk {r s:Rat}(hr:Low r)(hs:Low s):Low (mulR' r s):=X8 (Xs hr.pos hs.pos)
theorem Qh:Low (0,1):=⟨by decide,by decide⟩
theorem low11:Low (1,1):=⟨by decide,by decide⟩
structure RepL (n:Nat)(D:Int)(Ws:TU)(rs:UA):Prop where
 pos:0<D
 bD:Bd n D
 len:Ws.length=rs.length
 at_:∀ (i:Nat) (W:Int) (r:Rat),Ws[i]?=some W->rs[i]?=some r->r.1*D=W*r.2/\Bd n W/\Low r
theorem RepL.good {n:Nat}(h:RepL n D Ws rs):∀ r∈rs,Good n r:=λr hr=>by
 obtain⟨i,hi⟩:=XN hr;have hl:i<rs.length:=(YE.mp hi).1;have hw:i<Ws.length:=by rw[h.len];exact hl
 obtain⟨e,b,l⟩:=h.at_ i Ws[i] r (by simp[hw]) hi;exact U9 h.pos l.pos l.cop e h.bD b
def lcm1 (l b:Int):Int:=(l*b).fdiv (Int.gcd l b)
theorem Pk {l:Int}(hl:0<l)(hb:0<b):0<lcm1 l b/\l ∣ lcm1 l b/\b ∣ lcm1 l b/\∀ D,l ∣ D->b ∣ D->lcm1 l b ∣ D:=by
 have hg:0<(Int.gcd l b:Int):=by
  have:=jz b (show l≠0 by omega);omega
 obtain⟨x,ex⟩:=Y0p (a:=l) (b:=b);obtain⟨y,ey⟩:=zX (a:=l) (b:=b);have e1:lcm1 l b=x*b:=by
  unfold lcm1;have:l*b=(x*b)*(Int.gcd l b:Int):=by
   conv=>lhs;rw[ex]
   rw[XL (Int.gcd l b:Int),JW,XL (Int.gcd l b:Int),<-JW]
  rw[this,jx _ (by omega)]
 have e2:lcm1 l b=l*y:=by
  unfold lcm1;have:l*b=(l*y)*(Int.gcd l b:Int):=by
   conv=>lhs;rw[ey]
   rw[XL (Int.gcd l b:Int),JW]
  rw[this,jx _ (by omega)]
 have hx:0<x:=by
  apply YR;intro z;have:(Int.gcd l b:Int)*x<=0:=Int.mul_nonpos_of_nonneg_of_nonpos (by omega) (by omega);omega
 refine⟨by rw[e1];exact XX hx hb,⟨y,e2⟩,⟨x,by rw[e1,XL]⟩,λD h1 h2=>?_⟩;have:(lcm1 l b).natAbs ∣ D.natAbs:=by
  have e3:(lcm1 l b).natAbs=Nat.lcm l.natAbs b.natAbs:=by
   unfold Nat.lcm;have g:Nat.gcd l.natAbs b.natAbs=Int.gcd l b:=rfl;rw[g];have e4:(lcm1 l b).natAbs*Int.gcd l b=l.natAbs*b.natAbs:=by
    rw[<-JY,e1];have:((x*b).natAbs)*Int.gcd l b=(x*b*(Int.gcd l b:Int)).natAbs:=by
     rw[JY (x*b)];rfl
    rw[this]
    congr 1
    conv=>rhs;rw[ex]
    rw[JW,XL b,<-JW,XL x]
   rw[<-e4];exact (Nat.mul_div_cancel _ (by omega)).symm
  rw[e3];exact Nat.lcm_dvd (GU.mpr h1) (GU.mpr h2)
 exact GU.mp this
def lcmB (rs:UA):Int:=rs.foldl (λl r=>lcm1 l r.2) 1
theorem Fi (rs:UA)(r:Rat):lcmB (rs++[r])=lcm1 (lcmB rs) r.2:=by
 unfold lcmB;rw[List.foldl_append];rfl
theorem Fh {i:Nat}{r:Rat}(h:rs[i]?=some r):lcmB (rs.take (i+1))=lcm1 (lcmB (rs.take i)) r.2:=by rw[Yf h,Fi]
theorem Mz:∀ (rs:UA) (l:Int),0<l->(∀ r∈rs,0<r.2)->0<rs.foldl (λl r=>lcm1 l r.2) l/\l ∣ rs.foldl (λl r=>lcm1 l r.2) l/\(∀ r∈rs,r.2 ∣ rs.foldl (λl r=>lcm1 l r.2) l)/\∀ D,l ∣ D->(∀ r∈rs,r.2 ∣ D)->rs.foldl (λl r=>lcm1 l r.2) l ∣ D
 | [],l,hl,_=>⟨hl,Int.dvd_refl _,(λ_ h=>nomatch h),λD h _=>h⟩
 | r::t,l,hl,h=>by
  obtain⟨p,d1,d2,m⟩:=Pk hl (h r XI);obtain⟨p',d1',d2',m'⟩:=Mz t (lcm1 l r.2) p λx hx=>h x (YY _ hx);refine⟨p',Y0P d1 d1',λx hx=>?_,λD h1 h2=>m' D (m D h1 (h2 r XI)) λx hx=>h2 x (YY _ hx)⟩;rcases YW.mp hx with rfl | hx
  ·exact Y0P d2 d1'
  exact d2' x hx
theorem Wp (h:∀ r∈rs,0<r.2):0<lcmB rs/\(∀ r∈rs,r.2 ∣ lcmB rs)/\∀ D,(∀ r∈rs,r.2 ∣ D)->lcmB rs ∣ D:=by
 obtain⟨p,_,d,m⟩:=Mz rs 1 (by decide) h;exact⟨p,d,λD hD=>m D (Int.one_dvd _) hD⟩
def wholeB (rs:UA)(D:Int):List Int:=rs.map λr=>r.1*D.fdiv r.2
theorem Wq {r:Rat}(h:r.2 ∣ D):r.1*D=(r.1*D.fdiv r.2)*r.2:=by
 have:=Uw h;rw[JW,this]
theorem RepL.least {n:Nat}(h:RepL n D Ws rs):RepL n (lcmB rs) (wholeB rs (lcmB rs)) rs:=by
 have low:∀ r∈rs,Low r:=λr hr=>(h.good r hr).low;obtain⟨p,d,m⟩:=Wp λr hr=>(low r hr).pos;have dD:∀ r∈rs,r.2 ∣ D:=λr hr=>by
  obtain⟨i,hi⟩:=XN hr;have hl:i<rs.length:=(YE.mp hi).1;have hw:i<Ws.length:=by rw[h.len];exact hl
  obtain⟨e,b,l⟩:=h.at_ i Ws[i] r (by simp[hw]) hi;exact Qp l.pos l.cop e
 have hd:=m D dD;refine⟨p,h.bD.of_le' (Xi h.pos hd),by unfold wholeB;rw[YC],λi W r hW hr=>?_⟩;have hrm:=YG hr;have hl:i<rs.length:=(YE.mp hr).1;have hw:i<Ws.length:=by rw[h.len];exact hl
 obtain⟨e,b,l⟩:=h.at_ i Ws[i] r (by simp[hw]) hr;unfold wholeB at hW;rw[YF,hr] at hW
 cases hW;refine⟨Wq (d r hrm),?_,l⟩;obtain⟨k,ek⟩:=hd;have e1:=Wq (D:=lcmB rs) (d r hrm);have hk:Ws[i]=(r.1*(lcmB rs).fdiv r.2)*k:=by
  have:(r.1*(lcmB rs).fdiv r.2*k)*r.2=Ws[i]*r.2:=by
   rw[<-e,ek,<-JW,e1];grind
  exact (ql (by have:=l.pos;omega) this).symm
 have hk0:k≠0:=by
  intro z;rw[z,GP] at ek;have:=h.pos;omega
 refine b.of_le' ?_;rw[hk,JY _ k];exact zQ _ (by omega)
theorem Np {a:Int}(ha:0<a)(hb:0<b):(a.fdiv b).natAbs<=a.natAbs:=by
 rw[Int.fdiv_eq_ediv_of_nonneg _ (by omega)];have h1:=Int.ediv_nonneg (show 0<=a by omega) (show 0<=b by omega);have h2:=Int.ediv_le_self b (show 0<=a by omega);omega
theorem Sz {n:Nat}:∀ (rs:UA) (l:Int) (m:Nat),0<l->Bd m l->(∀ r∈rs,0<r.2/\Bd n r.2)->Bd (m+n*rs.length) (rs.foldl (λl r=>lcm1 l r.2) l)
 | [],l,m,_,b,_=>b
 | r::t,l,m,hl,b,h=>by
  obtain⟨hp,hb⟩:=h r XI;obtain⟨p,_,_,mm⟩:=Pk hl hp;have:Bd (m+n) (lcm1 l r.2):=(b.mul hb).of_le' (Xi (XX hl hp) (mm _ (Int.dvd_mul_right ..) (Int.dvd_mul_left ..)));have:=Sz t (lcm1 l r.2) (m+n) p this λx hx=>h x (YY _ hx);rw[JT,Y0Z];exact this.mono (by omega)
theorem RepL.of_good {n:Nat}(h:∀ r∈rs,Good n r):RepL (n*(rs.length+1)+1) (lcmB rs) (wholeB rs (lcmB rs)) rs:=by
 obtain⟨p,d,_⟩:=Wp λr hr=>(h r hr).pos;have b:Bd (1+n*rs.length) (lcmB rs):=Sz rs 1 1 (by decide) (by show (1:Int).natAbs<2 ^ 1;decide) λr hr=>⟨(h r hr).pos,(h r hr).b2⟩;refine⟨p,b.mono (by rw[Y0Z];omega),by unfold wholeB;rw[YC],λi W r hW hr=>?_⟩;have hrm:=YG hr;unfold wholeB at hW;rw[YF,hr] at hW
 cases hW;exact⟨Wq (d r hrm),((h r hrm).b1.mul (b.of_le' (Np p (h r hrm).pos))).mono (by rw[Y0Z];omega),(h r hrm).low⟩
theorem Ny {n:Nat}:∀ (xs:TU),(∀ x∈xs,Bd n x)->∀ k,xs.length<=2 ^ k->Bd (n+k) xs.sum:=λxs h k hk=>by
 have key:∀ (xs:TU),(∀ x∈xs,Bd n x)->xs.sum.natAbs<=xs.length*(2 ^ n - 1):=λxs=>by
  induction xs with
  | nil=>intro _;simp
  | cons a t ih =>
   intro h;have h1:=ih λx hx=>h x (YY _ hx);have h2:a.natAbs<2 ^ n:=h a XI;rw[jo,JT,Y0v];omega
 have h1:=key xs h;unfold Bd;have h2:xs.length*(2 ^ n - 1)<=2 ^ k*(2 ^ n - 1):=GL _ hk;have h3:2 ^ k*(2 ^ n - 1)<2 ^ (n+k):=by
  rw[zP,qf (2 ^ n)];have:0<2 ^ n:=Y14 (by decide);exact Nat.mul_lt_mul_of_pos_left (by omega) (Y14 (by decide))
 omega
theorem J4 {D:Int}(hD:0<D):∀ (Ns:TU) (zs:UA),Ns.length=zs.length->(∀ (i:Nat) (N:Int) (z:Rat),Ns[i]?=some N->zs[i]?=some z->z.1*D=N*z.2/\Low z)->∀ (a:Rat) (A:Int),Low a->a.1*D=A*a.2->(zs.foldl addR a).1*D=(A+Ns.sum)*(zs.foldl addR a).2/\Low (zs.foldl addR a)
 | [],[],_,_,a,A,la,ha=>⟨by simpa using ha,la⟩
 | [],_::_,h,_,_,_,_,_=>by simp at h
 | _::_,[],h,_,_,_,_,_=>by simp at h
 | N::Ns,z::zs,h,hz,a,A,la,ha=>by
  obtain⟨e,lz⟩:=hz 0 N z rfl rfl;obtain⟨h1,h2⟩:=J4 hD Ns zs (by simpa using h) (λi N' z' e1 e2=>hz (i+1) N' z' (by simpa using e1) (by simpa using e2)) (addR a z) (A+N) (Uf la lz) (Rf la.pos lz.pos ha e);refine⟨?_,h2⟩;rw[jo,<-Int.add_assoc];exact h1
theorem RepL.mul {n n':Nat}{D D':Int}{Ws Rs:TU}{ws rs:UA}(h:RepL n D Ws ws)(h':RepL n' D' Rs rs)(hl:ws.length=rs.length):RepL (n+n') (D*D') (List.zipWith (·*·) Ws Rs) (List.zipWith mulR' ws rs):=by
 refine⟨XX h.pos h'.pos,h.bD.mul h'.bD,by rw[JR,JR,h.len,h'.len],λi W r hW hr=>?_⟩;rw[GB] at hW hr
 cases e1:Ws[i]? with
 | none=>rw[e1] at hW;cases hW
 | some x =>
  cases e2:Rs[i]? with
  | none=>rw[e1,e2] at hW;cases hW
  | some y =>
   cases e3:ws[i]? with
   | none=>rw[e3] at hr;cases hr
   | some u =>
    cases e4:rs[i]? with
    | none=>rw[e3,e4] at hr;cases hr
    | some v =>
     rw[e1,e2] at hW;rw[e3,e4] at hr
     cases hW
     cases hr;obtain⟨a1,b1,l1⟩:=h.at_ i x u e1 e3;obtain⟨a2,b2,l2⟩:=h'.at_ i y v e2 e4;exact⟨N9 l1.pos l2.pos a1 a2,b1.mul b2,Wk l1 l2⟩
theorem RepL.sum {n:Nat}{D:Int}{Ns:TU}{zs:UA}(h:RepL n D Ns zs):(zs.foldl addR (0,1)).1*D=Ns.sum*(zs.foldl addR (0,1)).2/\Low (zs.foldl addR (0,1)):=by
 have:=J4 h.pos Ns zs h.len (λi N z e1 e2=>⟨(h.at_ i N z e1 e2).1,(h.at_ i N z e1 e2).2.2⟩) (0,1) 0 Qh (by simp)
 rwa [Int.zero_add] at this
theorem RepL.take {n:Nat}{D:Int}{Ns:TU}{zs:UA}(h:RepL n D Ns zs)(i:Nat):RepL n D (Ns.take i) (zs.take i):=by
 refine⟨h.pos,h.bD,by rw[JU,JU,h.len],λj W r hW hr=>?_⟩;rw[Y09] at hW hr;split at hW
 ·rename_i q
  rw[YJ q] at hr;exact h.at_ j W r hW hr
 cases hW
theorem RepL.sumGood {n k:Nat}{Ns:TU}{zs:UA}(h:RepL n D Ns zs)(hk:zs.length<=2 ^ k):Good (n+k) (zs.foldl addR (0,1)):=by
 obtain⟨e,l⟩:=h.sum;refine U9 h.pos l.pos l.cop e (h.bD.mono (by omega)) (Ny Ns (λx hx=>?_) k (by rw[h.len];exact hk));obtain⟨i,hi⟩:=XN hx;have hl:i<Ns.length:=(YE.mp hi).1;have hz:i<zs.length:=by rw[<-h.len];exact hl
 exact (h.at_ i x zs[i] hi (by simp[hz])).2.1
theorem Z2v {n n':Nat}{D':Int}{Rs:TU}{ws:UA}(h:RepL n D Ws ws)(h':RepL n' D' Rs rs)(hl:ws.length=rs.length) :
  nrm (List.zipWith (·*·) Ws Rs).sum (D*D')=(List.zipWith mulR' ws rs).foldl addR (0,1):=by
 have m:=h.mul h' hl;obtain⟨e,l⟩:=m.sum;have hne:D*D'≠0:=by have:=m.pos;omega
 have l':=X8 (p:=(List.zipWith (·*·) Ws Rs).sum) hne;have e':=J5 (p:=(List.zipWith (·*·) Ws Rs).sum) hne;refine Xv l'.pos l.pos l'.cop l.cop ?_;generalize (List.zipWith mulR' ws rs).foldl addR (0,1)=u at *
 generalize nrm (List.zipWith (·*·) Ws Rs).sum (D*D')=v at *
 generalize (List.zipWith (·*·) Ws Rs).sum=N at *
 generalize D*D'=E at *
 have:E*(v.1*u.2)=E*(u.1*v.2):=by grind
 exact JX hne this
end Sb
namespace Sb
open PySem L2
def sumR (rs:UA):Rat:=rs.foldl addR (0,1)
theorem G4 (rs:UA)(r:Rat):sumR (rs++[r])=addR (sumR rs) r:=by
 unfold sumR;rw[List.foldl_append];rfl
theorem Pc {i:Nat}{r:Rat}(h:rs[i]?=some r):sumR (rs.take (i+1))=addR (sumR (rs.take i)) r:=by rw[Yf h,G4]
def isW (rs:UA):Bool:=!((rs.map λr=>ltR r (0,1)).any id) && decide (sumR rs=(1,1))
theorem Lq:∀ (ns:TU) (m:Int),(∀ z∈ns,0<=z/\z<=m)->0<=ns.sum/\ns.sum<=m*ns.length
 | [],m,_=>by simp
 | z::t,m,h=>by
  obtain⟨h1,h2⟩:=Lq t m λx hx=>h x (YY _ hx);obtain⟨h3,h4⟩:=h z XI;rw[jo,JT];have:m*((t.length+1:Nat):Int)=m*t.length+m:=by rw[Int.natCast_add,Y11];simp
  omega
theorem Kz:∀ (ns:TU),(∀ z∈ns,0<=z)->(∃ z∈ns,1<=z)->1<=ns.sum
 | [],_,h=>by obtain⟨z,hz,_⟩:=h;cases hz
 | y::t,h0,h=>by
  have ht:0<=t.sum:=by
   have:∀ l:List Int,(∀ z∈l,0<=z)->0<=l.sum:=λl=>by
    induction l with
    | nil=>intro _;simp
    | cons a r ih =>
     intro h;have:=ih λx hx=>h x (YY _ hx);have:=h a XI;rw[jo];omega
   exact this t λx hx=>h0 x (YY _ hx)
  have hy:=h0 y XI;rw[jo];obtain⟨z,hz,h1⟩:=h;rcases YW.mp hz with e | e
  ·subst e;omega
  have:=Kz t (λx hx=>h0 x (YY _ hx)) ⟨z,e,h1⟩;omega
end Sb
namespace Sb
theorem Xy {α β:Type}(f:α->β){l:List α}{i:Nat}{x:α}(h:l[i]?=some x):(l.map f).take (i+1)=(l.map f).take i++[f x]:=Yf (by rw[YF,h];rfl)
open Sv (sm Y6 V4 Xa sm_zero Yb Y8 T7)
theorem Kx:∀ (c:Nat) (As Bs:TU),As.length=c->Bs.length=c->(List.zipWith (·*·) As Bs).sum=sm c (λi=>As.getD i 0*Bs.getD i 0)
 | 0,As,Bs,h1,h2=>by
  rw[jq h1];rfl
 | c+1,As,Bs,h1,h2=>by
  have e1:As=As.take c++[As.getD c 0]:=by
   have:As[c]?=some (As.getD c 0):=by simp[List.getD,show c<As.length by omega]
   rw[<-Yf this,YM (by omega)]
  have e2:Bs=Bs.take c++[Bs.getD c 0]:=by
   have:Bs[c]?=some (Bs.getD c 0):=by simp[List.getD,show c<Bs.length by omega]
   rw[<-Yf this,YM (by omega)]
  have l1:(As.take c).length=c:=by rw[JU];omega
  have l2:(Bs.take c).length=c:=by rw[JU];omega
  have ih:=Kx c (As.take c) (Bs.take c) l1 l2
  conv=>lhs;rw[e1,e2]
  rw[List.zipWith_append (by omega)];rw[List.sum_append,ih];show _+(As.getD c 0*Bs.getD c 0+0)=sm c _+As.getD c 0*Bs.getD c 0;rw[Int.add_zero]
  congr 1
  refine Y6 λi hi=>?_;have g:∀ L:List Int,c<=L.length->(L.take c).getD i 0=L.getD i 0:=λL hL=>by
   simp[List.getD,Y09,hi]
  rw[g As (by omega),g Bs (by omega)]
def cutZ (o:TV)(Zs:TU):List Int:=Zs.mapIdx λi z=>if inE o i then z else 0
theorem L8 (o:TV)(Zs:TU):(cutZ o Zs).length=Zs.length:=by unfold cutZ;simp
theorem Z38 {o:TV}{i:Nat}:(cutZ o Zs)[i]?=(Zs[i]?).map λz=>if inE o i then z else 0:=by
 unfold cutZ;rw[jp]
theorem bd0 (n:Nat):Bd n 0:=by
 show (0:Int).natAbs<2 ^ n;exact Y14 (by decide)
theorem RepL.cut {n:Nat}(h:RepL n D Zs rs)(o:TV):RepL n D (cutZ o Zs) (cutR o rs):=by
 refine⟨h.pos,h.bD,by rw[L8,Yp,h.len],λi W r hW hr=>?_⟩;have hl:i<rs.length:=by
  have:=(YE.mp hr).1
  rwa [Yp] at this
 have hz:i<Zs.length:=by rw[h.len];exact hl
 rw[V2 (r:=rs[i]) (by simp[hl])] at hr;rw[Z38,show Zs[i]?=some Zs[i] by simp[hz]] at hW
 cases hr
 cases hW;obtain⟨a,b,l⟩:=h.at_ i Zs[i] rs[i] (by simp[hz]) (by simp[hl]);split
 ·exact⟨a,b,l⟩
 exact⟨by simp,bd0 n,Qh⟩
theorem RepL.ones (c:Nat):RepL 1 1 (List.replicate c 1) (List.replicate c (1,1)):=by
 refine⟨by decide,by show (1:Int).natAbs<2 ^ 1;decide,by simp,λi W r hW hr=>?_⟩;have h1:=GI (YG hW);have h2:=GI (YG hr);subst h1 h2;exact⟨rfl,by show (1:Int).natAbs<2 ^ 1;decide,low11⟩
theorem RepL.mono {m n:Nat}{D:Int}{Zs:TU}{rs:UA}(h:RepL m D Zs rs)(k:m<=n):RepL n D Zs rs :=
 ⟨h.pos,h.bD.mono k,h.len,λi W r hW hr=>⟨(h.at_ i W r hW hr).1,(h.at_ i W r hW hr).2.1.mono k,(h.at_ i W r hW hr).2.2⟩⟩
theorem RepL.of_map {n:Nat}{D:Int}(hD:0<D)(bD:Bd n D){α:Type}(l:List α)(f:α->Rat)(g:α->Int)(h:∀ x∈l,(f x).1*D=g x*(f x).2/\Bd n (g x)/\Low (f x)):RepL n D (l.map g) (l.map f):=by
 refine⟨hD,bD,by simp,λi W r hW hr=>?_⟩;rw[YF] at hW hr
 cases e:l[i]? with
 | none=>rw[e] at hW;cases hW
 | some x =>
  rw[e] at hW hr
  cases hW
  cases hr;exact h x (YG e)
section
variable {c:Nat}{Ws Ro:TU}{o:TV}
end
theorem RepL.bdW {n:Nat}(h:RepL n D Zs rs):∀ z∈Zs,Bd n z:=λz hz=>by
 obtain⟨i,hi⟩:=XN hz;have hl:i<Zs.length:=(YE.mp hi).1;have hr:i<rs.length:=by rw[<-h.len];exact hl
 exact (h.at_ i z rs[i] hi (by simp[hr])).2.1
end Sb
namespace Sb
open PySem L2
structure Goes (J:It)(H:Hp)(xs:TY):Prop where
 go:∀ (i:Nat) (H':Hp),Same H H'->i<xs.length->J.go i H'
 yld:∀ (i:Nat) (H':Hp) (x:V) (H'':Hp),Same H H'->J.yld i H' x H''->H''=H'/\xs[i]?=some x
 stop:∀ H':Hp,Same H H'->J.stop xs.length H'
theorem Z5w {a:Addr}(h:SqL K H a xs):Goes (Itl K a) H xs :=
 ⟨λi H' S hi=>⟨xs,xs[i],M7 S h,by simp[hi]⟩,λ_ _ _ _ S ⟨e,f⟩=>⟨e,f xs (M7 S h)⟩,λ_ S=>⟨xs,M7 S h,YD _⟩⟩
theorem Z5v {a:Addr}(h:SqT K H a xs):Goes (Itt K a) H xs :=
 ⟨λi H' S hi=>⟨xs,xs[i],Zt S h,by simp[hi]⟩,λ_ _ _ _ S ⟨e,f⟩=>⟨e,f xs (Zt S h)⟩,λ_ S=>⟨xs,Zt S h,YD _⟩⟩
section
open PySem.Spec PyProof.Rows
variable {X:Cx}{tg:Expr}
inductive iAny_i (K:TQ) (R:(It->Hp->Prop)) (x:V) (H1:Hp):Prop
 | i (a:Addr) (xs:TY) (_:x=.ref a) (_:(SqL K H1 a xs \/ SqT K H1 a xs)) (_:∀ J:It,Goes J H1 xs->R J H1)
def iAny (K:TQ)(tl:TE):TI:=λσ H R=>tl σ H (iAny_i K R)
theorem Z49 {l:Expr}(hl:PE X l tl):PI X tg l (iAny X.K tl):=by
 intro pins s σ H R I h;refine thn (hl pins s σ H _ I h) λv s1 ⟨x,H1,I1,r1,q1⟩=>?_;obtain⟨a,xs,e,hq | hq,q⟩:=q1
 ·subst e
  cases r1;obtain⟨its,rv,p,hz⟩:=I1.list hq;refine GN p.isList ?_;refine⟨s1.heap.objs.size,[s1.heap.objs.size],_,_,H1,rfl,I1.kept (t':=s1.toks) λb o e=>YB _ e,Tq a _,⟨_,YT _ rfl,rfl,rfl⟩,λb hb=>?_,q _ (Z5w hq)⟩;have e:b=s1.heap.objs.size:=by simpa using hb
  subst e;exact I1.fpOk (YD _) (I1.hok.fresh (YD _))
 subst e
 cases r1;obtain⟨its,rv,p,hz⟩:=I1.tuple hq;refine qj (show s1.heap.IsTuple a its.toArray from p) ?_;refine⟨s1.heap.objs.size,[s1.heap.objs.size],_,_,H1,rfl,I1.kept (t':=s1.toks) λb o e=>YB _ e,Ul a _,⟨_,YT _ rfl,rfl,rfl⟩,λb hb=>?_,q _ (Z5v hq)⟩;have e:b=s1.heap.objs.size:=by simpa using hb
 subst e;exact I1.fpOk (YD _) (I1.hok.fresh (YD _))
end
end Sb
namespace Sb
open PySem PySem.Spec PyProof.Rows L2
section
variable {X:Cx}
theorem Wi {i:Nat}{x:Str}{pos' spos:Pos}{elt iter:Expr}{ifs:TK}{pos:Pos}{wi:TI}{tt:TT}{N:TF}{k:Nat}{fv:List Nat}
  (hXN:X.N.Nodup) (hix:X.N[i]?=some x) (hx:Loc X.env.scope x)
  (hc:X.calm=true) (hi:PI X tg iter wi) (hg:∀ cl C fp s H,PG (compCx X N scope cl C fp s H) tg g) (ht:∀ cl C fp s H,PTs (compCx X N scope cl C fp s H) ifs tt) (he:∀ cl C fp s H,PE (compCx X N scope cl C fp s H) elt te)
  (hw:∀ r x H Q,g x (List.replicate k none++r) H Q->g x (List.replicate k none++r) H λσ4 H4=>Q σ4 H4/\Weaker σ4 (List.replicate k none++r))
  (hN:N.length=k+fv.length:=by rfl) (hfv:fv.map (λj=>X.N[j]?)=(N.drop k).map some:=by rfl) (hk:(N.drop k).map X.env.kindOf=(N.drop k).map (λ_=>some .cell):=by rfl)
  (hfl:∀ y∈N.drop k,scope.names.lookup y=some .free:=by decide +kernel) (hfr:∀ y∈scope.names,y.2=.free->y.1∈N.drop k:=by decide +kernel)
  (hcell:∀ y∈scope.names,y.2≠.cell:=by decide +kernel) (hkind:scope.kind=.function:=by rfl) (hnames:∀ y∈scope.names,y.2=.local->scope.names.lookup y.1=some .local:=by decide +kernel)
  (hs:∀ x,foldedSetIterable iter X.env x=pure x:=by intro _;rfl)
  (hsw:swapsWith (.ListComp elt [⟨tg,iter,ifs,0⟩] scope pos) (some (.Name x pos')) spos.line X.env=pure true:=by rfl)
  (hf:X.fn x=true \/ X.env.scope.names.lookup x=some .local:=by first | exact .inl rfl | exact .inr rfl | assumption) :
  PS X (.Assign [.Name x pos'] (.ListComp elt [⟨tg,iter,ifs,0⟩] scope pos) spos) (tAsg (tComp wi g tt te k fv) (gName i)):=by
 intro pins s σ H D I h;have kc:∀ y∈N.drop k,X.env.kindOf y=some .cell:=λy hy=>by
  obtain⟨j,hj⟩:=XN hy;have a:=congrArg (λl=>l[j]?) hk;simp only [YF,hj,qd] at a;exact YK a
 obtain⟨cl,hclos,h1,h2⟩:=V7 (env:=X.env) (scope:=scope) λy hy hf=>I.ok.has y.1 (.inl (kc y.1 (hfr y hy hf)));rw[exec_Assign_Name_used _ _ _ _ hsw];refine YA (zm (YA ?_));unfold evalThenUse;refine YA (zC (use:=some (assign (.Name x pos') X.env)) rfl hs hclos hkind hnames (thn (hi pins s σ H _ I h) λxv s1 h1'=>thn h1' λitv s2 h2'=>?_));obtain⟨it,fp,tn,J,H2,e,I2,T,st2,f2,body⟩:=h2';subst e;refine Qs (Q:=λv H1=>gName i v σ H1 D.nx) (RR:=λacc C=>compPost (model X.prog X.w) X.A X.xe (some (assign (.Name x pos') X.env)) _ acc C) hc hg ht he hw hN hfv hk hfl hcell hkind h1 h2 I2 T st2 f2 body λDd C H' s' ⟨m,hm⟩ fpC q iv=>?_;show wpAny _ _ (assign (.Name x pos') X.env (.ref Dd)) _ _ s';have I':Inv X pins σ H' s':=iv s'.heap ⟨rfl,λ_ _=>rfl⟩;refine wpAny_assign_Name (Pd I' hXN hix hx (v:=.ref Dd) rfl (λs3 I3 ⟨a,sb,ha⟩=>⟨m,?_,λh' hs'=>?_⟩) hf)
 ·have hne:C≠a:=by
   rcases ha with rfl | ha
   ·exact fpC.2.1
   exact λz=>fpC.2.2.2.2.1 x a ha z.symm
  obtain⟨o,es,ep,ho,r⟩:=hm;exact⟨o,es,ep,by rw[sb.2 C hne];exact ho,r⟩
 refine YN (YN ?_);have I4:=Tl (ch:=[C]) (h':=h') (t':=s3.toks) I3 (λb hb=>by rw[JQ.mp hb];exact fpC) λb o hb e=>by
  rw[hs'.2 b (λz=>hb (by rw[z];exact JQ.mpr rfl))];exact e
 exact⟨_,H',I4,q⟩
end
end Sb
namespace Sb
open PySem L2
theorem Sh {a:Addr}{D:Ends}{σ:L2.St}(Pv:Nat->L2.St->Hp->Prop)(h0:Pv 0 σ H)(hl:∀ i σ H,i<=xs.length->Pv i σ H->SqL K H a xs)
  (hs:∀ i x σ H p,xs[i]?=some x->Pv i σ H->H p=none->g (.ref p) σ (upd H p (.tup [.int (i:Int),x])) λσ2 H2=>tb { D with nx:=Pv (i+1),ct:=Pv (i+1),bk:=D.nx } σ2 H2) (hd:∀ σ H,Pv xs.length σ H->D.nx σ H) :
  ∃ W:Nat->Nat->L2.St->Hp->Prop,(∃ m,W 0 m σ H)/\∀ i m σ H,W i m σ H →
   ((IteL K a).stop i H/\D.nx σ H) \/ ((IteL K a).go i H/\∃ N:L2.St->Hp->Prop,(∀ σ' H',N σ' H'->∃ m',m'<m/\W (i+1) m' σ' H')/\∀ x H',(IteL K a).yld i H x H'->g x σ H' λσ2 H2=>tb { D with nx:=N,ct:=N,bk:=D.nx } σ2 H2):=by
 refine⟨λi m σ H=>m=xs.length - i/\i<=xs.length/\Pv i σ H,⟨xs.length,by simp,JH _,h0⟩,?_⟩;rintro i m σ H ⟨rfl,hi,p⟩;have q:=hl i σ H hi p;by_cases hlt:i<xs.length
 ·refine .inr ⟨⟨xs,q,hlt⟩,Pv (i+1),λσ' H' p'=>⟨xs.length - (i+1),by omega,rfl,hlt,p'⟩,λx H' y=>?_⟩;obtain⟨pp,x0,rfl,hp,rfl,fx⟩:=y;exact hs i x0 σ H pp (fx xs q) p hp
 have e:i=xs.length:=by omega
 subst e;exact .inl ⟨⟨xs,q,rfl⟩,hd σ H p⟩
theorem Paired.appP {α β:Type}{R:α->β->Prop}:∀ {xs xs':List α} {ys ys':List β},Paired R xs ys->Paired R xs' ys'->Paired R (xs++xs') (ys++ys')
 | _,_,_,_,.nil,s=>s
 | _,_,_,_,.cons r t,s=>.cons r (Paired.appP t s)
section
variable {K:TQ}
def RowsAt (K:TQ)(H:Hp)(l:Addr)(rss:UB):Prop:=∃ as:List Addr,H l=some (.lst (as.map V.ref))/\Paired (RowAt K H) as rss
theorem Yw {as:TJ}(h:Paired (RowAt K H) as rss)(x:Ext H H'):Paired (RowAt K H') as rss:=Paired.mapP h λ_ _ q=>q.ext x
end
theorem Pl {c A B:Prop}[Decidable c](hc:¬ c)(h:A):if (!decide c)=true then A else B:=by
 rw[JD hc];exact Vf h
end Sb
namespace Sb
open PySem PySem.Spec PyProof.Rows L2
theorem Lo (l:Addr)(items:Array Value)(n:Nat)(dd:TN)(sl:Array (Option Value))(u:Tok) :
  Meets (Builtin.«tuple.__mul__» ⟨[.ref l,.int 1 u],[]⟩) (λ_ R s=>s.heap.get? l=some { cls:=.type "tuple",dict:=dd,data:=.seq items n,slots:=sl }/\R (.ok (.ret (Value.ref l))) s) :=
 .of_wp λprog w A R s h=>by
  obtain⟨hp,g,d,tk,os⟩:=s;obtain⟨hl,h⟩:=h;have f1:=AutoSeq1.idx_int;have f2:=Y0l;have c1:(items.isEmpty || (1:Int) == 1)=true:=by simp
  wp_walk using JO hl
  exact⟨_,rfl,h⟩
section
variable {X:Cx}{K:TQ}
inductive rRepU (K:TQ) (x:V) (y:V) (H:Hp) (Q:VK):Prop
 | i (a k xs:_) (_:x=.ref a) (_:y=.int k) (_:SqT K H a xs) (_:1<=k) (_:xs≠[]) (_:xs.length*k.toNat<=1000) (_:∀ p H',Same H H'->SqT K H' p (List.replicate k.toNat xs).flatten->Q (.ref p) H')
theorem Z22:OpR X (binaryOp .Mult) (rRepU X.K):=by
 intro pins s σ H x y v u Q I rx ry h;obtain⟨l,k,xs,rfl,rfl,hq,h1,h2,h3,q⟩:=h;by_cases hk:2<=k
 ·exact Jb pins s σ H _ _ v u Q I rx ry ⟨l,k,xs,rfl,rfl,hq,hk,h2,h3,λp hp=>q p _ (Same.new hp) (SqT.of Zb)⟩
 have e:k=1:=by omega
 subst e
 cases rx;obtain⟨t,rfl⟩:=ry;obtain⟨its,r,pl,hz⟩:=I.tuple hq;obtain⟨⟨cls,dd,data,sl⟩,ho,hc,n,hd⟩:=id pl;simp only at hc hd;subst hc hd;refine Y0c (T:="tuple") (U:="int") (by decide) ⟨_,ho,rfl⟩ (λs'=>Y0u s' 1 t) Vd F.fills_int_mul ju Ta F.slot_int_index.lookup
  (jj ju (Y0u s 1 t) F.entry_int_rmul (F.args_int_rmul_2 _ _) (Ui 1 t l its.toArray n dd sl)
   ⟨ho,rfl,⟨_,ho,rfl⟩,jj jm ⟨_,ho,rfl⟩ F.entry_tuple_mul (F.args_tuple_mul_2 _ _) (Lo l its.toArray n dd sl t) ⟨ho,?_⟩⟩)
 refine⟨.ref l,H,I,rfl,q l H (λ_ _ h=>h) ?_⟩;have:(List.replicate (1:Int).toNat xs).flatten=xs:=by simp
 rw[this];exact hq
end
end Sb
namespace Sv
structure Tab where
 b:Int
 own:Nat->Nat
 hd:Nat->Nat
 L:Nat->Nat->Int
abbrev _root_.UC:=Tab
def colOf (n:Nat)(col:Nat->Vec)(rhs:Vec)(T:Tab)(j:Nat):Vec:=if j<n then col (T.hd j) else rhs
def bas (col:Nat->Vec)(T:Tab):Mat:=λi=>col (T.own i)
structure Inv (m n:Nat)(col:Nat->Vec)(rhs:Vec)(T:Tab):Prop where
 pos:0<T.b
 dt:det m (bas col T)=T.b
 eqs:∀ j,j<=n->∀ r,r<m->T.b*colOf n col rhs T j r=sm m (λi=>T.L i j*bas col T i r)
 part:∀ f:Nat->Int,sm (n+m) f=sm m (λi=>f (T.own i))+sm n (λj=>f (T.hd j))
section
variable {m n:Nat}{col:Nat->Vec}{rhs:Vec}{T:Tab}
theorem Nx {a x y:Int}(h:0<a)(e:a*x=a*y):x=y:=JX (by omega) e
theorem Nv {i k:Nat}(hi:i<m)(hk:k<m):det m (put (bas col T) i (bas col T k))=if k=i then det m (bas col T) else 0:=by
 by_cases e:k=i
 ·subst e;rw[YJ rfl,U3]
 rw[YH e];exact Qq hi hk (XJ e) (by rw[Ye,Y7 e])
theorem Inv.phi (I:Inv m n col rhs T){i j:Nat}(hi:i<m)(hj:j<=n):det m (put (bas col T) i (colOf n col rhs T j))=T.L i j:=by
 refine Nx I.pos ?_;rw[<-L6 hi];have e1:det m (put (bas col T) i (λr=>T.b*colOf n col rhs T j r))=det m (put (bas col T) i (λr=>sm m (λk=>T.L k j*bas col T k r))):=by
  refine Xp λk r hk hr=>?_;by_cases e:k=i
  ·subst e;rw[Ye,Ye];exact I.eqs j hj r hr
  rw[Y7 e,Y7 e]
 rw[e1,Tn hi];rw[sm_one (k:=i) hi λk hk hne=>?_]
 ·rw[Nv hi hi,YJ rfl,I.dt,XL]
 rw[Nv hi hk,YH hne,GP]
theorem Inv.phiO (I:Inv m n col rhs T){i k:Nat}(hi:i<m)(hk:k<m):det m (put (bas col T) i (bas col T k))=if k=i then T.b else 0:=by
 rw[Nv hi hk,I.dt]
theorem Inv.two (I:Inv m n col rhs T){p i c j:Nat}(hp:p<m)(hi:i<m)(hpi:i≠p)(hc:c<=n)(hj:j<=n) :
  T.b*det m (put (put (bas col T) p (colOf n col rhs T c)) i (colOf n col rhs T j))=T.L i j*T.L p c - T.L i c*T.L p j:=by
 rw[Xz (XJ hpi),<-L6 hp];have e1:det m (put (put (bas col T) i (colOf n col rhs T j)) p (λr=>T.b*colOf n col rhs T c r))=det m (put (put (bas col T) i (colOf n col rhs T j)) p (λr=>sm m (λk=>T.L k c*bas col T k r))):=by
  refine Xp λk r hk hr=>?_;by_cases e:k=p
  ·subst e;rw[Ye,Ye];exact I.eqs c hc r hr
  rw[Y7 e,Y7 e]
 rw[e1,Tn hp];rw[Dl (p:=p) (q:=i) hp hi (XJ hpi) λk hk h1 h2=>?_]
 ·have a1:put (put (bas col T) i (colOf n col rhs T j)) p (bas col T p)=put (bas col T) i (colOf n col rhs T j):=by
   rw[Xz hpi,U3]
  have a2:det m (put (put (bas col T) i (colOf n col rhs T j)) p (bas col T i))=- T.L p j:=by
   rw[Z0t hi hp hpi,U3,I.phi hp hj]
  rw[a1,a2,I.phi hi hj];grind
 rw[Qq (p:=p) (q:=k) hp hk (XJ h1) (by rw[Ye,Y7 h1,Y7 h2]),GP]
def newL (T:Tab)(p c i j:Nat):Int:=if i=p then (if j=c then T.b else T.L p j) else if j=c then - T.L i c else (T.L i j*T.L p c - T.L i c*T.L p j).fdiv T.b
def up (f:TW)(i v:Nat):Nat->Nat:=λk=>if k=i then v else f k
def piv (T:Tab)(p c:Nat):Tab:=⟨T.L p c,up T.own p (T.hd c),up T.hd c (T.own p),newL T p c⟩
theorem Inv.newL_mul (I:Inv m n col rhs T){p c i j:Nat}(hp:p<m)(hc:c<n)(hi:i<m)(hj:j<=n)(h1:i≠p)(h2:j≠c):T.b*newL T p c i j=T.L i j*T.L p c - T.L i c*T.L p j:=by
 have h:=I.two hp hi h1 (XZ hc) hj;unfold newL;rw[YH h1,YH h2,<-h];rw[XL T.b (det m _),jx _ (by have:=I.pos;omega)];rw[XL]
theorem Z3d {k:Nat}{f:TX}{g:TW}{i v:Nat}(hi:i<k):sm k (λx=>f (up g i v x))=sm k (λx=>f (g x))+f v - f (g i):=by
 rw[Y8 (k:=i) hi,Y8 (f:=λx=>f (g x)) (k:=i) hi];have e:sm k (λx=>if x=i then 0 else f (up g i v x))=sm k (λx=>if x=i then 0 else f (g x)):=Y6 λx _=>by
  by_cases h:x=i
  ·rw[YJ h,YJ h]
  rw[YH h,YH h];unfold up;rw[YH h]
 rw[e];have:up g i v i=v:=YJ rfl;show f (up g i v i)+_=_;rw[this];omega
theorem Ju (T:Tab)(p c:Nat):bas col (piv T p c)=put (bas col T) p (col (T.hd c)):=by
 funext i
 show col (up T.own p (T.hd c) i)=_;by_cases e:i=p
 ·subst e;rw[Ye];unfold up;rw[YJ rfl]
 rw[Y7 e];unfold up;rw[YH e];rfl
theorem W5 (h:j<n):colOf n col rhs T j=col (T.hd j):=YJ h
theorem Inv.piv (I:Inv m n col rhs T){p c:Nat}(hp:p<m)(hc:c<n)(hk:0<T.L p c):Inv m n col rhs (piv T p c):=by
 refine⟨hk,?_,λj hj r hr=>?_,λf=>?_⟩
 ·rw[Ju,<-W5 (col:=col) (rhs:=rhs) (T:=T) hc,I.phi hp (XZ hc)];rfl
 ·rw[Ju];show T.L p c*colOf n col rhs (Sv.piv T p c) j r=sm m (λi=>newL T p c i j*put (bas col T) p (col (T.hd c)) i r);have ec:=I.eqs c (XZ hc) r hr;rw[W5 hc,Y8 (k:=p) hp] at ec;rw[Y8 (k:=p) hp,Ye];by_cases e:j=c
  ·subst e;have e1:colOf n col rhs (Sv.piv T p j) j=bas col T p:=by
    rw[W5 hc];show col (up T.hd j (T.own p) j)=_;unfold up;rw[YJ rfl];rfl
   have e2:sm m (λi=>if i=p then 0 else newL T p j i j*put (bas col T) p (col (T.hd j)) i r)=(-1)*sm m (λi=>if i=p then 0 else T.L i j*bas col T i r):=by
    rw[<-Xa];refine Y6 λi hi=>?_;by_cases h:i=p
    ·rw[YJ h,YJ h];rfl
    rw[YH h,YH h,Y7 h];unfold newL;rw[YH h,YJ rfl];grind
   have e3:newL T p j p j=T.b:=by unfold newL;rw[YJ rfl,YJ rfl]
   rw[e1,e2,e3];omega
  have ej:=I.eqs j hj r hr;rw[Y8 (k:=p) hp] at ej;have e1:colOf n col rhs (Sv.piv T p c) j=colOf n col rhs T j:=by
   unfold colOf;by_cases q:j<n
   ·rw[YJ q,YJ q];show col (up T.hd c (T.own p) j)=_;unfold up;rw[YH e]
   rw[YH q,YH q]
  have e3:newL T p c p j=T.L p j:=by unfold newL;rw[YJ rfl,YH e]
  refine Nx I.pos ?_;have e2:T.b*sm m (λi=>if i=p then 0 else newL T p c i j*put (bas col T) p (col (T.hd c)) i r)=T.L p c*sm m (λi=>if i=p then 0 else T.L i j*bas col T i r)+(- T.L p j)*sm m (λi=>if i=p then 0 else T.L i c*bas col T i r):=by
   rw[<-Xa,<-Xa,<-Xa,<-V4];refine Y6 λi hi=>?_;by_cases h:i=p
   ·rw[YJ h,YJ h,YJ h];simp
   rw[YH h,YH h,YH h,Y7 h,<-JW,I.newL_mul hp hc hi hj h e];grind
  rw[e1,e3,Y11,e2];generalize sm m (λi=>if i=p then 0 else T.L i j*bas col T i r)=A at *
  generalize sm m (λi=>if i=p then 0 else T.L i c*bas col T i r)=B at *
  generalize colOf n col rhs T j r=x at *
  generalize col (T.hd c) r=y at *
  generalize bas col T p r=z at *
  clear e2;grind
 show sm (n+m) f=sm m (λi=>f (up T.own p (T.hd c) i))+sm n (λj=>f (up T.hd c (T.own p) j));rw[Z3d hp,Z3d hc,I.part f];omega
def ind (v:Nat):Nat->Int:=λx=>if x=v then 1 else 0
theorem Se (v x:Nat):0<=ind v x:=by unfold ind;split <;> omega
theorem Inv.cnt (I:Inv m n col rhs T){v:Nat}(h:v<n+m):sm m (λi=>ind v (T.own i))+sm n (λj=>ind v (T.hd j))=1:=by
 rw[<-I.part (ind v),sm_one (f:=ind v) (k:=v) h λi hi hne=>YH hne];exact YJ rfl
theorem Inv.big (I:Inv m n col rhs T):sm m (λi=>if T.own i<n+m then (0:Int) else 1)+sm n (λj=>if T.hd j<n+m then (0:Int) else 1)=0:=by
 rw[<-I.part (λx=>if x<n+m then 0 else 1)];exact sm_zero λi hi=>YJ hi
theorem Inv.ownLt (I:Inv m n col rhs T){i:Nat}(hi:i<m):T.own i<n+m:=by
 apply YR;intro h;have e:=I.big;have h1:0<=sm n (λj=>if T.hd j<n+m then (0:Int) else 1):=Yb λj _=>by split <;> omega
 rw[Y8 (k:=i) hi,YH h] at e;have h2:0<=sm m (λx=>if x=i then 0 else if T.own x<n+m then (0:Int) else 1):=Yb λj _=>by split <;> (try split) <;> omega
 omega
theorem Inv.hdLt (I:Inv m n col rhs T){j:Nat}(hj:j<n):T.hd j<n+m:=by
 apply YR;intro h;have e:=I.big;have h1:0<=sm m (λj=>if T.own j<n+m then (0:Int) else 1):=Yb λj _=>by split <;> omega
 rw[Y8 (f:=λj=>if T.hd j<n+m then (0:Int) else 1) (k:=j) hj,YH h] at e;have h2:0<=sm n (λx=>if x=j then 0 else if T.hd x<n+m then (0:Int) else 1):=Yb λj _=>by split <;> (try split) <;> omega
 omega
theorem Inv.ne (I:Inv m n col rhs T){i j:Nat}(hi:i<m)(hj:j<n):T.own i≠T.hd j:=λh=>by
 have e:=I.cnt (I.ownLt hi);rw[Y8 (k:=i) hi,Y8 (f:=λx=>ind (T.own i) (T.hd x)) (k:=j) hj] at e;have a1:ind (T.own i) (T.own i)=1:=YJ rfl;have a2:ind (T.own i) (T.hd j)=1:=YJ h.symm;have h1:0<=sm m (λx=>if x=i then 0 else ind (T.own i) (T.own x)):=Yb λx _=>by split;omega;exact Se ..
 have h2:0<=sm n (λx=>if x=j then 0 else ind (T.own i) (T.hd x)):=Yb λx _=>by split;omega;exact Se ..
 omega
theorem Inv.ownInj (I:Inv m n col rhs T){i k:Nat}(hi:i<m)(hk:k<m)(h:T.own i=T.own k):i=k:=by
 apply YR;intro hne;have e:=I.cnt (I.ownLt hi);rw[Y8 (k:=i) hi,Y8 (f:=λx=>if x=i then 0 else ind (T.own i) (T.own x)) (k:=k) hk] at e;have a1:ind (T.own i) (T.own i)=1:=YJ rfl;rw[YH (XJ hne)] at e;have a2:ind (T.own i) (T.own k)=1:=YJ h.symm;have h1:0<=sm m (λx=>if x=k then 0 else if x=i then 0 else ind (T.own i) (T.own x)):=Yb λx _=>by split;omega;split;omega;exact Se ..
 have h2:0<=sm n (λx=>ind (T.own i) (T.hd x)):=Yb λx _=>Se ..;omega
theorem Inv.hdInj (I:Inv m n col rhs T){i k:Nat}(hi:i<n)(hk:k<n)(h:T.hd i=T.hd k):i=k:=by
 apply YR;intro hne;have e:=I.cnt (I.hdLt hi);rw[Y8 (f:=λx=>ind (T.hd i) (T.hd x)) (k:=i) hi,Y8 (f:=λx=>if x=i then 0 else ind (T.hd i) (T.hd x)) (k:=k) hk] at e;have a1:ind (T.hd i) (T.hd i)=1:=YJ rfl;rw[YH (XJ hne)] at e;have a2:ind (T.hd i) (T.hd k)=1:=YJ h.symm;have h1:0<=sm n (λx=>if x=k then 0 else if x=i then 0 else ind (T.hd i) (T.hd x)):=Yb λx _=>by split;omega;split;omega;exact Se ..
 have h2:0<=sm m (λx=>ind (T.hd i) (T.own x)):=Yb λx _=>Se ..;omega
theorem Inv.cover (I:Inv m n col rhs T){v:Nat}(h:v<n+m):(∃ i,i<m/\T.own i=v) \/ (∃ j,j<n/\T.hd j=v):=by
 have e:=I.cnt h;by_cases q:0<sm m (λi=>ind v (T.own i))
 ·obtain⟨i,hi,hp⟩:=Lu q;refine .inl ⟨i,hi,?_⟩;apply YR;intro z;rw[show ind v (T.own i)=0 from YH z] at hp;omega
 have:0<sm n (λj=>ind v (T.hd j)):=by omega
 obtain⟨i,hi,hp⟩:=Lu this;refine .inr ⟨i,hi,?_⟩;apply YR;intro z;rw[show ind v (T.hd i)=0 from YH z] at hp;omega
theorem Inv.row (I:Inv m n col rhs T){i:Nat}(hi:i<m)(x:TX)(hx:∀ r,r<m->sm (n+m) (λv=>x v*col v r)=0):T.b*x (T.own i)+sm n (λj=>T.L i j*x (T.hd j))=0:=by
 have e1:det m (put (bas col T) i (λr=>sm (n+m) (λv=>x v*col v r)))=0:=by
  rw[<-L5 (m:=m) (v:=bas col T) (c:=i) hi];refine Xp λk r hk hr=>?_;by_cases e:k=i
  ·subst e;rw[Ye,Ye];exact hx r hr
  rw[Y7 e,Y7 e]
 rw[Tn hi,I.part] at e1;have e2:sm m (λk=>x (T.own k)*det m (put (bas col T) i (col (T.own k))))=T.b*x (T.own i):=by
  rw[sm_one (k:=i) hi λk hk hne=>?_]
  ·have:=I.phiO hi hi;rw[YJ rfl] at this;show x (T.own i)*det m (put (bas col T) i (bas col T i))=_;rw[this,XL]
  have:=I.phiO hi hk;rw[YH hne] at this;show x (T.own k)*det m (put (bas col T) i (bas col T k))=_;rw[this,GP]
 have e3:sm n (λj=>x (T.hd j)*det m (put (bas col T) i (col (T.hd j))))=sm n (λj=>T.L i j*x (T.hd j)):=Y6 λj hj=>by
  have:=I.phi (i:=i) (j:=j) hi (XZ hj);rw[W5 hj] at this;rw[this,XL]
 rw[e2,e3] at e1;exact e1
def dir (m:Nat)(T:Tab)(c:Nat):Nat->Int:=λv=>(if v=T.hd c then T.b else 0) + - sm m (λi=>if T.own i=v then T.L i c else 0)
theorem Inv.dirO (I:Inv m n col rhs T){c i:Nat}(hc:c<n)(hi:i<m):dir m T c (T.own i)=- T.L i c:=by
 unfold dir;rw[YH (I.ne hi hc),sm_one (k:=i) hi λk hk hne=>YH λz=>hne (I.ownInj hk hi z),YJ rfl];omega
theorem Inv.dirH (I:Inv m n col rhs T){c j:Nat}(hc:c<n)(hj:j<n):dir m T c (T.hd j)=if j=c then T.b else 0:=by
 unfold dir;rw[sm_zero (f:=λi=>if T.own i=T.hd j then T.L i c else 0) λk hk=>YH (I.ne hk hj)];by_cases e:j=c
 ·subst e;rw[YJ rfl,YJ rfl];omega
 rw[YH e,YH λz=>e (I.hdInj hj hc z)];omega
theorem Inv.dirSol (I:Inv m n col rhs T){c:Nat}(hc:c<n){r:Nat}(hr:r<m):sm (n+m) (λv=>dir m T c v*col v r)=0:=by
 rw[I.part];have e1:sm m (λi=>dir m T c (T.own i)*col (T.own i) r)=(-1)*sm m (λi=>T.L i c*bas col T i r):=by
  rw[<-Xa];refine Y6 λi hi=>?_;rw[I.dirO hc hi];show _=-1*(T.L i c*col (T.own i) r);grind
 have e2:sm n (λj=>dir m T c (T.hd j)*col (T.hd j) r)=T.b*col (T.hd c) r:=by
  rw[sm_one (k:=c) hc λj hj hne=>by rw[I.dirH hc hj,YH hne,ja],I.dirH hc hc,YJ rfl]
 have e3:=I.eqs c (XZ hc) r hr;rw[W5 hc] at e3;rw[e1,e2,e3];omega
end
end Sv
variable {T:UC}
namespace Sv
section
variable {m n lk i0:Nat}{col:Nat->Vec}{rhs:Vec}{T:Tab}{p c:Nat}
structure Step (m n lk i0:Nat)(T:Tab)(p c:Nat):Prop where
 hp:p<m
 hc:c<n
 nl:T.hd c≠lk
 help:0<T.L i0 c
 first:∀ j,j<n->T.hd j≠lk->0<T.L i0 j->T.hd c<=T.hd j
 el:T.own p<=lk
 key:0<T.L p c
 least:∀ i,i<m->T.own i<=lk->0<T.L i c->T.L p n*T.L i c<T.L i n*T.L p c \/ (T.L p n*T.L i c=T.L i n*T.L p c/\T.own p<=T.own i)
def Feas (m n lk:Nat)(T:Tab):Prop:=∀ i,i<m->T.own i<=lk->0<=T.L i n
theorem F4 {a x:Int}(ha:0<a)(h:0<=a*x):0<=x:=by
 apply YR;intro z;have:=Int.mul_neg_of_pos_of_neg ha (show x<0 by omega);omega
theorem Inv.end_ne (I:Inv m n col rhs T)(s:Step m n lk i0 T p c){i:Nat}(hi:i<m)(h:i≠p):T.b*(Sv.piv T p c).L i n=T.L i n*T.L p c - T.L i c*T.L p n :=
 I.newL_mul s.hp s.hc hi (YD n) h (by have:=s.hc;omega)
theorem Z3k (s:Step m n lk i0 T p c):(piv T p c).L p n=T.L p n:=by
 show newL T p c p n=_;unfold newL;rw[YJ rfl,YH (by have:=s.hc;omega)]
theorem own_p:(piv T p c).own p=T.hd c:=YJ rfl
theorem own_ne {i:Nat}(h:i≠p):(piv T p c).own i=T.own i:=YH h
theorem Step.feas (I:Inv m n col rhs T)(s:Step m n lk i0 T p c)(F:Feas m n lk T):Feas m n lk (piv T p c):=λi hi ho=>by
 by_cases e:i=p
 ·subst e;rw[Z3k s];exact F i hi s.el
 rw[own_ne e] at ho;have h:=I.end_ne s hi e;have h0:=F i hi ho;have h1:=F p s.hp s.el;refine F4 I.pos ?_;rw[h];by_cases q:0<T.L i c
 ·rcases s.least i hi ho q with z | ⟨z,_⟩
  ·rw[XL (T.L i c)];omega
  rw[XL (T.L i c)];omega
 have a1:0<=T.L i n*T.L p c:=zy h0 (by have:=s.key;omega);have a2:T.L i c*T.L p n<=0:=GJ (by omega) h1;omega
structure Run (m n lk i0:Nat)(col:Nat->Vec)(rhs:Vec)(K:Nat)(S:Nat->Tab)(P C:TW):Prop where
 h0:i0<m
 I0:Inv m n col rhs (S 0)
 F0:Feas m n lk (S 0)
 st:∀ k,k<K->Step m n lk i0 (S k) (P k) (C k)
 stay:∀ k,k<K->P k≠i0
 nx:∀ k,k<K->S (k+1)=piv (S k) (P k) (C k)
variable {K:Nat}{S:Nat->Tab}{P C:TW}
theorem Run.inv (R:Run m n lk i0 col rhs K S P C):∀ k,k<=K->Inv m n col rhs (S k)/\Feas m n lk (S k)
 | 0,_=>⟨R.I0,R.F0⟩
 | k+1,h=>by
  obtain⟨I,F⟩:=R.inv k (by omega);have s:=R.st k (by omega);rw[R.nx k (by omega)];exact⟨I.piv s.hp s.hc s.key,s.feas I F⟩
theorem Run.down (R:Run m n lk i0 col rhs K S P C){a:Nat}:∀ d,a+d<=K->(S (a+d)).L i0 n*(S a).b<=(S a).L i0 n*(S (a+d)).b/\((∃ l,a<=l/\l<a+d/\0<(S l).L (P l) n)->(S (a+d)).L i0 n*(S a).b<(S a).L i0 n*(S (a+d)).b)
 | 0,_=>⟨Y12 _,λ⟨l,h1,h2,_⟩=>by omega⟩
 | d+1,h=>by
  obtain⟨h1,h2⟩:=R.down (a:=a) d (by omega);obtain⟨I,F⟩:=R.inv (a+d) (by omega);obtain⟨Ia,_⟩:=R.inv a (by omega);have s:=R.st (a+d) (by omega);have e:=I.end_ne s R.h0 (XJ (R.stay (a+d) (by omega)));have eb:(piv (S (a+d)) (P (a+d)) (C (a+d))).b=(S (a+d)).L (P (a+d)) (C (a+d)):=rfl;rw[<-Y0m,R.nx (a+d) (by omega),eb];have hn:=F (P (a+d)) s.hp s.el;have hh:=s.help;have hk:=s.key;have hb:=I.pos;have ha:=Ia.pos;have hd:0<=(S (a+d)).L i0 (C (a+d))*(S (a+d)).L (P (a+d)) n:=zy (by omega) hn;have hds:0<(S (a+d)).L (P (a+d)) n->0<(S (a+d)).L i0 (C (a+d))*(S (a+d)).L (P (a+d)) n:=λz=>XX hh z;have hs:(∃ l,a<=l/\l<a+d+1/\0<(S l).L (P l) n)->(∃ l,a<=l/\l<a+d/\0<(S l).L (P l) n) \/ 0<(S (a+d)).L (P (a+d)) n:=λ⟨l,l1,l2,l3⟩=>by
   by_cases q:l=a+d
   ·subst q;exact .inr l3
   exact .inl ⟨l,l1,by omega,l3⟩
  generalize (piv (S (a+d)) (P (a+d)) (C (a+d))).L i0 n=x' at *
  generalize (S (a+d)).L i0 n=x at *
  generalize (S (a+d)).b=b at *
  generalize (S (a+d)).L (P (a+d)) (C (a+d))=b' at *
  generalize (S a).b=ba at *
  generalize (S a).L i0 n=xa at *
  generalize (S (a+d)).L i0 (C (a+d))*(S (a+d)).L (P (a+d)) n=t at *
  have e1:b*(x'*ba)=x*ba*b' - t*ba:=by
   have:b*(x'*ba)=(b*x')*ba:=by grind
   rw[this,e];grind
  have e2:b*(xa*b')=(xa*b)*b':=by grind
  have m1:x*ba*b'<=xa*b*b':=JV h1 (by omega);have m2:0<=t*ba:=zy hd (by omega);constructor
  ·exact Y0d (show b*(x'*ba)<=b*(xa*b') by omega) hb
  intro z;rcases hs z with z | z
  ·have m3:x*ba*b'<xa*b*b':=zw (h2 z) hk;exact qu (show b*(x'*ba)<b*(xa*b') by omega) (by omega)
  have m3:0<t*ba:=XX (hds z) ha;exact qu (show b*(x'*ba)<b*(xa*b') by omega) (by omega)
def isOwn (m:Nat)(T:Tab)(r:Nat):Prop:=∃ i,i<m/\T.own i=r
def Zr (m n:Nat)(T:Tab)(r:Nat):Prop:=∀ i,i<m->T.own i=r->T.L i n=0
theorem Kn {r:Nat}(h:isOwn m T r)(hr:r≠T.own p):isOwn m (piv T p c) r:=by
 obtain⟨i,hi,rfl⟩:=h;have:i≠p:=λz=>hr (by rw[z]);exact⟨i,hi,own_ne this⟩
theorem Fk {r:Nat}(h:¬ isOwn m T r)(hr:r≠T.hd c):¬ isOwn m (piv T p c) r:=λ⟨i,hi,e⟩=>by
 by_cases q:i=p
 ·subst q;rw[own_p] at e;exact hr e.symm
 rw[own_ne q] at e;exact h ⟨i,hi,e⟩
theorem Z59 (I:Inv m n col rhs T)(s:Step m n lk i0 T p c)(h0:T.L p n=0){r:Nat}:(Zr m n T r->Zr m n (piv T p c) r)/\(Zr m n (piv T p c) r->Zr m n T r):=by
 have hb:=I.pos;have hk:=s.key;refine⟨λh i hi e=>?_,λh i hi e=>?_⟩
 ·by_cases q:i=p
  ·subst q;rw[Z3k s];exact h0
  rw[own_ne q] at e;have:=I.end_ne s hi q;rw[h i hi e,h0] at this;refine Nx hb ?_;rw[this];simp
 by_cases q:i=p
 ·subst q;exact h0
 have:=I.end_ne s hi q;rw[h i hi (by rw[own_ne q];exact e),h0] at this;refine Nx hk ?_;have e2:T.L p c*T.L i n=T.L i n*T.L p c:=XL ..;rw[e2];simp at this;simp;omega
theorem Run.Zall (R:Run m n lk i0 col rhs K S P C){a d0:Nat}(hK:a+d0<=K)(hz:∀ l,a<=l->l<a+d0->(S l).L (P l) n=0){r:Nat}:∀ d,d<=d0->(Zr m n (S (a+d)) r ↔ Zr m n (S a) r)
 | 0,_=>Iff.rfl
 | d+1,h=>by
  have ih:=R.Zall hK hz (r:=r) d (by omega);obtain⟨I,_⟩:=R.inv (a+d) (by omega);obtain⟨z1,z2⟩:=Z59 I (R.st (a+d) (by omega)) (hz (a+d) (by omega) (by omega)) (r:=r);rw[<-Y0m,R.nx (a+d) (by omega)];exact⟨λh=>ih.mp (z2 h),λh=>z1 (ih.mpr h)⟩
theorem Run.keeps (R:Run m n lk i0 col rhs K S P C){k r:Nat}(h:isOwn m (S k) r):∀ d,k+d<=K->(∀ l,k<=l->l<k+d->(S l).own (P l)≠r)->isOwn m (S (k+d)) r
 | 0,_,_=>h
 | d+1,hK,hl=>by
  have ih:=R.keeps h d (by omega) λl h1 h2=>hl l h1 (by omega);rw[<-Y0m,R.nx (k+d) (by omega)];exact Kn ih (XJ (hl (k+d) (by omega) (by omega)))
theorem Run.keepsN (R:Run m n lk i0 col rhs K S P C){k r:Nat}(h:¬ isOwn m (S k) r):∀ d,k+d<=K->(∀ l,k<=l->l<k+d->(S l).hd (C l)≠r)->¬ isOwn m (S (k+d)) r
 | 0,_,_=>h
 | d+1,hK,hl=>by
  have ih:=R.keepsN h d (by omega) λl h1 h2=>hl l h1 (by omega);rw[<-Y0m,R.nx (k+d) (by omega)];exact Fk ih (XJ (hl (k+d) (by omega) (by omega)))
theorem Z02 (f:TW)(a:Nat):∀ d,0<d->∃ k,a<=k/\k<a+d/\∀ l,a<=l->l<a+d->f l<=f k
 | 0,h=>by omega
 | 1,_=>⟨a,by omega,by omega,λl h1 h2=>by rw[show l=a by omega];exact YD _⟩
 | d+2,_=>by
  obtain⟨k,h1,h2,h3⟩:=Z02 f a (d+1) (by omega);by_cases q:f k<=f (a+d+1)
  ·refine⟨a+d+1,by omega,by omega,λl l1 l2=>?_⟩;by_cases e:l=a+d+1
   ·rw[e];exact YD _
   exact YX (h3 l l1 (by omega)) q
  refine⟨k,h1,by omega,λl l1 l2=>?_⟩;by_cases e:l=a+d+1
  ·rw[e];omega
  exact h3 l l1 (by omega)
theorem Run.once (R:Run m n lk i0 col rhs K S P C){a d:Nat}(hd:0<d)(hK:a+d<=K)(same:∀ i,i<m->(S a).own i=(S (a+d)).own i):False:=by
 obtain⟨Ia,Fa⟩:=R.inv a (by omega);obtain⟨Ib,Fb⟩:=R.inv (a+d) hK;have eb:(S a).b=(S (a+d)).b:=by
  rw[<-Ia.dt,<-Ib.dt];refine Xp λk r hk hr=>?_;show col ((S a).own k) r=col ((S (a+d)).own k) r;rw[same k hk]
 have ee:(S a).L i0 n=(S (a+d)).L i0 n:=by
  rw[<-Ia.phi R.h0 (YD n),<-Ib.phi R.h0 (YD n)];refine Xp λk r hk hr=>?_;by_cases e:k=i0
  ·subst e;rw[Ye,Ye];unfold colOf;rw[YH (by omega),YH (by omega)]
  rw[Y7 e,Y7 e];show col ((S a).own k) r=col ((S (a+d)).own k) r;rw[same k hk]
 have hz:∀ l,a<=l->l<a+d->(S l).L (P l) n=0:=λl h1 h2=>by
  have s:=R.st l (by omega);have f:=(R.inv l (by omega)).2 (P l) s.hp s.el;apply YR;intro z;have:=(R.down (a:=a) d hK).2 ⟨l,h1,h2,by omega⟩;rw[<-ee,<-eb] at this;omega
 have own_iff:∀ r,isOwn m (S a) r->isOwn m (S (a+d)) r:=λr ⟨i,hi,e⟩=>⟨i,hi,by rw[<-same i hi];exact e⟩;have own_iff':∀ r,isOwn m (S (a+d)) r->isOwn m (S a) r:=λr ⟨i,hi,e⟩=>⟨i,hi,by rw[same i hi];exact e⟩;obtain⟨k1,h11,h12,hmax⟩:=Z02 (λk=>(S k).hd (C k)) a d hd;have s1:=R.st k1 (by omega);obtain⟨I1,F1⟩:=R.inv k1 (by omega);have not1:¬ isOwn m (S k1) ((S k1).hd (C k1)):=λ⟨i,hi,e⟩=>I1.ne hi s1.hc e;have ⟨k2,h21,h22,h23⟩:∃ k,a<=k/\k<a+d/\(S k).own (P k)=(S k1).hd (C k1):=by
  apply YR;intro hn;have hne:∀ l,a<=l->l<a+d->(S l).own (P l)≠(S k1).hd (C k1):=λl l1 l2 z=>hn ⟨l,l1,l2,z⟩;have o1:isOwn m (S (k1+1)) ((S k1).hd (C k1)):=⟨P k1,s1.hp,by rw[R.nx k1 (by omega)];exact own_p⟩;have o2:=R.keeps o1 (a+d - (k1+1)) (by omega) λl l1 l2=>hne l (by omega) (by omega);rw[show k1+1+(a+d - (k1+1))=a+d by omega] at o2;have o3:=R.keeps (own_iff' _ o2) (k1 - a) (by omega) λl l1 l2=>hne l (by omega) (by omega);rw[show a+(k1 - a)=k1 by omega] at o3;exact not1 o3
 have s2:=R.st k2 (by omega);obtain⟨I2,F2⟩:=R.inv k2 (by omega);have row:=I1.row R.h0 (dir m (S k2) (C k2)) λr hr=>I2.dirSol s2.hc hr;have ho:∀ k,k<=K->(S k).own i0=(S 0).own i0:=λk=>by
  induction k with
  | zero=>intro _;rfl
  | succ k ih =>
   intro h;rw[R.nx k (by omega),own_ne (XJ (R.stay k (by omega)))];exact ih (by omega)
 have e12:(S k1).own i0=(S k2).own i0:=by rw[ho k1 (by omega),ho k2 (by omega)]
 rw[e12,I2.dirO s2.hc R.h0] at row;have pos:0<sm n (λj=>(S k1).L i0 j*dir m (S k2) (C k2) ((S k1).hd j)):=by
  have:=XX I1.pos s2.help;have e:(S k1).b * -(S k2).L i0 (C k2)=-((S k1).b*(S k2).L i0 (C k2)):=by grind
  rw[e] at row;omega
 obtain⟨j,hj,hp⟩:=Lu pos;rcases I2.cover (I1.hdLt hj) with ⟨i,hi,e⟩ | ⟨j',hj',e⟩
 ·rw[<-e,I2.dirO s2.hc hi] at hp;have own2:isOwn m (S k2) ((S k1).hd j):=⟨i,hi,e⟩;have notown1:¬ isOwn m (S k1) ((S k1).hd j):=λ⟨i',hi',e'⟩=>I1.ne hi' hj e';have ⟨k3,h31,h32,h33⟩:∃ k,a<=k/\k<a+d/\(S k).hd (C k)=(S k1).hd j:=by
   apply YR;intro hn;have hne:∀ l,a<=l->l<a+d->(S l).hd (C l)≠(S k1).hd j:=λl l1 l2 z=>hn ⟨l,l1,l2,z⟩;have o2:=R.keepsN notown1 (a+d - k1) (by omega) λl l1 l2=>hne l (by omega) (by omega);rw[show k1+(a+d - k1)=a+d by omega] at o2;have o3:=R.keepsN (λz=>o2 (own_iff _ z)) (k2 - a) (by omega) λl l1 l2=>hne l (by omega) (by omega);rw[show a+(k2 - a)=k2 by omega] at o3;exact o3 own2
  have hle:(S k1).hd j<=(S k1).hd (C k1):=by rw[<-h33];exact hmax k3 h31 h32
  have s3:=R.st k3 (by omega);have hnl:(S k1).hd j≠lk:=by rw[<-h33];exact s3.nl
  by_cases q:i=P k2
  ·
   subst q;have ej:(S k1).hd j=(S k1).hd (C k1):=by rw[<-e];exact h23
   have ec:j=C k1:=I1.hdInj hj s1.hc ej;subst ec;have:=XX s1.help s2.key;have e':(S k1).L i0 (C k1) * -(S k2).L (P k2) (C k2)=-((S k1).L i0 (C k1)*(S k2).L (P k2) (C k2)):=by grind
   rw[e'] at hp;omega
  have hlt:(S k1).hd j<(S k1).hd (C k1):=by
   rcases Y10 ((S k1).hd j) ((S k1).hd (C k1)) with z | z
   ·exact z
   have:(S k2).own i=(S k2).own (P k2):=by rw[e,h23];omega
   exact absurd (I2.ownInj hi s2.hp this) q
  have l1:(S k1).L i0 j<=0:=by
   apply YR;intro z;have:=s1.first j hj hnl (by omega);omega
  have l2:0<(S k2).L i (C k2):=by
   apply YR;intro z;have:(S k1).L i0 j * -(S k2).L i (C k2)<=0:=GJ l1 (by omega);omega
  have elr:(S k2).own i<=lk:=by rw[e];have:=s2.el;rw[h23] at this;omega
  have z3:Zr m n (S k3) ((S k1).hd j):=λx hx ex=>absurd (by rw[ex,h33]) ((R.inv k3 (by omega)).1.ne hx s3.hc);have za:=(R.Zall hK hz (r:=(S k1).hd j) (k3 - a) (by omega));rw[show a+(k3 - a)=k3 by omega] at za;have zb:=(R.Zall hK hz (r:=(S k1).hd j) (k2 - a) (by omega));rw[show a+(k2 - a)=k2 by omega] at zb;have zi:=(zb.mpr (za.mp z3)) i hi e;have zp:=hz k2 h21 h22;rcases s2.least i hi elr l2 with z | ⟨_,z⟩
  ·rw[zi,zp] at z;simp at z
  rw[e,h23] at z;omega
 rw[<-e,I2.dirH s2.hc hj'] at hp;by_cases q:j'=C k2
 ·subst q;rw[YJ rfl] at hp;have l1:0<(S k1).L i0 j:=by
   apply YR;intro z;have:(S k1).L i0 j*(S k2).b<=0:=GJ (by omega) (by have:=I2.pos;omega);omega
  have h1:=s1.first j hj (by rw[<-e];exact s2.nl) l1;have h2:=hmax k2 h21 h22;have:(S k2).own (P k2)=(S k2).hd (C k2):=by
   rw[h23];have h1':(S k1).hd (C k1)<=(S k1).hd j:=h1;have h2':(S k2).hd (C k2)<=(S k1).hd (C k1):=h2;rw[e] at *
   omega
  exact I2.ne s2.hp s2.hc this
 rw[YH q] at hp;simp at hp
theorem Cn:∀ (M:Nat) (f:TW),(∀ i,i<=M->f i<M)->∃ a d,0<d/\a+d<=M/\f a=f (a+d)
 | 0,f,h=>absurd (h 0 (by omega)) (by omega)
 | M+1,f,h=>by
  by_cases q:∃ i,i<=M/\f i=f (M+1)
  ·obtain⟨i,hi,e⟩:=q;exact⟨i,M+1 - i,by omega,by omega,by rw[show i+(M+1 - i)=M+1 by omega];exact e⟩
  have hne:∀ i,i<=M->f i≠f (M+1):=λi hi z=>q ⟨i,hi,z⟩;obtain⟨a,d,h1,h2,h3⟩:=Cn M (λi=>if f i<f (M+1) then f i else f i - 1) λi hi=>by
   have:=hne i hi;have:=h i (by omega);have:=h (M+1) (by omega);show (if f i<f (M+1) then f i else f i - 1)<M;split <;> omega
  refine⟨a,d,h1,by omega,?_⟩;have n1:=hne a (by omega);have n2:=hne (a+d) (by omega);have h3:(if f a<f (M+1) then f a else f a - 1)=if f (a+d)<f (M+1) then f (a+d) else f (a+d) - 1:=h3
  split at h3 <;> split at h3 <;> omega
def code (N:Nat):Nat->(Nat->Nat)->Nat
 | 0,_=>0
 | k+1,f=>code N k f+f k*N ^ k
theorem Rq {N:Nat}:∀ {k:Nat} {f:TW},(∀ i,i<k->f i<N)->code N k f<N ^ k
 | 0,_,_=>by show 0<1;decide
 | k+1,f,h=>by
  have h1:=Rq (k:=k) (f:=f) λi hi=>h i (by omega);have h2:=h k (by omega);show code N k f+f k*N ^ k<N ^ (k+1);rw[Y0w];have h3:(f k+1)*N ^ k<=N*N ^ k:=GL _ h2;rw[Nat.add_mul] at h3;rw[qf (N ^ k)];omega
theorem Lh {N:Nat}:∀ {k:Nat} {f g:TW},(∀ i,i<k->f i<N)->(∀ i,i<k->g i<N)->code N k f=code N k g->∀ i,i<k->f i=g i
 | 0,_,_,_,_,_,i,hi=>by omega
 | k+1,f,g,hf,hg,e,i,hi=>by
  have a1:=Rq (k:=k) (f:=f) λi hi=>hf i (by omega);have a2:=Rq (k:=k) (f:=g) λi hi=>hg i (by omega);have e:code N k f+f k*N ^ k=code N k g+g k*N ^ k:=e;have e1:code N k f=code N k g:=by
   have:=congrArg (· % N ^ k) e;simp only [Nat.add_mul_mod_self_right] at this
   rwa [Nat.mod_eq_of_lt a1,Nat.mod_eq_of_lt a2] at this
  by_cases q:i=k
  ·subst q;have:f i*N ^ i=g i*N ^ i:=by omega
   exact Y05 (by omega) this
  exact Lh (k:=k) (λi hi=>hf i (by omega)) (λi hi=>hg i (by omega)) e1 i (by omega)
theorem Run.short (R:Run m n lk i0 col rhs K S P C):K<(n+m) ^ m:=by
 rcases Y10 K ((n+m) ^ m) with h | h
 ·exact h
 obtain⟨a,d,h1,h2,h3⟩:=Cn ((n+m) ^ m) (λk=>code (n+m) m (S k).own) λk hk=>Rq λi hi=>(R.inv k (by omega)).1.ownLt hi;exact absurd (R.once h1 (by omega) λi hi=>Lh (λi hi=>(R.inv a (by omega)).1.ownLt hi) (λi hi=>(R.inv (a+d) (by omega)).1.ownLt hi) h3 i hi) id
end
end Sv
namespace Sv
section
variable {m n:Nat}{col:Nat->Vec}{rhs:Vec}{T:Tab}
def numAt (n:Nat)(T:Tab)(i v:Nat):Int:=sm n (λj=>if T.hd j=v then T.L i j else 0)
def endOf (m n:Nat)(T:Tab)(v:Nat):Int:=sm m (λi=>if T.own i=v then T.L i n else 0)
def coef (n:Nat)(T:Tab)(i v:Nat):Int:=(if v=T.own i then T.b else 0)+numAt n T i v
theorem Inv.numH (I:Inv m n col rhs T){i j:Nat}(hj:j<n):numAt n T i (T.hd j)=T.L i j:=by
 unfold numAt;rw[sm_one (k:=j) hj λk hk hne=>YH λz=>hne (I.hdInj hk hj z),YJ rfl]
theorem Inv.numO (I:Inv m n col rhs T){i k:Nat}(hk:k<m):numAt n T i (T.own k)=0:=sm_zero λj hj=>YH (XJ (I.ne hk hj))
theorem Inv.endO (I:Inv m n col rhs T){i:Nat}(hi:i<m):endOf m n T (T.own i)=T.L i n:=by
 unfold endOf;rw[sm_one (k:=i) hi λk hk hne=>YH λz=>hne (I.ownInj hk hi z),YJ rfl]
theorem Inv.endH (I:Inv m n col rhs T){j:Nat}(hj:j<n):endOf m n T (T.hd j)=0:=sm_zero λi hi=>YH (I.ne hi hj)
theorem Inv.coefs (I:Inv m n col rhs T){i v:Nat}(hi:i<m)(hv:v<n+m):det m (put (bas col T) i (col v))=coef n T i v:=by
 unfold coef;rcases I.cover hv with ⟨k,hk,rfl⟩ | ⟨j,hj,rfl⟩
 ·rw[I.numO hk];have:=I.phiO hi hk;show det m (put (bas col T) i (bas col T k))=_;rw[this];by_cases e:k=i
  ·subst e;rw[YJ rfl,YJ rfl];omega
  rw[YH e,YH λz=>e (I.ownInj hk hi z)];omega
 rw[I.numH hj,YH (XJ (I.ne hi hj))];have:=I.phi hi (XZ hj);rw[W5 hj] at this;rw[this];omega
theorem Inv.lin (I:Inv m n col rhs T)(hc:∀ i r,i<m->r<m->col (n+i) r=if i=r then 1 else 0){i:Nat}(hi:i<m)(x:Vec):det m (put (bas col T) i x)=sm m (λr=>x r*coef n T i (n+r)):=by
 have e:det m (put (bas col T) i x)=det m (put (bas col T) i (λr=>sm m (λk=>x k*col (n+k) r))):=by
  refine Xp λk r hk hr=>?_;by_cases q:k=i
  ·subst q;rw[Ye,Ye,sm_one (k:=r) hr λk hk hne=>by rw[hc k r hk hr,YH hne,GP],hc r r hr hr,YJ rfl,GK]
  rw[Y7 q,Y7 q]
 rw[e,Tn hi];exact Y6 λr hr=>by rw[I.coefs hi (by omega)]
theorem Inv.size (I:Inv m n col rhs T){M:Nat}(hc:∀ v r,v<n+m->r<m->(col v r).natAbs<=M)(hr:∀ r,r<m->(rhs r).natAbs<=M){i j:Nat}(hi:i<m)(hj:j<=n):(T.L i j).natAbs<=(m*M) ^ m:=by
 rw[<-I.phi hi hj];refine Sj λk r hk hr'=>?_;by_cases e:k=i
 ·subst e;rw[Ye];unfold colOf;split
  ·exact hc _ _ (I.hdLt (by assumption)) hr'
  exact hr r hr'
 rw[Y7 e];exact hc _ _ (I.ownLt hk) hr'
theorem Inv.sizeB (I:Inv m n col rhs T){M:Nat}(hc:∀ v r,v<n+m->r<m->(col v r).natAbs<=M):T.b.natAbs<=(m*M) ^ m:=by
 rw[<-I.dt];exact Sj λk r hk hr'=>hc _ _ (I.ownLt hk) hr'
theorem Inv.sol (I:Inv m n col rhs T){r:Nat}(hr:r<m):sm (n+m) (λv=>endOf m n T v*col v r)=T.b*rhs r:=by
 rw[I.part];have e1:sm n (λj=>endOf m n T (T.hd j)*col (T.hd j) r)=0:=sm_zero λj hj=>by rw[I.endH hj,ja]
 have e2:sm m (λi=>endOf m n T (T.own i)*col (T.own i) r)=sm m (λi=>T.L i n*bas col T i r):=Y6 λi hi=>by rw[I.endO hi];rfl
 have e3:=I.eqs n (YD n) r hr;unfold colOf at e3;rw[YH (by omega)] at e3;rw[e1,e2,<-e3];omega
end
section
variable {n g:Nat}{A:Nat->Nat->Int}{pap gl:TX}
def colS (n g:Nat)(A:Nat->Nat->Int)(pap gl:TX):Nat->Vec:=λv r=>if v<n then (if r<g then A r v else if r=g then pap v else gl v) else if v - n=r then 1 else 0
def rhsS (g:Nat):Vec:=λr=>if r=g then 1 else 0
def T0 (n g:Nat)(A:Nat->Nat->Int)(pap gl:TX):Tab:=⟨1,λi=>n+i,λj=>j,λi j=>if j<n then colS n g A pap gl j i else rhsS g i⟩
theorem Wl {i r:Nat}:colS n g A pap gl (n+i) r=if i=r then 1 else 0:=by
 unfold colS;rw[YH (by omega)];have:n+i - n=i:=by omega
 rw[this]
theorem inv0:Inv (g+2) n (colS n g A pap gl) (rhsS g) (T0 n g A pap gl):=by
 refine⟨by show (0:Int)<1;decide,?_,λj hj r hr=>?_,λf=>?_⟩
 ·show det (g+2) _=1;rw[<-Z0v (g+2)];exact Xp λk r _ _=>Wl
 ·show 1*colOf n (colS n g A pap gl) (rhsS g) (T0 n g A pap gl) j r=sm (g+2) (λi=>(if j<n then colS n g A pap gl j i else rhsS g i)*colS n g A pap gl (n+i) r);rw[sm_one (k:=r) hr λk hk hne=>by rw[Wl,YH hne,GP],Wl,YJ rfl];unfold colOf;rw[GK,qX];split <;> rfl
 rw[Lv,Int.add_comm];rfl
theorem feas0:Feas (g+2) n (n+g) (T0 n g A pap gl):=λi _ _=>by
 show 0<=if n<n then _ else rhsS g i
 rw[YH (by omega)];unfold rhsS;split <;> omega
variable {T:Tab}
abbrev InvS (n g:Nat)(A:Nat->Nat->Int)(pap gl:TX)(T:Tab):Prop:=Inv (g+2) n (colS n g A pap gl) (rhsS g) T
theorem InvS.world (I:InvS n g A pap gl T){i w:Nat}(hi:i<g+2)(hw:w<n):coef n T i w=sm g (λk=>A k w*coef n T i (n+k))+pap w*coef n T i (n+g)+gl w*coef n T i (n+g+1):=by
 rw[<-I.coefs hi (by omega),I.lin (λi r _ _=>Wl) hi];show sm g _+colS n g A pap gl w g*_+colS n g A pap gl w (g+1)*_=_;have e1:sm g (λr=>colS n g A pap gl w r*coef n T i (n+r))=sm g (λk=>A k w*coef n T i (n+k)):=Y6 λr hr=>by
  unfold colS;rw[YJ hw,YJ hr]
 have e2:colS n g A pap gl w g=pap w:=by unfold colS;rw[YJ hw,YH (by omega),YJ rfl]
 have e3:colS n g A pap gl w (g+1)=gl w:=by unfold colS;rw[YJ hw,YH (by omega),YH (by omega)]
 rw[e1,e2,e3];rfl
theorem InvS.ends (I:InvS n g A pap gl T){i:Nat}(hi:i<g+2):T.L i n=coef n T i (n+g):=by
 rw[<-I.phi hi (YD n)];unfold colOf;rw[YH (by omega),I.lin (λi r _ _=>Wl) hi,sm_one (k:=g) (by omega) λk hk hne=>by unfold rhsS;rw[YH hne,ja]];unfold rhsS;rw[YJ rfl,qX]
theorem InvS.lines (I:InvS n g A pap gl T):(∀ k,k<g->sm n (λw=>A k w*endOf (g+2) n T w)+endOf (g+2) n T (n+k)=0)/\sm n (λw=>pap w*endOf (g+2) n T w)+endOf (g+2) n T (n+g)=T.b/\sm n (λw=>gl w*endOf (g+2) n T w)+endOf (g+2) n T (n+g+1)=0:=by
 have key:∀ (r:Nat) (a:TX),r<g+2->(∀ w,w<n->colS n g A pap gl w r=a w)->sm n (λw=>a w*endOf (g+2) n T w)+endOf (g+2) n T (n+r)=T.b*rhsS g r:=λr a hr ha=>by
  rw[<-I.sol hr,Lv]
  congr 1
  ·exact Y6 λw hw=>by rw[ha w hw,XL]
  rw[sm_one (k:=r) hr λk hk hne=>by rw[Wl,YH hne,GP],Wl,YJ rfl,GK]
 refine⟨λk hk=>?_,?_,?_⟩
 ·rw[key k (λw=>A k w) (by omega) λw hw=>by unfold colS;rw[YJ hw,YJ hk]];unfold rhsS;rw[YH (by omega),GP]
 ·rw[key g pap (by omega) λw hw=>by unfold colS;rw[YJ hw,YH (by omega),YJ rfl]];unfold rhsS;rw[YJ rfl,GK]
 have:=key (g+1) gl (by omega) λw hw=>by unfold colS;rw[YJ hw,YH (by omega),YH (by omega)]
 rw[show n+(g+1)=n+g+1 by omega] at this;rw[this];unfold rhsS;rw[YH (by omega),GP]
theorem Rp (I:InvS n g A pap gl T){i lk v:Nat}(hv:v<n+(g+2))(h1:v≠T.own i)(h2:v≠lk)(hs:∀ j,j<n->T.hd j≠lk->T.L i j<=0):coef n T i v<=0:=by
 unfold coef;rw[YH h1];rcases I.cover hv with ⟨k,hk,rfl⟩ | ⟨j,hj,rfl⟩
 ·rw[I.numO hk];omega
 rw[I.numH hj];have:=hs j hj h2;omega
theorem InvS.none (I:InvS n g A pap gl T){i ia:Nat}(hi:i<g+2)(ho:T.own i=n+g)(hia:ia<g+2)(hoa:T.own ia=n+g+1)(hs:∀ j,j<n->T.hd j≠n+g->T.L i j<=0) :
  (∀ k,k<g->numAt n T i (n+k)<=0)/\∀ w,w<n->pap w*T.b<=sm g (λk=>A k w * -numAt n T i (n+k)):=by
 have hk:∀ k,k<g->coef n T i (n+k)=numAt n T i (n+k):=λk hk=>by
  unfold coef;rw[YH (by omega)];omega
 refine⟨λk hk'=>?_,λw hw=>?_⟩
 ·rw[<-hk k hk'];exact Rp I (by omega) (by omega) (lk:=n+g) (by omega) hs
 have e:=I.world hi hw;have h:=Rp I (v:=w) (by omega) (by omega) (lk:=n+g) (by omega) hs;have e1:coef n T i (n+g)=T.b:=by
  unfold coef;rw[YJ ho.symm];have:=I.numO (i:=i) hi;rw[ho] at this;omega
 have e2:coef n T i (n+g+1)=0:=by
  unfold coef;rw[YH (by omega)];have:=I.numO (i:=i) hia;rw[hoa] at this;omega
 have e3:sm g (λk=>A k w*coef n T i (n+k))=- sm g (λk=>A k w * -numAt n T i (n+k)):=by
  have:sm g (λk=>A k w*coef n T i (n+k))=sm g (λk=>(-1)*(A k w * -numAt n T i (n+k))):=Y6 λk hk'=>by rw[hk k hk'];grind
  rw[this,Xa];omega
 rw[e1,e2,e3] at e;omega
structure Most (n g:Nat)(A:Nat->Nat->Int)(pap gl:TX)(T:Tab)(i:Nat):Prop where
 x0:∀ w,w<n->0<=endOf (g+2) n T w
 fit:∀ k,k<g->sm n (λw=>A k w*endOf (g+2) n T w)<=0
 lie:sm n (λw=>pap w*endOf (g+2) n T w)=T.b
 val:sm n (λw=>gl w*endOf (g+2) n T w)=- T.L i n
 y0:∀ k,k<g->numAt n T i (n+k)<=0
 show_:∀ w,w<n->gl w*T.b<=sm g (λk=>A k w * -numAt n T i (n+k))+pap w * -T.L i n
theorem InvS.most (I:InvS n g A pap gl T)(F:Feas (g+2) n (n+g) T){i jl:Nat}(hi:i<g+2)(ho:T.own i=n+g+1)(hjl:jl<n)(hol:T.hd jl=n+g)(hs:∀ j,j<n->T.hd j≠n+g->T.L i j<=0):Most n g A pap gl T i:=by
 obtain⟨l1,l2,l3⟩:=I.lines;have x0:∀ v,v<=n+g->0<=endOf (g+2) n T v:=λv hv=>by
  rcases I.cover (v:=v) (by omega) with ⟨k,hk,rfl⟩ | ⟨j,hj,rfl⟩
  ·rw[I.endO hk];exact F k hk hv
  rw[I.endH hj];omega
 have hk:∀ k,k<g->coef n T i (n+k)=numAt n T i (n+k):=λk hk=>by
  unfold coef;rw[YH (by omega)];omega
 refine⟨λw hw=>x0 w (by omega),λk hk=>?_,?_,?_,λk hk'=>?_,λw hw=>?_⟩
 ·have:=l1 k hk;have:=x0 (n+k) (by omega);omega
 ·have:=I.endH hjl;rw[hol] at this;rw[this] at l2;omega
 ·have:=I.endO hi;rw[ho] at this;rw[this] at l3;omega
 ·rw[<-hk k hk'];exact Rp I (by omega) (by omega) (lk:=n+g) (by omega) hs
 have e:=I.world hi hw;have h:=Rp I (v:=w) (by omega) (by omega) (lk:=n+g) (by omega) hs;have e1:=I.ends hi;have e2:coef n T i (n+g+1)=T.b:=by
  unfold coef;rw[YJ ho.symm];have:=I.numO (i:=i) hi;rw[ho] at this;omega
 have e3:sm g (λk=>A k w*coef n T i (n+k))=- sm g (λk=>A k w * -numAt n T i (n+k)):=by
  have:sm g (λk=>A k w*coef n T i (n+k))=sm g (λk=>(-1)*(A k w * -numAt n T i (n+k))):=Y6 λk hk'=>by rw[hk k hk'];grind
  rw[this,Xa];omega
 rw[<-e1,e2,e3] at e;have e4:pap w * -T.L i n=-(pap w*T.L i n):=by grind
 omega
theorem InvS.bounded (I:InvS n g A pap gl T)(hpap:∀ w,w<n->0<=pap w)(hgl:∀ w,w<n->pap w=0->gl w=0){i jl c:Nat}(hi:i<g+2)(ho:T.own i=n+g+1)(hjl:jl<n)(hol:T.hd jl=n+g)(hc:c<n)(hcl:T.hd c≠n+g)(hh:0<T.L i c) :
  ∃ k,k<g+2/\T.own k<=n+g/\0<T.L k c:=by
 apply YR;intro hn;have hle:∀ k,k<g+2->T.own k<=n+g->T.L k c<=0:=λk h1 h2=>by
  apply YR;intro z;exact hn ⟨k,h1,h2,by omega⟩
 have x0:∀ v,v<=n+g->0<=dir (g+2) T c v:=λv hv=>by
  rcases I.cover (v:=v) (by omega) with ⟨k,hk,rfl⟩ | ⟨j,hj,rfl⟩
  ·rw[I.dirO hc hk];have:=hle k hk hv;omega
  rw[I.dirH hc hj];have:=I.pos;split <;> omega
 have row:∀ (r:Nat) (a:TX),r<g+2->(∀ w,w<n->colS n g A pap gl w r=a w)->sm n (λw=>a w*dir (g+2) T c w)+dir (g+2) T c (n+r)=0:=λr a hr ha=>by
  rw[<-I.dirSol hc hr,Lv]
  congr 1
  ·exact Y6 λw hw=>by rw[ha w hw,XL]
  rw[sm_one (k:=r) hr λk hk hne=>by rw[Wl,YH hne,GP],Wl,YJ rfl,GK]
 have r1:=row g pap (by omega) λw hw=>by unfold colS;rw[YJ hw,YH (by omega),YJ rfl]
 have r2:=row (g+1) gl (by omega) λw hw=>by unfold colS;rw[YJ hw,YH (by omega),YH (by omega)]
 have hl:dir (g+2) T c (n+g)=0:=by
  rw[<-hol,I.dirH hc hjl,YH λz=>hcl (by rw[<-z];exact hol)]
 have hz:∀ w,w<n->pap w*dir (g+2) T c w=0:=λw hw=>by
  apply YR;intro z;have h1:∀ x,x<n->0<=pap x*dir (g+2) T c x:=λx hx=>zy (hpap x hx) (x0 x (by omega));rw[hl,Y8 (k:=w) hw] at r1;have h2:0<=sm n (λi=>if i=w then 0 else pap i*dir (g+2) T c i):=Yb λx hx=>by
   split
   ·omega
   exact h1 x hx
  have:=h1 w hw;omega
 have hg:sm n (λw=>gl w*dir (g+2) T c w)=0:=sm_zero λw hw=>by
  by_cases q:pap w=0
  ·rw[hgl w hw q,ja]
  have:=hz w hw;rcases Int.mul_eq_zero.mp this with z | z
  ·exact absurd z q
  rw[z,GP]
 have ha:=I.dirO hc hi;rw[ho] at ha;rw[hg,show n+(g+1)=n+g+1 by omega,ha] at r2;omega
end
end Sv
namespace Sb
open PySem PySem.Spec PyProof.Rows L2
theorem Pf {α β:Type}{R:α->β->Prop}:∀ {xs:List α} {us:List β},xs.length=us.length->(∀ (j:Nat) (x:α) (u:β),xs[j]?=some x->us[j]?=some u->R x u)->Paired R xs us
 | [],[],_,_=>.nil
 | [],_::_,h,_=>by simp at h
 | _::_,[],h,_=>by simp at h
 | x::xs,u::us,h,hr=>.cons (hr 0 x u rfl rfl) (Pf (by simpa using h) λj y w e1 e2=>hr (j+1) y w (by simpa using e1) (by simpa using e2))
section
variable {X:Cx}{K:TQ}
theorem Cv {p:Addr}{u:V}{σ:L2.St}{A B:L2.St->Hp->Prop}{t:TT}(hp:SqT K H p [u,v])(h:t ((σ.set 0 (some u)).set 1 (some v)) H λb H5=>if b=true then A ((σ.set 0 (some u)).set 1 (some v)) H5 else B ((σ.set 0 (some u)).set 1 (some v)) H5) :
  gTup K 2 (gCons (gName 0) (gCons (gName 1) gNil)) (.ref p) σ H λσ4 H4=>t σ4 H4 λb H5=>if b=true then A σ4 H5 else B σ4 H5 :=
 ⟨p,[u,v],rfl,hp,rfl,u,[v],rfl,v,[],rfl,rfl,h⟩
theorem Nc {e:Expr}{f:Str}{pos:Pos}{ta:TE}(he:PE X e ta)(hb:attributeBase e f X.env (eval e X.env)=eval e X.env)(h:X.K=K:=by rfl):PE X (.Attribute e f pos) (tFld K ta f):=h ▸ Yi he hb
inductive tLR1_i (Q:VK) (vs:TY) (H1:Hp):Prop
 | i (n:Nat) (_:vs=[.int (n:Int)]) (_:n<=1000) (_:∀ l,H1 l=none->Q (.ref l) (upd H1 l (.lst ((List.range n).map λ(k:Nat)=>V.int (k:Int)))))
def tLR1 (ta:TA):TE:=λσ H Q=>ta σ H (tLR1_i Q)
inductive tLR2_i (Q:VK) (vs:TY) (H1:Hp):Prop
 | i (i n:Nat) (_:vs=[.int (i:Int),.int ((i+n:Nat):Int)]) (_:i<=1000) (_:n<=1000) (_:∀ l,H1 l=none->Q (.ref l) (upd H1 l (.lst ((List.range n).map λk=>V.int ((i+k:Nat):Int)))))
def tLR2 (ta:TA):TE:=λσ H Q=>ta σ H (tLR2_i Q)
theorem Uj {pins:TD}{σ:L2.St}{H:Hp}{s:Shared}{Q:VK}{i n:Nat}{t u v:Tok}{tk:Nat}(hc:X.calm=true)(I:Inv X pins σ H s)(hi:i<=1000)(hn:n<=1000)
  (q:∀ l,H l=none->Q (.ref l) (upd H l (.lst ((List.range n).map λk=>V.int ((i+k:Nat):Int))))) :
  wpAny (model X.prog X.w) X.A (call (.type "list") [.ref s.heap.objs.size]) (EP X pins σ Q) X.xe { s with heap:=s.heap.push { cls:=.type "range",data:=.fields #[.int (i:Int) t,.int ((i+n:Nat):Int) u,.int 1 v] },toks:=tk }:=by
 have I1:Inv X pins σ H { s with heap:=s.heap.push { cls:=.type "range",data:=.fields #[.int (i:Int) t,.int ((i+n:Nat):Int) u,.int 1 v] },toks:=tk }:=I.kept λb o e=>YB _ e;refine Nl (n:=n) (I1.ok.hd hc) (λp hp=>(I1.pin p (YL _ hp)).1) (IsRange.new ..) (small_one (by omega) (by omega) (by omega) (by omega)) ?_ (by omega) λh' tk' acc c' kp e items=>?_
 ·rw[rangeSize_one];split <;> omega
 refine⟨.ref _,_,I1.laid (t':=tk') (o:=.lst ((List.range n).map λk=>V.int ((i+k:Nat):Int))) kp (YD _) ?_,rfl,q _ (I1.hok.fresh (YD _))⟩;obtain⟨hsz,hat⟩:=items;refine⟨by rw[YC,List.length_range];exact YX hn (by decide),acc.toList,c',?_,by simpa using e⟩;refine Pf (by simp[hsz]) λj x u' e1 e2=>?_;rw[YF] at e1
 cases e3:(List.range n)[j]? with
 | none=>rw[e3] at e1;cases e1
 | some k =>
  rw[e3] at e1
  cases e1;have hk:k=j:=by
   have:=YE.mp e3;obtain⟨_,h2⟩:=this;rw[<-h2];simp
  subst hk;obtain⟨t',e4⟩:=hat k u' (by simpa using e2);refine⟨t',?_⟩;rw[e4]
  congr 1
  omega
theorem Gm {a b:Expr}{p p' pos pos':Pos}(hc:X.calm=true)(hgL:Gl X "list")(hmL:X.mg "list"=none)(hgR:Gl X "range")(hmR:X.mg "range"=none)(ha:PA X [a,b] ta)
  (hs:starEach [a,b] X.env=[(false,eval a X.env),(false,eval b X.env)]:=by rfl) (hs2:starEach [b] X.env=[(false,eval b X.env)]:=by rfl)
  (hs0:starEach [.Call (.Name "range" p') [a,b] [] pos'] X.env=[(false,eval (.Call (.Name "range" p') [a,b] [] pos') X.env)]:=by rfl) :
  PE X (.Call (.Name "list" p) [.Call (.Name "range" p') [a,b] [] pos'] [] pos) (tLR2 ta):=by
 intro pins s σ H Q I h;refine GX (Wy I hgL hmL XA ?_);refine JB ?_ (by rw[hs0];rfl) rfl;rw[hs0];show wpAny _ _ (spliced ((false,eval (.Call (.Name "range" p') [a,b] [] pos') X.env)::[])) _ _ s;refine Y04 (Call_ (Wy I hgR hmR boot_range (JB (thn (ha pos' pins s σ H _ I h) λus s1 ⟨vs,H1,I1,r1,q1⟩=>?_) (by rw[hs,hs2]) (by rw[hs2];rfl))));obtain⟨i,n,e,hi,hn,q⟩:=q1;subst e;obtain⟨t0,u0,e0,rt,ru⟩:=M2 r1;obtain⟨t,rfl⟩:=rt;obtain⟨u,rfl⟩:=ru;subst e0;refine call_range_2 ?_;refine Y0g ?_;exact Uj hc I1 hi hn q
theorem Gn {a:Expr}{p p' pos pos':Pos}(hc:X.calm=true)(hgL:Gl X "list")(hmL:X.mg "list"=none)(hgR:Gl X "range")(hmR:X.mg "range"=none)(ha:PA X [a] ta)
  (hs:starEach [a] X.env=[(false,eval a X.env)]:=by rfl)
  (hs0:starEach [.Call (.Name "range" p') [a] [] pos'] X.env=[(false,eval (.Call (.Name "range" p') [a] [] pos') X.env)]:=by rfl) :
  PE X (.Call (.Name "list" p) [.Call (.Name "range" p') [a] [] pos'] [] pos) (tLR1 ta):=by
 intro pins s σ H Q I h;refine GX (Wy I hgL hmL XA ?_);refine JB ?_ (by rw[hs0];rfl) rfl;rw[hs0];show wpAny _ _ (spliced ((false,eval (.Call (.Name "range" p') [a] [] pos') X.env)::[])) _ _ s;refine Y04 (Call_ (Wy I hgR hmR boot_range (JB (thn (ha pos' pins s σ H _ I h) λus s1 ⟨vs,H1,I1,r1,q1⟩=>?_) hs rfl)));obtain⟨n,e,hn,q⟩:=q1;subst e;obtain⟨t0,e0,rt⟩:=Uz r1;obtain⟨t,rfl⟩:=rt;subst e0;refine call_range_1 ?_;refine Y0g ?_;have:=Uj (i:=0) (n:=n) (t:=s1.toks) (u:=t) (v:=s1.toks+1) (tk:=s1.toks+1+1) (Q:=Q) hc I1 (by decide) hn (by simpa using q)
 simpa using this
end
theorem Qu:∀ (names:List (Str × NameKind)) (n:Nat) (acc:List (Str × Addr)) (h:Heap),(names.filter λy=>y.2 == .cell)=[]->cellsFrom n names acc=acc/\pushCells h names=h
 | [],_,_,_,_=>⟨rfl,rfl⟩
 | (m,k)::r,n,acc,h,e=>by
  by_cases hk:(k == NameKind.cell)=true
  ·rw[Y0r (a:=(m,k)) (l:=r) (p:=λy:Str × NameKind=>y.2 == .cell) hk] at e
   cases e
  rw[Y0s (a:=(m,k)) (l:=r) (p:=λy:Str × NameKind=>y.2 == .cell) hk] at e;unfold cellsFrom pushCells;rw[YH hk,YH hk];exact Qu r n acc h e
theorem Sk {x:Str}:∀ (names:List (Str × NameKind)) (n:Nat) (acc:List (Str × Addr)) (h:Heap),(names.filter λy=>y.2 == .cell)=[(x,.cell)]->cellsFrom n names acc=(x,n)::acc/\pushCells h names=h.push { cls:=.type "cell",data:=.cell none }
 | [],_,_,_,e=>by cases e
 | (m,k)::r,n,acc,h,e=>by
  by_cases hk:(k == NameKind.cell)=true
  ·rw[Y0r (a:=(m,k)) (l:=r) (p:=λy:Str × NameKind=>y.2 == .cell) hk] at e;injection e with e1 e2
   cases e1;unfold cellsFrom pushCells;rw[YJ hk,YJ hk];exact Qu r _ _ _ e2
  rw[Y0s (a:=(m,k)) (l:=r) (p:=λy:Str × NameKind=>y.2 == .cell) hk] at e;unfold cellsFrom pushCells;rw[YH hk,YH hk];exact Sk r n acc h e
theorem Bu {M:Model}{A:Around}{E:TC}{globals:Addr}{cl:List (Str × Addr)}{qual:Str}{func:TN}{code:Value}{outer:Env}{builtins:Addr}{Q:Env->Shared->Prop}{x:Str}
  (hone:(scope.names.filter λy=>y.2 == .cell)=[(x,.cell)])
  (hQ:∀ h',h'=(s.heap.push { cls:=.type "dict",data:=.dict #[] }).push { cls:=.type "cell",data:=.cell none }->Q (newEnv scope s.heap.objs.size globals ((x,s.heap.objs.size+1)::cl) qual func code (some outer) builtins) { s with heap:=h' }) :
  wpAny M A (newFunctionEnv scope globals cl [] qual func code (some outer) builtins) Q E s:=by
 simp only [newFunctionEnv,Y0W,jn];refine YA (wpAny_alloc ?_);refine YA (wpAny_layCells _ (λname kind cells=>by cases hkc:kind == NameKind.cell <;> simp[hkc]) _ _ _ _ ?_);rw[show ({ s with heap:=s.heap.push { cls:=.type "dict",data:=.dict #[] } }:Shared).heap.objs.size=s.heap.objs.size+1 from JI ..];rw[(Sk scope.names (s.heap.objs.size+1) cl (s.heap.push { cls:=.type "dict",data:=.dict #[] }) hone).1,(Sk scope.names (s.heap.objs.size+1) cl (s.heap.push { cls:=.type "dict",data:=.dict #[] }) hone).2];refine YA ?_;rw[Y06];exact YN (YN (hQ _ rfl))
theorem Vu {x:Str}{n:Addr}{cl:List (Str × Addr)}{y:Str}{c:Addr}(h:((x,n)::cl).lookup y=some c):(y=x/\c=n) \/ (y≠x/\cl.lookup y=some c):=by
 rw[JE] at h
 cases hb:y == x with
 | true=>rw[hb] at h;cases h;exact .inl ⟨GW.mp hb,rfl⟩
 | false=>rw[hb] at h;exact .inr ⟨JJ.mp hb,h⟩
theorem Z3i {x:Str}{n:Addr}{cl:List (Str × Addr)}{y:Str}(h:y≠x):((x,n)::cl).lookup y=cl.lookup y:=by
 rw[JE,JJ.mpr h]
theorem Jd {x:Str}{n:Addr}{cl:List (Str × Addr)}:((x,n)::cl).lookup x=some n:=by
 rw[JE,GY]
def compCxC (X:Cx)(N:TF)(scope:Scope)(x:Str)(cl:List (Str × Addr))(C:Addr)(fp:TJ)(s:Shared)(H:Hp):Cx :=
 { compCx X N scope ((x,C+1)::cl) C fp s H with fn:=λy=>y == x }
section
variable {X:Cx}{pins:TD}{σ:L2.St}{H:Hp}{s:Shared}{N:TF}{scope:Scope}{cl:List (Str × Addr)}{fp:TJ}{k:Nat}{fv:List Nat}{x:Str}
theorem Cy (hone:(scope.names.filter λy=>y.2 == .cell)=[(x,.cell)]){y:Str × NameKind}(hy:y∈scope.names)(hc:y.2=.cell):y.1=x:=by
 have:y∈scope.names.filter λy=>y.2 == .cell:=zD.mpr ⟨hy,by rw[hc];rfl⟩;rw[hone] at this;rw[JQ.mp this]
theorem Z0y (I:Inv X pins σ H s)(hc:X.calm=true)(hf:∀ b∈fp,FpOk X pins H b)(hl:∀ b∈fp,b<s.heap.objs.size)(hkind:scope.kind=.function)(hone:(scope.names.filter λy=>y.2 == .cell)=[(x,.cell)])
  (h1:∀ y c,cl.lookup y=some c->X.env.cells.lookup y=some c) (h2:∀ y∈scope.names,y.2=.free->∃ c,cl.lookup y.1=some c):(compCxC X N scope x cl s.heap.objs.size fp s H).Ok where
 mod:=I.ok.mod
 kind:=hkind
 glob:=I.ok.glob
 blt:=I.ok.blt
 above:=YD _
 inj:=λy z c a b=>by
  have old:∀ {n:Str} {d:Addr},cl.lookup n=some d->d<s.heap.objs.size:=λ{n d} e=>by
   obtain⟨v,ic⟩:=I.cell n d (h1 n d e);exact ic.lt
  rcases Vu a with ⟨ey,ec⟩ | ⟨ny,a'⟩
  ·rcases Vu b with ⟨ez,_⟩ | ⟨nz,b'⟩
   ·rw[ey,ez]
   have:=old b';rw[ec] at this;exact absurd this (jk.mpr (z9 _))
  rcases Vu b with ⟨ez,ec⟩ | ⟨nz,b'⟩
  ·have:=old a';rw[ec] at this;exact absurd this (jk.mpr (z9 _))
  exact I.ok.inj y z c (h1 y c a') (h1 z c b')
 has:=λz hz=>by
  have:∃ y∈scope.names,y.1=z/\(y.2=.free \/ y.2=.cell):=by
   rcases hz with q | q
   ·exact Xq (.inl rfl) q
   exact Xq (.inr rfl) q
  obtain⟨y,hy,e,q⟩:=this;by_cases hx:z=x
  ·exact⟨_,by rw[hx];exact Jd⟩
  rcases q with q | q
  ·obtain⟨c,hcl⟩:=h2 y hy q;exact⟨c,(Z3i hx).trans (by rw[<-e];exact hcl)⟩
  exact absurd (e.symm.trans (Cy hone hy q)) hx
 cab:=λy c z e=>by
  have hy:y=x:=GW.mp z;subst hy;have e':((y,s.heap.objs.size+1)::cl).lookup y=some c:=e;rw[Jd] at e'
  cases e';exact z9 _
 hd:=λ_=>I.ok.hd hc
 frames:=I.ok.frames
 stk:=.inl rfl
 exf:=λb hb=>⟨XD (hl b hb),λy c e=>by
  rcases Vu e with ⟨_,rfl⟩ | ⟨_,e⟩
  ·exact λz=>absurd (hl b hb) (jk.mpr (by rw[<-z];exact z9 _))
  exact (hf b hb).2.2.2.2.1 y c (h1 y c e)⟩
 bs:=I.bs
 bsz:=YX I.ok.bsz I.sz
 noex:=λb o e hb=>by
  rcases (hf b hb).2.2.2.1 with z | z
  ·exact I.ok.noex b o e z
  exact absurd (YU (YI (I.ok.bs b o e).1) z) (XO _)
 exfs:=λb hb z=>(YW.mp (I.stkSub b z)).elim (λe=>(hf b hb).2.1 e) λe=>(hf b hb).2.2.1 e
 funs:=I.stack
 frf:=I.stkFree
theorem Ft (I:Inv X pins σ H s)(hc:X.calm=true)(hf:∀ b∈fp,FpOk X pins H b)(hl:∀ b∈fp,b<s.heap.objs.size)(hkind:scope.kind=.function)(hone:(scope.names.filter λy=>y.2 == .cell)=[(x,.cell)])(hx:scope.names.lookup x=some .cell)
  (h1:∀ y c,cl.lookup y=some c->X.env.cells.lookup y=some c) (h2:∀ y∈scope.names,y.2=.free->∃ c,cl.lookup y.1=some c)
  (hN:N.length=k+fv.length) (hfv:fv.map (λj=>X.N[j]?)=(N.drop k).map some) (hk:(N.drop k).map X.env.kindOf=(N.drop k).map λ_=>some .cell) (hfl:∀ y∈N.drop k,scope.names.lookup y=some .free)
  {h':Heap} {tk:Nat} (hn:h'.Ns s.heap.objs.size λ_=>none) (hcn:h'.IsCell (s.heap.objs.size+1) none) (hb:∀ b o,s.heap.get? b=some o->h'.get? b=some o) :
  Inv (compCxC X N scope x cl s.heap.objs.size fp s H) [] (comp0 k fv σ) H { s with heap:=h',toks:=tk } where
 ok:=Z0y I hc hf hl hkind hone h1 h2
 os:=rfl
 bare:=I.bare
 base:=Un.kept hb
 loc:=⟨_,hn,λi y v e1 e2 e3=>by
  have hik:k<=i:=by
   apply Y0o;intro z;have:(comp0 k fv σ)[i]?=some none:=by
    unfold comp0;rw[JA (by simpa using z)];simp[z]
   rw[this] at e2
   cases e2
  obtain⟨j,rfl⟩:∃ j,i=k+j:=⟨i - k,by omega⟩;have e2':(fv.map λj=>σ.getD j none)[j]?=some (some v):=by
   have:(comp0 k fv σ)[k+j]?=(fv.map λj=>σ.getD j none)[j]?:=by
    unfold comp0;rw[XW (by simp)];simp
   rw[<-this];exact e2
  rw[YF] at e2'
  cases hj:fv[j]? with
  | none=>rw[hj] at e2';cases e2'
  | some m =>
   rw[hj] at e2';have e4:σ.getD m none=some v:=YK e2';have e5:(N.drop k)[j]?=some y:=by rw[Y0U];exact e1
   have e6:X.N[m]?=some y:=by
    have a:=congrArg (λl=>l[j]?) hfv;simp only [YF,hj,e5,qd] at a;exact YK a
   have e7:X.env.kindOf y=some .cell:=by
    have a:=congrArg (λl=>l[j]?) hk;simp only [YF,e5,qd] at a;exact YK a
   have e8:σ[m]?=some (some v):=by
    cases q:σ[m]? with
    | none=>rw[List.getD,q] at e4;cases e4
    | some o=>rw[List.getD,q] at e4;rw[show o=some v from e4]
   obtain⟨m0,hm0,hl0⟩:=I.loc;obtain⟨u,ru,lk⟩:=hl0 m y v e6 e8 (.inr (.inl e7));refine⟨u,ru,?_⟩;rcases lk with ⟨z,_⟩ | ⟨_,c,hcc,ic⟩
   ·rw[e7] at z;cases z
   have mem:y∈N.drop k:=YG e5;have fr:=hfl y mem;have nyx:y≠x:=λz=>by rw[z,hx] at fr;cases fr
   obtain⟨c',hc'⟩:=h2 (y,.free) (Qc fr) rfl;have ec:=h1 y c' hc';rw[hcc] at ec
   cases ec;refine .inr ⟨.inl (Vp I.ok.kind fr e7),c,(Z3i nyx).trans hc',?_⟩;obtain⟨o,ho,hd⟩:=ic;exact⟨o,hb _ _ ho,hd⟩⟩
 cell:=λy c e=>by
  rcases Vu e with ⟨_,rfl⟩ | ⟨_,e⟩
  ·exact⟨_,hcn⟩
  obtain⟨v,o,ho,hd⟩:=I.cell y c (h1 y c e);exact⟨v,o,hb _ _ ho,hd⟩
 free:=I.hok.fresh (YD _)
 freeC:=λy c e=>by
  rcases Vu e with ⟨_,rfl⟩ | ⟨_,e⟩
  ·exact I.hok.fresh (z9 _)
  exact I.freeC y c (h1 y c e)
 pin:=λp hp=>by
  obtain⟨a1,a2,a3,a4,a5⟩:=I.pin p (YL _ ((JF.mp hp).elim id λz=>nomatch z));exact⟨hb _ _ a1,a2,XD (YI a1),λz=>(YW.mp (I.stkSub p.1 z)).elim a3 a4,a5⟩
 hok:=I.hok.kept hb
 len:=by
  show (comp0 k fv σ).length=N.length;unfold comp0;simp[hN]
end
section
variable {X:Cx}
theorem Le {elt iter tg:Expr}{ifs:TK}{scope:Scope}{pos:Pos}{g:TG}{tt:TT}{te:TE}{N:TF}{k:Nat}{fv:List Nat}{cl:List (Str × Addr)}{x0:Str}
  {pins:TD} {σ:L2.St} {H:Hp} {s:Shared} {it:Addr} {fp:TJ} {tn:Nat->Heap->Prop} {J:It} {Q:VK} {RR:Value->Addr->Result->Shared->Prop} {E:TC}
  (hc:X.calm=true) (hg:∀ cl C fp s H,PG (compCxC X N scope x0 cl C fp s H) tg g) (ht:∀ cl C fp s H,PTs (compCxC X N scope x0 cl C fp s H) ifs tt) (he:∀ cl C fp s H,PE (compCxC X N scope x0 cl C fp s H) elt te)
  (hw:∀ r x H Q,g x (List.replicate k none++r) H Q->g x (List.replicate k none++r) H λσ4 H4=>Q σ4 H4/\Weaker σ4 (List.replicate k none++r))
  (hN:N.length=k+fv.length) (hfv:fv.map (λj=>X.N[j]?)=(N.drop k).map some) (hk:(N.drop k).map X.env.kindOf=(N.drop k).map λ_=>some .cell) (hfl:∀ y∈N.drop k,scope.names.lookup y=some .free)
  (hone:(scope.names.filter λy=>y.2 == .cell)=[(x0,.cell)]) (hx0:scope.names.lookup x0=some .cell) (hkind:scope.kind=.function) (h1:∀ y c,cl.lookup y=some c->X.env.cells.lookup y=some c) (h2:∀ y∈scope.names,y.2=.free->∃ c,cl.lookup y.1=some c)
  (I:Inv X pins σ H s) (T:Turn X.prog X.w X.K tg J fp it tn) (st:tn 0 s.heap) (f:∀ b∈fp,FpOk X pins H b)
  (body:∀ d,H d=none->∃ (n:Nat) (W:Nat->List V->Hp->Prop),n<=sizeLine/\W 0 [] (upd H d (.lst [])) ∧
   (∀ i ys H2,i<n->W i ys H2->H2 d=some (.lst ys)->J.go i H2/\∀ x H3,J.yld i H2 x H3->g x (comp0 k fv σ) H3 λσ4 H4=>tt σ4 H4 λb H5 =>
    if b=true then te σ4 H5 λy H6=>H6 d=some (.lst ys)/\W (i+1) (ys++[y]) (upd H6 d (.lst (ys++[y]))) else H5 d=some (.lst ys)/\W (i+1) ys H5) ∧
   (∀ ys H2,W n ys H2->H2 d=some (.lst ys)->J.stop n H2/\Q (.ref d) H2))
  (hR:∀ (D C:Addr) (H':Hp) (s':Shared),(∃ m,s'.heap.Ns C m)->FpOk X pins H' C->Q (.ref D) H'->(∀ h',Heap.SameBut C s'.heap h'->Inv X pins σ H' { s' with heap:=h' })->RR (.ref D) C (.ok .next) s') :
  wpAny (model X.prog X.w) X.A (newList []) (λacc s3=>wpAny (model X.prog X.w) X.A (newFunctionEnv scope X.env.globals cl [] X.env.qual none .none (some X.env)) (λcenv s4 =>
   codeAny (model X.prog X.w) X.A (.compStart (.ListComp elt [⟨tg,iter,ifs,0⟩] scope pos) 0 (.ref it) acc { cenv with scope:=relabel scope X.env }) (RR acc cenv.locals) s4) E s3) E s:=by
 refine qV ?_;have I3:=I.lnew (its:=[]) (ys:=[]) (t':=s.toks) .nil (JH _);have fresh:=I.fresh;generalize hD:s.heap.objs.size=D at I3 fresh ⊢;have f3:∀ b∈fp,FpOk X pins (upd H D (.lst [])) b:=λb hb=>by
  refine⟨?_,(f b hb).2⟩;have hne:b≠D:=by
   obtain⟨o,e,_⟩:=T.obj 0 _ st b hb;rw[<-hD];exact XD (YI e)
  rw[Ze hne];exact (f b hb).1
 have up3:∀ b o,s.heap.get? b=some o->(s.heap.push { cls:=.type "list",data:=.seq ([]:TH).toArray }).get? b=some o:=λb o e=>YB _ e;have st3:tn 0 (s.heap.push { cls:=.type "list",data:=.seq ([]:TH).toArray }):=T.keep 0 _ _ st λb _ o e=>up3 b o e;have hl3:∀ b∈fp,b<(s.heap.push { cls:=.type "list",data:=.seq ([]:TH).toArray }).objs.size:=λb hb=>by
  obtain⟨o,e,_⟩:=T.obj 0 _ st3 b hb;exact YI e
 obtain⟨n,W,hn,w0,step,fin⟩:=body D fresh;generalize hS3:({ s with heap:=s.heap.push { cls:=.type "list",data:=.seq ([]:TH).toArray },toks:=s.toks }:Shared)=s3 at I3;have eS3:s3.heap=s.heap.push { cls:=.type "list",data:=.seq ([]:TH).toArray }:=by rw[<-hS3]
 rw[<-eS3] at st3 hl3;refine Bu hone (λh4 eh4=>?_);have old:∀ b o,s3.heap.get? b=some o->h4.get? b=some o:=λb o e=>by rw[eh4];exact YB _ (YB _ e)
 have hns:h4.Ns s3.heap.objs.size (λ_=>none):=by rw[eh4];exact (Heap.Ns.new s3.heap (.type "dict")).keeps λb o e=>YB _ e
 have hcn:h4.IsCell (s3.heap.objs.size+1) none:=by
  rw[eh4];rw[<-JI s3.heap { cls:=.type "dict",data:=.dict #[] }];exact⟨_,YT _ rfl,rfl⟩
 clear eh4;have I4:=Ft (N:=N) (tk:=s3.toks) I3 hc f3 hl3 hkind hone hx0 h1 h2 hN hfv hk hfl (h':=h4) hns hcn old;have st4:tn 0 h4:=T.keep 0 _ _ st3 λb _ o e=>old b o e;have hCn:s3.heap.get? s3.heap.objs.size=none:=by
  cases e:s3.heap.get? s3.heap.objs.size with
  | none=>rfl
  | some o=>exact absurd (YI e) (XO _)
 generalize hC:s3.heap.objs.size=C at I4 hCn ⊢;have stat:∀ {H':Hp} {ps:TD},(∀ b∈fp,H' b=none)->(∀ p∈ps,p.1 ∉ fp)->∀ b∈fp,FpOk (compCxC X N scope x0 cl C fp s3 (upd H D (.lst []))) ps H' b:=λ{H' ps} hn hp b hb =>
  ⟨hn b hb,by rw[<-hC];exact XD (hl3 b hb),λz=>(YW.mp (I3.stkSub b z)).elim (λe=>(f3 b hb).2.1 e) λe=>(f3 b hb).2.2.1 e,.inl hb,λx c e=>(Vu e).elim (λz q=>absurd (hl3 b hb) (jk.mpr (by rw[<-q,z.2,<-hC];exact z9 _))) (λz=>(f3 b hb).2.2.2.2.1 x c (h1 x c z.2)),λp q z=>(JF.mp q).elim (λq=>(f3 b hb).2.2.2.2.2 p (YL _ q) z) λq=>hp p q (by rw[z];exact hb)⟩
 have loop:∀ s4:Shared,s4={ s3 with heap:=h4,toks:=s3.toks } →
   codeAny (model X.prog X.w) X.A (.compLoop (.ListComp elt [⟨tg,iter,ifs,0⟩] scope pos) 0 (.ref it) (.ref D) (compEnvC scope ((x0,C+1)::cl) C X.env)) (RR (.ref D) C) s4:=by
  rintro s4 rfl;refine Pu (λm s'=>∃ i ys H',Inv (compCxC X N scope x0 cl C fp s3 (upd H D (.lst []))) [] (comp0 k fv σ) H' s'/\tn i s'.heap/\(∀ b∈fp,H' b=none)/\i<=n/\m=n+1 - i/\ys.length<=i/\H' D=some (.lst ys)/\W i ys H') ?_ (n+1)
   ⟨0,[],_,I4,st4,λb hb=>(f3 b hb).1,JH _,rfl,YD _,Zb,w0⟩
  rintro m s5 ⟨i,ys,H5,I5,st5,fr5,hi,rfl,hys,hD5,w5⟩;by_cases hlt:i<n
  ·obtain⟨go,stp⟩:=step i ys H5 hlt w5 hD5;refine thn (T.item (compCxC X N scope x0 cl C fp s3 (upd H D (.lst []))) rfl rfl rfl rfl i [] s5 _ H5 noX I5 (stat fr5 (by simp)) st5 go) λr s6 ⟨u,er,h6⟩=>?_;subst er;refine thn h6 λ_ s7 ⟨x,H7,I7,r7,y7,st7,fr7⟩=>?_;have I7':=I7.pinned (stat fr7 (by simp)) (T.obj _ _ st7);refine thn (hg cl C fp s3 _ _ s7 _ H7 x u _ I7' r7 (hw _ x H7 _ (stp x H7 y7))) λ_ s8 ⟨σ8,H8,I8,q8,wk⟩=>?_;refine thn (ht cl C fp s3 _ _ s8 σ8 H8 _ I8 q8) λok s9 ⟨H9,I9,q9⟩=>?_;have back:∀ {σ':L2.St} {H':Hp} {s':Shared},Inv (compCxC X N scope x0 cl C fp s3 (upd H D (.lst []))) ([]++pinsAt fp s7.heap) σ' H' s'->Weaker σ' (comp0 k fv σ) →
     Inv (compCxC X N scope x0 cl C fp s3 (upd H D (.lst []))) [] (comp0 k fv σ) H' s'/\tn (i+1) s'.heap/\∀ b∈fp,H' b=none:=λ{σ' H' s'} I' wk'=>by
    refine⟨I'.unpinned.weak wk'.1 wk'.2,T.keep _ _ _ st7 λb hb o e=>(I'.pin (b,o) (XC _ (XC _ (Xw hb e)))).1,λb hb=>?_⟩;obtain⟨o,e,_⟩:=T.obj _ _ st7 b hb;exact (I'.pin (b,o) (XC _ (XC _ (Xw hb e)))).2.1
   cases ok with
   | false =>
    rw[YH YO] at q9 ⊢;obtain⟨hD9,w9⟩:=q9;obtain⟨a1,a2,a3⟩:=back I9 wk;exact⟨n+1 - (i+1),by omega,i+1,ys,H9,a1,a2,a3,hlt,rfl,Nat.le_succ_of_le hys,hD9,w9⟩
   | true =>
    rw[YJ rfl] at q9 ⊢;refine thn (he cl C fp s3 _ _ s9 σ8 H9 _ I9 q9) λy s10 ⟨yv,H10,I10,r10,hD10,w10⟩=>?_;refine thn (Yn _ s10 σ8 H10 (.ref D) [yv] (.ref D) [y] (λ_ H'=>H'=upd H10 D (.lst (ys++[yv]))) I10 rfl (.cons r10 .nil) ⟨D,ys,yv,rfl,rfl,hD10,JL hys (YU hlt hn),rfl⟩) λ_ s11 ⟨_,H11,I11,_,e11⟩=>?_;subst e11;obtain⟨a1,a2,a3⟩:=back I11 wk;exact⟨n+1 - (i+1),by omega,i+1,ys++[yv],_,a1,a2,a3,hlt,rfl,by rw[YS];show ys.length+1<=i+1;omega,Zb,w10⟩
  obtain rfl:i=n:=Nat.le_antisymm hi (jk.mp hlt);obtain⟨stop,q⟩:=fin ys H5 w5 hD5;refine thn (T.done (compCxC X N scope x0 cl C fp s3 (upd H D (.lst []))) rfl rfl rfl rfl i [] s5 _ H5 noX I5 (stat fr5 (by simp)) st5 stop) λr s6 ⟨er,I6⟩=>?_;subst er;refine hR D C H5 s6 ?_ (I3.fpOk (by rw[hC];exact YD _) I6.free) q λh' hs'=>?_
  ·obtain⟨m,hm,_⟩:=I6.loc;exact⟨m,hm⟩
  have hs2:∀ b,b≠C->h'.get? b=s6.heap.get? b:=λb hb=>hs'.2 b hb;refine I3.call' (s':={ s6 with heap:=h' }) (ch:=fp) ?_ (D7 I6.base hCn hs2) (Jn I6.hok I6.free hs2) I6.bare λb hb=>?_
  ·exact I6.os
  exact⟨(f3 b hb).2.2.2.1,(f3 b hb).2.1,(f3 b hb).2.2.2.2.1,(f3 b hb).2.2.2.2.2⟩
 exact codeAny_compStart_list (loop _ rfl) (T.self _ 0 _ _ _ st4 (loop _ rfl))
theorem Cs {elt iter:Expr}{ifs:TK}{pos:Pos}{wi:TI}{tt:TT}{N:TF}{k:Nat}{fv:List Nat}{x0:Str}
  (hc:X.calm=true) (hi:PI X tg iter wi) (hg:∀ cl C fp s H,PG (compCxC X N scope x0 cl C fp s H) tg g) (ht:∀ cl C fp s H,PTs (compCxC X N scope x0 cl C fp s H) ifs tt) (he:∀ cl C fp s H,PE (compCxC X N scope x0 cl C fp s H) elt te)
  (hw:∀ r x H Q,g x (List.replicate k none++r) H Q->g x (List.replicate k none++r) H λσ4 H4=>Q σ4 H4/\Weaker σ4 (List.replicate k none++r))
  (hN:N.length=k+fv.length:=by rfl) (hfv:fv.map (λj=>X.N[j]?)=(N.drop k).map some:=by rfl) (hk:(N.drop k).map X.env.kindOf=(N.drop k).map (λ_=>some .cell):=by rfl)
  (hfl:∀ y∈N.drop k,scope.names.lookup y=some .free:=by decide +kernel) (hfr:∀ y∈scope.names,y.2=.free->y.1∈N.drop k:=by decide +kernel)
  (hone:(scope.names.filter λy=>y.2 == .cell)=[(x0,.cell)]:=by decide +kernel) (hx0:scope.names.lookup x0=some .cell:=by decide +kernel) (hkind:scope.kind=.function:=by rfl) (hnames:∀ y∈scope.names,y.2=.local->scope.names.lookup y.1=some .local:=by decide +kernel)
  (hs:∀ x,foldedSetIterable iter X.env x=pure x:=by intro _;rfl):PE X (.ListComp elt [⟨tg,iter,ifs,0⟩] scope pos) (tComp wi g tt te k fv):=by
 intro pins s σ H Q I h;have kc:∀ y∈N.drop k,X.env.kindOf y=some .cell:=λy hy=>by
  obtain⟨j,hj⟩:=XN hy;have a:=congrArg (λl=>l[j]?) hk;simp only [YF,hj,qd] at a;exact YK a
 obtain⟨cl,hclos,h1,h2⟩:=V7 (env:=X.env) (scope:=scope) λy hy hf=>I.ok.has y.1 (.inl (kc y.1 (hfr y hy hf)));rw[eval_ListComp];refine zC (use:=none) rfl hs hclos hkind hnames (thn (hi pins s σ H _ I h) λxv s1 h1'=>thn h1' λitv s2 h2'=>?_);obtain⟨it,fp,tn,J,H2,e,I2,T,st2,f2,body⟩:=h2';subst e;exact Le (RR:=λacc C=>compPost (model X.prog X.w) X.A X.xe none (EP X pins σ Q) acc C) hc hg ht he hw hN hfv hk hfl hone hx0 hkind h1 h2 I2 T st2 f2 body λD C H' s' ⟨m,hm⟩ _ q iv=>⟨m,hm,λh' hs'=>⟨.ref D,H',iv h' hs',rfl,q⟩⟩
end
section
variable {X:Cx}{K:TQ}{tg l:Expr}{tl:TE}
theorem Co (hl:PE X l tl)(h:X.K=K:=by rfl):PI X tg l (iList K tl):=h ▸ Xk hl
end
theorem Fs (o:Obj)(f):(o.mapFields f).dict=o.dict:=by
 obtain⟨c,d,dt,sl⟩:=o
 cases dt <;> rfl
def TrD (h B:Heap)(e:Addr)(c:Value)(dd:TN)(fl:Value):Prop :=
 ∃ (oe:Obj) (vs:Array Value) (T:Addr) (oT:Obj) (ts:Array Value),(h.get? e=some oe/\oe.cls=c/\oe.dict=dd/\oe.data=.fields vs/\vs[1]?=some (.ref T)/\vs[2]?=some .none)/\(B.get? T=none/\T≠e)/\(h.get? T=some oT/\oT.data=.fields ts/\ts[3]?=some fl)
theorem TrD.obj {B:Heap}{c:Value}{fl:Value}(x:TrD h B e c dd fl):∃ oe vs,h.get? e=some oe/\oe.cls=c/\oe.dict=dd/\oe.data=.fields vs:=by
 obtain⟨oe,vs,_,_,_,⟨e1,e2,e3,e4,_⟩,_⟩:=x;exact⟨oe,vs,e1,e2,e3,e4⟩
def FlyD (B:Heap)(l:TM)(e:Addr)(c:Value)(dd:TN)(h:Heap):Prop:=B.StaysIn h/\B.get? e=none/\h.FunFrames B l/\TrD h B e c dd .none
def HeldD (B:Heap)(l:TM)(e:Addr)(c:Value)(dd:TN)(L:Addr)(h:Heap):Prop:=B.StaysIn h/\B.get? e=none/\h.FunFrames B l/\TrD h B e c dd (rawInt L)
section
variable {M:Model}{A:Around}{E:TC}{s:Shared}{B:Heap}{env:Env}{outer:TM}{L e:Addr}{c:Value}{dd:TN}{Q:Unit->Shared->Prop}
theorem Z0q {vs:Array Value}{hd0:Value}{nx:Bool}(fr:A.frames=some (env::outer))(ff:s.heap.FunFrames B (env::outer))(lf:env.frame=some L)(he:s.heap.get? e=some oe)(kb:B.StaysIn s.heap)(nb:B.get? e=none)(d0:oe.data=.fields vs)(sz:1<vs.size)(hc:vs[2]?=some .none)
  (hq:∀ h',HeldD B (env::outer) e oe.cls oe.dict L h'->s.heap.UpToSlots h'->Q () { s with heap:=h' }) :
  wpAny M A (do let a <-frameOf env;let pl <-entryPlaceOf L nx;let b <-EntryCells.newEntry hd0 a .none (rawInt L) .none pl;setField (.ref e) 1 b) Q E s:=by
 have ne:e ∉ (env::outer).filterMap (·.frame):=λz=>by
  obtain⟨_,o,ho,nf⟩:=ff.mem z;rw[he] at ho
  cases ho;exact nf vs d0
 refine YA (wpAny_frameOf_fun fr ff lf λg1 so=>?_);refine YA (wpAny_entryPlaceOf λpl ip=>?_);unfold EntryCells.newEntry newFields;refine YA (qV ?_ (ip.sizeOk5 _ _ _ _ _));have e1:g1.get? e=some oe:=(so.2.1 e ne).trans he;have kb1:B.StaysIn g1:=λb o q=>(so.2.1 b λz=>by rw[(ff.mem z).1] at q;cases q).trans (kb b o q);generalize hN:({ cls:=Value.type "traceback",dict:=none,data:=.fields ([hd0,.ref L,.none,rawInt L,.none]++(if pl.isEmpty then List.replicate 6 Value.none else pl)).toArray }:Obj)=N;have e2:=YB (h:=g1) N e1;have nT:g1.objs.size≠e:=qZ (YI e1);have d3:=qg d0 (·.setIfInBounds 1 (Value.ref g1.objs.size));have e3:=JM (Obj.mapFields (·.setIfInBounds 1 (Value.ref g1.objs.size))) e2 (zn d3);have kp:∀ b o,b≠e->g1.get? b=some o->((g1.push N).update e (Obj.mapFields (·.setIfInBounds 1 (Value.ref g1.objs.size)))).get? b=some o:=λb o q z=>by
  rw[XV _ _ (XJ q)];exact YB _ z
 have nr:∀ b o,s.heap.get? b=some o->(∀ vs,o.data≠.fields vs)->b≠e:=λb o z nf q=>by
  rw[q,he] at z
  cases z;exact nf vs d0
 refine qa e2 d0 sz (hq _ ?_ ?_)
 ·have hT:((g1.push N).update e (Obj.mapFields (·.setIfInBounds 1 (Value.ref g1.objs.size)))).get? g1.objs.size=some N:=by
   rw[XV _ _ (XJ nT)];exact YT g1 (by rw[<-hN];rfl)
  refine⟨λb o q=>kp b o (λz=>by rw[z,nb] at q;cases q) (kb1 b o q),nb,ff.of_keeps λb o z nf=>?_,?_⟩
  ·obtain⟨sl,w⟩:=so.2.2 b o z;exact⟨_,kp b _ (nr b o z nf) w,rfl⟩
  refine⟨_,_,g1.objs.size,N,([hd0,.ref L,.none,rawInt L,.none]++(if pl.isEmpty then List.replicate 6 Value.none else pl)).toArray,⟨e3,Y0e _ _,Fs _ _,d3,by simp[sz],by rw[Array.getElem?_setIfInBounds_ne (by decide)];exact hc⟩,⟨kb1.fresh,nT⟩,hT,by rw[<-hN],?_⟩
  first | (simp;done) | (rcases ip with rfl | ⟨_,_,_,_,_,_,_,rfl⟩ <;> simp)
 intro b o z nf;obtain⟨sl,w⟩:=so.2.2 b o z;exact⟨sl,kp b _ (nr b o z nf) w⟩
theorem Je {l:TM}{fl:Value}(kb:B.StaysIn s.heap)(nb:B.get? e=none)(ff:s.heap.FunFrames B l)(t:TrD s.heap B e c dd fl)(hq:∀ h',FlyD B l e c dd h'->s.heap.UpToSlots h'->Q () { s with heap:=h' }):wpAny M A (setFlight (.ref e) none) Q E s:=by
 obtain⟨oe,vs,T,oT,ts,⟨he,q1,q2,d0,h1⟩,⟨nT,Te⟩,hT,dT,h3⟩:=t;have sz:3<ts.size:=(qo.mp h3).1;have ot:∀ b,b≠T->(s.heap.update T (Obj.mapFields (·.setIfInBounds 3 ((none:TN).elim Value.none λf=>rawInt f)))).get? b=s.heap.get? b:=λb q=>XV _ _ (XJ q);have nr:∀ b o,s.heap.get? b=some o->(∀ vs,o.data≠.fields vs)->b≠T:=λb o z nf q=>by
  rw[q,hT] at z
  cases z;exact nf ts dT
 unfold setFlight;refine YA (XS he d0 h1.1 ?_);rw[YJ (by simp)];refine qa hT dT sz (hq _ ⟨λb o q=>(ot b λz=>by rw[z,nT] at q;cases q).trans (kb b o q),nb,ff.of_keeps λb o z nf=>⟨o,(ot b (nr b o z nf)).trans z,rfl⟩,?_⟩ λb o z nf=>⟨o.slots,(ot b (nr b o z nf)).trans z⟩);exact⟨oe,vs,T,_,_,⟨(ot e (XJ Te)).trans he,q1,q2,d0,h1⟩,⟨nT,Te⟩,JM _ hT (zn (qg dT _)),qg dT _,by simp[sz]⟩
theorem Kf {vs:Array Value}(fr:A.frames=some (env::outer))(ff:s.heap.FunFrames B (env::outer))(lf:env.frame=some L)(he:s.heap.get? e=some oe)(kb:B.StaysIn s.heap)(nb:B.get? e=none)(d0:oe.data=.fields vs)(h1:vs[1]?=some .none)(hc:vs[2]?=some .none)
  (hq:∀ h',HeldD B (env::outer) e oe.cls oe.dict L h'->s.heap.UpToSlots h'->Q () { s with heap:=h' }):wpAny M A (noteFrame (.ref e) env) Q E s:=by
 unfold noteFrame;simp only [lf];refine YA (XS he d0 h1 ?_);rw[YH (by decide)];exact Z0q fr ff lf he kb nb d0 (qo.mp h1).1 hc hq
theorem Ph (fr:A.frames=some (env::outer))(lf:env.frame=some L)(x:FlyD B (env::outer) e c dd s.heap)(hq:∀ h',HeldD B (env::outer) e c dd L h'->s.heap.UpToSlots h'->Q () { s with heap:=h' }):wpAny M A (noteFrame (.ref e) env) Q E s:=by
 obtain⟨kb,nb,ff,oe,vs,T,oT,ts,⟨he,rfl,rfl,d0,h1⟩,⟨nT,Te⟩,hT,dT,h3⟩:=x;unfold noteFrame;simp only [lf];refine YA (XS he d0 h1.1 ?_);rw[YJ (by simp)];refine YA (XS hT dT h3 ?_);rw[YH (by simp[rawInt])];refine YA (qa hT dT (qo.mp h3).1 ?_);have ot:∀ b,b≠T->(s.heap.update T (Obj.mapFields (·.setIfInBounds 3 Value.none))).get? b=s.heap.get? b:=λb q=>XV _ _ (XJ q);have nr:∀ b o,s.heap.get? b=some o->(∀ vs,o.data≠.fields vs)->b≠T:=λb o z nf q=>by
  rw[q,hT] at z
  cases z;exact nf ts dT
 exact Z0q fr (ff.of_keeps λb o z nf=>⟨o,(ot b (nr b o z nf)).trans z,rfl⟩) lf ((ot e (XJ Te)).trans he) (λb o q=>(ot b λz=>by rw[z,nT] at q;cases q).trans (kb b o q)) nb d0 (qo.mp h1.1).1 h1.2
  λh' x u=>hq h' x λb o z nf=>u b o ((ot b (nr b o z nf)).trans z) nf
theorem Ms {vs:Array Value}(fr:A.frames=some (env::outer))(ff:s.heap.FunFrames B (env::outer))(lf:env.frame=some L)(he:s.heap.get? e=some oe)(kb:B.StaysIn s.heap)(nb:B.get? e=none)(d0:oe.data=.fields vs)(h1:vs[1]?=some .none)(hc:vs[2]?=some .none)
  (hq:∀ h',FlyD B outer e oe.cls oe.dict h'->s.heap.UpToSlots h'->Q () { s with heap:=h' }):wpAny M A (leaving env (.ref e)) Q E s:=by
 unfold leaving;refine YA (Kf fr ff lf he kb nb d0 h1 hc λh' x u=>Je x.1 x.2.1 x.2.2.1 x.2.2.2 λh2 y v=>hq h2 ⟨y.1,y.2.1,y.2.2.1.2.2,y.2.2.2⟩ (u.trans v))
theorem Kl (fr:A.frames=some (env::outer))(lf:env.frame=some L)(x:FlyD B (env::outer) e c dd s.heap)(hq:∀ h',FlyD B outer e c dd h'->s.heap.UpToSlots h'->Q () { s with heap:=h' }):wpAny M A (leaving env (.ref e)) Q E s:=by
 unfold leaving;refine YA (Ph fr lf x λh' x u=>Je x.1 x.2.1 x.2.2.1 x.2.2.2 λh2 y v=>hq h2 ⟨y.1,y.2.1,y.2.2.1.2.2,y.2.2.2⟩ (u.trans v))
end
abbrev newTupO (vs:TH):Obj:={ cls:=.type "tuple",data:=.seq vs.toArray }
abbrev newExcO (C:Addr)(t:Addr)(dd:TN):Obj:={ cls:=.ref C,dict:=dd,data:=.fields #[.ref t,.none,.none,.none,.bool false,.none] }
abbrev excHeap (h:Heap)(C:Addr)(vs:TH):Heap:=(h.push (newTupO vs)).push (newExcO C h.objs.size none)
section
variable {P:TR}{w:World}{A:Around}{E:TC}{h:Heap}{g:Array GenState}{d:Drawn}{tk:Nat}{os:OsState}
variable {nm q:Str}{C N fI:Addr}{bs tl bB:TH}{hdct:Bool}{sn:TF}{sub:TH}{ab:Bool}{col:Option Bool}{dd:TN}{k0 k1 k2 k3 k5:Option Value}{B newId initId:String}{mN:TB}{vs:TH}{oI:Obj}
theorem Xj {b:Addr}{o:Obj}(e:h.get? b=some o):(excHeap h C vs).get? b=some o:=YB _ (YB _ e)
theorem Qo:(excHeap h C vs).get? (h.objs.size+1)=some (newExcO C h.objs.size none):=Heap.get?_push_at (JI ..).symm rfl
theorem Lp {Q:Fin->Shared->Prop}(F:ExcBaseFacts B newId initId bB)(T:OwnTail h bB tl)(hC:h.get? C=some (excClassObj nm q C N bs tl hdct sn sub ab col dd k0 k1 k2 k3 k5 newId))(hn:h.Ns N mN)(hi:mN "__init__"=some (.ref fI))
  (hf:h.get? fI=some oI) (hfc:oI.cls=.type "function") (hv:vs.length<=sizeLine)
  (hq:wpAny (model P w) A (call (.ref fI) (.ref (h.objs.size+1)::vs)) (λr s'=>r=.none/\Q (.done (.ret (.ref (h.objs.size+1)))) s') E ⟨excHeap h C vs,g,d,tk,os⟩) :
  wpAny (model P w) A (Builtin.«type.__call__» ⟨.ref C::vs,[]⟩) Q E ⟨h,g,d,tk,os⟩:=by
 repeat (first | with_reducible refine GC hC ?_ | with_reducible refine wpAny_madeBy_exc hC ?_ | wp_step)
 refine codeAny_call_builtin_code (Y08 _ F.quiet) (wpAny_check_new_subT F T hC (codeAny_exc_new_subT F T hC ?_ hv));show wpAny _ _ _ _ _ _;have hC1:(excHeap h C vs).get? C=_:=Xj hC;have hg1:(excHeap h C vs).get? (h.objs.size+1)=_:=Qo;have hn1:(excHeap h C vs).Ns N mN:=hn.keeps λb o e=>Xj e;have T1:OwnTail (excHeap h C vs) bB tl:=T.keeps λb o e=>Xj e;have cC:(Value.ref C::tl).contains (.ref C)=true:=by simp
 unfold isInstance
 repeat (first | with_reducible refine GC hg1 ?_ | (with_reducible refine jy hC1 ?_;rw[cC]) | wp_step)
 show wpAny _ _ (typeLookup (.ref C) _) _ _ _;refine wpAny_typeLookup_tail hC1 hn1 T1 F.mroIs F.init.lookup ?_;rw[hi];refine JN (YA ?_);unfold bindSpecial;refine YA (wpAny_typeOf (T:="function") ⟨_,Xj hf,hfc⟩ ?_);rw[YJ (by decide)];refine YN (YA (GM hq (λr s' ⟨hr,hQ⟩=>?_) λ_ _ x=>x));subst hr
 wp_walk
 exact hQ
theorem Fz {Q:TC}(F:ExcBaseFacts B newId initId bB)(T:OwnTail h bB tl)(hC:h.get? C=some (excClassObj nm q C N bs tl hdct sn sub ab col dd k0 k1 k2 k3 k5 newId))(hn:h.Ns N mN)(hi:mN "__init__"=some (.ref fI))
  (hf:h.get? fI=some oI) (hfc:oI.cls=.type "function") (hv:vs.length<=sizeLine)
  (hq:wpAny (model P w) (A.under (.builtin "type.__call__" ⟨.ref C::vs,[]⟩)) (call (.ref fI) (.ref (h.objs.size+1)::vs)) (λr s'=>r=.none/\Q (.ref (h.objs.size+1)) s') E ⟨excHeap h C vs,g,d,tk,os⟩) :
  wpAny (model P w) A (call (.ref C) vs) Q E ⟨h,g,d,tk,os⟩:=by
 have f1:=tc_lookup;have f2:=tc_bind (.ref C);have hT:(⟨h,g,d,tk,os⟩:Shared).TypeIs (.ref C) "type":=⟨_,hC,rfl⟩;refine zx (codeAny_of_tree ?_);show wpAny _ _ (callAny (.ref C) _) _ _ _
 repeat (any_goals (first | assumption | with_reducible refine GC hC ?_ | wp_step))
 exact⟨rfl,codeAny_call_builtin_at (Y08 _ (by decide +kernel)) entry_typeCall (wpAny_check_type_call_sub hC (Lp F T hC hn hi hf hfc hv hq))⟩
end
theorem Bq {N:Addr}{m:TB}{n:Str}{v:Value}(X:K.In h)(G:h.Ns N m)(e:W.nsIn K N n=some (some v)):m n=some v:=by
 obtain⟨o,es,ep,ho,hd,_,hf⟩:=G;unfold W.nsIn at e;split at e
 ·rename_i c d es' n' sl q
  have z:=X _ _ q;rw[ho] at z
  cases z
  cases hd;split at e
  ·rename_i en he
   cases e;rw[<-hf];unfold nsFind findBy;rw[<-Y0R,he];rfl
  split at e <;> cases e
 cases e
def excInI (K:TQ)(C fI:Addr):Bool:=match K.lookup C with
 | some ⟨.type "type",_,.cls cd,sl⟩=>(match cd.mro,sl.toList with
  | .ref C'::bm,[_,_,_,_,some (.builtin n),_]=>C' == C && (cd.hasDict && (n == "ValueError.__new__" && (!cd.hasDel && (W.tailIn K bmV bm && (W.nsOkIn K cd.ns && W.nsIn K cd.ns "__init__" == some (some (.ref fI)))))))
  | _,_=>false)
 | _=>false
structure ExcI (K:TQ)(mg:TB)(x:Str)(C fI:Addr):Prop where
 ok:excInI K C fI=true
 fn:W.isFn K (.ref fI)=true
 bd:mg x=some (.ref C)
theorem ExcI.own {x:Str}(O:ExcI K mg x C fI)(X:K.In h) :
  ∃ bm N nm q bs sn sub ab col dd k0 k1 k2 k3 k5 mN,h.get? C=some (excClassObj nm q C N bs bm true sn sub ab col dd k0 k1 k2 k3 k5 "ValueError.__new__")/\h.Ns N mN/\mN "__init__"=some (.ref fI)/\OwnTail h bmV bm:=by
 have q:=O.ok;unfold excInI at q
 revert q
 split
 ·rename_i d0 c0 s0 hob
  split
  ·rename_i C1 rest y0 y1 y2 y3 nn y5 em es
   intro q;rw[JZ,JZ,JZ,JZ,JZ,JZ] at q;obtain⟨q1,q0,q2,q3,q4,q5,q6⟩:=q
   cases GW.mp q1
   cases GW.mp q2;have q3':=Bool.not_eq_true' _ ▸ q3;have q6':=GW.mp q6
   cases c0;simp only at em q0 q3' q5 q6';subst em q0 q3';obtain⟨ll⟩:=s0;have el:ll=[y0,y1,y2,y3,some (.builtin "ValueError.__new__"),y5]:=es;subst el;have G:h.Ns _ _:=.of_isNs (W.isNs_of_in X q5);exact⟨_,_,_,_,_,_,_,_,_,_,_,_,_,_,_,_,X _ _ hob,G,Bq X G q6',W.tail_of_in X q4⟩
  intro q;cases q
 intro q;cases q
def excN (e C:Addr)(dd:TN):HO:=.ext λh=>∃ t,h.get? e=some (newExcO C t dd)
theorem Nr {P:TR}(x:h.get? e=some (newExcO C t dd)):ObjOk P w H h e (excN e C dd) :=
 ⟨⟨t,x⟩,⟨_,x⟩,λ_ _ ⟨t',e1⟩ k=>⟨t',k _ e1⟩⟩
theorem Rl {P:TR}(x:HOk P w H h)(y:H e=some (excN e C dd)):∃ t,h.get? e=some (newExcO C t dd):=(x e _ y).1
def unT (H:Hp)(e:Addr):Hp:=λb=>if b=e then none else H b
theorem D8:unT H e e=none:=YJ rfl
theorem Vm {b:Addr}(n:b≠e):unT H e b=H b:=YH n
def CXD (P:TR)(w:World):CXT:=λouter H s E e s'=>∃ (a:Addr) (cls:Value) (dd:TN) (H':Hp) (B:Heap),e=.ref a/\s'.os=s.os/\AllBare s'.gens/\FlyD B outer a cls dd s'.heap ∧
 Un (frs outer) [] H H' s.heap s'.heap/\HOk P w H' B/\(∀ b o,s.heap.get? b=some o->b ∉ frs outer->(∃ o',B.get? b=some o')/\(H b=none->B.get? b=some o))/\E cls dd H'
section
variable {M:Model}{A:Around}{E:TC}{env:Env}
variable {nm q:Str}{C N:Addr}{bs tl:TH}{hdct:Bool}{sn:TF}{sub:TH}{ab:Bool}{col:Option Bool}{dd:TN}{k0 k1 k2 k3 k5:Option Value}{newId:String}
theorem Gg {x:Sem Value}{Q:Flow->Shared->Prop}(hb:tl.contains (.type "BaseException")=true)(hh:A.handled=none)
  (h:wpAny M A x (λv s1=>∃ (e t:Addr) (dx:TN),v=.ref e/\s1.heap.get? C=some (excClassObj nm q C N bs tl hdct sn sub ab col dd k0 k1 k2 k3 k5 newId)/\s1.heap.get? e=some (newExcO C t dx)/\E (.ref e) s1) E s) :
  wpAny M A (raiseStmt env (some x) none) Q E s:=by
 have cB:(Value.ref C::tl).contains (.type "BaseException")=true:=by rw[Y0X,hb,Bool.or_true]
 unfold raiseStmt;refine YA (GM h (λv s1 h1=>?_) λ_ _ x=>x);obtain⟨e,t,dx,rfl,hC,he,hE⟩:=h1;obtain⟨hp,g,d,tk,os⟩:=s1
 repeat (first | with_reducible refine GC he ?_ | with_reducible refine GC hC ?_ | (with_reducible refine jy hC ?_;rw[cB]) | wp_step)
 exact wpAny_raiseNew_none hh hE
end
section
variable {P:TR}{w:World}{K:TQ}{mg:TB}{base:Heap}{N:TF}{qual:Str}{scope:Scope}{f:Addr}{cd:Value}{A:Around}{outer:TM}{s:Shared}{H:Hp}{E:XK}
theorem V6 {b:Addr}{o:Obj}(e:s.heap.get? b=some o)(hb:b ∉ frs outer):b ∉ frs (envOfC qual scope s.heap.objs.size f cd::outer):=λz=>by
 rcases YW.mp (show b∈s.heap.objs.size::frs outer from z) with z | z
 ·rw[z] at e;exact absurd (YI e) (XO _)
 exact hb z
theorem P0 {σ:L2.St}{s2:Shared}(I:Inv (cxOf (CXD P w) P w K mg base N qual scope f cd A outer s H E) pins σ H2 s2)(he:H2 e=some (excN e C dd))(ne:∀ o,s.heap.get? e=some o->False)
  (q:E (.ref C) dd (unT H2 e)):(cxOf (CXD P w) P w K mg base N qual scope f cd A outer s H E).xe (.ref e) s2:=by
 obtain⟨t,ht⟩:=Rl I.hok he;have nT:∀ b o,H2 b=some o->(∀ φ,o≠HO.ext φ)->b≠e:=λb o z d y=>by
  rw[y,he] at z
  cases z;exact d _ rfl
 have hB:∀ b o,s.heap.get? b=some o->b ∉ frs outer->(∃ o',(W.hideAll s2.heap (e::frs (envOfC qual scope s.heap.objs.size f cd::outer))).get? b=some o')/\(H b=none->(W.hideAll s2.heap (e::frs (envOfC qual scope s.heap.objs.size f cd::outer))).get? b=some o):=λb o z hb=>by
  have nb:b ∉ e::frs (envOfC qual scope s.heap.objs.size f cd::outer):=λy=>by
   rcases YW.mp y with y | y
   ·exact ne o (by rw[<-y];exact z)
   exact V6 z hb y
  refine⟨?_,λn=>?_⟩
  ·obtain⟨o',z'⟩:=I.base.there b o z (by intro z;cases z);exact⟨o',Y0j _ z' nb⟩
  exact Y0j _ (I.base.keep b o z n hb (by intro z;cases z)) nb
 have un:Un (frs outer) [] H (unT H2 e) s.heap s2.heap:=by
  have u:Un (frs outer) [] H H2 s.heap s2.heap:=I.base;refine⟨u.keep,u.slot,λb o z n hx=>?_,u.there,λb xs z=>?_,λb o v z=>?_,λb ps z=>?_⟩
  ·unfold unT;split
   ·rfl
   exact u.free b o z n hx
  ·have y:=u.tups b xs z;rw[Vm (nT b _ y λφ d=>nomatch d)];exact y
  ·have y:=u.frzs b o v z;rw[Vm (nT b _ y λφ d=>nomatch d)];exact y
  obtain⟨m,y⟩:=u.tbls b ps z;exact⟨m,by rw[Vm (nT b _ y λφ d=>nomatch d)];exact y⟩
 have hok:HOk P w (unT H2 e) (W.hideAll s2.heap (e::frs (envOfC qual scope s.heap.objs.size f cd::outer))):=λa o z=>by
  have na:a≠e:=λy=>by rw[y,D8] at z;cases z
  rw[Vm na] at z;have nf:∀ b u,H2 b=some u->b≠e->b ∉ e::frs (envOfC qual scope s.heap.objs.size f cd::outer):=λb u y nb y'=>by
   rcases YW.mp y' with y' | y'
   ·exact nb y'
   rw[I.stkFree b y'] at y;cases y
  refine (I.hok a o z).stay (λb u hb y=>Y0j _ y ?_) (λb y=>by rw[Vm (nT b _ y λφ d=>nomatch d)];exact y) λb xs y=>by rw[Vm (nT b _ y λφ d=>nomatch d)];exact y
  rcases hb with rfl | hb
  ·exact nf _ _ z na
  exact nf _ _ hb (nT b _ hb λφ d=>nomatch d)
 refine Ms (B:=W.hideAll s2.heap (e::frs (envOfC qual scope s.heap.objs.size f cd::outer))) I.ok.frames (W.funFrames_hide I.stack λenv z b hb=>YY _ (zL.mpr ⟨env,z,hb⟩)) (L:=s.heap.objs.size) rfl ht (λb o z=>W.of_hideAll _ z)
  (W.hideAll_none _ XI) rfl rfl rfl λh2 fl up=>?_
 refine⟨e,.ref C,dd,unT H2 e,_,rfl,I.os,I.bare,fl,?_,hok,hB,q⟩;refine Ll (P:=P) (w:=w) un hB fl.1 up λb hb=>?_;obtain⟨_,o,z,d⟩:=I.funs.mem hb;exact⟨o,z,d⟩
def tRaiseD (E:XK)(C:Addr)(sp:Sp)(t:TA):TS:=λ_ σ H=>t σ H λvs H1=>vs.length<=sizeLine/\∀ e,H1 e=none->sp (.ref e::vs) (upd H1 e (excN e C none)) (λv H2=>v=.non/\∃ dd,H2 e=some (excN e C dd)/\E (.ref C) dd (unT H2 e)) E0
theorem Gj {x:Str}{C fI:Addr}{fd:FuncData}{ps:TF}{sp:Sp}{k:Nat}{e₀:Expr}{rest:TK}{t:TA}{np cpos pos:Pos}(O:ExcI K mg x C fI)(F:FnOk P w K mg base CX0 k fI fd ps sp)(hb:Binds K fd ps [])
  (hr:Room (k+1) (A.deeper (envOfC qual scope s.heap.objs.size f cd)) true) (hg:Gl (cxOf (CXD P w) P w K mg base N qual scope f cd A outer s H E) x) (ha:PA (cxOf (CXD P w) P w K mg base N qual scope f cd A outer s H E) (e₀::rest) t)
  (he:starEach (e₀::rest) (envOfC qual scope s.heap.objs.size f cd)=(false,eval e₀ (envOfC qual scope s.heap.objs.size f cd))::starEach rest (envOfC qual scope s.heap.objs.size f cd):=by rfl)
  (hplain:(backTo cpos (starEach rest (envOfC qual scope s.heap.objs.size f cd))).any (·.1)=false:=by rfl) (hd:(x == ("__debug__":Str))=false:=by decide) :
  PS (cxOf (CXD P w) P w K mg base N qual scope f cd A outer s H E) (.Raise (some (.Call (.Name x np) (e₀::rest) [] cpos)) none pos) (tRaiseD E C sp t):=by
 intro pins s1 σ H1 D I h;obtain⟨tl,NN,nm,q,bs,sn,sub,ab,col,dd,k0,k1,k2,k3,k5,mN,hC,hN,hni,T⟩:=O.own I.ok.mod.kin;rw[arm_exec_Raise];refine YA (zm (Gg (C:=C) (nm:=nm) (q:=q) (N:=NN) (bs:=bs) (tl:=tl) (hdct:=true) (sn:=sn) (sub:=sub) (ab:=ab) (col:=col) (dd:=dd) (k0:=k0) (k1:=k1) (k2:=k2) (k3:=k3) (k5:=k5) (newId:="ValueError.__new__")
  (T.hasType GQ.hasBase) (hr.hd rfl) (YA (GM (wpAny_Call_ofName (Vv I hg O.bd ?_ hd)) (λv s3 h3=>YA (zm (YN h3))) λ_ _ x=>x))))
 have h2:=ha cpos pins s1 σ H1 _ I h;replace h2:wpAny (model P w) (A.deeper (envOfC qual scope s.heap.objs.size f cd)) (spliced (backTo cpos (starEach (e₀::rest) (envOfC qual scope s.heap.objs.size f cd)))) _ _ s1:=h2;rw[he] at h2;show wpAny _ _ (callWith cpos (.ref C) [] (backTo cpos (starEach (e₀::rest) (envOfC qual scope s.heap.objs.size f cd))) (backToKw cpos (keywordEach [] (envOfC qual scope s.heap.objs.size f cd)))) _ _ _;unfold callWith;refine YA (JN (GM (?_:wpAny _ _ (evalArgs (.ref C) true (backTo cpos (starEach (e₀::rest) (envOfC qual scope s.heap.objs.size f cd))) []) (λa s2=>a.kw=[]/\∃ vs H2,Inv (cxOf (CXD P w) P w K mg base N qual scope f cd A outer s H E) pins σ H2 s2/\Vals vs a.pos/\vs.length<=sizeLine/\∀ e,H2 e=none->sp (.ref e::vs) (upd H2 e (excN e C none)) (λv H2=>v=.non/\∃ dd,H2 e=some (excN e C dd)/\E (.ref C) dd (unT H2 e)) E0) _ s1) (λa s2 h3=>YA (zm ?_)) λ_ _ x=>x))
 ·rw[he];refine Calls.evalArgs_plain (GM h2 (λus s2 h3=>?_) λ_ _ y=>y);obtain⟨vs,H2,I2,r,hl,q⟩:=h3;exact⟨rfl,vs,H2,I2,r,hl,q⟩
 obtain⟨us,akw⟩:=a;obtain⟨hkw,vs,H2,I2,r,hl,sq⟩:=h3;obtain rfl:akw=[]:=hkw;obtain⟨hp,g,d,tk,os⟩:=s2;have hpl:(backTo cpos (starEach (e₀::rest) (envOfC qual scope s.heap.objs.size f cd))).any (·.1)=false:=by
  rw[he];show (false || (backTo cpos (starEach rest (envOfC qual scope s.heap.objs.size f cd))).any (·.1))=false;rw[hplain];rfl
 simp only [hpl];have hC2:=I2.bk _ _ hC;refine YA (wpAny_keeperOf_exc hC2 ?_);have fnI:(∃ oI,hp.get? fI=some oI/\oI.cls=.type "function"):=by
  have z:=GW.mp O.fn;obtain⟨o,ho,hc⟩:=Option.map_eq_some_iff.mp z;exact⟨o,I2.kIn _ _ ho,hc⟩
 obtain⟨oI,hfI,hfc⟩:=fnI;have hl':us.length<=sizeLine:=by rw[<-r.length];exact hl
 have sz:s.heap.objs.size<=hp.objs.size:=I2.sz;have hq0:=sq (hp.objs.size+1) (I2.hok.fresh (z9 _));have I3:Inv (cxOf (CXD P w) P w K mg base N qual scope f cd A outer s H E) pins σ (upd H2 (hp.objs.size+1) (excN (hp.objs.size+1) C none)) ⟨excHeap hp C us,g,d,tk,os⟩ :=
  I2.laid (t':=tk) (λb u e=>Xj e) (z9 _) (Nr Qo)
 have r2:Vals (V.ref (hp.objs.size+1)::vs) (Value.ref (hp.objs.size+1)::us):=.cons rfl r;have hlen:(Value.ref (hp.objs.size+1)::us++[]).length=ps.length:=by
  rw[GS,<-r2.length];exact F.len _ _ _ _ hq0
 refine YA (Fz GQ (T.keeps I2.bk) hC2 (hN.keeps I2.bk) hni hfI hfc hl' (zx ?_));refine zU (F.run _ _ _ _ ⟨Value.ref (hp.objs.size+1)::us,[]⟩ (Value.ref (hp.objs.size+1)::us) _ _ E0 (hr.make C us []).loose ((I3.env0 rfl).make C us []) (by have z:=hb ⟨excHeap hp C us,g,d,tk,os⟩ (Value.ref (hp.objs.size+1)::us) I3.kIn hlen;rw[GS] at z;exact z) r2 hq0) λr' s' hq'=>?_
 cases r' with
 | error e=>exact False.elim hq'
 | ok fl =>
  cases fl with
  | ret u =>
   obtain⟨v,H',I4,rv,ev,dx,q3,q4⟩:=I3.after hq';subst ev;obtain⟨t',ht'⟩:=Rl I4.hok q3;refine⟨rv,YA (JN (wpAny_point (YN ⟨_,t',dx,rfl,I4.bk _ _ hC,ht',P0 I4 q3 (λo z=>?_) q4⟩)))⟩;exact absurd (YU (YI z) sz) (jk.mpr (z9 _))
  | next=>exact False.elim hq'
  | brk=>exact False.elim hq'
  | cont=>exact False.elim hq'
end
def HasD (P:TR)(w:World)(K:TQ)(mg:TB)(base:Heap)(k:Nat)(x:Str)(ps:TF)(sp:Sp):Prop :=
 ∃ (f:Addr) (fd:FuncData),FnOk P w K mg base (CXD P w) k f fd ps sp true/\mg x=some (.ref f)/\W.keepIn K (.ref f)=true/\Binds K fd ps []
theorem Def.hasD {P:TR}{base:Heap}{k:Nat}{x:Str}{N:TF}(D:Def K mg x st ps)(S:FnScope N ps (defScope st))(len:∀ vs H Q E,sp vs H Q E->vs.length=ps.length)
  (hbody:∀ (f:Addr) (cdv:Value) (A:Around) (outer:TM) (s:Shared) (H:Hp) (vs:TY) (Q:VK) (E:XK),Room k (A.deeper (envOfC x (defScope st) s.heap.objs.size f cdv)) true->sp vs H Q E →
   ∃ t,PSs (cxOf (CXD P w) P w K mg base N x (defScope st) f cdv A outer s H E) (defBody st) t/\t { nx:=λ_ H'=>Q .non H',rt:=Q } (start N vs) H):HasD P w K mg base (k+1) x ps sp:=by
 obtain⟨f,fd,F,hm,b⟩:=D;refine⟨f,fd,?_,hm,F.kp,b⟩;obtain⟨oc,od,kV,doc,pm,an,cdv,ct,osl,rfl,lk,hcd⟩:=F.ex;exact Z3j lk hcd S len λA outer s H vs Q E hr hsp=>hbody f cdv A outer s H vs Q E hr hsp
def LandsD (X:Cx)(EX:L2.St->XK):Prop:=∀ (pins:TD) (σ:L2.St) (H:Hp) (s:Shared) (e:Value) (s':Shared),Inv X pins σ H s->CXD X.prog X.w X.stack H s (EX σ) e s'->X.xe e s'
section
variable {X:Cx}{k:Nat}{x:Str}{ps:TF}{sp:Sp}{e:Expr}{es:TK}{t:TA}{p pos:Pos}{EX:L2.St->XK}
theorem V0 (h:HasD X.prog X.w X.K X.mg X.base k x ps sp)(hr:Room k X.A true)(hg:Gl X x)(hx:LandsD X EX)(ha:PA X (e::es) t)(hdb:(x == ("__debug__":Str))=false:=by decide)
  (he:starEach (e::es) X.env=(false,eval e X.env)::starEach es X.env:=by rfl) (hpl:(backTo pos (starEach es X.env)).any (·.1)=false:=by rfl) (hc:X.calm=true:=by rfl):PE X (.Call (.Name x p) (e::es) [] pos) (tUseX sp EX t):=by
 obtain⟨f,fd,F,hm,hk,hb⟩:=h;intro pins s σ H Q I h;refine GX (Vv I hg hm ?_ hdb);refine W.callWith_K (h₀:=X.base) I.ok.mod.kin hk (thn (ha pos pins s σ H _ I h) λus s1 ⟨vs,H1,I1,r,q⟩=>⟨I1.kIn,?_⟩) he hpl;have hl:us.length=ps.length:=by rw[<-r.length];exact F.len _ _ _ _ q
 have bd:=hb s1 us I1.kIn (by rw[GS];exact hl);rw[GS] at bd;refine zx (zU (F.run X.A X.stack s1 H1 ⟨us,[]⟩ us vs Q (EX σ) hr (I1.env0 hc) bd r q) λr' s' hq=>?_)
 cases r' with
 | error e=>exact hx pins σ H1 s1 e s' I1 hq
 | ok fl =>
  cases fl with
  | ret u=>exact I1.after hq
  | next=>exact False.elim hq
  | brk=>exact False.elim hq
  | cont=>exact False.elim hq
end
section
variable {P:TR}{w:World}{K:TQ}{mg:TB}{base:Heap}{N:TF}{qual:Str}{scope:Scope}{f:Addr}{cd:Value}{A:Around}{outer:TM}{s:Shared}{H:Hp}{E:XK}
theorem Uu:LandsD (cxOf (CXD P w) P w K mg base N qual scope f cd A outer s H E) (λ_=>E):=by
 intro pins σ H1 s1 e s' I hx;obtain⟨a,cls,dd,H',B,rfl,os,bare,fl,un,hok,hB,q⟩:=hx;replace fl:FlyD B (envOfC qual scope s.heap.objs.size f cd::outer) a cls dd s'.heap:=fl;have u:Un (frs outer) [] H H1 s.heap s1.heap:=I.base;have hB2:∀ b o,s.heap.get? b=some o->b ∉ frs outer->(∃ o',B.get? b=some o')/\(H b=none->B.get? b=some o):=λb o z hb=>by
  have nb:=V6 (qual:=qual) (scope:=scope) (f:=f) (cd:=cd) z hb;obtain⟨o1,z1⟩:=u.there b o z (by intro z;cases z);refine⟨(hB b o1 z1 nb).1,λn=>?_⟩;exact (hB b o (u.keep b o z n hb (by intro z;cases z)) nb).2 (u.free b o z n (by intro z;cases z))
 refine Kl I.ok.frames (L:=s.heap.objs.size) rfl fl λh2 fl2 up=>?_;refine⟨a,cls,dd,H',B,rfl,os.trans I.os,bare,fl2,?_,hok,hB2,q⟩;have nf:∀ b∈frs outer,∃ o,s'.heap.get? b=some o/\∀ vs,o.data≠.fields vs:=λb hb=>by
  obtain⟨_,o,z,d⟩:=fl.2.2.1.mem (b:=b) (YY _ hb);exact⟨o,z,d⟩
 refine Ll (P:=P) (w:=w) ⟨λb o z n hb hx=>?_,λb o z n hb hx=>?_,λb o z n hx=>?_,λb o z hx=>?_,λb xs z=>un.tups b xs (u.tups b xs z),λb o v z=>un.frzs b o v (u.frzs b o v z),λb ps z=>?_⟩ hB2 fl2.1 up nf
 ·exact un.keep b o (u.keep b o z n hb hx) (u.free b o z n hx) (V6 z hb) hx
 ·obtain⟨sl,z1⟩:=u.slot b o z n hb hx;obtain⟨sl2,z2⟩:=un.slot b _ z1 (u.free b o z n hx) (YY _ hb) hx;exact⟨sl2,z2⟩
 ·obtain⟨o1,z1⟩:=u.there b o z hx;exact un.free b o1 z1 (u.free b o z n hx) hx
 ·obtain⟨o1,z1⟩:=u.there b o z hx;exact un.there b o1 z1 hx
 obtain⟨m1,z1⟩:=u.tbls b ps z;obtain⟨m2,z2⟩:=un.tbls b _ z1;exact⟨m1++m2,by rw[z2,Y0Q]⟩
end
section
variable {X:Cx}{pins:TD}{σ:L2.St}{H:Hp}{s:Shared}{a:Addr}
theorem Z0c {B:Heap}{s':Shared}{h2:Heap}{t':Nat}{cls:Value}(I:Inv X pins σ H s)(os:s'.os=s.os)(bare:AllBare s'.gens)(fl:FlyD B X.stack a cls dd h2)(up:s'.heap.UpToSlots h2)(fl0:FlyD B X.stack a cls dd s'.heap)
  (un:Un (frs X.stack) [] H H' s.heap s'.heap) (hok:HOk X.prog X.w H' B) (hB:∀ b o,s.heap.get? b=some o->b ∉ frs X.stack->(∃ o',B.get? b=some o')/\(H b=none->B.get? b=some o)) :
  Inv X pins σ H' { s' with heap:=h2,toks:=t' }:=by
 refine Inv.call' (s':={ s' with heap:=h2,toks:=t' }) (ch:=[]) I os ?_ (hok.kept fl.1) bare (λb z=>nomatch z);exact Ll (P:=X.prog) (w:=X.w) un hB fl.1 up λb hb=>by
  obtain⟨_,o,e,d⟩:=fl0.2.2.1.mem hb;exact⟨o,e,d⟩
end
def excC (a C:Addr)(dd:TN):HO:=.ext λh=>∃ o,h.get? a=some o/\o.cls=.ref C/\o.dict=dd/\∀ c,o.data≠.cls c
theorem Z36 {P:TR}{a:Addr}{o:Obj}{vs:Array Value}(e:h.get? a=some o)(c:o.cls=.ref C)(d:o.dict=dd)(f:o.data=.fields vs):ObjOk P w H h a (excC a C dd) :=
 ⟨⟨o,e,c,d,λc z=>by rw[f] at z;cases z⟩,⟨o,e⟩,λ_ _ ⟨oy,e1,c1⟩ k=>⟨oy,k _ e1,c1⟩⟩
section
variable {X:Cx}{x n:Str}{i:Nat}{C D:Addr}{body:TL}{b₀:Stmt}{suite:TL}{np hp pos:Pos}{tb:(L2.St->XK)->TS}{ts:TS}
def tTryDAs (C:Addr)(i:Nat)(tb:(L2.St->XK)->TS)(ts:TS):TS:=λDs σ H=>tb (λσ' cls dd H'=>cls=.ref C/\∀ a,H' a=none->ts (unN i Ds) (σ'.set i (some (.ref a))) (upd H' a (excC a C dd))) Ds σ H
theorem Gi (hN:X.N.Nodup)(hi:X.N[i]?=some n)(hk:X.env.scope.names.lookup n=some .local)(hst:X.stack=X.env::X.outer)(hfr:X.env.frame=some X.env.locals)(hex:X.ex=[])(c:CatchBy X.K C D)(hm:X.mg x=some (.ref D))(hg:Gl X x)
  (hb:∀ (pn:TD) (E:TC) (EX:L2.St->XK),LandsD (tryCx X pn E) EX->PSs (tryCx X pn E) body (tb EX)) (hs:∀ (a:Addr) (pn:TD) (E:TC),PSs (sutCx X a pn E) (b₀::suite) ts)
  (hd:(x == ("__debug__":Str))=false:=by decide):PS X (.Try body [.ExceptHandler (some (.Name x np)) (some n) (b₀::suite) hp] [] [] pos) (tTryDAs C i tb ts):=by
 intro pins s0 σ0 H0 Ds I0 h;refine wpAny_Try_except ?_;refine thn (hb (X.pn++pins) (λe s₁=>wpAny (model X.prog X.w) X.A (noteFrame e X.env) (λ_ s₂=>wpAny (model X.prog X.w) X.A (setFlight e none) (λ_ s₃=>wpAny (model X.prog X.w) X.A (handleBy e X.env [.ExceptHandler (some (.Name x np)) (some n) (b₀::suite) hp]) (SP X pins Ds) X.xe s₃) X.xe s₂) X.xe s₁)
  (λσ' cls dd H'=>cls=.ref C/\∀ a,H' a=none->ts (unN i Ds) (σ'.set i (some (.ref a))) (upd H' a (excC a C dd))) ?_ [] s0 σ0 H0 Ds (Z30 I0) h) λfl s1 q=>?_
 ·intro pins' σ H s e s' I hx;obtain⟨a,cls,dd,H',B,rfl,os,bare,fl,un,hok,hB,rfl,hts⟩:=hx;have IX:Inv X pins σ H s:=Vg I0.ok I;replace fl:FlyD B X.stack a (.ref C) dd s'.heap:=fl;have st2:∀ h2 t',FlyD B X.stack a (.ref C) dd h2->s'.heap.UpToSlots h2->Inv X pins σ H' { s' with heap:=h2,toks:=t' }:=λh2 t' f2 u2=>Z0c IX os bare f2 u2 fl un hok hB;have frm:X.A.frames=some (X.env::X.outer):=by rw[<-hst];exact I0.ok.frames
  have fl':FlyD B (X.env::X.outer) a (.ref C) dd s'.heap:=by rw[<-hst];exact fl
  have nfr:a ∉ frs X.stack:=λz=>by
   obtain⟨_,o,e1,d1⟩:=fl.2.2.1.mem z;obtain⟨oe,vs,e2,_,_,d2⟩:=fl.2.2.2.obj;rw[e1] at e2
   cases e2;exact d1 vs d2
  have nos:∀ o,s.heap.get? a=some o->False:=λo e=>by
   obtain⟨o',e'⟩:=(hB a o e nfr).1;rw[fl.2.1] at e'
   cases e'
  have nH:H' a=none:=by
   cases q:H' a with
   | none=>rfl
   | some u =>
    obtain⟨ob,e'⟩:=Ml (hok a u q);rw[fl.2.1] at e'
    cases e'
  refine Ph frm hfr fl' λh4 held u4=>Je held.1 held.2.1 held.2.2.1 held.2.2.2 λh5 fl5 u5=>?_;have u45:=u4.trans u5;rw[<-hst] at fl5;have I5:=st2 h5 s'.toks fl5 u45;obtain⟨ob,_,hob,hoc,_⟩:=fl5.2.2.2.obj;refine wpAny_handleBy_cons (codeAny_handlers_test (Vv (X:=sutCx X a (X.pn++pins) X.xe) (Jl I5) hg hm ?_ hd)) (by intro z;cases z);obtain⟨hh,g1,d1,t1,o1⟩:=s';refine L4 I5.kIn c hob hoc (codeAny_handlers_suite_as ?_);refine Je fl5.1 fl5.2.1 fl5.2.2.1 fl5.2.2.2 λh6 fl6 u6=>?_;have I6:=st2 h6 t1 fl6 (u45.trans u6);obtain⟨ob6,vs6,hob6,hoc6,hod6,hof6⟩:=fl6.2.2.2.obj;have I7:Inv X pins σ (upd H' a (excC a C dd)) { heap:=h6,gens:=g1,drawn:=d1,toks:=t1,os:=o1 }:=by
   refine Po I6 nH (Z36 hob6 hoc6 hod6 hof6) (λo e=>?_) (λz=>nfr ?_) (λy cc e z=>?_) (λp hp' z=>?_)
   ·obtain⟨o',e'⟩:=IX.base.there a o e (by rw[hex];intro z;cases z);exact nos o' e'
   ·rw[hst,z];exact zL.mpr ⟨X.env,XI,hfr⟩
   ·obtain⟨v,o,e',_⟩:=IX.cell y cc e;rw[z] at e';exact nos o e'
   have e':=(IX.pin p hp').1;rw[z] at e';exact nos _ e'
  refine Rv (X:=X) I7 hN hi (.inl hk) (show RelV (.ref a) (.ref a) from rfl) (λs8 I8=>?_) (.inr hk);refine thn (hs a (X.pn++pins) _ [] _ _ _ _ (Jl I8) (hts a nH)) λf2 s2 q2=>?_;have gone:∀ {σ':L2.St} {H'':Hp},Inv X pins σ' H'' s2->∀ {Qf:Shared->Prop},(∀ s3,Inv X pins (σ'.set i none) H'' s3->Qf s3)->wpAny (model X.prog X.w) X.A (do bindName X.env n .none;unbindBehindTheSuite X.env n hp) (λ_ s₃=>Qf s₃) X.xe s2:=λ{σ' H''} J' {Qf} kk=>by
   obtain⟨m,hn,hl⟩:=J'.loc;refine wpAny_nameGoes_keeps hk hn (by rw[J'.ok.kind];rfl) λh' v hn' sb=>kk _ (Z0b J' hi hN hk hl hn' sb _)
  cases f2 with
  | next=>obtain⟨σ',H'',J,q⟩:=q2;exact gone (Ug I0.ok J) λs3 J3=>⟨_,_,J3,q⟩
  | brk=>obtain⟨σ',H'',J,q⟩:=q2;exact gone (Ug I0.ok J) λs3 J3=>⟨_,_,J3,q⟩
  | cont=>obtain⟨σ',H'',J,q⟩:=q2;exact gone (Ug I0.ok J) λs3 J3=>⟨_,_,J3,q⟩
  | ret u=>obtain⟨v,σ',H'',J,r,q⟩:=q2;exact gone (Ug I0.ok J) λs3 J3=>⟨v,_,_,J3,r,q⟩
 have q':=Dk I0.ok q
 cases fl with
 | next=>exact zE q'
 | brk=>exact q'
 | cont=>exact q'
 | ret u=>exact q'
end
theorem _root_.L2.Room.mark {k:Nat}{A:Around}{sr:Bool}{h:Option Value}(r:Room k A sr):Room k (A.mark h):=⟨(λz=>nomatch z),r.dp,r.un⟩
section
variable {X:Cx}{pins pins' pn:TD}{σ:L2.St}{H:Hp}{s:Shared}{E:TC}{a C:Addr}{dd:TN}
end
section
variable {X:Cx}{x n:Str}{i:Nat}{C D:Addr}{body:TL}{b₀:Stmt}{suite:TL}{np hp pos:Pos}{tb:(L2.St->XK)->TS}{ts:Addr->Option Addr->TS}
end
open PySem.W (Looks findIn specialIn takesIn mroIn clsIn)
open Builtin Builtin.ObjectAttr
section
variable {P:TR}{w:World}{A:Around}{E:TC}
theorem D3 {vs:TH}{Q:Fin->Shared->Prop}(he:s.heap.get? e=some (newExcO C t dd))(hv:vs.length<=sizeLine)
  (h:Q (.done (.ret .none)) { s with heap:=(s.heap.push (newTupO vs)).update e (Obj.mapFields (·.setIfInBounds 0 (.ref s.heap.objs.size))) }):wpAny (model P w) A (Builtin.«BaseException.__init__» ⟨.ref e::vs,[]⟩) Q E s:=by
 unfold Builtin.«BaseException.__init__»;dsimp only;rw[YH (by simp)];unfold newTuple Builtin.BaseException.bexcPut;have h1:=YB (h:=s.heap) (newTupO vs) he;refine YA (qV (YA (YA (XS h1 rfl rfl (YA (qa h1 rfl (by show 0<6;decide) ?_))))) (by size_fits));exact Y0C (YN h)
end
structure BaseI (K:TQ)(mg:TB)(x:Str)(D:Addr):Prop where
 bd:mg x=some (.ref D)
 rd:W.readsIn K D (.type "type")=true
 ty:W.typeIn K (.ref D)=some (.type "type")
 fc:W.findCls K (.ref D) (.type "type") "__init__"=some (.val (.builtin "ValueError.__init__"))
inductive tBaseI_i (K:TQ) (mg:TB) (Q:VK) (vs:TY) (H1:Hp):Prop
 | i (e C fI:Addr) (dd:TN) (xn:Str) (ws:TY) (_:vs=.ref e::ws) (_:ws.length<=sizeLine) (_:H1 e=some (excN e C dd)) (_:ExcI K mg xn C fI) (_:Q .non H1)
def tBaseI (K:TQ)(mg:TB)(t:TA):TE:=λσ H Q=>t σ H (tBaseI_i K mg Q)
theorem D6 {a:Addr}{o:HO}(h:H a=some o):upd H a o=H:=by
 funext b
 unfold upd;split
 ·rename_i z;rw[z,h]
 rfl
section
variable {X:Cx}{x:Str}{D:Addr}{e:Expr}{es:TK}{t:TA}{np apos pos:Pos}
theorem Ct {pl:Sem Bool}(B:BaseI X.K X.mg x D)(hg:Gl X x)(ha:PA X (e::es) t)(hd:(x == ("__debug__":Str))=false:=by decide)
  (hst:starEach (e::es) X.env=(false,eval e X.env)::starEach es X.env:=by rfl) (hpl:(backTo pos (starEach es X.env)).any (·.1)=false:=by rfl)
  (ht:eval (.Call (.Attribute (.Name x np) "__init__" apos) (e::es) [] pos) X.env=(do
   let ov <-eval (.Name x np) X.env
   standAt apos.atName
   let (f,first) <-holding [ov] (getMethod ov "__init__" pl)
   callWith pos f first (backTo pos (starEach (e::es) X.env)) (backToKw pos (keywordEach [] X.env))):=by rfl) :
  PE X (.Call (.Attribute (.Name x np) "__init__" apos) (e::es) [] pos) (tBaseI X.K X.mg t):=by
 intro pins s σ H Q I h;refine W.methodCall_KW (pl:=pl) (Vv I hg B.bd ?_ hd) ht;have L0:=W.looks_typeIn (M:=model X.prog X.w) I.kIn B.ty;have hga:findIn X.K (.type "type") "__getattribute__"=some (some (.builtin "type.__getattribute__")):=W.type_tga;unfold getMethod specialOf;refine YA (YA (L0.at ((GO I.kIn hga).at ?_)));dsimp only;rw[YJ W.canon_tga];refine YA (GM (Q:=λv s'=>v=.builtin "ValueError.__init__"/\s'={ s with toks:=s.toks+1 }) (E:=X.xe) (W.cls_value I.kIn B.rd B.fc rfl ⟨rfl,rfl⟩) (λv s' ⟨z1,z2⟩=>YN ?_) λ_ _ z=>z);subst z1 z2;refine ji (thn (ha pos pins _ σ H _ (I.tok _) h) λus s1 ⟨vs,H1,I1,r,q⟩=>?_) hst hpl;obtain⟨ea,C,fI,dd,xn,ws,rfl,hl,he,O,q⟩:=q
 cases r with
 | @cons _ u _ us' r1 r2 =>
  cases (show u=Value.ref ea from r1);obtain⟨t0,ht0⟩:=Rl I1.hok he;obtain⟨tl,NN,nm,qn,bs,sn,sub,ab,col,dd',k0,k1,k2,k3,k5,mN,hC,hN,hni,T⟩:=O.own I1.kIn;have hl':us'.length<=sizeLine:=by rw[<-r2.length];exact hl
  have I1':=I1;obtain⟨hp,g,d,tk,os⟩:=s1;refine zx (zc GQ.init.plain GQ.initEntry (wpAny_check_init_subT GQ T hC ht0 rfl (D3 ht0 hl' ?_)));have e1:((hp.push (newTupO us')).update ea (Obj.mapFields (·.setIfInBounds 0 (.ref hp.objs.size)))).get? ea=some (newExcO C hp.objs.size dd):=by
   rw[JM _ (YB _ ht0) rfl];rfl
  have I2:=I1'.write (o:=excN ea C dd) (h':=(hp.push (newTupO us')).update ea (Obj.mapFields (·.setIfInBounds 0 (.ref hp.objs.size)))) (t':=tk) (x:=ea) (e:=ea) (by rw[he];trivial) (.inl rfl) (λb u hb hu=>by
   rw[XV _ _ (XJ hb)];exact YB _ hu) ⟨_,e1⟩ (Nr e1)
  rw[D6 he] at I2;exact⟨.non,H1,I2,rfl,q⟩
end
structure StoI (K:TQ)(C:Addr)(f:Str):Prop where
 sa:findIn K (.ref C) "__setattr__"=some (some (.builtin "object.__setattr__"))
 na:findIn K (.ref C) f=some none
theorem Mc {h:Heap}{tl:TH}{v:Value}(T:OwnTail h bmV tl):refuseLoop v "__setattr__" tl=pure ():=by
 induction T with
 | base=>exact GA.passes v
 | own _ _ _ _ ih=>rw[refuseLoop_ref];exact ih
section
variable {P:TR}{w:World}{A:Around}{E:TC}{h:Heap}{g:Array GenState}{d:Drawn}{t:Nat}{os:OsState}{K:TQ}{mg:TB}{xn f:Str}{C fI x t0:Addr}{v:Value}
theorem G5 {tk:Tok}{Q:Fin->Shared->Prop}(X:K.In h)(O:ExcI K mg xn C fI)(S:StoI K C f)(hx:h.get? x=some (newExcO C t0 none))
  (hq:∀ h' tk',h'.get? x=some (newExcO C t0 (some h.objs.size))->h'.Ns1 h.objs.size (λy=>if y=f then some v else none)->(∀ b o,b≠x->h.get? b=some o->h'.get? b=some o)->Q (.done (.ret .none)) ⟨h',g,d,tk',os⟩) :
  wpAny (model P w) A (Builtin.«object.__setattr__» ⟨[.ref x,.str f tk,v],[]⟩) Q E ⟨h,g,d,t,os⟩:=by
 obtain⟨tl,NN,nm,qn,bs,sn,sub,ab,col,dd',k0,k1,k2,k3,k5,mN,hC,hN,hni,T⟩:=O.own X;have hpass:=Mc (v:=.ref x) T;have L1:=GO (M:=model P w) X S.na;have hx0:=hx;generalize ho:newExcO C t0 none=o at hx;have hc:o.cls=.ref C:=by rw[<-ho]
 have hdn:o.dict=none:=by rw[<-ho]
 have hnc:∀ c,o.data≠.cls c:=λc z=>by rw[<-ho] at z;cases z
 unfold Builtin.«object.__setattr__»
 repeat (first | rw[refuse_eq] | (rw[refuseLoop_ref,hpass]) | (with_reducible refine GC hx ?_;rw[hc]) | with_reducible refine wpAny_mroOf_exc hC ?_ | (refine YA (L1.at ?_)) | wp_step)
 rw[hdn,YH (by simp[typeHasDict])];split
 ·rename_i z
  cases z
 split
 ·rename_i c z
  exact absurd z (hnc c)
 subst ho;have hx1:(h.push { cls:=.type "dict",data:=.dict #[] }).get? x=some (newExcO C t0 none):=YB _ hx;have hxs:x≠h.objs.size:=XD (YI hx);refine YA (wpAny_alloc' (YA (wpAny_update' hx1 (YN ?_))));have gd:((h.push { cls:=.type "dict",data:=.dict #[] }).update x λo=>{ cls:=o.cls,dict:=some h.objs.size,data:=o.data,slots:=o.slots }).get? h.objs.size=some { cls:=.type "dict",data:=.dict #[] }:=(Heap.get?_update_ne _ _ _ _ hxs.symm).trans (Heap.get?_push_at rfl rfl);have nd:((h.push { cls:=.type "dict",data:=.dict #[] }).update x λo=>{ cls:=o.cls,dict:=some h.objs.size,data:=o.data,slots:=o.slots }).Ns h.objs.size (λ_=>none):=⟨_,#[],_,gd,rfl,λe he=>absurd he (by simp),λ_=>rfl⟩;show wpAny _ _ (storeInDict h.objs.size (.str f tk) f v) _ _ _;unfold storeInDict newKeyGuard;refine YA (YN (YA (wpAny_nsSet1 (Heap.Ns1.of_empty nd) λh' hn' hs=>?_)));obtain⟨oD,esD,epD,hoD,hdD,hcD⟩:=hn'.count (Within.cons f v Within.nil);refine YA (wpAny_lookBehind hoD (by rw[hdD];exact pastItsLine_dict (YX hcD (by rw[JT,jv,Y0f];omega))) ?_)
 wp_walk
 refine hq h' _ ?_ hn' λb ob hbx hb=>?_
 ·refine (hs.2 x hxs).trans ((JM _ hx1 rfl).trans ?_);rfl
 exact (hs.2 b (XD (YI hb))).trans ((Heap.get?_update_ne _ _ _ _ hbx).trans (YB _ hb))
theorem Fw {M:Model}{nv:Value}{Q:Unit->Shared->Prop}(X:K.In h)(O:ExcI K mg xn C fI)(hx:h.get? x=some (newExcO C t0 none))(hq:Q () ⟨h,g,d,t,os⟩) :
  wpAny M A (checkBuiltinCall "object.__setattr__" ⟨[.ref x,nv,v],[]⟩) Q E ⟨h,g,d,t,os⟩:=by
 obtain⟨tl,NN,nm,qn,bs,sn,sub,ab,col,dd',k0,k1,k2,k3,k5,mN,hC,hN,hni,T⟩:=O.own X;have cO:(Value.ref C::tl).contains (.type "object")=true:=by rw[Y0X,T.hasType (b:=true) (by decide +kernel),Bool.or_true]
 have ha:=GA.args (.ref x) nv v;simp only [checkBuiltinCall,GA.kind,GA.split];refine YA ?_;unfold isInstance
 repeat (first | (with_reducible refine GC hx ?_) | (with_reducible refine jy hC ?_;rw[cO]) | wp_step)
 exact hq
theorem Dh {Q:Unit->Shared->Prop}(X:K.In h)(O:ExcI K mg xn C fI)(S:StoI K C f)(hx:h.get? x=some (newExcO C t0 none))
  (hq:∀ h' tk',h'.get? x=some (newExcO C t0 (some h.objs.size))->h'.Ns1 h.objs.size (λy=>if y=f then some v else none)->(∀ b o,b≠x->h.get? b=some o->h'.get? b=some o)->Q () ⟨h',g,d,tk',os⟩) :
  wpAny (model P w) A (setAttr (.ref x) f v) Q E ⟨h,g,d,t,os⟩:=by
 have L1:=GO (M:=model P w) X S.sa;have f3:=GA.slot.bind (.ref x);unfold setAttr callSpecial? specialOf;refine YA (wpAny_mkText ?_);refine YA (YA (YA ?_))
 repeat (any_goals (first | assumption | (with_reducible refine GC hx ?_) | (refine YA (L1.at ?_)) | (refine L1.at ?_) | wp_step))
 refine zc GA.slot.plain GA.entry (Fw X O hx (G5 X O S hx λh' tk' a b c=>?_))
 repeat (any_goals (first | assumption | wp_step))
 exact hq h' tk' a b c
end
section
variable {X:Cx}{o value:Expr}{f:Str}{pos pos':Pos}{ta tv:TE}
inductive sFldX_i (K:TQ) (mg:TB) (f:Str) (D:Ends) (σ:L2.St) (y:V) (x:V) (H2:Hp):Prop
 | i (e C fI:Addr) (xn:Str) (_:x=.ref e) (_:H2 e=some (excN e C none)) (_:ExcI K mg xn C fI) (_:StoI K C f) (_:∀ d,H2 d=none->d≠e->D.nx σ (upd (upd H2 e (excN e C (some d))) d (.xd [(f,y)])))
def sFldX (K:TQ)(mg:TB)(ta tv:TE)(f:Str):TS:=λD σ H=>tv σ H λy H1=>ta σ H1 (sFldX_i K mg f D σ y)
theorem Z1u (ha:PE X o ta)(hv:PE X value tv)(hs:swapsWith value (some (.Attribute o f pos')) pos.line X.env=pure false):PS X (.Assign [.Attribute o f pos'] value pos) (sFldX X.K X.mg ta tv f):=by
 intro pins s σ H D I h;refine jd (thn (hv pins s σ H _ I h) λu s1 ⟨y,H1,I1,ry,q⟩=>thn (ha pins s1 σ H1 _ I1 q) λov s2 ⟨x,H2,I2,rx,e,C,fI,xn,ex,ea,O,S,q2⟩=>?_) hs;subst ex;obtain rfl:ov=Value.ref e:=rx;obtain⟨t0,ht0⟩:=Rl I2.hok ea;obtain⟨hp,g,d,tk,os⟩:=s2;refine Dh I2.kIn O S ht0 λh' tk' a b c=>?_;have hne:hp.objs.size≠e:=qZ (YI ht0);have I3:=I2.write (o:=excN e C (some hp.objs.size)) (h':=h') (t':=tk') (x:=e) (e:=e) (by rw[ea];trivial) (.inl rfl) (λb' u hb hu=>c b' u hb hu) ⟨_,a⟩ (Nr a);have fr:H2 hp.objs.size=none:=I2.hok.fresh (YD _);have fr':upd H2 e (excN e C (some hp.objs.size)) hp.objs.size=none:=by rw[Ze hne];exact fr
 have nw:ObjOk X.prog X.w (upd (upd H2 e (excN e C (some hp.objs.size))) hp.objs.size (.xd [(f,y)])) h' hp.objs.size (.xd [(f,y)]):=by
  refine⟨_,b,λz=>?_⟩;by_cases hz:z=f
  ·subst hz;rw[YJ rfl];show RelO (List.lookup z [(z,y)]) (some u);rw[show List.lookup z [(z,y)]=some y from by simp[List.lookup]];exact ry
  rw[YH hz];show RelO (List.lookup z [(f,y)]) none;rw[show List.lookup z [(f,y)]=none from by simp[List.lookup,JJ.mpr hz]]
  trivial
 have I4:Inv X pins σ (upd (upd H2 e (excN e C (some hp.objs.size))) hp.objs.size (.xd [(f,y)])) ⟨h',g,d,tk',os⟩:=by
  refine Po I3 fr' nw (λob z=>?_) (λz=>?_) (λy' cc z z'=>?_) (λp hp' z=>?_)
  ·exact absurd (YU (YI z) I2.sz) (XO _)
  ·obtain⟨m,⟨o',_,_,ho',_⟩,_⟩:=I2.loc;rw[<-z] at ho';exact absurd (YI ho') (XO _)
  ·obtain⟨v',o',ho',_⟩:=I2.cell y' cc z;rw[z'] at ho';exact absurd (YI ho') (XO _)
  have e':=(I2.pin p hp').1;rw[z] at e';exact absurd (YI e') (XO _)
 exact⟨σ,_,I4,q2 _ fr hne⟩
end
end Sb
namespace Sb
open PySem PySem.Spec PyProof.Rows L2
open PySem.W (Looks findIn specialIn takesIn mroIn clsIn)
open Builtin Builtin.ObjectAttr
section
variable {K:TQ}{C x dx:Addr}{P:TR}{w:World}{A:Around}{E:TC}{h:Heap}{g:Array GenState}{d:Drawn}{t:Nat}{os:OsState}{f:Str}{v:Value}{mA:TB}{ox:Obj}
theorem Gq {Q:Option Addr->Shared->Prop}(X:K.In h)(O:ExcI K mg xn C fI)(ho:h.get? x=some ox)(hc:ox.cls=.ref C)(hx:ox.dict=some dx)(hnc:∀ c,ox.data≠.cls c)(q:Q (some dx) ⟨h,g,d,t,os⟩) :
  wpAny (model P w) A (ownDict x) Q E ⟨h,g,d,t,os⟩:=by
 obtain⟨tl,NN,nm,qn,bs,sn,sub,ab,col,dd',k0,k1,k2,k3,k5,mN,hC,hN,hni,T⟩:=O.own X;unfold ownDict loadHead;refine YA (GC ho ?_);split
 ·rename_i c z
  exact absurd z (hnc c)
 unfold instanceDict;refine YA (GC ho ?_);rw[hc];dsimp only;unfold classData;refine YA (YA (wpAny_load hC (YN ?_)));rw[hx];exact YN q
theorem Z0k {Q:Found->Shared->Prop}(X:K.In h)(O:ExcI K mg xn C fI)(na:findIn K (.ref C) f=some none)(ho:h.get? x=some ox)(hc:ox.cls=.ref C)(hx:ox.dict=some dx)(hnc:∀ c,ox.data≠.cls c)(hn:h.Ns dx mA)(hv:mA f=some v)(q:Q (.value v) ⟨h,g,d,t,os⟩) :
  wpAny (model P w) A (find (.ref x) (.ref C) f) Q E ⟨h,g,d,t,os⟩:=by
 have L1:=GO (M:=model P w) X na;unfold find;refine YA (L1.at ?_);refine YA (YN ?_);refine YA (YN ?_);show wpAny _ _ (ownThenClass (.ref x) f none none) _ _ _;unfold ownThenClass inOwnDict;refine YA (YA (Gq X O ho hc hx hnc ?_));show wpAny _ _ (nsGet dx f) _ _ _;refine wpAny_nsGet hn ?_;rw[hv];exact YA (Looks.at (r:=()) (Looks.tag .now) (YN q))
theorem Z34 {expr:Bool}{Q:TC}(X:K.In h)(R:ExcRead K C)(O:ExcI K mg xn C fI)(na:findIn K (.ref C) f=some none)(ho:h.get? x=some ox)(hc:ox.cls=.ref C)(hx:ox.dict=some dx)(hnc:∀ c,ox.data≠.cls c)(hn:h.Ns dx mA)(hv:mA f=some v)(hh:W.handedIn v=true)(q:Q v ⟨h,g,d,t+1,os⟩) :
  wpAny (model P w) A (getAttr (.ref x) f expr) Q E ⟨h,g,d,t,os⟩:=by
 have Ia:ExAt h x C:=⟨ox,ho,hc⟩;have L0:=Ia.type (M:=model P w);have L1:=GO (M:=model P w) X R.ga;have L2:=GO (M:=model P w) X R.gh;have f3:=zh.ga.bind (.ref x);have e2:(onTheHeap (Value.ref C) && Value.builtin "BaseException.__getattribute__" == Value.builtin "object.__getattribute__")=false:=by
  show (true && (Value.builtin "BaseException.__getattribute__" == Value.builtin "object.__getattribute__"))=false
  decide +kernel
 unfold getAttr getAttrBy;refine YA (wpAny_mkText (JN (YA (L0.at (YA (L1.at ?_))))));show wpAny _ _ (if (onTheHeap (Value.ref C) && Value.builtin "BaseException.__getattribute__" == Value.builtin "object.__getattribute__")=true then _ else _) _ _ _;rw[e2,YH YO];unfold getAttrByItsOwn;refine YA ((show Looks (model P w) h (hookBefore (.ref C)) none from L2).at ?_);refine YA (zd (JN ?_));unfold callGetattribute;rw[show (expr && onTheHeap (Value.builtin "BaseException.__getattribute__"))=false from Bool.and_false _,YH (by decide)];unfold boundAndCalled;rw[f3];refine YA (YN ?_);refine zx (zc zh.ga.plain F.entry_bexc_ga (Pr R X Ia ?_));have L0':=Ia.type (M:=model P w);unfold Builtin.«object.__getattribute__»;refine YA (YN (YA (YN (YA (L0'.at (YA (Z0k X O na ho hc hx hnc hn hv ?_)))))));refine YN ?_;show wpAny _ _ (handedOut v) _ _ _;rw[W.handedOut_of hh];exact YN q
end
section
variable {X:Cx}{e:Expr}{f:Str}{pos:Pos}{ta:TE}
inductive tFldX_i (K:TQ) (mg:TB) (f:Str) (Q:VK) (x:V) (H1:Hp):Prop
 | i (a C fI dx:Addr) (xn:Str) (fs:List (Str × V)) (v:V) (_:x=.ref a) (_:H1 a=some (excC a C (some dx))) (_:H1 dx=some (.xd fs)) (_:fs.lookup f=some v) (_:ExcRead K C) (_:ExcI K mg xn C fI) (_:findIn K (.ref C) f=some none) (_:Q v H1)
def tFldX (K:TQ)(mg:TB)(ta:TE)(f:Str):TE:=λσ H Q=>ta σ H (tFldX_i K mg f Q)
theorem Rh {K:TQ}{mg:TB}(he:PE X e ta)(hb:attributeBase e f X.env (eval e X.env)=eval e X.env)(hK:X.K=K:=by rfl)(hM:X.mg=mg:=by rfl):PE X (.Attribute e f pos) (tFldX K mg ta f):=by
 subst hK hM;intro pins s σ H Q I h;refine Jv hb (thn (he pins s σ H _ I h) λu s1 ⟨x,H1,I1,rx,a,C,fI,dx,xn,fs,v,ex,ea,ed,l,R,O,na,q⟩=>?_);subst ex;obtain rfl:u=Value.ref a:=rx;obtain⟨⟨ox,ho,hc,hx,hnc⟩,_⟩:=(show ObjOk X.prog X.w H1 s1.heap a (excC a C (some dx)) from I1.hok a _ ea);obtain⟨mA,hn,r⟩:=(show ObjOk X.prog X.w H1 s1.heap dx (.xd fs) from I1.hok dx _ ed);obtain⟨u,hu,ru⟩:=RelO.some_of (v:=v) (o:=mA f) (by rw[<-l];exact r f);obtain⟨hp,g,d,tk,os⟩:=s1;exact Z34 I1.kIn R O na ho hc hx hnc hn.ns hu (Pp ru) ⟨v,H1,I1.tok _,ru,q⟩
end
end Sb
namespace Sb
open PySem PySem.Spec PyProof.Rows L2
def ErrHere (K:TQ)(mg:TB)(x q:Str)(st:Stmt):Prop:=∃ (C f:Addr) (fd:FuncData),ExcI K mg x C f/\Fun K "__init__" q st f fd/\Binds K fd UE []/\StoI K C "multiples"/\ExcRead K C
theorem Z53 {x q:Str}{sl:Array (Option Value)}{kV:Value}(X:K.In h)(G:h.Ns mainGlobals mg)(aC:W.nsIn K mainGlobals x=some (some (.ref C)))
  (a1:W.findIn K (.ref C) "__init__"=some (some (.ref f))) (i1:W.isFn K (.ref f)=true) (l1:K.lookup f=some ⟨oc,od,.func (W.fnOf "__init__" q (defArgs st) (defBody st) (defScope st) .none kV dc pm an cd ct),sl⟩) (c1:W.codeIn K cd q=true) (k1:W.keepIn K (.ref f)=true)
  (sa:W.findIn K (.ref C) "__setattr__"=some (some (.builtin "object.__setattr__"))) (na:W.findIn K (.ref C) "multiples"=some none)
  (ga:W.findIn K (.ref C) "__getattribute__"=some (some (.builtin "BaseException.__getattribute__"))) (gh:W.findIn K (.ref C) "__getattr__"=some none) (cl:W.findIn K (.ref C) "__class__"=some (some (.builtin "object.__class__"))) (gt:W.specialIn K (.builtin "object.__class__") "__get__"=some (some (.builtin "getset_descriptor.__get__")))
  (tk:W.takesIn K (.builtin "object.__class__")=some true) (mo:W.mroIn K C (.type "object")=some true) (be:W.subIn K (.ref C) (.type "BaseException")=some true)
  (ok:excInI K C f=true) (bd:∀ (us:TH),us.length=2->bindArgs (W.fnOf "__init__" q (defArgs st) (defBody st) (defScope st) .none kV dc pm an cd ct) ⟨us,[]⟩=pure ((UE:List Str).zip us)):ErrHere K mg x q st :=
 ⟨C,f,_,⟨ok,i1,zu X G aC⟩,Sg l1 c1 k1,Binds.all bd,⟨sa,na⟩,⟨ga,gh,cl,gt,tk,mo,be⟩⟩
def BaseHere (K:TQ)(mg:TB)(x:Str):Prop:=∃ D,BaseI K mg x D
theorem Z3b {x:Str}{D:Addr}(X:K.In h)(G:h.Ns mainGlobals mg)(a:W.nsIn K mainGlobals x=some (some (.ref D)))(r:W.readsIn K D (.type "type")=true)(t:W.typeIn K (.ref D)=some (.type "type"))
  (f:W.findCls K (.ref D) (.type "type") "__init__"=some (.val (.builtin "ValueError.__init__"))):BaseHere K mg x:=⟨D,zu X G a,r,t,f⟩
theorem Z01 {x:Str}{a b:Addr}(h1:mg x=some (.ref a))(h2:mg x=some (.ref b)):a=b:=by
 rw[h1] at h2;injection h2 with h
 injection h
def CatchHere (K:TQ)(mg:TB)(x y:Str):Prop:=∃ (C D:Addr),CatchBy K C D/\mg x=some (.ref C)/\mg y=some (.ref D)
theorem Z10 {x y:Str}{D:Addr}(X:K.In h)(G:h.Ns mainGlobals mg)(a:W.nsIn K mainGlobals x=some (some (.ref C)))(b:W.nsIn K mainGlobals y=some (some (.ref D)))
  (n:W.instIn K (.ref D) (.type "tuple")=some false) (be:W.subIn K (.ref D) (.type "BaseException")=some true) (i:W.kitOne K (.type "int") (.ref D)=some false) (k:W.subIn K (.ref C) (.ref D)=some true):CatchHere K mg x y :=
 ⟨C,D,⟨n,be,i,k⟩,zu X G a,zu X G b⟩
inductive spErrInit (K:TQ) (C:Addr) (vs:TY) (H:Hp) (Q:VK) (_z3:XK):Prop
 | i (e l:Addr) (xs:TY) (_:vs=[.ref e,.ref l]) (_:H e=some (excN e C none)) (_:SqL K H l xs) (_:∀ (d l':Addr) (H':Hp),H l'=none->H d=none->H' e=some (excN e C (some d))->H' d=some (.xd [("multiples",.ref l')])->H' l'=some (.lst xs)->(∀ b o,H b=some o->b≠e->H' b=some o)->Q .non H')
theorem Z0o {l' d:Addr}{Q:VK}(he:H e=some (excN e C none))(hl':H l'=none)(hd:upd H l' (.lst xs) d=none)(hde:d≠e)
  (k:∀ (d l':Addr) (H':Hp),H l'=none->H d=none->H' e=some (excN e C (some d))->H' d=some (.xd [("multiples",.ref l')])->H' l'=some (.lst xs)->(∀ b o,H b=some o->b≠e->H' b=some o)->Q .non H') :
  Q .non (upd (upd (upd H l' (.lst xs)) e (excN e C (some d))) d (.xd [("multiples",.ref l')])):=by
 have ne:l'≠e:=λz=>by rw[z,he] at hl';cases hl'
 have nd:d≠l':=λz=>by rw[z,Zb] at hd;cases hd
 rw[Ze nd] at hd;refine k d l' _ hl' hd ?_ Zb ?_ λb o hb hne=>?_
 ·rw[Ze (XJ hde),Zb]
 ·rw[Ze (XJ nd),Ze ne,Zb]
 rw[Ze (λz=>by rw[z,hd] at hb;cases hb),Ze hne,Ze (λz=>by rw[z,hl'] at hb;cases hb)];exact hb
section
variable {X:Cx}{K:TQ}
theorem Wn (hK:X.K=K:=by rfl):CallR X (.builtin "isinstance") (λxs H Q=>∃ (a C:Addr) (dd:TN) (c:V) (b:Bool),xs=[.ref a,c]/\H a=some (excC a C dd)/\ExcRead K C ∧
  ((∃ cv,(∀ u,RelV c u->u=cv)/\W.kitOne K (.ref C) cv=some b) \/ (∃ (t:Addr) (cs:TJ),c=.ref t/\SqT K H t (cs.map V.ref)/\W.kitAny K (.ref C) (cs.map Value.ref)=some b))/\Q (.bl b) H):=by
 subst hK;intro pins s σ H xs us Q I r h;obtain⟨a,C,dd,c,b,rfl,ha,R,hc,q⟩:=h;obtain⟨u,w',rfl,rx,ry⟩:=M2 r
 cases (show u=Value.ref a from rx);obtain⟨⟨o,e,hoc,_⟩,_,_⟩:=(show ObjOk X.prog X.w H s.heap a (excC a C dd) from I.hok a _ ha);rcases hc with ⟨cv,hcv,k⟩ | ⟨t,cs,rfl,st,k⟩
 ·cases hcv w' ry;exact qU (Mv R) I.kIn ⟨o,e,hoc⟩ k (λz=>nomatch z) λtk=>⟨.bl b,H,I.tok tk,rfl,q⟩
 cases (show w'=Value.ref t from ry);obtain⟨its,rv,p,_⟩:=I.tuple st;have ei:its=cs.map Value.ref:=by
  clear p k st ry e ha
  revert rv
  generalize cs=l;intro rv
  induction l generalizing its with
  | nil=>cases rv;rfl
  | cons x l ih =>
   cases rv with
   | cons h1 h2 =>
    cases h1;rw[ih _ h2];rfl
 subst ei;obtain⟨ot,ht,hct,nt,hdt⟩:=(show s.heap.IsTuple t (cs.map Value.ref).toArray from p);obtain⟨oc,od,odt,osl⟩:=ot
 cases hct
 cases hdt;exact W.kia_tup (Mv R) I.kIn ⟨o,e,hoc⟩ ht k (λz=>nomatch z) λtk=>⟨.bl b,H,I.tok tk,rfl,q⟩
end
open PySem.W (Looks findIn specialIn takesIn mroIn clsIn)
section
variable {X:Cx}{e:Expr}{f:Str}{pos:Pos}{ta:TE}
end
section
variable {X:Cx}{K:TQ}
end
end Sb
namespace Sb
open PySem PySem.Spec PyProof.Rows L2
/-- a def's promise by its body alone -/
theorem Def.h9 {P:TR}{base:Heap}{k:Nat}{x:Str}{N:TF}(D:Def K mg x st ps)(S:FnScope N ps (defScope st))
  (hbody:∀ {f:Addr} {cdv:Value} {A:Around} {outer:TM} {s:Shared} {vs:TY} {E:XK} (H:Hp) (Q:VK),Room k (A.deeper (envOfC x (defScope st) s.heap.objs.size f cdv)) sr->sp vs H Q E->N.Nodup →
   ∃ t,PSs (cxOf CX0 P w K mg base N x (defScope st) f cdv A outer s H E).nox (defBody st) t/\t { nx:=λ_ H'=>Q .non H',rt:=Q } (start N vs) H)
  (len:∀ vs H Q E,sp vs H Q E->vs.length=ps.length:=by intro _ _ _ _ h;first | (cases h;subst_vars;rfl) | ((repeat (obtain⟨_,h⟩:=h));subst_vars;rfl)):Has P w K mg base (k+1) x ps sp sr :=
 D.has λ_ _ F=>F.ok S len λ_ _ _ _ H _ Q _ hr h=>hbody H Q hr h S.nd
theorem Def.hD9 {P:TR}{base:Heap}{k:Nat}{x:Str}{N:TF}(D:Def K mg x st ps)(S:FnScope N ps (defScope st))
  (hbody:∀ {f:Addr} {cdv:Value} {A:Around} {outer:TM} {s:Shared} {vs:TY} (H:Hp) (Q:VK) (E:XK),Room k (A.deeper (envOfC x (defScope st) s.heap.objs.size f cdv)) true->sp vs H Q E->N.Nodup →
   ∃ t,PSs (cxOf (CXD P w) P w K mg base N x (defScope st) f cdv A outer s H E) (defBody st) t/\t { nx:=λ_ H'=>Q .non H',rt:=Q } (start N vs) H)
  (len:∀ vs H Q E,sp vs H Q E->vs.length=ps.length:=by intro _ _ _ _ h;first | (cases h;subst_vars;rfl) | ((repeat (obtain⟨_,h⟩:=h));subst_vars;rfl)):HasD P w K mg base (k+1) x ps sp :=
 D.hasD S len λ_ _ _ _ _ H _ Q E hr h=>hbody H Q E hr h S.nd
end Sb
namespace Sb
open PySem L2
def top (i:Nat):Stmt:=PySem.Challenge.pw_surebook_k39_parted.main.body.getD i (.Pass ⟨0,0,0,0⟩)
abbrev jC:Stmt:=top 11
abbrev iI:Stmt:=top 12
abbrev jH:Stmt:=top 13
abbrev jG:Stmt:=top 14
abbrev j0:Stmt:=top 15
abbrev jT:Stmt:=top 16
abbrev iJ:Stmt:=top 17
abbrev iW:Stmt:=top 18
abbrev iM:Stmt:=top 20
abbrev jF:Stmt:=top 21
abbrev kG:Stmt:=top 22
abbrev kH:Stmt:=top 23
abbrev kR:Stmt:=top 24
abbrev jB:Stmt:=top 25
abbrev kJ:Stmt:=top 31
abbrev iV:Stmt:=top 32
abbrev jX:Stmt:=top 33
abbrev j4:Stmt:=top 34
abbrev jE:Stmt:=top 35
abbrev jQ:Stmt:=top 36
abbrev iN:Stmt:=top 39
abbrev jI:Stmt:=top 40
abbrev j7:Stmt:=top 41
abbrev iT:Stmt:=top 42
abbrev jD:Stmt:=top 43
abbrev iQ:Stmt:=top 44
abbrev iU:Stmt:=top 45
abbrev iS:Stmt:=top 46
abbrev j5:Stmt:=top 47
abbrev iR:Stmt:=top 48
abbrev jP:Stmt:=top 49
abbrev iO:Stmt:=top 51
abbrev jU:Stmt:=top 52
abbrev iH:Stmt:=top 53
abbrev jV:Stmt:=top 54
abbrev iP:Stmt:=top 56
abbrev jM:Stmt:=top 57
abbrev jS:Stmt:=top 59
abbrev j1:Stmt:=top 60
abbrev jN:Stmt:=top 62
abbrev jA:Stmt:=top 63
abbrev kL:Stmt:=top 65
abbrev jR:Stmt:=top 66
abbrev jY:Stmt:=top 67
abbrev j2:Stmt:=top 68
abbrev jK:Stmt:=top 69
abbrev jJ:Stmt:=top 70
abbrev sIs:Stmt:=top 71
abbrev kS:Stmt:=top 72
abbrev j9:Stmt:=top 73
abbrev kC:Stmt:=top 74
abbrev jW:Stmt:=top 75
abbrev kP:Stmt:=top 76
abbrev iX:Stmt:=top 77
abbrev j3:Stmt:=top 78
abbrev j6:Stmt:=top 79
abbrev jO:Stmt:=top 80
abbrev jZ:Stmt:=top 81
abbrev kA:Stmt:=top 82
abbrev kD:Stmt:=top 84
abbrev jL:Stmt:=top 85
abbrev kK:Stmt:=top 86
abbrev iK:Stmt:=top 89
abbrev kO:Stmt:=top 90
abbrev j8:Stmt:=top 91
abbrev i9:Stmt:=top 92
abbrev iZ:Stmt:=top 93
abbrev iY:Stmt:=top 94
abbrev kI:Stmt:=top 95
abbrev kQ:Stmt:=top 96
abbrev iL:Stmt:=inClass (top 3) 0
abbrev iG:Stmt:=inClass (top 38) 0
structure Blt (mg:TB):Prop where
 len:mg "len"=none
 abs:mg "abs"=none
 isinstance:mg "isinstance"=none
 int:mg "int"=none
 bool:mg "bool"=none
 tuple:mg "tuple"=none
 range:mg "range"=none
 zip:mg "zip"=none
 enumerate:mg "enumerate"=none
 any:mg "any"=none
 sum:mg "sum"=none
 list:mg "list"=none
 min:mg "min"=none
theorem Jw {k:Int}(h0:0<=k)(h1:k<((ns.map V.int).length:Int)):∃ z,atI (ns.map V.int) k=some (.int z):=by
 obtain⟨j,rfl⟩:=zj h0;rw[YC] at h1;have hj:j<ns.length:=by omega
 exact⟨ns[j],Zg (by simp[hj])⟩
theorem Km {n:Nat}{k:Int}(h0:0<=k)(h1:k<(n:Int)):ixN n k=some k.toNat:=by
 unfold ixN;rw[YJ h0,YJ h1]
theorem Qb {j:Int}(h:(0:Int)<j):(0:Int)<j:=h
theorem Z39 {j:Int}(h0:0<=j)(h1:j<=1000):CPow 10 j:=⟨h0,by omega,by decide⟩
theorem Uc (t:Int):-(2 ^ 64)<t % 65537/\t % 65537<2 ^ 64:=by omega
theorem Z32 (p q:Int):Int.gcd (if p<0 then -p else p) (if q<0 then -q else q)=Int.gcd p q:=by
 split <;> split <;> simp
theorem p6:(10:Int) ^ (6:Int).toNat=1000000:=by decide +kernel
theorem lg6:(2*(10:Int) ^ (6:Int).toNat+1).natAbs.log2<9000:=by decide +kernel
theorem Sm {x:Int}(h1:-2000000<x)(h2:x<2000000):Bd 21 x:=by
 unfold Bd;have e:(2:Nat) ^ 21=2097152:=by decide
 rw[e];omega
theorem Zq {n:Nat}(h:n<=1000):n<=sizeLine:=YX h (by decide)
theorem Mm {r:Rat}(hp:0<r.2)(hc:Int.gcd r.1 r.2=1):nrm r.1 r.2=r:=by
 have e:=Xc r.1 r.2;have hq:r.2≠0:=by omega
 refine Xv (Nk hq) hp (Bz hq) hc ?_;exact e
inductive spWhole (vs:TY) (H:Hp) (Q:VK) (_z3:XK):Prop
 | i (i:Int) (_:vs=[.int i]) (_:Q (.bl true) H)
section
variable {P:TR}{w:World}{K:TQ}{mg:TB}{base:Heap}
inductive spCell (K:TQ) (vs:TY) (H:Hp) (Q:VK) (_z3:XK):Prop
 | i (a:Addr) (k:Int) (ns:TU) (_:vs=[.ref a,.int k]) (_:SqL K H a (ns.map V.int)) (_:0<=k) (_:k<=100000) (_:∀ z:Int,Q (.int z) H)
theorem Z4r (D:Def K mg "_law_cell" kL UF)(T:Blt mg):Has P w K mg base 1 "_law_cell" UF (spCell K):=by
 refine D.h9 (N:=["_law_script","_law_k","_law_seed","_law_some"]) fsc λH Q hr h nd=>?_;obtain⟨a,k,ns,rfl,hS,hk,hk2,q⟩:=h;refine⟨_,(Z9 (Y4 (Zl Ss (pv 1) (Zx Y2 rfl T.len qp (Z0 (pv 0) Z8)) (Zo _))
   (Zc (Zh (Zj Zv (pv 0) (pv 1) (λ_ _=>rfl))))
   Zp)
  (Z9 (Zi (i:=2) nd rfl (Or.inl rfl) (Zm Y1 (pv 1) Za))
  (Z9 (Y4 (Zl Q5 (Zx Y2 rfl T.len qp (Z0 (pv 0) Z8)) Za (Zo _))
   (Zc (Zi (i:=2) nd rfl (Or.inl rfl) (Zm Yx (pv 2) (Zm Vt (Zj Zv (pv 0) (Zm Vt (pv 1) (Zx Y2 rfl T.len qp (Z0 (pv 0) Z8))) (λ_ _=>rfl)) Za))))
   Zp)
  (Z9 (Zi (i:=3) nd rfl (Or.inl rfl) (Zm Vt (Zm Y1 (pv 2) Za) Za))
  (Zc (Zh (Zm Vt (Zm Wj (Zm Y1 (pv 3) (Zm Yx (Zm Yx (pv 3) (Zm Y1 Za (pv 1))) Za)) Za) Za))))))),?_⟩
 refine⟨_,rfl,_,rfl,a,_,rfl,.inl hS,_,_,rfl,rfl,_,rfl,?_⟩;refine X6 (λh=>?_) (λh=>?_)
 ·have h':=XH h;obtain⟨z,hz⟩:=Jw hk h';exact⟨_,rfl,_,rfl,a,_,_,_,rfl,rfl,hS,hz,q z⟩
 refine⟨_,rfl,_,_,rfl,rfl,F9 (by decide) (by decide),?_⟩;refine⟨_,rfl,a,_,rfl,.inl hS,_,_,rfl,rfl,_,rfl,?_⟩;refine X6 (λh2=>?_) (λh2=>?_)
 ·have h3:=XH h2;obtain⟨z,hz⟩:=Jw (ns:=ns) (k:=k % ((ns.map V.int).length:Int)) (zI _ (by omega)) (zN _ h3);refine⟨_,rfl,_,rfl,_,rfl,_,rfl,a,_,rfl,.inl hS,_,_,rfl,rfl,h3,a,_,_,_,rfl,rfl,hS,hz,_,_,rfl,rfl,Qb (by decide),_,_,rfl,rfl,?_⟩;refine⟨_,rfl,_,_,rfl,rfl,F9 (by decide) (by decide),_,_,rfl,rfl,Qb (by decide),?_⟩;exact⟨_,rfl,_,rfl,_,rfl,_,_,rfl,rfl,Fc (by decide) (by decide),_,_,rfl,rfl,_,_,rfl,rfl,_,_,rfl,rfl,Fc (Uc _).1 (Uc _).2,_,_,rfl,rfl,⟨by decide,by decide +kernel⟩,_,_,rfl,rfl,Qb (by decide),q _⟩
 refine⟨_,rfl,_,_,rfl,rfl,F9 (by decide) (by decide),_,_,rfl,rfl,Qb (by decide),?_⟩;exact⟨_,rfl,_,rfl,_,rfl,_,_,rfl,rfl,Fc (by decide) (by decide),_,_,rfl,rfl,_,_,rfl,rfl,_,_,rfl,rfl,Fc (Uc _).1 (Uc _).2,_,_,rfl,rfl,⟨by decide,by decide +kernel⟩,_,_,rfl,rfl,Qb (by decide),q _⟩
inductive spRatio (vs:TY) (H:Hp) (Q:VK) (_z3:XK):Prop
 | i (p q:Int) (_:vs=[.int p,.int q]) (_:q≠0) (_:q.natAbs.log2<9000) (_:∀ a H',H a=none->Same H H'->H' a=some (.tup [.int (nT p q),.int (nB p q)])->Q (.ref a) H')
theorem N4 {p q:Int}(h:q≠0)(k:q.natAbs.log2<9000):(sg p q).natAbs.log2<9000:=by
 have h1:=Z5c (p:=p) h;have h0:=Pe (p:=p) h;have h2:(sg p q).natAbs≠0:=by omega
 have h3:q.natAbs≠0:=by omega
 exact (Y0D h2).mpr (JL h1 ((Y0D h3).mp k))
def muRat (σ:St)(_:Hp):Nat:=match σ with
 | [_,_,some (.int x),_,_]=>x.toNat
 | _=>0
abbrev Z2 (P:TR)(w:World)(K:TQ)(mg:TB)(base:Heap):Prop:=Has P w K mg base 2 "_law_ratio" ["_law_top","_law_bottom"] spRatio
theorem Z2d (D:Def K mg "_law_ratio" jY ["_law_top","_law_bottom"])(T:Blt mg):Z2 P w K mg base:=by
 refine D.h9 (N:=["_law_top","_law_bottom","_law_one","_law_most","_law_rest"]) fsc λH Q hr h nd=>?_;obtain⟨p,q,rfl,hq,hlog,k⟩:=h;refine⟨_,(Z9 (Zi (i:=2) nd rfl (Or.inl rfl) (Zx Qw rfl T.abs je (Z0 (pv 0) Z8)))
  (Z9 (Zi (i:=3) nd rfl (Or.inl rfl) (Zx Qw rfl T.abs je (Z0 (pv 1) Z8)))
  (Z9 (Q2 XY (Zl Q5 (pv 2) Za (Zo _))
   (Z9 (Zi (i:=4) nd rfl (Or.inl rfl) (Zm Vt (pv 3) (pv 2)))
   (Z9 (Zi (i:=3) nd rfl (Or.inl rfl) (pv 2))
   (Zc (Zi (i:=2) nd rfl (Or.inl rfl) (pv 4))))))
  (Z9 (Yk (Y4 (Zl Ss (pv 1) Za (Zo _))
   (Zc (Zi (i:=3) nd rfl (Or.inl rfl) (U4 Wt (pv 3))))
   Zp))
  (Zc (Zh (Yc (Z0 (Zm Wj (pv 0) (pv 3)) (Z0 (Zm Wj (pv 1) (pv 3)) Z8))))))))),?_⟩
 refine⟨_,rfl,_,rfl,_,rfl,_,rfl,?_⟩;refine M1 (λσ H'=>H'=H/\∃ (x y:Int) (r:TZ),σ=[some (.int p),some (.int q),some (.int x),some (.int y),r]/\0<=x/\0<=y/\Int.gcd y x=Int.gcd p q) muRat ⟨rfl,_,_,none,rfl,(by split <;> omega),(by split <;> omega),by rw[zY];exact Z32 p q⟩ ?_
  (λσ H Q Q' f ⟨v,e,i,j,e1,e2,k,e3,z⟩=>⟨v,e,i,j,e1,e2,k,e3,f _ _ z⟩)
 rintro σ H' ⟨rfl,x,y,r,rfl,hx,hy,hg⟩;refine⟨_,rfl,_,_,rfl,rfl,_,rfl,?_⟩;refine X6 (λh=>?_) (λh=>?_)
 ·have h':0<x:=XH h;refine⟨_,rfl,_,rfl,_,_,rfl,rfl,h',?_⟩;refine⟨_,rfl,_,rfl,⟨rfl,y % x,x,_,rfl,zI _ (by omega),hx,gcd_step.trans hg⟩,?_⟩;show (y % x).toNat<x.toNat;have:=zN y h';have:=zI y (show x≠0 by omega);omega
 have h':¬ 0<x:=λz=>h (XQ z);have e:=Z52 y x hy (by omega);rw[hg] at e;subst e;refine⟨λσ H''=>H''=H'/\σ=[some (.int p),some (.int q),some (.int x),some (.int (sg p q)),r],?_,?_⟩
 ·refine⟨_,rfl,_,_,rfl,rfl,_,rfl,?_⟩;refine X6 (λh=>?_) (λh=>?_)
  ·have h':q<0:=XH h;refine⟨_,rfl,_,rfl,rfl,?_⟩;have e:sg p q=-((Int.gcd p q:Nat):Int):=by unfold sg gI;rw[YJ h']
   rw[e];rfl
  have h':¬ q<0:=λz=>h (XQ z);refine⟨rfl,?_⟩;have e:sg p q=((Int.gcd p q:Nat):Int):=by unfold sg gI;rw[YH h']
  rw[e]
 rintro σ H'' ⟨rfl,rfl⟩;refine⟨_,rfl,_,rfl,_,_,rfl,rfl,⟨Pe hq,N4 hq hlog⟩,_,rfl,_,rfl,_,_,rfl,rfl,⟨Pe hq,N4 hq hlog⟩,sz2,λa ha=>?_⟩;exact k a _ ha (Same.new ha) Zb
inductive spBag (vs:TY) (H:Hp) (Q:VK) (_z3:XK):Prop
 | i (c:Int) (_:vs=[.int c]) (_:∀ a H',H a=none->Same H H'->BagAt H' a 1->Q (.ref a) H')
theorem Z5p (D:Def K mg "_law_bag" kS UG):Has P w K mg base 1 "_law_bag" UG spBag:=by
 refine D.h9 (N:=UG) fsc λH Q hr h nd=>?_;obtain⟨c,rfl,q⟩:=h;refine⟨_,(Z9 (Y4 (Zl Ss (pv 0) (Zm Nf Za Za) (Zo _))
   (Zc (Zh (X4 (Z0 (pv 0) (Z0 Za Z8)))))
   Zp)
  (Zc (Zh (X4 (Z0 (pv 0) (Z0 Za Z8)))))),?_⟩
 refine⟨_,rfl,_,_,rfl,rfl,Z39 (by decide) (by decide),_,_,rfl,rfl,_,rfl,?_⟩;refine X6 (λ_=>?_) (λ_=>?_)
 ·exact⟨_,rfl,sz2,λa ha=>q a _ ha (Same.new ha) ⟨_,_,Zb,by decide,by decide⟩⟩
 exact⟨_,rfl,sz2,λa ha=>q a _ ha (Same.new ha) ⟨_,_,Zb,by decide,by decide⟩⟩
inductive spTake (vs:TY) (H:Hp) (Q:VK) (_z3:XK):Prop
 | i (b:Addr) (m:Int) (n:Nat) (_:vs=[.ref b,.int m]) (_:BagAt H b n) (_:n<=1000000000) (_:0<m) (_:m.natAbs.log2<9000) (_:∀ (r:Int) (H':Hp),0<=r->r<m->BagAt H' b (n+1)->SameX b H H'->Q (.int r) H')
abbrev Z1 (P:TR)(w:World)(K:TQ)(mg:TB)(base:Heap):Prop:=Has P w K mg base 1 "_law_take" ["_law_bag_here","_law_many"] spTake
theorem Z4j (D:Def K mg "_law_take" j9 ["_law_bag_here","_law_many"]):Z1 P w K mg base:=by
 refine D.h9 (N:=["_law_bag_here","_law_many","_law_told"]) fsc λH Q hr h nd=>?_;obtain⟨b,m,n,rfl,⟨x,y,e,hy,hyn⟩,hn,hm,hlog,q⟩:=h;have hL:SqL K H b [.int x,.int y]:=SqL.of e;refine⟨_,(Z9 (Y4 (Zl Yy (Zj Jg (pv 0) Za (λ_ _=>rfl)) Za (Zo _))
   (Z9 (Zi (i:=2) nd rfl (Or.inl rfl) (Zm Vt (Zj Jh (pv 0) Za (λ_ _=>rfl)) (pv 1)))
   (Z9 (Vq (Zm Wj (Zj Jh (pv 0) Za (λ_ _=>rfl)) (pv 1)) (Tt (pv 0) Za V9))
   (Zc (Zh (pv 2)))))
   Zp)
  (Z9 (Vq (Zm Vt (Zm Yx (Zm Yx (Zm Y1 (Zj Jh (pv 0) Za (λ_ _=>rfl)) Za) (Zm Y1 (Zm Y1 Za (Zj Jg (pv 0) Za (λ_ _=>rfl))) (Zj Jg (pv 0) Za (λ_ _=>rfl)))) Za) Za) (Tt (pv 0) Za V9))
  (Z9 (Vq (Zm Yx (Zj Jg (pv 0) Za (λ_ _=>rfl)) Za) (Tt (pv 0) Za V9))
  (Zc (Zh (Zm Vt (Zm Vt (Zm Y1 (Zj Jh (pv 0) Za (λ_ _=>rfl)) Za) Za) (pv 1))))))),?_⟩
 refine⟨_,rfl,b,_,_,rfl,rfl,hL,rfl,_,rfl,?_⟩;refine X6 (λh=>?_) (λh=>?_)
 ·refine⟨_,rfl,b,_,_,rfl,rfl,hL,_,rfl,_,_,rfl,rfl,hm,?_⟩;refine⟨_,rfl,b,_,_,rfl,rfl,hL,_,rfl,_,_,rfl,rfl,⟨by omega,hlog⟩,_,rfl,b,_,_,0,rfl,rfl,e,rfl,?_⟩;refine⟨_,rfl,?_⟩;exact q _ _ (zI _ (by omega)) (zN _ hm) ⟨_,y,Zb,hy,by omega⟩ (SameX.upd b H _)
 refine⟨_,rfl,b,_,_,rfl,rfl,hL,_,_,rfl,rfl,F9 (by decide) (by decide),_,rfl,b,_,_,rfl,rfl,hL,_,_,rfl,rfl,Fc (by decide) (by decide),_,rfl,b,_,_,rfl,rfl,hL,_,_,rfl,rfl,F9 (by omega) (by omega),_,_,rfl,rfl,_,_,rfl,rfl,_,_,rfl,rfl,Qb (by decide),_,rfl,b,_,_,0,rfl,rfl,e,rfl,?_⟩;refine⟨_,rfl,b,_,_,rfl,rfl,SqL.of Zb,_,_,rfl,rfl,_,rfl,b,_,_,1,rfl,rfl,Zb,rfl,?_⟩;refine⟨_,rfl,b,_,_,rfl,rfl,SqL.of Zb,_,_,rfl,rfl,F9 (by decide) (by decide),_,_,rfl,rfl,Qb (by decide),_,rfl,_,_,rfl,rfl,hm,?_⟩;exact q _ _ (zI _ (by omega)) (zN _ hm) ⟨_,y+1,Zb,by omega,by omega⟩ ((SameX.upd b H _).trans (SameX.upd b _ _))
inductive spGcd (vs:TY) (H:Hp) (Q:VK) (_z3:XK):Prop
 | i (a b:Int) (_:vs=[.int a,.int b]) (_:Q (.int (Int.gcd a b:Nat)) H)
theorem Z5e:FnScope ["one","other","rest"] UH (defScope iI):=fsc
def muGcd (σ:St)(_:Hp):Nat:=match σ with
 | [_,some (.int y),_]=>y.natAbs
 | _=>0
theorem Z2t {y:Int}(h:(!decide (V.int y=V.int 0))=true):y≠0:=by
 intro z;subst z;simp at h
theorem Z37 {y:Int}(h:¬ (!decide (V.int y=V.int 0))=true):y=0:=by
 apply YR;intro z;apply h;have:¬ V.int y=V.int 0:=λq=>z (V.int.inj q);simp[this]
theorem Z5n (D:Def K mg "common_divisor" iI UH)(T:Blt mg):Has P w K mg base 1 "common_divisor" UH spGcd:=by
 refine D.h9 Z5e λH Q hr h nd=>?_;obtain⟨a,b,rfl,q⟩:=h;refine⟨_,(Z9 (Q2 XY (Zl Pg (pv 1) Za (Zo _))
   (Z9 (Zi (i:=2) nd rfl (Or.inl rfl) (Zm Z23 (pv 0) (pv 1)))
   (Z9 (Zi (i:=0) nd rfl (Or.inl rfl) (pv 1))
   (Zc (Zi (i:=1) nd rfl (Or.inl rfl) (pv 2))))))
  (Zc (Zh (Zx Qw rfl T.abs je (Z0 (pv 0) Z8))))),?_⟩
 refine M1 (λσ H'=>H'=H/\∃ (x y:Int) (r:TZ),σ=[some (.int x),some (.int y),r]/\Int.gcd x y=Int.gcd a b) muGcd ⟨rfl,a,b,none,rfl,rfl⟩ ?_
  (λσ H Q Q' f ⟨v,e,e1,k,e3,z⟩=>⟨v,e,e1,k,e3,f _ _ z⟩)
 rintro σ H' ⟨rfl,x,y,r,rfl,hg⟩;refine⟨_,rfl,rfl,_,rfl,?_⟩;refine X6 (λh=>?_) (λh=>?_)
 ·have h':y≠0:=Z2t h;refine⟨_,rfl,_,rfl,_,_,rfl,rfl,h',?_⟩;refine⟨_,rfl,_,rfl,⟨rfl,y,x.fmod y,_,rfl,(Fn x y).trans hg⟩,?_⟩;exact Z0j x h'
 have h':y=0:=Z37 h;subst h';refine⟨_,rfl,_,rfl,?_⟩;have e:(if x<0 then -x else x)=((Int.gcd a b:Nat):Int):=by
  rw[<-hg];simp;split <;> omega
 rw[e];exact q
inductive spLowest (vs:TY) (H:Hp) (Q:VK) (_z3:XK):Prop
 | i (p q:Int) (_:vs=[.int p,.int q]) (_:q≠0) (_:q.natAbs.log2<9000) (_:∀ a H',H a=none->Same H H'->H' a=some (.tup [.int (nT p q),.int (nB p q)])->Q (.ref a) H')
theorem Be (D:Def K mg "lowest" jH UI)(eM:Has P w K mg base 1 "common_divisor" UH spGcd):Has P w K mg base 2 "lowest" UI spLowest:=by
 refine D.h9 (N:=["top","bottom","divisor"]) fsc λH Q hr h nd=>?_;obtain⟨p,q,rfl,hq,hlog,k⟩:=h;refine⟨_,(Z9 (Zi (i:=2) nd rfl (Or.inl rfl) (Zf eM hr (Z0 (pv 0) (Z0 (pv 1) Z8))))
  (Z9 (Yk (Y4 (Zl Ss (pv 1) Za (Zo _))
   (Zc (Zi (i:=2) nd rfl (Or.inl rfl) (U4 Wt (pv 2))))
   Zp))
  (Zc (Zh (Yc (Z0 (Zm Wj (pv 0) (pv 2)) (Z0 (Zm Wj (pv 1) (pv 2)) Z8))))))),?_⟩
 refine⟨_,rfl,_,rfl,_,_,rfl,?_⟩;refine⟨λσ H'=>H'=H/\σ=[some (.int p),some (.int q),some (.int (sg p q))],?_,?_⟩
 ·refine⟨_,rfl,_,_,rfl,rfl,_,rfl,?_⟩;refine X6 (λh=>?_) (λh=>?_)
  ·have h':q<0:=XH h;refine⟨_,rfl,_,rfl,rfl,?_⟩;have e:sg p q=-((Int.gcd p q:Nat):Int):=by unfold sg gI;rw[YJ h']
   rw[e];rfl
  have h':¬ q<0:=λz=>h (XQ z);refine⟨rfl,?_⟩;have e:sg p q=((Int.gcd p q:Nat):Int):=by unfold sg gI;rw[YH h']
  rw[e];rfl
 rintro σ H' ⟨rfl,rfl⟩;refine⟨_,rfl,_,rfl,_,_,rfl,rfl,⟨Pe hq,N4 hq hlog⟩,_,rfl,_,rfl,_,_,rfl,rfl,⟨Pe hq,N4 hq hlog⟩,sz2,λa ha=>?_⟩;exact k a _ ha (Same.new ha) Zb
inductive spTwo (K:TQ) (op:Rat->Rat->Rat) (vs:TY) (H:Hp) (Q:VK) (_z3:XK):Prop
 | i (a b:Addr) (r s:Rat) (n:Nat) (_:vs=[.ref a,.ref b]) (_:SqT K H a [.int r.1,.int r.2]) (_:SqT K H b [.int s.1,.int s.2]) (_:Good n r) (_:Good n s) (_:n<=4000) (_:∀ c H',H c=none->Same H H'->H' c=some (.tup [.int (op r s).1,.int (op r s).2])->Q (.ref c) H')
theorem Ti {n:Nat}{x y:Int}(h:Bd n x)(k:Bd n y)(hn:n<=4000):(x*y).natAbs.log2<9000:=Bd.log (h.mul k) (by omega)
abbrev Z3 (P:TR)(w:World)(K:TQ)(mg:TB)(base:Heap):Prop:=Has P w K mg base 3 "_law_plus" UJ (spTwo K addR)
theorem Z2j (D:Def K mg "_law_plus" j2 UJ)(eE:Z2 P w K mg base):Z3 P w K mg base:=by
 refine D.h9 (N:=UJ) fsc λH Q hr h nd=>?_;obtain⟨a,b,r,s,n,rfl,hA,hB,gr,gs,hn,k⟩:=h;refine⟨_,(Zc (Zh (Zf eE hr (Z0 (Zm Yx (Zm Y1 (Zj Xt (pv 0) Za (λ_ _=>rfl)) (Zj Xe (pv 1) Za (λ_ _=>rfl))) (Zm Y1 (Zj Xt (pv 1) Za (λ_ _=>rfl)) (Zj Xe (pv 0) Za (λ_ _=>rfl)))) (Z0 (Zm Y1 (Zj Xe (pv 0) Za (λ_ _=>rfl)) (Zj Xe (pv 1) Za (λ_ _=>rfl))) Z8))))),?_⟩;exact⟨_,rfl,_,_,_,rfl,rfl,hA,_,rfl,_,_,_,rfl,rfl,hB,_,_,rfl,rfl,gr.b1.mulOk gs.b2 (by omega) (by omega),_,rfl,_,_,_,rfl,rfl,hB,_,rfl,_,_,_,rfl,rfl,hA,_,_,rfl,rfl,gs.b1.mulOk gr.b2 (by omega) (by omega),_,_,rfl,rfl,_,rfl,_,_,_,rfl,rfl,hA,_,rfl,_,_,_,rfl,rfl,hB,_,_,rfl,rfl,gr.b2.mulOk gs.b2 (by omega) (by omega),_,_,rfl,Xs gr.pos gs.pos,Ti gr.b2 gs.b2 hn,k⟩
abbrev Z4 (P:TR)(w:World)(K:TQ)(mg:TB)(base:Heap):Prop:=Has P w K mg base 3 "_law_minus" UJ (spTwo K subR)
theorem Bi (D:Def K mg "_law_minus" jK UJ)(eE:Z2 P w K mg base):Z4 P w K mg base:=by
 refine D.h9 (N:=UJ) fsc λH Q hr h nd=>?_;obtain⟨a,b,r,s,n,rfl,hA,hB,gr,gs,hn,k⟩:=h;refine⟨_,(Zc (Zh (Zf eE hr (Z0 (Zm Up (Zm Y1 (Zj Xt (pv 0) Za (λ_ _=>rfl)) (Zj Xe (pv 1) Za (λ_ _=>rfl))) (Zm Y1 (Zj Xt (pv 1) Za (λ_ _=>rfl)) (Zj Xe (pv 0) Za (λ_ _=>rfl)))) (Z0 (Zm Y1 (Zj Xe (pv 0) Za (λ_ _=>rfl)) (Zj Xe (pv 1) Za (λ_ _=>rfl))) Z8))))),?_⟩;exact⟨_,rfl,_,_,_,rfl,rfl,hA,_,rfl,_,_,_,rfl,rfl,hB,_,_,rfl,rfl,gr.b1.mulOk gs.b2 (by omega) (by omega),_,rfl,_,_,_,rfl,rfl,hB,_,rfl,_,_,_,rfl,rfl,hA,_,_,rfl,rfl,gs.b1.mulOk gr.b2 (by omega) (by omega),_,_,rfl,rfl,_,rfl,_,_,_,rfl,rfl,hA,_,rfl,_,_,_,rfl,rfl,hB,_,_,rfl,rfl,gr.b2.mulOk gs.b2 (by omega) (by omega),_,_,rfl,Xs gr.pos gs.pos,Ti gr.b2 gs.b2 hn,k⟩
abbrev Z7 (P:TR)(w:World)(K:TQ)(mg:TB)(base:Heap):Prop:=Has P w K mg base 3 "_law_times" UJ (spTwo K mulR')
theorem Bh (D:Def K mg "_law_times" jJ UJ)(eE:Z2 P w K mg base):Z7 P w K mg base:=by
 refine D.h9 (N:=UJ) fsc λH Q hr h nd=>?_;obtain⟨a,b,r,s,n,rfl,hA,hB,gr,gs,hn,k⟩:=h;refine⟨_,(Zc (Zh (Zf eE hr (Z0 (Zm Y1 (Zj Xt (pv 0) Za (λ_ _=>rfl)) (Zj Xt (pv 1) Za (λ_ _=>rfl))) (Z0 (Zm Y1 (Zj Xe (pv 0) Za (λ_ _=>rfl)) (Zj Xe (pv 1) Za (λ_ _=>rfl))) Z8))))),?_⟩;exact⟨_,rfl,_,_,_,rfl,rfl,hA,_,rfl,_,_,_,rfl,rfl,hB,_,_,rfl,rfl,gr.b1.mulOk gs.b1 (by omega) (by omega),_,rfl,_,_,_,rfl,rfl,hA,_,rfl,_,_,_,rfl,rfl,hB,_,_,rfl,rfl,gr.b2.mulOk gs.b2 (by omega) (by omega),_,_,rfl,Xs gr.pos gs.pos,Ti gr.b2 gs.b2 hn,k⟩
end
section
variable {K:TQ}{H:Hp}{Q:VK}{a b:Addr}{rs ss:UA}
theorem RowAt.same {H':Hp}(h:RowAt K H a rs)(S:Same H H'):RowAt K H' a rs:=h.ext (Ext.same S)
end
theorem Z5q {z m:Int}(h0:0<=z)(h1:z<m):∃ i:Nat,z=(i:Int)/\(i:Int)<m:=⟨z.toNat,by omega,by omega⟩
theorem Z2w {c:Nat}(h:c<=1000):(c:Int).natAbs.log2<9000:=by
 have e:(c:Int).natAbs=c:=by omega
 rw[e];rcases Y0S c with z | z
 ·subst z;decide
 exact JL (Nat.log2_le_self c) (by omega)
theorem bdS {n:Nat}{x:Int}(h:x.natAbs<2 ^ n):Bd n x:=h
section
variable {P:TR}{w:World}{K:TQ}{mg:TB}{base:Heap}
theorem Gv (D:Def K mg "is_whole" jC ["value"])(T:Blt mg):Has P w K mg base 1 "is_whole" ["value"] spWhole:=by
 refine D.h9 (N:=["value"]) fsc λH Q hr h nd=>?_;obtain⟨i,rfl,q⟩:=h;refine⟨_,(Zc (Zh (Uo (Zx W6 rfl T.isinstance XF (Z0 (pv 0) (Z0 (Td T.int Y0B) Z8))) (Um (Cr (Zx W6 rfl T.isinstance XF (Z0 (pv 0) (Z0 (Td T.bool Y0y) Z8)))))))),?_⟩;refine⟨_,rfl,_,_,_,_,rfl,TyOf.int i,Ve,_,rfl,Vf ?_⟩;exact⟨_,rfl,_,_,_,_,rfl,TyOf.int i,Tk,_,rfl,q⟩
theorem Bb (D:Def K mg "ratio" jG UI)(fE:Has P w K mg base 1 "is_whole" ["value"] spWhole)(eZ:Has P w K mg base 2 "lowest" UI spLowest):Has P w K mg base 3 "ratio" UI spLowest:=by
 refine D.h9 (N:=UI) fsc λH Q hr h nd=>?_;obtain⟨p,q,rfl,hq,hlog,k⟩:=h;refine⟨_,(Z9 (Y4 (PW.pt (Wf (Yz (Yr (Zf fE hr (Z0 (pv 0) Z8)))) (W8 (Yz (Yr (Zf fE hr (Z0 (pv 1) Z8)))))))
   (Zc Mf)
   Zp)
  (Z9 (Y4 (Zl Yy (pv 1) Za (Zo _))
   (Zc Mf)
   Zp)
  (Zc (Zh (Zf eZ hr (Z0 (pv 0) (Z0 (pv 1) Z8))))))),?_⟩
 refine⟨_,rfl,p,rfl,_,rfl,X9 ⟨_,rfl,q,rfl,_,rfl,X9 ?_⟩⟩;refine⟨_,rfl,rfl,_,rfl,Pn (λz=>hq (V.int.inj z)) ?_⟩;exact⟨_,rfl,_,rfl,p,q,rfl,hq,hlog,k⟩
end
def fldsT (a b c d e:V):List (Str × V):=putF "lack" e (putF "bottom" d (putF "heads" c (putF "owners" b (putF "lines" a []))))
section
variable {a b c d e:V}
theorem W3:(fldsT a b c d e).lookup ("lines":Str)=some a:=by
 unfold fldsT;rw[Y5,YH (by decide +kernel),Y5,YH (by decide +kernel),Y5,YH (by decide +kernel),Y5,YH (by decide +kernel),Y5,YJ rfl]
theorem Xd:(fldsT a b c d e).lookup ("owners":Str)=some b:=by
 unfold fldsT;rw[Y5,YH (by decide +kernel),Y5,YH (by decide +kernel),Y5,YH (by decide +kernel),Y5,YJ rfl]
theorem Vi:(fldsT a b c d e).lookup ("heads":Str)=some c:=by
 unfold fldsT;rw[Y5,YH (by decide +kernel),Y5,YH (by decide +kernel),Y5,YJ rfl]
theorem Vj:(fldsT a b c d e).lookup ("bottom":Str)=some d:=by
 unfold fldsT;rw[Y5,YH (by decide +kernel),Y5,YJ rfl]
theorem Nq:(fldsT a b c d e).lookup ("lack":Str)=some e:=by
 unfold fldsT;rw[Y5,YJ rfl]
end
def ownI (m:Nat)(T:UC):List Int:=(List.range m).map λi=>(T.own i:Int)
def hdI (n:Nat)(T:UC):List Int:=(List.range n).map λj=>(T.hd j:Int)
def lineI (n:Nat)(T:UC)(i:Nat):List Int:=(List.range (n+1)).map λj=>T.L i j
theorem Vr {m:Nat}{i:Nat}(h:i<m):(ownI m T)[i]?=some (T.own i:Int):=by unfold ownI;simp[h]
theorem Uv {n:Nat}(h:j<n):(hdI n T)[j]?=some (T.hd j:Int):=by unfold hdI;simp[h]
theorem W0 {n:Nat}{i:Nat}(h:j<=n):(lineI n T i)[j]?=some (T.L i j):=by unfold lineI;simp[show j<n+1 by omega]
theorem U7 (m:Nat)(T:UC):(ownI m T).length=m:=by unfold ownI;simp
theorem Vx (n:Nat)(T:UC):(hdI n T).length=n:=by unfold hdI;simp
theorem Ys (n:Nat)(T:UC)(i:Nat):(lineI n T i).length=n+1:=by unfold lineI;simp
theorem Xf {xs:TU}{i:Nat}{z:Int}(h:xs[i]?=some z):(xs.map V.int)[i]?=some (V.int z):=by rw[YF,h];rfl
def TabAt (C:Addr)(H:Hp)(p:Addr)(m n lk:Nat)(T:UC):Prop:=∃ (dx la oa ha:Addr) (las:TJ),H p=some (.ins C dx (fldsT (.ref la) (.ref oa) (.ref ha) (.int T.b) (.int (lk:Int))))/\H la=some (.lst (las.map V.ref))/\las.length=m ∧
 (∀ (i:Nat) (a:Addr),las[i]?=some a->H a=some (.lst ((lineI n T i).map V.int)))/\H oa=some (.lst ((ownI m T).map V.int))/\H ha=some (.lst ((hdI n T).map V.int))
theorem TabAt.same {p:Addr}{m n lk:Nat}(h:TabAt C H p m n lk T)(S:Same H H'):TabAt C H' p m n lk T:=by
 obtain⟨dx,la,oa,ha,las,h1,h2,h3,h4,h5,h6⟩:=h;exact⟨dx,la,oa,ha,las,S _ _ h1,S _ _ h2,h3,λi a e=>S _ _ (h4 i a e),S _ _ h5,S _ _ h6⟩
structure TabOk (m n:Nat)(T:UC):Prop where
 oi:∀ i k,i<m->k<m->T.own i=T.own k->i=k
 hi:∀ i k,i<n->k<n->T.hd i=T.hd k->i=k
 ne:∀ i j,i<m->j<n->T.own i≠T.hd j
theorem TabOk.of {m n:Nat}{col:Nat->Sv.Vec}{rhs:Sv.Vec}(I:Sv.Inv m n col rhs T):TabOk m n T:=⟨λ_ _ h1 h2 e=>I.ownInj h1 h2 e,λ_ _ h1 h2 e=>I.hdInj h1 h2 e,λ_ _ h1 h2=>I.ne h1 h2⟩
structure TabC (K:TQ)(mg:TB)(C:Addr):Prop where
 cl:Cls K C
 nL:NoAttr K C "lines"
 nO:NoAttr K C "owners"
 nH:NoAttr K C "heads"
 nB:NoAttr K C "bottom"
 nK:NoAttr K C "lack"
 mgC:mg "Table"=some (.ref C)
theorem Nn {a:Addr}{z:Int}{Q:VK}(h:H a=some (.lst (ns.map V.int)))(q:Q (.bl (decide (z∈ns))) H):rIn K false (.int z) (.ref a) H Q:=by
 refine⟨a,_,rfl,.inl (SqL.of h),rfl,Si _,?_⟩;show Q (.bl (inV (.int z) (ns.map V.int))) H;rw[Qm];exact q
theorem mem_ownI {m v:Nat}:((v:Int)∈ownI m T) ↔ ∃ i,i<m/\T.own i=v:=by
 unfold ownI;simp only [XM,qi];constructor
 ·rintro ⟨i,hi,e⟩;exact⟨i,hi,by omega⟩
 rintro ⟨i,hi,e⟩;exact⟨i,hi,by omega⟩
theorem mem_hdI {n v:Nat}:((v:Int)∈hdI n T) ↔ ∃ i,i<n/\T.hd i=v:=by
 unfold hdI;simp only [XM,qi];constructor
 ·rintro ⟨i,hi,e⟩;exact⟨i,hi,by omega⟩
 rintro ⟨i,hi,e⟩;exact⟨i,hi,by omega⟩
section
variable {P:TR}{w:World}{K:TQ}{mg:TB}{base:Heap}{C:Addr}
inductive spLineOf (C:Addr) (vs:TY) (H:Hp) (Q:VK) (_z3:XK):Prop
 | i (p:Addr) (m n lk i:Nat) (T:UC) (_:vs=[.ref p,.int (T.own i:Int)]) (_:TabAt C H p m n lk T) (_:TabOk m n T) (_:i<m) (_:m<=1000) (_:∀ a,H a=some (.lst ((lineI n T i).map V.int))->Q (.ref a) H)
theorem Bg (D:Def K mg "line_of" jI UK)(tc:TabC K mg C):Has P w K mg base 1 "line_of" UK (spLineOf C):=by
 refine D.h9 (N:=UK) fsc λH Q hr h nd=>?_;obtain⟨p,m,n,lk,i,T,rfl,⟨dx,la,oa,ha,las,h1,h2,h3,h4,h5,h6⟩,ok,hi,hm,k⟩:=h;refine⟨_,(Zc (Zh (Zj Zv (Yi (pv 0) rfl) (Wu XE zS zT (Qa (K:=K)) (Yi (pv 0) rfl) (Z0 (pv 1) Z8)) (λ_ _=>rfl)))),?_⟩;have ea:las[i]?=some (las[i]'(by omega)):=by simp
 refine⟨_,rfl,p,C,dx,_,_,rfl,h1,tc.cl,tc.nL,W3,_,rfl,p,C,dx,_,_,rfl,h1,tc.cl,tc.nO,Xd,.inl ⟨rfl,_,SqL.of h5⟩,_,rfl,?_⟩;refine⟨oa,ownI m T,_,i,rfl,rfl,SqL.of h5,Vr hi,λk hk e=>?_,by rw[U7];exact hm,?_⟩
 ·rw[Vr (by omega)] at e;have:=ok.oi k i (by omega) hi (by have:=YK e;omega);omega
 exact⟨la,_,_,_,rfl,rfl,SqL.of h2,Zg (by rw[YF,ea];rfl),k _ (h4 i _ ea)⟩
inductive spEndOf (C:Addr) (vs:TY) (H:Hp) (Q:VK) (_z3:XK):Prop
 | i (p:Addr) (m n lk v:Nat) (T:UC) (_:vs=[.ref p,.int (v:Int)]) (_:TabAt C H p m n lk T) (_:TabOk m n T) (_:m<=1000) (_:n<=1000) (_:Q (.int (Sv.endOf m n T v)) H)
theorem TabOk.endO {m n:Nat}(h:TabOk m n T){i:Nat}(hi:i<m):Sv.endOf m n T (T.own i)=T.L i n:=by
 unfold Sv.endOf;rw[Sv.sm_one (k:=i) hi λk hk hne=>YH λz=>hne (h.oi k i hk hi z),YJ rfl]
theorem TabOk.numH {m n:Nat}(h:TabOk m n T){i j:Nat}(hj:j<n):Sv.numAt n T i (T.hd j)=T.L i j:=by
 unfold Sv.numAt;rw[Sv.sm_one (k:=j) hj λk hk hne=>YH λz=>hne (h.hi k j hk hj z),YJ rfl]
theorem Nz {n:Nat}{i:Nat}:atI ((lineI n T i).map V.int) (-1)=some (V.int (T.L i n)):=by
 unfold atI ixN;rw[YC,Ys,YH (by decide),YJ (by omega)];show ((lineI n T i).map V.int)[(-1+((n+1:Nat):Int)).toNat]?=_;have:(-1+((n+1:Nat):Int)).toNat=n:=by omega
 rw[this];exact Xf (W0 (YD n))
theorem Z2p (D:Def K mg "end_of" j7 UM)(tc:TabC K mg C)(fC:Has P w K mg base 1 "line_of" UK (spLineOf C)):Has P w K mg base 2 "end_of" UM (spEndOf C):=by
 refine D.h9 (N:=UM) fsc λH Q hr h nd=>?_;obtain⟨p,m,n,lk,v,T,rfl,tab,ok,hm,hn,q⟩:=h;obtain⟨dx,la,oa,ha,las,h1,h2,h3,h4,h5,h6⟩:=id tab;refine⟨_,(Zc (Zh (U5 (Zl Wo (pv 1) (Yi (pv 0) rfl) rfl) (Zj Zv (Zf fC hr (Z0 (pv 0) (Z0 (pv 1) Z8))) (U4 Wt Za) (λ_ _=>rfl)) Za))),?_⟩;refine⟨_,rfl,_,rfl,p,C,dx,_,_,rfl,h1,tc.cl,tc.nO,Xd,Nn h5 ⟨_,rfl,?_⟩⟩;refine X6 (λh=>?_) (λh=>?_)
 ·obtain⟨i,hi,e⟩:=mem_ownI.mp (XH h);subst e;refine⟨_,rfl,_,rfl,p,m,n,lk,i,T,rfl,tab,ok,hi,hm,λa ea=>⟨_,rfl,?_⟩⟩;refine⟨a,_,_,_,rfl,rfl,SqL.of ea,Nz,?_⟩;rw[ok.endO hi] at q;exact q
 have:Sv.endOf m n T v=0:=Sv.sm_zero λi hi=>YH λz=>h (XQ (mem_ownI.mpr ⟨i,hi,z⟩));rw[this] at q;exact q
inductive spNumAt (C:Addr) (vs:TY) (H:Hp) (Q:VK) (_z3:XK):Prop
 | i (p:Addr) (m n lk i v:Nat) (T:UC) (_:vs=[.ref p,.int (T.own i:Int),.int (v:Int)]) (_:TabAt C H p m n lk T) (_:TabOk m n T) (_:i<m) (_:m<=1000) (_:n<=1000) (_:Q (.int (Sv.numAt n T i v)) H)
theorem Z2g (D:Def K mg "number_at" iT UN)(tc:TabC K mg C)(fC:Has P w K mg base 1 "line_of" UK (spLineOf C)):Has P w K mg base 2 "number_at" UN (spNumAt C):=by
 refine D.h9 (N:=UN) fsc λH Q hr h nd=>?_;obtain⟨p,m,n,lk,i,v,T,rfl,tab,ok,hi,hm,hn,q⟩:=h;obtain⟨dx,la,oa,ha,las,h1,h2,h3,h4,h5,h6⟩:=id tab;refine⟨_,(Zc (Zh (U5 (Zl Wo (pv 2) (Yi (pv 0) rfl) rfl) (Zj Zv (Zf fC hr (Z0 (pv 0) (Z0 (pv 1) Z8))) (Wu XE zS zT (Qa (K:=K)) (Yi (pv 0) rfl) (Z0 (pv 2) Z8)) (λ_ _=>rfl)) Za))),?_⟩;refine⟨_,rfl,_,rfl,p,C,dx,_,_,rfl,h1,tc.cl,tc.nH,Vi,Nn h6 ⟨_,rfl,?_⟩⟩;refine X6 (λh=>?_) (λh=>?_)
 ·obtain⟨j,hj,e⟩:=mem_hdI.mp (XH h);subst e;refine⟨_,rfl,_,rfl,p,m,n,lk,i,T,rfl,tab,ok,hi,hm,λa ea=>?_⟩;refine⟨_,rfl,p,C,dx,_,_,rfl,h1,tc.cl,tc.nH,Vi,.inl ⟨rfl,_,SqL.of h6⟩,_,rfl,ha,hdI n T,_,j,rfl,rfl,SqL.of h6,Uv hj,λk hk e=>?_,by rw[Vx];exact hn,?_⟩
  ·rw[Uv (by omega)] at e;have:=ok.hi k j (by omega) hj (by have:=YK e;omega);omega
  refine⟨a,_,_,_,rfl,rfl,SqL.of ea,Zg (Xf (W0 (XZ hj))),?_⟩;rw[ok.numH hj] at q;exact q
 have:Sv.numAt n T i v=0:=Sv.sm_zero λj hj=>YH λz=>h (XQ (mem_hdI.mpr ⟨j,hj,z⟩));rw[this] at q;exact q
def helps (lk:Nat)(T:UC)(i j:Nat):Bool:=decide (0<T.L i j) && !decide (T.hd j=lk)
def foundI (n lk:Nat)(T:UC)(i:Nat):List Int:=((List.range n).filter λj=>helps lk T i j).map λj=>(T.hd j:Int)
theorem Sy (n lk:Nat)(T:UC)(i:Nat):foundI (n+1) lk T i=foundI n lk T i++if helps lk T i n then [(T.hd n:Int)] else []:=by
 unfold foundI;rw[zH,Y0V,XR]
 congr 1
 cases h:helps lk T i n <;> simp[h]
inductive spHelping (C:Addr) (vs:TY) (H:Hp) (Q:VK) (_z3:XK):Prop
 | i (p:Addr) (m n lk i:Nat) (T:UC) (_:vs=[.ref p,.int (T.own i:Int)]) (_:TabAt C H p m n lk T) (_:TabOk m n T) (_:i<m) (_:m<=1000) (_:n<=1000) (_:∀ H',Same H H'->(∀ c,c<n->helps lk T i c=true->(∀ j,j<n->helps lk T i j=true->T.hd c<=T.hd j)->Q (.int (c:Int)) H')/\((∀ j,j<n->helps lk T i j=false)->Q .non H'))
theorem Gw (D:Def K mg "helping" jD UK)(T0:Blt mg)(tc:TabC K mg C)(fC:Has P w K mg base 1 "line_of" UK (spLineOf C)):Has P w K mg base 2 "helping" UK (spHelping C):=by
 refine D.h9 (N:=["table","owner","found"]) fsc λH Q hr h nd=>?_;obtain⟨p,m,n,lk,i,Tb,rfl,tab,ok,hi,hm,hn,k⟩:=h;obtain⟨dx,la,oa,ha,las,h1,h2,h3,h4,h5,h6⟩:=id tab;have T:=T0;have nd1:(["head","number","table"]:List Str).Nodup:=by decide +kernel
 refine⟨_,(Z9 (Wi (i:=2) (N:=["head","number","table"]) (k:=2) (fv:=[0]) nd rfl (Or.inl rfl) rfl (Nb rfl T.zip (Z0 (Yi (pv 0) rfl) (Z0 (Zf fC hr (Z0 (pv 0) (Z0 (pv 1) Z8))) Z8)))
  (λ_ _ _ _ _=>W9 (n:=2) rfl (Y3 (Zk (i:=0) nd1 rfl (Or.inl rfl)) (Y3 (Zk (i:=1) nd1 rfl (Or.inl rfl)) Xl))) (λ_ _ _ _ _=>J7 (PW.pt (Na (Zl Q5 (pv 1) Za (Zo _)) (Rg (Zl Pg (pv 0) (Nc (K:=K) (pv 2) rfl) (Zo _)))))) (λ_ _ _ _ _=>(pv 0)) V8)
  (Zc (Zh (U5 (Cm (pv 2) (λ_=>rfl)) (Wu XE zS zT (Qa (K:=K)) (Yi (pv 0) rfl) (Z0 (Zx (Fy (K:=K) rfl) rfl T.min PyProof.Rows.boot_min (Z0 (pv 2) Z8)) Z8)) Yj)))),?_⟩
 refine⟨_,rfl,p,C,dx,_,_,rfl,h1,tc.cl,tc.nH,Vi,_,rfl,_,rfl,p,m,n,lk,i,Tb,rfl,tab,ok,hi,hm,λa ea=>?_⟩;refine⟨ha,a,rfl,⟨_,SqL.of h6⟩,⟨_,SqL.of ea⟩,λd hd=>?_⟩;refine⟨n,λj ys H2=>Same H H2/\ys=(foundI j lk Tb i).map V.int,Zq hn,⟨Same.new hd,rfl⟩,?_,?_⟩
 ·rintro j ys H2 hj ⟨S2,rfl⟩ hd2;refine⟨⟨_,_,SqL.of (S2 _ _ h6),SqL.of (S2 _ _ ea),by rw[YC,Vx];exact hj,by rw[YC,Ys];omega⟩,?_⟩;rintro x H3 ⟨pp,x0,y0,rfl,hp,rfl,fx,fy⟩;have ex:x0=V.int (Tb.hd j:Int):=by
   have:=fx _ (SqL.of (S2 _ _ h6));rw[Xf (Uv hj)] at this;exact (YK this).symm
  have ey:y0=V.int (Tb.L i j):=by
   have:=fy _ (SqL.of (S2 _ _ ea));rw[Xf (W0 (XZ hj))] at this;exact (YK this).symm
  subst ex ey;have S3:Same H2 (upd H2 pp (.tup [.int (Tb.hd j:Int),.int (Tb.L i j)])):=Same.new hp;have hd3:=S3 _ _ hd2;have up:∀ zs,Same H (upd (upd H2 pp (.tup [.int (Tb.hd j:Int),.int (Tb.L i j)])) d (.lst zs)):=λzs q o e=>by
   rw[Ze (Zd e hd)];exact S3 _ _ (S2 _ _ e)
  refine Cv (SqT.of Zb) ?_;have no:helps lk Tb i j=false->upd H2 pp (.tup [.int (Tb.hd j:Int),.int (Tb.L i j)]) d=some (.lst ((foundI j lk Tb i).map V.int))/\Same H (upd H2 pp (.tup [.int (Tb.hd j:Int),.int (Tb.L i j)]))/\(foundI j lk Tb i).map V.int=(foundI (j+1) lk Tb i).map V.int:=λe=>by
   refine⟨hd3,S2.trans S3,?_⟩;rw[Sy,e];simp
  refine⟨_,rfl,_,_,rfl,rfl,_,rfl,?_⟩;refine X6 (λh=>?_) (λh=>?_)
  ·have hp1:0<Tb.L i j:=XH h;refine⟨_,rfl,_,rfl,p,C,dx,_,_,rfl,S3 _ _ (S2 _ _ h1),tc.cl,tc.nK,Nq,rfl,_,rfl,?_⟩;by_cases hl:Tb.hd j=lk
   ·refine Pm (by rw[hl]) ?_;exact no (by unfold helps;simp[hl])
   refine Pl (λz=>hl (by have:=V.int.inj z;omega)) ?_;have e:helps lk Tb i j=true:=by unfold helps;simp[hl,hp1]
   refine⟨_,rfl,hd3,up _,?_⟩;rw[Sy,e,XR];rfl
  have hp1:¬ 0<Tb.L i j:=λz=>h (XQ z);exact no (by unfold helps;simp[hp1])
 rintro ys H2 ⟨S2,rfl⟩ hd2;refine⟨⟨_,_,SqL.of (S2 _ _ h6),SqL.of (S2 _ _ ea),by rw[YC,Vx]⟩,?_⟩;obtain⟨k1,k0⟩:=k H2 S2;have memf:∀ z,z∈foundI n lk Tb i ↔ ∃ j,j<n/\helps lk Tb i j=true/\(Tb.hd j:Int)=z:=λz=>by
  unfold foundI;simp only [XM,zD,qi];constructor
  ·rintro ⟨j,⟨hj,hh⟩,e⟩;exact⟨j,hj,hh,e⟩
  rintro ⟨j,hj,hh,e⟩;exact⟨j,⟨hj,hh⟩,e⟩
 refine⟨_,rfl,!((foundI n lk Tb i).map V.int).isEmpty,?_,?_⟩
 ·exact .inl ⟨_,SqL.of hd2,rfl⟩
 refine X6 (λh=>?_) (λh=>?_)
 ·have hne:foundI n lk Tb i≠[]:=λz=>by rw[z] at h;simp at h
  refine⟨_,rfl,p,C,dx,_,_,rfl,S2 _ _ h1,tc.cl,tc.nH,Vi,.inl ⟨rfl,_,SqL.of (S2 _ _ h6)⟩,_,rfl,d,_,rfl,SqL.of hd2,hne,λM hM hle=>?_⟩;obtain⟨c,hc,hh,rfl⟩:=(memf M).mp hM;refine⟨ha,hdI n Tb,_,c,rfl,rfl,SqL.of (S2 _ _ h6),Uv hc,λk hk e=>?_,by rw[Vx];exact hn,?_⟩
  ·rw[Uv (by omega)] at e;have:=ok.hi k c (by omega) hc (by have:=YK e;omega);omega
  exact k1 c hc hh λj hj hj2=>by
   have:=hle _ ((memf _).mpr ⟨j,hj,hj2,rfl⟩);omega
 refine k0 λj hj=>?_
 cases e:helps lk Tb i j with
 | false=>rfl
 | true =>
  exfalso;have:=(memf _).mpr ⟨j,hj,e,rfl⟩;apply h
  cases q:foundI n lk Tb i with
  | nil=>rw[q] at this;cases this
  | cons=>rfl
end
open Sv (sm Y6 V4 Xa sm_zero Yb Y8 T7)
theorem Yv {n:Nat}{x:Int}(m:Nat)(h:x.natAbs<2 ^ m)(k:m<=n):Bd n x:=Bd.mono (m:=m) h k
theorem No {n:Nat}{Zs:TU}(h:∀ z∈Zs,Bd n z)(k:Nat):Bd n (Zs.getD k 0):=by
 simp only [List.getD]
 cases e:Zs[k]? with
 | none=>exact bd0 n
 | some z=>exact h z (YG e)
end Sb
namespace Sb
open PySem L2
structure TabBd (N m n:Nat)(T:UC):Prop where
 l:∀ i j,i<m->j<=n->Bd N (T.L i j)
 b:Bd N T.b
theorem Jo {a c x y z:Int}(hy:0<y)(hx:0<x)(hz:0<z)(h1:a*y<=b*x)(h2:b*z<=c*y):a*z<=c*x:=by
 have e1:a*y*z<=b*x*z:=JV h1 (by omega);have e2:b*z*x<=c*y*x:=JV h2 (by omega);have:y*(a*z)<=y*(c*x):=by
  have f1:y*(a*z)=a*y*z:=by grind
  have f2:y*(c*x)=c*y*x:=by grind
  have f3:b*x*z=b*z*x:=by grind
  omega
 exact Y0d this hy
theorem My {a c x y z:Int}(hy:0<y)(hx:0<x)(hz:0<z)(h1:a*y<b*x)(h2:b*z<=c*y):a*z<c*x:=by
 have e1:a*y*z<b*x*z:=zw h1 hz;have e2:b*z*x<=c*y*x:=JV h2 (by omega);have:y*(a*z)<y*(c*x):=by
  have f1:y*(a*z)=a*y*z:=by grind
  have f2:y*(c*x)=c*y*x:=by grind
  have f3:b*x*z=b*z*x:=by grind
  omega
 exact qu this (by omega)
theorem Z0i {a c x y z:Int}(hy:0<y)(hx:0<x)(hz:0<z)(h1:a*y<=b*x)(h2:b*z<c*y):a*z<c*x:=by
 have e1:a*y*z<=b*x*z:=JV h1 (by omega);have e2:b*z*x<c*y*x:=zw h2 hx;have:y*(a*z)<y*(c*x):=by
  have f1:y*(a*z)=a*y*z:=by grind
  have f2:y*(c*x)=c*y*x:=by grind
  have f3:b*x*z=b*z*x:=by grind
  omega
 exact qu this (by omega)
def Ahead (n c:Nat)(T:UC)(a b:Nat):Prop:=T.L a n*T.L b c<T.L b n*T.L a c \/ (T.L a n*T.L b c=T.L b n*T.L a c/\T.own a<=T.own b)
theorem Ahead.trans {n c:Nat}{a b k:Nat}(ha:0<T.L a c)(hb:0<T.L b c)(hk:0<T.L k c)(h1:Ahead n c T a b)(h2:Ahead n c T b k):Ahead n c T a k:=by
 rcases h1 with h1 | ⟨h1,o1⟩
 ·rcases h2 with h2 | ⟨h2,_⟩
  ·exact .inl (My hb ha hk h1 (by omega))
  exact .inl (My hb ha hk h1 (by omega))
 rcases h2 with h2 | ⟨h2,o2⟩
 ·exact .inl (Z0i hb ha hk (by omega) h2)
 refine .inr ⟨?_,by omega⟩;have e1:=Jo hb ha hk (show T.L a n*T.L b c<=T.L b n*T.L a c by omega) (show T.L b n*T.L k c<=T.L k n*T.L b c by omega);have e2:=Jo hb hk ha (show T.L k n*T.L b c<=T.L b n*T.L k c by omega) (show T.L b n*T.L a c<=T.L a n*T.L b c by omega);omega
def elig (lk c:Nat)(T:UC)(k:Nat):Prop:=T.own k<=lk/\0<T.L k c
section
variable {P:TR}{w:World}{K:TQ}{mg:TB}{base:Heap}{C:Addr}
def goB (n c:Nat)(T:UC)(a b:Nat):Bool:=if T.L a n*T.L b c=T.L b n*T.L a c then decide (T.own a<T.own b) else decide (T.L a n*T.L b c<T.L b n*T.L a c)
inductive spGoes (C:Addr) (vs:TY) (H:Hp) (Q:VK) (_z3:XK):Prop
 | i (p:Addr) (m n lk c a b N:Nat) (T:UC) (_:vs=[.ref p,.int (c:Int),.int (a:Int),.int (b:Int)]) (_:TabAt C H p m n lk T) (_:a<m) (_:b<m) (_:c<n) (_:TabBd N m n T) (_:N<=8000) (_:Q (.bl (goB n c T a b)) H)
theorem Z4o (D:Def K mg "goes_ahead" iQ UO)(tc:TabC K mg C):Has P w K mg base 1 "goes_ahead" UO (spGoes C):=by
 refine D.h9 (N:=["table","column","one","other","mine","theirs"]) fsc λH Q hr h nd=>?_;obtain⟨p,m,n,lk,c,a,b,N,T,rfl,⟨dx,la,oa,ha,las,h1,h2,h3,h4,h5,h6⟩,hA,hB,hc,bd,hN,q⟩:=h;refine⟨_,(Z9 (Zi (i:=4) nd rfl (Or.inl rfl) (Zm Y1 (Zj Zv (Zj Zv (Yi (pv 0) rfl) (pv 2) (λ_ _=>rfl)) (U4 Wt Za) (λ_ _=>rfl)) (Zj Zv (Zj Zv (Yi (pv 0) rfl) (pv 3) (λ_ _=>rfl)) (pv 1) (λ_ _=>rfl))))
  (Z9 (Zi (i:=5) nd rfl (Or.inl rfl) (Zm Y1 (Zj Zv (Zj Zv (Yi (pv 0) rfl) (pv 3) (λ_ _=>rfl)) (U4 Wt Za) (λ_ _=>rfl)) (Zj Zv (Zj Zv (Yi (pv 0) rfl) (pv 2) (λ_ _=>rfl)) (pv 1) (λ_ _=>rfl))))
  (Z9 (Y4 (Zl Yy (pv 4) (pv 5) (Zo _))
   (Zc (Zh (Xb Ss (Zj Zv (Yi (pv 0) rfl) (pv 2) (λ_ _=>rfl)) (Zj Zv (Yi (pv 0) rfl) (pv 3) (λ_ _=>rfl)) (Zo _))))
   Zp)
  (Zc (Zh (Xb Ss (pv 4) (pv 5) (Zo _))))))),?_⟩
 have ea:las[a]?=some (las[a]'(by omega)):=by simp
 have eb:las[b]?=some (las[b]'(by omega)):=by simp
 have la':=h4 a _ ea;have lb':=h4 b _ eb;have va:(las.map V.ref)[a]?=some (V.ref (las[a]'(by omega))):=by rw[YF,ea];rfl
 have vb:(las.map V.ref)[b]?=some (V.ref (las[b]'(by omega))):=by rw[YF,eb];rfl
 have atc:∀ i,atI ((lineI n T i).map V.int) (c:Int)=some (V.int (T.L i c)):=λi=>Zg (Xf (W0 (XZ hc)));refine⟨_,rfl,p,C,dx,_,_,rfl,h1,tc.cl,tc.nL,W3,_,rfl,la,_,_,_,rfl,rfl,SqL.of h2,Zg va,_,rfl,_,_,_,_,rfl,rfl,SqL.of la',Nz,?_⟩;refine⟨_,rfl,p,C,dx,_,_,rfl,h1,tc.cl,tc.nL,W3,_,rfl,la,_,_,_,rfl,rfl,SqL.of h2,Zg vb,_,rfl,_,_,_,_,rfl,rfl,SqL.of lb',atc b,_,_,rfl,rfl,(bd.l a n hA (YD n)).mulOk (bd.l b c hB (XZ hc)) (by omega) (by omega),?_⟩;refine⟨_,rfl,p,C,dx,_,_,rfl,h1,tc.cl,tc.nL,W3,_,rfl,la,_,_,_,rfl,rfl,SqL.of h2,Zg vb,_,rfl,_,_,_,_,rfl,rfl,SqL.of lb',Nz,?_⟩;refine⟨_,rfl,p,C,dx,_,_,rfl,h1,tc.cl,tc.nL,W3,_,rfl,la,_,_,_,rfl,rfl,SqL.of h2,Zg va,_,rfl,_,_,_,_,rfl,rfl,SqL.of la',atc a,_,_,rfl,rfl,(bd.l b n hB (YD n)).mulOk (bd.l a c hA (XZ hc)) (by omega) (by omega),?_⟩;refine⟨_,rfl,_,rfl,rfl,_,rfl,?_⟩;unfold goB at q;refine X6 (λh=>?_) (λh=>?_)
 ·have e:T.L a n*T.L b c=T.L b n*T.L a c:=V.int.inj (XH h);rw[YJ e] at q;refine⟨_,rfl,p,C,dx,_,_,rfl,h1,tc.cl,tc.nO,Xd,_,rfl,oa,_,_,_,rfl,rfl,SqL.of h5,Zg (Xf (Vr hA)),_,rfl,p,C,dx,_,_,rfl,h1,tc.cl,tc.nO,Xd,_,rfl,oa,_,_,_,rfl,rfl,SqL.of h5,Zg (Xf (Vr hB)),_,_,rfl,rfl,?_⟩;have e2:decide ((T.own a:Int)<(T.own b:Int))=decide (T.own a<T.own b):=by simp
  show Q (.bl (decide ((T.own a:Int)<(T.own b:Int)))) H;rw[e2];exact q
 have e:¬ T.L a n*T.L b c=T.L b n*T.L a c:=λz=>h (XQ (by show V.int _=V.int _;rw[z]));rw[YH e] at q;exact⟨_,rfl,_,rfl,_,_,rfl,rfl,q⟩
inductive spGoing (C:Addr) (vs:TY) (H:Hp) (Q:VK) (_z3:XK):Prop
 | i (p:Addr) (m n lk c N:Nat) (T:UC) (_:vs=[.ref p,.int (c:Int)]) (_:TabAt C H p m n lk T) (_:c<n) (_:m<=1000) (_:TabBd N m n T) (_:N<=8000) (_:(∃ k,k<m/\elig lk c T k)) (_:∀ (H':Hp) (b:Nat),Same H H'->b<m->elig lk c T b->(∀ k,k<m->elig lk c T k->Ahead n c T b k)->Q (.int (b:Int)) H')
theorem Z2l (D:Def K mg "going_out" iU ["table","column"])(T0:Blt mg)(tc:TabC K mg C)(gA:Has P w K mg base 1 "goes_ahead" UO (spGoes C)):Has P w K mg base 2 "going_out" ["table","column"] (spGoing C):=by
 refine D.h9 (N:=["table","column","first","place","owner"]) fsc λH Q hr h nd=>?_;obtain⟨p,m,n,lk,c,N,Tb,rfl,tab,hc,hm,bd,hN,hex,k⟩:=h;obtain⟨dx,la,oa,ha,las,h1,h2,h3,h4,h5,h6⟩:=id tab;have T:=T0;refine⟨_,(Z9 (Zi (i:=2) nd rfl (Or.inl rfl) Yj)
  (Z9 (Xm XY rfl (Q4 rfl T.enumerate (Z0 (Yi (pv 0) rfl) Z8)) (W9 (n:=2) rfl (Y3 (Zk (i:=3) nd rfl (Or.inl rfl)) (Y3 (Zk (i:=4) nd rfl (Or.inl rfl)) Xl)))
   (Zc (Y4 (PW.pt (Na (Zl Cw (pv 4) (Yi (pv 0) rfl) (Zo _)) (Rg (Zl Q5 (Zj Zv (Zj Zv (Yi (pv 0) rfl) (pv 3) (λ_ _=>rfl)) (pv 1) (λ_ _=>rfl)) Za (Zo _)))))
    (Zc (Y4 (PW.pt (Wf (Zl Uq (pv 2) Yj (Zo _)) (W8 (Yr (Zf gA hr (Z0 (pv 0) (Z0 (pv 1) (Z0 (pv 3) (Z0 (pv 2) Z8)))))))))
     (Zc (Zi (i:=2) nd rfl (Or.inl rfl) (pv 3)))
     Zp))
    Zp)))
  (Zc (Zh (pv 2))))),?_⟩
 have ol:=U7 m Tb;refine⟨_,rfl,p,C,dx,_,_,rfl,h1,tc.cl,tc.nO,Xd,oa,rfl,⟨_,SqL.of h5⟩,Sh (K:=K) (a:=oa) (xs:=(ownI m Tb).map V.int) (λi σ H'=>Same H H'/\∃ x y:Option V,((∀ k,k<i->¬ elig lk c Tb k)/\σ=[some (.ref p),some (.int (c:Int)),some .non,x,y]) \/ ∃ b,b<i/\b<m/\elig lk c Tb b/\(∀ k,k<i->elig lk c Tb k->Ahead n c Tb b k)/\σ=[some (.ref p),some (.int (c:Int)),some (.int (b:Int)),x,y]) ⟨Same.refl _,none,none,.inl ⟨λk hk=>by omega,rfl⟩⟩ (λi σ H' _ h=>SqL.of (h.1 _ _ h5)) ?_ ?_⟩
 ·rintro i v σ H1 pp hi ⟨S1,x,y,inv⟩ hp;have him:i<m:=by
   have:=(YE.mp hi).1;rw[YC,ol] at this;exact this
  rw[Xf (Vr him)] at hi
  cases hi;have S2:Same H1 (upd H1 pp (.tup [.int (i:Int),.int (Tb.own i:Int)])):=Same.new hp;have S02:=S1.trans S2;have hst:∃ fv:V,σ=[some (.ref p),some (.int (c:Int)),some fv,x,y]:=by
   rcases inv with ⟨_,e⟩ | ⟨b,_,_,_,_,e⟩
   ·exact⟨_,e⟩
   exact⟨_,e⟩
  obtain⟨fv,hst⟩:=hst;subst hst;refine⟨pp,_,rfl,SqT.of Zb,rfl,_,_,rfl,_,_,rfl,rfl,?_⟩;generalize upd H1 pp (.tup [.int (i:Int),.int (Tb.own i:Int)])=H2 at *
  have inv':((∀ k,k<i->¬ elig lk c Tb k)/\fv=.non) \/ ∃ b,b<i/\b<m/\elig lk c Tb b/\(∀ k,k<i->elig lk c Tb k->Ahead n c Tb b k)/\fv=.int (b:Int):=by
   rcases inv with ⟨h,e⟩ | ⟨b,g1,g2,g3,g4,e⟩
   ·injection e with _ e
    injection e with _ e
    injection e with e _
    injection e with e
    exact .inl ⟨h,e⟩
   injection e with _ e
   injection e with _ e
   injection e with e _
   injection e with e
   exact .inr ⟨b,g1,g2,g3,g4,e⟩
  have skip:¬ elig lk c Tb i->Same H H2/\∃ x y:Option V,((∀ k,k<i+1->¬ elig lk c Tb k)/\[some (V.ref p),some (V.int (c:Int)),some fv,some (V.int (i:Int)),some (V.int (Tb.own i:Int))]=[some (.ref p),some (.int (c:Int)),some .non,x,y]) \/ ∃ b,b<i+1/\b<m/\elig lk c Tb b/\(∀ k,k<i+1->elig lk c Tb k->Ahead n c Tb b k)/\[some (V.ref p),some (V.int (c:Int)),some fv,some (V.int (i:Int)),some (V.int (Tb.own i:Int))]=[some (.ref p),some (.int (c:Int)),some (.int (b:Int)),x,y]:=λhne=>by
   refine⟨S02,some (.int (i:Int)),some (.int (Tb.own i:Int)),?_⟩;rcases inv' with ⟨h,rfl⟩ | ⟨b,g1,g2,g3,g4,rfl⟩
   ·refine .inl ⟨λk hk=>?_,rfl⟩;by_cases q:k=i
    ·subst q;exact hne
    exact h k (by omega)
   refine .inr ⟨b,by omega,g2,g3,λk hk hk2=>?_,rfl⟩;by_cases q:k=i
   ·subst q;exact absurd hk2 hne
   exact g4 k (by omega) hk2
  refine⟨_,rfl,_,rfl,p,C,dx,_,_,rfl,S02 _ _ h1,tc.cl,tc.nK,Nq,_,_,rfl,rfl,_,rfl,?_⟩;refine X6 (λh=>?_) (λh=>?_)
  ·have hle:Tb.own i<=lk:=by have:=XH h;omega
   have ei:las[i]?=some (las[i]'(by omega)):=by simp
   refine⟨_,rfl,p,C,dx,_,_,rfl,S02 _ _ h1,tc.cl,tc.nL,W3,_,rfl,la,_,_,_,rfl,rfl,SqL.of (S02 _ _ h2),Zg (show (las.map V.ref)[i]?=_ by rw[YF,ei];rfl),_,rfl,_,_,_,_,rfl,rfl,SqL.of (S02 _ _ (h4 i _ ei)),Zg (Xf (W0 (XZ hc))),_,_,rfl,rfl,_,rfl,?_⟩;refine X6 (λh'=>?_) (λh'=>?_)
   ·have hpos:0<Tb.L i c:=XH h';have hel:elig lk c Tb i:=⟨hle,hpos⟩;rcases inv' with ⟨hno,rfl⟩ | ⟨b,g1,g2,g3,g4,rfl⟩
    ·refine⟨_,rfl,rfl,_,rfl,Jj rfl ⟨_,rfl,S02,_,_,.inr ⟨i,by omega,him,hel,λk hk hk2=>?_,rfl⟩⟩⟩;by_cases q:k=i
     ·subst q;exact .inr ⟨rfl,YD _⟩
     exact absurd hk2 (hno k (by omega))
    refine⟨_,rfl,rfl,_,rfl,Pn (λz=>nomatch z) ?_⟩;refine⟨_,rfl,_,rfl,_,rfl,_,rfl,p,m,n,lk,c,i,b,N,Tb,rfl,tab.same S02,him,g2,hc,bd,hN,_,rfl,?_⟩;refine Z2z (λhg=>?_) (λhg=>?_)
    ·have hib:Ahead n c Tb i b:=by
      unfold goB at hg;split at hg
      ·rename_i e
       have:=XH hg;exact .inr ⟨e,by omega⟩
      exact .inl (XH hg)
     refine⟨_,rfl,S02,_,_,.inr ⟨i,by omega,him,hel,λk hk hk2=>?_,rfl⟩⟩;by_cases q:k=i
     ·subst q;exact .inr ⟨rfl,YD _⟩
     exact Ahead.trans hpos g3.2 hk2.2 hib (g4 k (by omega) hk2)
    have hbi:Ahead n c Tb b i:=by
     unfold goB at hg;split at hg
     ·rename_i e
      have:=Y0Y hg;exact .inr ⟨e.symm,by omega⟩
     rename_i e
     have:=Y0Y hg;exact .inl (by omega)
    refine⟨S02,_,_,.inr ⟨b,by omega,g2,g3,λk hk hk2=>?_,rfl⟩⟩;by_cases q:k=i
    ·subst q;exact hbi
    exact g4 k (by omega) hk2
   exact skip λz=>h' (XQ z.2)
  exact skip λz=>h (XQ (by have:=z.1;omega))
 rintro σ H1 ⟨S1,x,y,inv⟩;rw[YC,ol] at inv;rcases inv with ⟨hno,rfl⟩ | ⟨b,g1,g2,g3,g4,rfl⟩
 ·obtain⟨k',hk',he⟩:=hex;exact absurd he (hno k' hk')
 exact⟨_,rfl,k H1 b S1 g2 g3 g4⟩
inductive spReplaced (vs:TY) (H:Hp) (Q:VK) (_z3:XK):Prop
 | i (a:Addr) (i:Nat) (v:V) (xs:TY) (_:vs=[.ref a,.int (i:Int),v]) (_:H a=some (.lst xs)) (_:i<xs.length) (_:∀ (d:Addr) (H':Hp),H d=none->Same H H'->H' d=some (.lst (xs.set i v))->Q (.ref d) H')
theorem Kc (D:Def K mg "replaced" iS UP)(T:Blt mg):Has P w K mg base 1 "replaced" UP spReplaced:=by
 refine D.h9 (N:=["numbers","place","number","told"]) fsc λH Q hr h nd=>?_;obtain⟨a,i,v,xs,rfl,ha,hi,k⟩:=h;refine⟨_,(Z9 (Zi (i:=3) nd rfl (Or.inl rfl) (Zw Y9 rfl T.list XA (Z0 (pv 0) Z8)))
  (Z9 (Vq (pv 2) (Tt (pv 3) (pv 1) V9))
  (Zc (Zh (pv 3))))),?_⟩
 refine⟨_,rfl,a,_,rfl,.inl (SqL.of ha),λd hd=>?_⟩;refine⟨_,rfl,_,rfl,_,rfl,d,_,_,i,rfl,rfl,Zb,Km (by omega) (by omega),?_⟩;refine⟨_,rfl,k d _ hd (λq o e=>?_) Zb⟩;rw[Ze (Zd e hd),Ze (Zd e hd)];exact e
def freedI (xs zs:TU)(c:Nat)(b:Int):List Int:=((List.range xs.length).map λj=>(xs.getD j 0*zs.getD c 0 - xs.getD c 0*zs.getD j 0).fdiv b).set c (-xs.getD c 0)
inductive spFreed (vs:TY) (H:Hp) (Q:VK) (_z3:XK):Prop
 | i (a k:Addr) (c N:Nat) (b:Int) (xs zs:TU) (_:vs=[.ref a,.ref k,.int (c:Int),.int b]) (_:H a=some (.lst (xs.map V.int))) (_:H k=some (.lst (zs.map V.int))) (_:xs.length=zs.length) (_:c<xs.length) (_:xs.length<=1000) (_:(∀ z∈xs,Bd N z)) (_:(∀ z∈zs,Bd N z)) (_:Bd N b) (_:0<b) (_:N<=8000) (_:∀ (d:Addr) (H':Hp),H d=none->Same H H'->H' d=some (.lst ((freedI xs zs c b).map V.int))->Q (.ref d) H')
theorem Z2m (D:Def K mg "freed" j5 UQ)(T:Blt mg)(eJ:Has P w K mg base 1 "replaced" UP spReplaced):Has P w K mg base 2 "freed" UQ spFreed:=by
 refine D.h9 (N:=["line","key_line","column","bottom","key","by","told"]) fsc λH Q hr h nd=>?_;obtain⟨a,k,c,N,b,xs,zs,rfl,ha,hk,hl,hc,h1000,bx,bz,bb,hb,hN,kk⟩:=h;have nd1:(["number","other","bottom","key","by"]:List Str).Nodup:=by decide +kernel
 refine⟨_,(Z9 (Zi (i:=4) nd rfl (Or.inr rfl) (Zj Zv (pv 1) (pv 2) (λ_ _=>rfl)))
  (Z9 (Zi (i:=5) nd rfl (Or.inr rfl) (Zj Zv (pv 0) (pv 2) (λ_ _=>rfl)))
  (Z9 (Wi (i:=6) (N:=["number","other","bottom","key","by"]) (k:=2) (fv:=[3,4,5]) nd rfl (Or.inl rfl) rfl (Nb rfl T.zip (Z0 (pv 0) (Z0 (pv 1) Z8)))
  (λ_ _ _ _ _=>W9 (n:=2) rfl (Y3 (Zk (i:=0) nd1 rfl (Or.inl rfl)) (Y3 (Zk (i:=1) nd1 rfl (Or.inl rfl)) Xl))) (λ_ _ _ _ _=>Ya) (λ_ _ _ _ _=>(Zm Wj (Zm Up (Zm Y1 (pv 0) (pv 3)) (Zm Y1 (pv 4) (pv 1))) (pv 2))) V8)
  (Zc (Zh (Zf eJ hr (Z0 (pv 6) (Z0 (pv 2) (Z0 (U4 Wt (pv 5)) Z8))))))))),?_⟩
 have ex:∀ j,j<xs.length->xs[j]?=some (xs.getD j 0):=λj hj=>by simp[List.getD,hj]
 have ez:∀ j,j<xs.length->zs[j]?=some (zs.getD j 0):=λj hj=>by simp[List.getD,show j<zs.length by omega]
 have bxj:∀ j,Bd N (xs.getD j 0):=No bx;have bzj:∀ j,Bd N (zs.getD j 0):=No bz;refine⟨_,rfl,_,rfl,k,_,_,_,rfl,rfl,SqL.of hk,Zg (Xf (ez c hc)),?_⟩;refine⟨_,rfl,_,rfl,a,_,_,_,rfl,rfl,SqL.of ha,Zg (Xf (ex c hc)),?_⟩;refine⟨_,rfl,_,rfl,a,k,rfl,⟨_,SqL.of ha⟩,⟨_,SqL.of hk⟩,λd hd=>?_⟩;refine⟨xs.length,λj ys H2=>Same H H2/\ys=(((List.range xs.length).map λj=>(xs.getD j 0*zs.getD c 0 - xs.getD c 0*zs.getD j 0).fdiv b).take j).map V.int,Zq h1000,⟨Same.new hd,rfl⟩,?_,?_⟩
 ·rintro j ys H2 hj ⟨S2,rfl⟩ hd2;refine⟨⟨_,_,SqL.of (S2 _ _ ha),SqL.of (S2 _ _ hk),by rw[YC];exact hj,by rw[YC];omega⟩,?_⟩;rintro x H3 ⟨pp,x0,y0,rfl,hp,rfl,fx,fy⟩;have e1:x0=V.int (xs.getD j 0):=by
   have:=fx _ (SqL.of (S2 _ _ ha));rw[Xf (ex j hj)] at this;exact (YK this).symm
  have e2:y0=V.int (zs.getD j 0):=by
   have:=fy _ (SqL.of (S2 _ _ hk));rw[Xf (ez j hj)] at this;exact (YK this).symm
  subst e1 e2;have hpd:d≠pp:=Zd hd2 hp;refine Ri (SqT.of Zb) ?_;refine⟨_,rfl,_,rfl,_,_,rfl,rfl,(bxj j).mulOk (bzj c) (by omega) (by omega),_,rfl,_,rfl,_,_,rfl,rfl,(bxj c).mulOk (bzj j) (by omega) (by omega),_,_,rfl,rfl,_,rfl,_,_,rfl,rfl,⟨by omega,bb.log (by omega)⟩,by rw[Ze hpd];exact hd2,λq o e=>?_,?_⟩
  ·have:=S2 _ _ e;rw[Ze (Zd e hd),Ze (Zd this hp)];exact this
  rw[Xy _ (show (List.range xs.length)[j]?=some j by simp[hj]),XR];rfl
 rintro ys H2 ⟨S2,rfl⟩ hd2;rw[YM (by simp)] at hd2;refine⟨⟨_,_,SqL.of (S2 _ _ ha),SqL.of (S2 _ _ hk),by rw[YC]⟩,?_⟩;refine⟨_,rfl,_,rfl,_,rfl,_,rfl,d,c,_,_,rfl,hd2,by simp;exact hc,λd2 H3 f3 S3 e3=>?_⟩;refine kk d2 H3 ?_ (S2.trans S3) ?_
 ·cases q:H d2 with
  | none=>rfl
  | some o=>rw[S2 _ _ q] at f3;cases f3
 rw[e3];unfold freedI;rw[jb]
end
end Sb
namespace Sv
section
variable {m n lk i0:Nat}{col:Nat->Vec}{rhs:Vec}{K:Nat}{S:Nat->Tab}{P C:TW}
theorem Run.more (R:Run m n lk i0 col rhs K S P C){p c:Nat}(s:Step m n lk i0 (S K) p c)(h:p≠i0) :
  ∃ S' P' C',Run m n lk i0 col rhs (K+1) S' P' C'/\S' (K+1)=piv (S K) p c:=by
 refine⟨λt=>if t<=K then S t else piv (S K) p c,λt=>if t<K then P t else p,λt=>if t<K then C t else c,⟨R.h0,?_,?_,λk hk=>?_,λk hk=>?_,λk hk=>?_⟩,?_⟩
 ·show Inv m n col rhs (if 0<=K then S 0 else _);rw[YJ (by omega)];exact R.I0
 ·show Feas m n lk (if 0<=K then S 0 else _);rw[YJ (by omega)];exact R.F0
 ·show Step m n lk i0 (if k<=K then S k else _) (if k<K then P k else p) (if k<K then C k else c);rw[YJ (by omega)];by_cases q:k<K
  ·rw[YJ q,YJ q];exact R.st k q
  have:k=K:=by omega
  subst this;rw[YH q,YH q];exact s
 ·show (if k<K then P k else p)≠i0;by_cases q:k<K
  ·rw[YJ q];exact R.stay k q
  rw[YH q];exact h
 ·show (if k+1<=K then S (k+1) else piv (S K) p c)=piv (if k<=K then S k else _) (if k<K then P k else p) (if k<K then C k else c);by_cases q:k<K
  ·rw[YJ (by omega),YJ (by omega),YJ q,YJ q];exact R.nx k q
  have:k=K:=by omega
  subst this;rw[YH (by omega),YJ (by omega),YH q,YH q]
 show (if K+1<=K then _ else _)=_;rw[YH (by omega)]
theorem Run.start (h0:i0<m){T:Tab}(I:Inv m n col rhs T)(F:Feas m n lk T):Run m n lk i0 col rhs 0 (λ_=>T) (λ_=>0) (λ_=>0) :=
 ⟨h0,I,F,λk hk=>by omega,λk hk=>by omega,λk hk=>by omega⟩
end
end Sv
namespace Sb
open PySem L2
section
variable {P:TR}{w:World}{K:TQ}{mg:TB}{base:Heap}{C:Addr}
theorem Xh (f:Str)(v:V):∀ fs:List (Str × V),(putF f v fs).length<=fs.length+1
 | []=>YD _
 | (g,x)::r=>by
  have:=Xh f v r;unfold putF;split
  ·simp
  simp only [JT];omega
inductive spInitT (C:Addr) (vs:TY) (H:Hp) (Q:VK) (_z3:XK):Prop
 | i (p dx:Addr) (a b c d e:V) (_:vs=[.ref p,a,b,c,d,e]) (_:H p=some (.ins C dx [])) (_:∀ H',H' p=some (.ins C dx (fldsT a b c d e))->(∀ q o,H q=some o->q≠p->H' q=some o)->Q .non H')
theorem Z19:FnScope US US (defScope iG):=fsc
theorem Z28 {fd:FuncData}(F:Fun K "__init__" "Table.__init__" iG f fd)(tc:TabC K mg C):FnOk P w K mg base CX0 1 f fd US (spInitT C):=by
 refine F.ok Z19 (λvs H Q E h=>?_) (λcdv A outer s H vs Q E hr h=>?_)
 ·obtain⟨p,dx,a,b,c,d,e,rfl,_⟩:=h;rfl
 obtain⟨p,dx,a,b,c,d,e,rfl,hp,k⟩:=h;refine⟨_,Z9 (Q3 (pv 0) (pv 1) rfl) (Z9 (Q3 (pv 0) (pv 2) rfl) (Z9 (Q3 (pv 0) (pv 3) rfl) (Z9 (Q3 (pv 0) (pv 4) rfl) (Zc (Q3 (pv 0) (pv 5) rfl))))),?_⟩;refine⟨_,rfl,_,rfl,p,C,dx,_,rfl,hp,tc.cl,tc.nL,(by show 0<1000;decide),?_⟩;refine⟨_,rfl,_,rfl,p,C,dx,_,rfl,Zb,tc.cl,tc.nO,(by show 1<1000;decide),?_⟩;refine⟨_,rfl,_,rfl,p,C,dx,_,rfl,Zb,tc.cl,tc.nH,?_,?_⟩
 ·have z1:=Xh "owners" b (putF "lines" a []);have z2:=Xh "lines" a [];simp only [jv] at z2;omega
 refine⟨_,rfl,_,rfl,p,C,dx,_,rfl,Zb,tc.cl,tc.nB,?_,?_⟩
 ·have z1:=Xh "owners" b (putF "lines" a []);have z2:=Xh "lines" a [];have z3:=Xh "heads" c (putF "owners" b (putF "lines" a []));simp only [jv] at z2;omega
 refine⟨_,rfl,_,rfl,p,C,dx,_,rfl,Zb,tc.cl,tc.nK,?_,?_⟩
 ·have z1:=Xh "owners" b (putF "lines" a []);have z2:=Xh "lines" a [];have z3:=Xh "heads" c (putF "owners" b (putF "lines" a []));have z4:=Xh "bottom" d (putF "heads" c (putF "owners" b (putF "lines" a [])));simp only [jv] at z2;omega
 refine k _ Zb λq o e hq=>?_;rw[Ze hq,Ze hq,Ze hq,Ze hq,Ze hq];exact e
def HasT (P:TR)(w:World)(K:TQ)(mg:TB)(base:Heap)(C:Addr):Prop:=∃ (f:Addr) (fd:FuncData),Mk K C f/\FnOk P w K mg base CX0 1 f fd US (spInitT C)/\Binds K fd US []
theorem Vk {n:Nat}{xs:TU}{f:TX}(hl:xs.length=n)(h:∀ i,i<n->xs[i]?=some (f i)):xs=(List.range n).map f:=by
 apply Y0h;intro i;by_cases q:i<n
 ·rw[h i q];simp[q]
 rw[jf (by omega),jf (by simp;omega)]
theorem Z21 {m p c:Nat}(hp:p<m):(ownI m T).set p (T.hd c:Int)=ownI m (Sv.piv T p c):=by
 refine Vk (by rw[qc,U7]) λi hi=>?_;show _=some ((Sv.up T.own p (T.hd c) i:Nat):Int);unfold Sv.up;by_cases e:i=p
 ·subst e;rw[JP (by rw[U7];exact hi),YJ rfl]
 rw[GE (XJ e),Vr hi,YH e]
theorem Z51 {n p c:Nat}(hc:c<n):(hdI n T).set c (T.own p:Int)=hdI n (Sv.piv T p c):=by
 refine Vk (by rw[qc,Vx]) λi hi=>?_;show _=some ((Sv.up T.hd c (T.own p) i:Nat):Int);unfold Sv.up;by_cases e:i=c
 ·subst e;rw[JP (by rw[Vx];exact hi),YJ rfl]
 rw[GE (XJ e),Uv hi,YH e]
theorem Z2y {n p c:Nat}(hc:c<n):(lineI n T p).set c T.b=lineI n (Sv.piv T p c) p:=by
 refine Vk (by rw[qc,Ys]) λj hj=>?_;show _=some (Sv.newL T p c p j);unfold Sv.newL;rw[YJ rfl];by_cases e:j=c
 ·subst e;rw[JP (by rw[Ys];exact hj),YJ rfl]
 rw[GE (XJ e),W0 (by omega),YH e]
theorem Wx {n i:Nat}(h:j<=n):(lineI n T i).getD j 0=T.L i j:=by
 simp only [List.getD,W0 h];rfl
theorem Z06 {n p c i:Nat}(hc:c<n)(h:i≠p):freedI (lineI n T i) (lineI n T p) c T.b=lineI n (Sv.piv T p c) i:=by
 unfold freedI;refine Vk (by rw[qc];simp[Ys]) λj hj=>?_;show _=some (Sv.newL T p c i j);unfold Sv.newL;rw[YH h,Ys];by_cases e:j=c
 ·subst e;rw[JP (by simpa using hj),YJ rfl,Wx (by omega)]
 rw[GE (XJ e),YH e];simp only [YF,show (List.range (n+1))[j]?=some j by simp[hj],qd];rw[Wx (by omega),Wx (by omega),Wx (by omega),Wx (by omega)]
theorem Mr {N m n i:Nat}(h:TabBd N m n T)(hi:i<m):∀ z∈lineI n T i,Bd N z:=λz hz=>by
 unfold lineI at hz;obtain⟨j,hj,rfl⟩:=XM.mp hz;exact h.l i j hi (by have:=qi.mp hj;omega)
inductive spExch (C:Addr) (vs:TY) (H:Hp) (Q:VK) (_z3:XK):Prop
 | i (p:Addr) (m n lk pl c N:Nat) (T:UC) (_:vs=[.ref p,.int (pl:Int),.int (c:Int)]) (_:TabAt C H p m n lk T) (_:pl<m) (_:c<n) (_:m<=900) (_:n<=900) (_:TabBd N m n T) (_:N<=8000) (_:0<T.b) (_:∀ (q:Addr) (H':Hp),Same H H'->TabAt C H' q m n lk (Sv.piv T pl c)->Q (.ref q) H')
theorem Z4q (D:Def K mg "exchanged" iR UT)(tc:TabC K mg C)(hT:HasT P w K mg base C)(hG:Has P w K mg base 2 "freed" UQ spFreed)(eJ:Has P w K mg base 1 "replaced" UP spReplaced):Has P w K mg base 3 "exchanged" UT (spExch C):=by
 refine D.h9 (N:=["table","place","column","key_line","lines"]) fsc λH Q hr h nd=>?_;obtain⟨p,m,n,lk,pl,c,N,T,rfl,tab,hp,hc,hm,hn,bd,hN,hb,k⟩:=h;obtain⟨dx,la,oa,ha,las,h1,h2,h3,h4,h5,h6⟩:=id tab;obtain⟨fI,fdI,tTableM,tTableG,tTableB⟩:=hT;have tTableC:=tc.mgC;have nd1:(["line","table","column","key_line"]:List Str).Nodup:=by decide +kernel
 refine⟨_,(Z9 (Zi (i:=3) nd rfl (Or.inr rfl) (Zj Zv (Yi (pv 0) rfl) (pv 1) (λ_ _=>rfl)))
  (Z9 (Wi (i:=4) (N:=["line","table","column","key_line"]) (k:=1) (fv:=[0,2,3]) nd rfl (Or.inl rfl) rfl (Xk (Yi (pv 0) rfl))
  (λ_ _ _ _ _=>Zk (i:=0) nd1 rfl (Or.inl rfl)) (λ_ _ _ _ _=>Ya) (λ_ _ _ _ _=>(Zf hG hr (Z0 (pv 0) (Z0 (pv 3) (Z0 (pv 2) (Z0 (Nc (K:=K) (pv 1) rfl) Z8)))))) Y0)
  (Zc (Zh (J8 tTableM tTableG (hr.mono (by decide)) rfl tTableC tTableB .nil Ja (Z0 (Zf eJ hr (Z0 (pv 4) (Z0 (pv 1) (Z0 (Zf eJ hr (Z0 (pv 3) (Z0 (pv 2) (Z0 (Yi (pv 0) rfl) Z8)))) Z8)))) (Z0 (Zf eJ hr (Z0 (Yi (pv 0) rfl) (Z0 (pv 1) (Z0 (Zj Zv (Yi (pv 0) rfl) (pv 2) (λ_ _=>rfl)) Z8)))) (Z0 (Zf eJ hr (Z0 (Yi (pv 0) rfl) (Z0 (pv 2) (Z0 (Zj Zv (Yi (pv 0) rfl) (pv 1) (λ_ _=>rfl)) Z8)))) (Z0 (Zj Zv (pv 3) (pv 2) (λ_ _=>rfl)) (Z0 (Yi (pv 0) rfl) Z8)))))))))),?_⟩
 have ep:las[pl]?=some (las[pl]'(by omega)):=by simp
 have hkl:=h4 pl _ ep;generalize las[pl]'(by omega)=kl at *
 refine⟨_,rfl,p,C,dx,_,_,rfl,h1,tc.cl,tc.nL,W3,_,rfl,la,_,_,_,rfl,rfl,SqL.of h2,Zg (show (las.map V.ref)[pl]?=some (V.ref kl) by rw[YF,ep];rfl),?_⟩;refine⟨_,rfl,p,C,dx,_,_,rfl,h1,tc.cl,tc.nL,W3,la,rfl,⟨_,SqL.of h2⟩,λd hd=>?_⟩;refine⟨m,λi ys H2=>Same H H2/\∃ ns:List Addr,ys=ns.map V.ref/\ns.length=i/\∀ (t:Nat) (a:Addr),ns[t]?=some a->a≠d/\H2 a=some (.lst ((freedI (lineI n T t) (lineI n T pl) c T.b).map V.int)),Zq (by omega),⟨Same.new hd,[],rfl,rfl,λt a e=>by simp at e⟩,?_,?_⟩
 ·rintro i ys H2 hi ⟨S2,ns,rfl,l2,q2⟩ hd2;have ei:las[i]?=some (las[i]'(by omega)):=by simp
  refine⟨⟨_,V.ref (las[i]'(by omega)),SqL.of (S2 _ _ h2),by simp⟩,?_⟩;rintro x H3 ⟨rfl,fx⟩;have ex:x=V.ref (las[i]'(by omega)):=by
   have:=fx _ (SqL.of (S2 _ _ h2));rw[YF,ei] at this;exact (YK this).symm
  subst ex;refine Yh ?_;refine⟨_,rfl,_,rfl,_,rfl,_,rfl,p,C,dx,_,_,rfl,S2 _ _ h1,tc.cl,tc.nB,Vj,?_⟩;refine⟨_,kl,c,N,T.b,lineI n T i,lineI n T pl,rfl,S2 _ _ (h4 i _ ei),S2 _ _ hkl,by rw[Ys,Ys],by rw[Ys];omega,by rw[Ys];omega,Mr bd hi,Mr bd hp,bd.b,hb,hN,λa4 H4 f4 S4 e4=>?_⟩;have hd4:=S4 _ _ hd2;refine⟨hd4,λq o e=>?_,ns++[a4],by rw[XR];rfl,by rw[YS,l2];rfl,λt a e=>?_⟩
  ·rw[Ze (Zd e hd)];exact S4 _ _ (S2 _ _ e)
  by_cases q:t<ns.length
  ·rw[JA q] at e;have:=q2 t a e;refine⟨this.1,?_⟩;rw[Ze this.1];exact S4 _ _ this.2
  rw[XW (by omega)] at e;have hk0:t - ns.length=0:=by
   have:=(YE.mp e).1;simp at this;omega
  rw[hk0] at e
  cases e;have hti:t=i:=by omega
  subst hti;have hne:a4≠d:=λz=>by rw[z] at f4;rw[f4] at hd2;cases hd2
  refine⟨hne,?_⟩;rw[Ze hne];exact e4
 rintro ys H2 ⟨S2,ns,rfl,l2,q2⟩ hd2;refine⟨⟨_,SqL.of (S2 _ _ h2),by simp[h3]⟩,?_⟩;refine⟨_,rfl,_,rfl,_,rfl,_,rfl,_,rfl,p,C,dx,_,_,rfl,S2 _ _ h1,tc.cl,tc.nB,Vj,kl,c,_,_,rfl,S2 _ _ hkl,by rw[YC,Ys];omega,λd1 H3 f3 S3 e3=>?_⟩;refine⟨d,pl,_,_,rfl,S3 _ _ hd2,by rw[YC];omega,λd2 H4 f4 S4 e4=>?_⟩;have S04:=(S2.trans S3).trans S4;refine⟨_,rfl,p,C,dx,_,_,rfl,S04 _ _ h1,tc.cl,tc.nO,Xd,_,rfl,_,rfl,p,C,dx,_,_,rfl,S04 _ _ h1,tc.cl,tc.nH,Vi,_,rfl,ha,_,_,_,rfl,rfl,SqL.of (S04 _ _ h6),Zg (Xf (Uv hc)),oa,pl,_,_,rfl,S04 _ _ h5,by rw[YC,U7];omega,λd3 H5 f5 S5 e5=>?_⟩;have S05:=S04.trans S5;refine⟨_,rfl,p,C,dx,_,_,rfl,S05 _ _ h1,tc.cl,tc.nH,Vi,_,rfl,_,rfl,p,C,dx,_,_,rfl,S05 _ _ h1,tc.cl,tc.nO,Xd,_,rfl,oa,_,_,_,rfl,rfl,SqL.of (S05 _ _ h5),Zg (Xf (Vr hp)),ha,c,_,_,rfl,S05 _ _ h6,by rw[YC,Vx];omega,λd6 H6 f6 S6 e6=>?_⟩;have S06:=S05.trans S6;refine⟨_,rfl,_,rfl,kl,_,_,_,rfl,rfl,SqL.of (S06 _ _ hkl),Zg (Xf (W0 (XZ hc))),_,rfl,p,C,dx,_,_,rfl,S06 _ _ h1,tc.cl,tc.nK,Nq,λx dx2 hx hdx hne=>?_⟩;have SU:Same H6 (upd (upd H6 dx2 (.own x)) x (.ins C dx2 [])):=λq o e=>by
  rw[Ze (Zd e hx),Ze (Zd e hdx)];exact e
 refine⟨x,dx2,_,_,_,_,_,rfl,Zb,λH7 e7 S7=>⟨rfl,?_⟩⟩;have SV:Same H6 H7:=λq o e=>S7 q o (SU q o e) (Zd e hx);refine k x H7 (S06.trans SV) ⟨dx2,d2,d3,d6,ns.set pl d1,e7,SV _ _ (S6 _ _ (S5 _ _ (by rw[e4,jb]))),by rw[qc];exact l2,λi a e=>?_,SV _ _ (S6 _ _ (by rw[e5,<-Z21 hp,jb])),SV _ _ (by rw[e6,<-Z51 hc,jb])⟩;by_cases q:i=pl
 ·subst q;rw[JP (by omega)] at e
  cases e;refine SV _ _ (S6 _ _ (S5 _ _ (S4 _ _ ?_)));rw[e3,<-Z2y hc,jb]
 rw[GE (XJ q)] at e;refine SV _ _ (S6 _ _ (S5 _ _ (S4 _ _ (S3 _ _ ?_))));rw[(q2 i a e).2,Z06 hc q]
end
section
variable {P:TR}{w:World}{K:TQ}{mg:TB}{base:Heap}{C:Addr}
inductive spFirst (C:Addr) (vs:TY) (H:Hp) (Q:VK) (_z3:XK):Prop
 | i (la:Addr) (m n:Nat) (las:TJ) (T:UC) (_:vs=[.ref la]) (_:H la=some (.lst (las.map V.ref))) (_:las.length=m+2) (_:(∀ (i:Nat) (a:Addr),las[i]?=some a->H a=some (.lst ((lineI n T i).map V.int)))) (_:m<=900) (_:n<=900) (_:T.b=1) (_:(∀ i,T.own i=n+i)) (_:(∀ j,T.hd j=j)) (_:∀ (q:Addr) (H':Hp),Same H H'->TabAt C H' q (m+2) n (n+m) T->Q (.ref q) H')
theorem Z2n (D:Def K mg "first_table" iN ["lines"])(T0:Blt mg)(tc:TabC K mg C)(hT:HasT P w K mg base C):Has P w K mg base 3 "first_table" ["lines"] (spFirst C):=by
 refine D.h9 (N:=["lines","width","owners"]) fsc λH Q hr h nd=>?_;obtain⟨la,m,n,las,Tb,rfl,h2,h3,h4,hm,hn,hb,ho,hh,k⟩:=h;obtain⟨fI,fdI,tTableM,tTableG,tTableB⟩:=hT;have tTableC:=tc.mgC;have T:=T0;refine⟨_,(Z9 (Zi (i:=1) nd rfl (Or.inl rfl) (Zm Up (Zx Y2 rfl T.len qp (Z0 (Zj Zv (pv 0) Za (λ_ _=>rfl)) Z8)) Za))
  (Z9 (Zi (i:=2) nd rfl (Or.inl rfl) (Gm rfl rfl T.list rfl T.range (Z0 (pv 1) (Z0 (Zm Yx (pv 1) (Zx Y2 rfl T.len qp (Z0 (pv 0) Z8))) Z8))))
  (Zc (Zh (J8 tTableM tTableG (hr.mono (by decide)) rfl tTableC tTableB .nil Ja (Z0 (pv 0) (Z0 (pv 2) (Z0 (Gn rfl rfl T.list rfl T.range (Z0 (pv 1) Z8)) (Z0 Za (Z0 (Zj Zv (pv 2) (U4 Wt Za) (λ_ _=>rfl)) Z8)))))))))),?_⟩
 have e0:las[0]?=some (las[0]'(by omega)):=by simp
 have hl0:=h4 0 _ e0;generalize las[0]'(by omega)=l0 at *
 have ew:((((lineI n Tb 0).map V.int).length:Nat):Int) - 1=(n:Int):=by rw[YC,Ys];omega
 refine⟨_,rfl,la,_,_,_,rfl,rfl,SqL.of h2,Zg (show (las.map V.ref)[0]?=some (V.ref l0) by rw[YF,e0];rfl),l0,_,rfl,.inl (SqL.of hl0),?_⟩;refine⟨_,_,rfl,rfl,_,rfl,_,rfl,_,rfl,la,_,rfl,.inl (SqL.of h2),_,_,rfl,rfl,n,m+2,?_,by omega,by omega,λo ho2=>?_⟩
 ·show [V.int _,V.int (_+_)]=_;rw[ew,YC,h3];rfl
 refine⟨_,rfl,_,rfl,_,rfl,n,(by show [V.int _]=_;rw[ew]),by omega,λe he=>?_⟩;have hoe:o≠e:=λz=>by rw[<-z,Zb] at he;cases he
 have xl:(List.map (λk=>V.int ((n+k:Nat):Int)) (List.range (m+2))).length=m+2:=by simp
 refine⟨_,rfl,_,rfl,o,_,_,_,rfl,rfl,SqL.of ((Ze hoe).trans Zb),(show atI _ (-2)=some (V.int ((n+m:Nat):Int)) from ?_),λx dx2 hx hdx hne=>?_⟩
 ·unfold atI ixN;rw[xl,YH (by decide),YJ (by omega)];show (List.map (λk=>V.int ((n+k:Nat):Int)) (List.range (m+2)))[(-2+((m+2:Nat):Int)).toNat]?=_;have:(-2+((m+2:Nat):Int)).toNat=m:=by omega
  rw[this];simp
 have S2:Same H (upd (upd H o (.lst ((List.range (m+2)).map λk=>V.int ((n+k:Nat):Int)))) e (.lst ((List.range n).map λ(k:Nat)=>V.int (k:Int)))):=λq z y=>by
  rw[Ze (Zd (show upd H o _ q=some z by rw[Ze (Zd y ho2)];exact y) he),Ze (Zd y ho2)];exact y
 have ho3:upd (upd H o (.lst ((List.range (m+2)).map λk=>V.int ((n+k:Nat):Int)))) e (.lst ((List.range n).map λ(k:Nat)=>V.int (k:Int))) o=some (.lst ((ownI (m+2) Tb).map V.int)):=by
  rw[Ze hoe,Zb];unfold ownI;simp[ho,Function.comp_def]
 have he3:upd (upd H o (.lst ((List.range (m+2)).map λk=>V.int ((n+k:Nat):Int)))) e (.lst ((List.range n).map λ(k:Nat)=>V.int (k:Int))) e=some (.lst ((hdI n Tb).map V.int)):=by
  rw[Zb];unfold hdI;simp[hh,Function.comp_def]
 generalize upd (upd H o (.lst ((List.range (m+2)).map λk=>V.int ((n+k:Nat):Int)))) e (.lst ((List.range n).map λ(k:Nat)=>V.int (k:Int)))=H6 at *
 have SU:Same H6 (upd (upd H6 dx2 (.own x)) x (.ins C dx2 [])):=λq o e=>by
  rw[Ze (Zd e hx),Ze (Zd e hdx)];exact e
 refine⟨x,dx2,_,_,_,_,_,rfl,Zb,λH7 e7 S7=>⟨rfl,?_⟩⟩;have SV:Same H6 H7:=λq o e=>S7 q o (SU q o e) (Zd e hx);have S7':=S2.trans SV;exact k x H7 S7' ⟨dx2,la,o,e,las,by rw[hb];exact e7,S7' _ _ h2,h3,λi a y=>S7' _ _ (h4 i a y),SV _ _ ho3,SV _ _ he3⟩
end
section
variable {P:TR}{w:World}{K:TQ}{mg:TB}{base:Heap}{C:Addr}
def DrEnd (m n lk i0 v:Nat)(col:Nat->Sv.Vec)(rhs:Sv.Vec)(Ex:Sv.Tab->Prop)(T:UC):Prop :=
 Sv.Inv m n col rhs T/\Sv.Feas m n lk T/\Ex T/\((T.own i0=v/\∀ j,j<n->T.hd j≠lk->T.L i0 j<=0) \/ ∃ T1 c,T1.own i0=v/\Sv.Inv m n col rhs T1/\Sv.Step m n lk i0 T1 i0 c/\T=Sv.piv T1 i0 c)
inductive spDriven (C:Addr) (vs:TY) (H:Hp) (Q:VK) (_z3:XK):Prop
 | i (p:Addr) (m n lk i0 N v:Nat) (col:Nat->Sv.Vec) (rhs:Sv.Vec) (Ex:Sv.Tab->Prop) (T:UC) (_:vs=[.ref p,.int (v:Int)]) (_:TabAt C H p m n lk T) (_:i0<m) (_:m<=900) (_:n<=900) (_:N<=8000) (_:Sv.Inv m n col rhs T) (_:Sv.Feas m n lk T) (_:Ex T) (_:T.own i0=v) (_:(∀ T',Sv.Inv m n col rhs T'->TabBd N m n T')) (_:(∀ T' c,Sv.Inv m n col rhs T'->Sv.Feas m n lk T'->Ex T'->T'.own i0=v->c<n->T'.hd c≠lk->0<T'.L i0 c->∃ k,k<m/\elig lk c T' k)) (_:(∀ T' pl c,Sv.Inv m n col rhs T'->Ex T'->Sv.Step m n lk i0 T' pl c->Ex (Sv.piv T' pl c))) (_:∀ (q:Addr) (H':Hp) (T':UC),Same H H'->TabAt C H' q m n lk T'->DrEnd m n lk i0 v col rhs Ex T'->Q (.ref q) H')
theorem Bn (D:Def K mg "driven" jP UK)(tc:TabC K mg C)(gO:Has P w K mg base 2 "helping" UK (spHelping C))(gB:Has P w K mg base 3 "exchanged" UT (spExch C))(gF:Has P w K mg base 2 "going_out" ["table","column"] (spGoing C)):Has P w K mg base 4 "driven" UK (spDriven C):=by
 refine D.h9 (N:=["table","owner","column"]) fsc λH Q hr h nd=>?_;obtain⟨p,m,n,lk,i0,N,v,col,rhs,Ex,T,rfl,tab,hi0,hm,hn,hN,I0,F0,X0,hv,hbd,hle,hkp,kk⟩:=h;refine⟨_,(Z9 (Q2 XY (Zl Wo (pv 1) (Yi (pv 0) rfl) rfl)
   (Z9 (Zi (i:=2) nd rfl (Or.inl rfl) (Zf gO hr (Z0 (pv 0) (Z0 (pv 1) Z8))))
   (Z9 (Y4 (Zl Uq (pv 2) Yj (Zo _))
    (Zc (Zh (pv 0)))
    Zp)
   (Zc (Zi (i:=0) nd rfl (Or.inl rfl) (Zf gB hr (Z0 (pv 0) (Z0 (Zf gF hr (Z0 (pv 0) (Z0 (pv 2) Z8))) (Z0 (pv 2) Z8)))))))))
  (Zc (Zh (pv 0)))),?_⟩
 refine⟨λmm σ H'=>Same H H'/\∃ (q:Addr) (T':UC) (x:TZ),σ=[some (.ref q),some (.int (v:Int)),x]/\TabAt C H' q m n lk T'/\((∃ k S P Cc,Sv.Run m n lk i0 col rhs k S P Cc/\T'=S k/\T'.own i0=v/\Ex T'/\mm=(n+m) ^ m - k) \/ (mm=0/\T'.own i0≠v/\(∃ c,c<n/\T'.hd c=v)/\DrEnd m n lk i0 v col rhs Ex T')),⟨_,Same.refl _,p,T,none,rfl,tab,.inl ⟨0,_,_,_,Sv.Run.start hi0 I0 F0,rfl,hv,X0,rfl⟩⟩,?_⟩;rintro mm σ H1 ⟨S1,q,T',x,rfl,tab1,inv⟩;obtain⟨dx,la,oa,ha,las,h1,h2,h3,h4,h5,h6⟩:=id tab1;refine⟨_,rfl,_,rfl,q,C,dx,_,_,rfl,h1,tc.cl,tc.nO,Xd,Nn h5 ?_⟩;refine⟨_,rfl,?_⟩;rcases inv with ⟨k,S,PP,Cc,R,rfl,hv',X',hmm⟩ | ⟨hmm,hv',⟨c,hc,hcv⟩,hend⟩
 ·have hsh:=R.short;obtain⟨I',F'⟩:=R.inv k (YD k);refine X6 (λ_=>?_) (λh=>absurd (XQ (mem_ownI.mpr ⟨i0,hi0,hv'⟩)) h);refine⟨λσ' H'=>_,λσ' H' h=>h,?_⟩;refine⟨_,rfl,_,rfl,q,m,n,lk,i0,S k,by rw[hv'];rfl,tab1,TabOk.of I',hi0,by omega,by omega,λH2 S2=>⟨λc hc hh hf=>?_,λhno=>?_⟩⟩
  ·have tab2:=tab1.same S2;have hd:∀ j,helps lk (S k) i0 j=true ↔ 0<(S k).L i0 j/\(S k).hd j≠lk:=λj=>by unfold helps;simp
   obtain⟨hpos,hnl⟩:=(hd c).mp hh;refine⟨_,rfl,rfl,_,rfl,Pn (by intro z;cases z) ?_⟩;refine⟨_,rfl,_,rfl,_,rfl,q,m,n,lk,c,N,S k,rfl,tab2,hc,by omega,hbd _ I',hN,hle _ c I' F' X' hv' hc hnl hpos,λH3 b S3 hb hel hah=>?_⟩;refine⟨_,rfl,q,m,n,lk,b,c,N,S k,rfl,tab2.same S3,hb,hc,hm,hn,hbd _ I',hN,I'.pos,λq2 H4 S4 tab4=>?_⟩;have st:Sv.Step m n lk i0 (S k) b c:=⟨hb,hc,hnl,hpos,λj hj hjl hjp=>hf j hj ((hd j).mpr ⟨hjp,hjl⟩),hel.1,hel.2,λi hi h1 h2=>hah i hi ⟨h1,h2⟩⟩;have SS:=((S1.trans S2).trans S3).trans S4;by_cases e:b=i0
   ·subst e;refine⟨0,by omega,SS,q2,_,_,rfl,tab4,.inr ⟨rfl,λz=>?_,⟨c,hc,?_⟩,I'.piv hb hc hel.2,st.feas I' F',hkp _ _ _ I' X' st,.inr ⟨S k,c,hv',I',st,rfl⟩⟩⟩
    ·rw[Sv.own_p] at z;exact I'.ne hb hc (hv'.trans z.symm)
    show Sv.up (S k).hd c ((S k).own b) c=v;unfold Sv.up;rw[YJ rfl];exact hv'
   obtain⟨S',P',C',R',e'⟩:=R.more st e;have hsh':=R'.short;refine⟨(n+m) ^ m - (k+1),by omega,SS,q2,_,_,rfl,tab4,.inl ⟨k+1,S',P',C',R',e'.symm,?_,hkp _ _ _ I' X' st,rfl⟩⟩;rw[Sv.own_ne (XJ e)];exact hv'
  refine⟨_,rfl,rfl,_,rfl,Jj rfl ⟨_,rfl,kk q H2 (S k) (S1.trans S2) (tab1.same S2) ⟨I',F',X',.inl ⟨hv',λj hj hl=>?_⟩⟩⟩⟩;have:=hno j hj;unfold helps at this;simp[hl] at this;exact this
 refine X6 (λh=>?_) (λh=>?_)
 ·obtain⟨i,hi,e⟩:=mem_ownI.mp (XH h);exact absurd (e.trans hcv.symm) (hend.1.ne hi hc)
 exact⟨_,rfl,kk q H1 T' S1 tab1 hend⟩
end
section
variable {P:TR}{w:World}{K:TQ}{mg:TB}{base:Heap}
inductive spIsIn (K:TQ) (vs:TY) (H:Hp) (Q:VK) (_z3:XK):Prop
 | i (i c:Nat) (o:TV) (v:V) (_:vs=[.int i,v]) (_:EvAt K H c o v) (_:i<c) (_:Q (.bl (inE o i)) H)
theorem Z5u {H:Hp}{c i:Nat}{o:TV}{v:V}{Q:VK}(h:EvAt K H c o v)(hi:i<c)(q:Q (.bl (inE o i)) H) :
  if decide (v=V.non)=true then Q (.bl true) H else rIn K false (.int i) v H Q:=by
 cases o with
 | none =>
  have e:v=.non:=h;exact Jj e q
 | some p =>
  obtain⟨a,rfl,h⟩:=h;refine Pn (by intro z;cases z) ⟨a,_,rfl,.inr h,rfl,Si _,?_⟩;show Q (.bl (inV (.int (i:Int)) ((evI c p).map V.int))) H;rw[Qm];have e:decide ((i:Int)∈evI c p)=p i:=by
   rw[qb,zv,Jc];simp[hi]
  rw[e];exact q
theorem Z4n (D:Def K mg "is_in" kH UU):Has P w K mg base 1 "is_in" UU (spIsIn K):=by
 refine D.h9 (N:=UU) fsc λH Q hr h nd=>?_;obtain⟨i,c,o,v,rfl,hv,hi,q⟩:=h;refine⟨_,(Zc (Zh (Z5i (Xb Uq (pv 1) Yj (Zo _)) (Um (Xb Wo (pv 0) (pv 1) rfl))))),?_⟩;refine⟨_,rfl,rfl,_,rfl,?_⟩;have:=Z5u (Q:=Q) hv hi q;refine Z2z (λe=>?_) (λe=>?_)
 ·rw[e] at this;rw[YJ rfl] at this;exact this
 rw[e] at this;rw[YH YO] at this;exact⟨_,rfl,_,rfl,this⟩
inductive spCut (K:TQ) (vs:TY) (H:Hp) (Q:VK) (_z3:XK):Prop
 | i (a:Addr) (v:V) (rs:UA) (o:TV) (_:vs=[.ref a,v]) (_:RowAt K H a rs) (_:EvAt K H rs.length o v) (_:rs.length<=1000) (_:∀ p H',Same H H'->RowAt K H' p (cutR o rs)->Q (.ref p) H')
theorem Z5o (D:Def K mg "cut" kR UV)(T:Blt mg)(iC:Has P w K mg base 1 "is_in" UU (spIsIn K))(eY:Con K mg "NOUGHT" (0,1)):Has P w K mg base 2 "cut" UV (spCut K):=by
 refine D.h9 (N:=UV) fsc λH Q hr h nd=>?_;obtain⟨a,v,rs,o,rfl,⟨xs,hA,hRs⟩,hv,hl,k⟩:=h;obtain⟨c_NOUGHT,m_NOUGHT,s_NOUGHT⟩:=eY;have nd1:(["world","worth","event"]:List Str).Nodup:=by decide +kernel
 refine⟨_,(Zc (Zh (Zw Zy rfl T.tuple YZ (Z0 (Ym (N:=["world","worth","event"]) (k:=2) (fv:=[1]) rfl (Z1x rfl T.enumerate (Z0 (pv 0) Z8))
  (λ_ _ _ _ _=>W9 (n:=2) rfl (Y3 (Zk (i:=0) nd1 rfl (Or.inl rfl)) (Y3 (Zk (i:=1) nd1 rfl (Or.inl rfl)) Xl))) (λ_ _ _ _ _=>Ya) (λ_ _ _ _ _=>(U5 (Yr (Zf iC hr (Z0 (pv 0) (Z0 (pv 2) Z8)))) (pv 1) (Yq (v:=.ref c_NOUGHT) rfl m_NOUGHT rfl))) V8) Z8)))),?_⟩
 refine⟨_,rfl,a,rfl,⟨_,hA⟩,λd hd=>?_⟩;have lx:=hRs.len;refine⟨rs.length,λi ys H2=>Same H H2/\Rs K H2 ((cutR o rs).take i) ys,Zq hl,⟨Same.new hd,.nil⟩,?_,?_⟩
 ·rintro i ys H2 hi ⟨S2,R2⟩ hd2;refine⟨⟨xs,Zt S2 hA,by omega⟩,?_⟩;rintro x H3 ⟨p,x0,rfl,hp,rfl,fx⟩;obtain⟨r,er,ix⟩:=hRs.back (fx xs (Zt S2 hA));have S3:Same H2 (upd H2 p (.tup [.int (i:Int),x0])):=Same.new hp;have ix3:=ix.ext ((Ext.same S2).trans (Ext.same S3));refine Ri (SqT.of Zb) ?_;refine⟨_,rfl,_,rfl,i,rs.length,o,v,rfl,(hv.same S2).same S3,hi,_,rfl,?_⟩;have hpd:d≠p:=Zd hd2 hp;have hd3:upd H2 p (.tup [.int (i:Int),x0]) d=some (.lst ys):=S3 _ _ hd2;have fin:∀ y,IsR K (upd H2 p (.tup [.int (i:Int),x0])) (if inE o i then r else (0,1)) y →
    upd H2 p (.tup [.int (i:Int),x0]) d=some (.lst ys)/\Same H (upd (upd H2 p (.tup [.int (i:Int),x0])) d (.lst (ys++[y])))/\Rs K (upd (upd H2 p (.tup [.int (i:Int),x0])) d (.lst (ys++[y]))) ((cutR o rs).take (i+1)) (ys++[y]):=λy hy=>by
   refine⟨hd3,λq o' e=>?_,?_⟩
   ·rw[Ze (Zd e hd)];exact S3 _ _ (S2 _ _ e)
   rw[Yf (V2 er)];have E5:Ext (upd H2 p (.tup [.int (i:Int),x0])) (upd (upd H2 p (.tup [.int (i:Int),x0])) d (.lst (ys++[y]))):=Ext.upd hd3;exact (R2.ext ((Ext.same S3).trans E5)).snoc (hy.ext E5)
  refine Z2z (λe=>?_) (λe=>?_)
  ·exact⟨_,rfl,fin _ (by rw[e,YJ rfl];exact ix3)⟩
  exact fin _ (by rw[e,YH YO];exact⟨_,rfl,s_NOUGHT _⟩)
 rintro ys H2 ⟨S2,R2⟩ hd2;refine⟨⟨xs,Zt S2 hA,by omega⟩,d,ys,rfl,.inl ⟨SqL.of hd2,λl hl'=>?_⟩⟩;rw[YM (by rw[Yp];omega)] at R2;exact k l _ (S2.trans (Same.new hl')) ⟨ys,SqT.of Zb,R2.ext (Ext.new hl')⟩
theorem Qr (rs:UA):cutR none rs=rs:=by
 apply Y0h;intro i
 cases e:rs[i]? with
 | none=>rw[jf (by rw[Yp];exact (List.getElem?_eq_none_iff.mp e))]
 | some r=>rw[V2 e];rfl
inductive spPaper (K:TQ) (vs:TY) (H:Hp) (Q:VK) (_z3:XK):Prop
 | i (c:Nat) (v:V) (o:TV) (_:vs=[.int c,v]) (_:EvAt K H c o v) (_:1<=c) (_:c<=1000) (_:∀ p H',Same H H'->RowAt K H' p (cutR o (List.replicate c (1,1)))->Q (.ref p) H')
theorem Rs.rep {H:Hp}{r:Rat}{v:V}(h:IsR K H r v):∀ n:Nat,Rs K H (List.replicate n r) (List.replicate n v)
 | 0=>.nil
 | n+1=>.cons h (Rs.rep h n)
theorem Z2f (D:Def K mg "paper_of" jB UW)(gR:Has P w K mg base 2 "cut" UV (spCut K))(iF:Con K mg "ONE" (1,1)):Has P w K mg base 3 "paper_of" UW (spPaper K):=by
 refine D.h9 (N:=UW) fsc λH Q hr h nd=>?_;obtain⟨c,v,o,rfl,hv,h2,hl,k⟩:=h;obtain⟨c_ONE,m_ONE,s_ONE⟩:=iF;refine⟨_,(Zc (Zh (Zf gR hr (Z0 (Zm Z22 (Yc (Z0 (Yq (v:=.ref c_ONE) rfl m_ONE rfl) Z8)) (pv 0)) (Z0 (pv 1) Z8))))),?_⟩;refine⟨sz1,λt ht=>⟨_,rfl,t,c,[.ref c_ONE],rfl,rfl,SqT.of Zb,by omega,by simp,by simpa using hl,λp H1 S1' sq=>?_⟩⟩;have S1:Same H (upd H t (.tup [.ref c_ONE])):=Same.new ht;have et:(c:Int).toNat=c:=by omega
 have ef:(List.replicate (c:Int).toNat [V.ref c_ONE]).flatten=List.replicate c (V.ref c_ONE):=by rw[et];simp
 rw[ef] at sq;have S2:=S1.trans S1';refine⟨_,rfl,p,v,List.replicate c (1,1),o,rfl,⟨_,sq,Rs.rep ⟨c_ONE,rfl,s_ONE _⟩ c⟩,?_,by simpa using hl,λp' H' S' R'=>k p' H' (S2.trans S') R'⟩;rw[GT];exact hv.same S2
inductive spCommon (K:TQ) (vs:TY) (H:Hp) (Q:VK) (_z3:XK):Prop
 | i (a:Addr) (xs:TY) (rs:UA) (n:Nat) (D:Int) (Ws:TU) (_:vs=[.ref a]) (_:(SqL K H a xs \/ SqT K H a xs)) (_:Rs K H rs xs) (_:RepL n D Ws rs) (_:n<=4000) (_:Q (.int (lcmB rs)) H)
abbrev Z5 (P:TR)(w:World)(K:TQ)(mg:TB)(base:Heap):Prop:=Has P w K mg base 2 "common_bottom" ["several"] (spCommon K)
theorem Bo (D:Def K mg "common_bottom" iJ ["several"])(eM:Has P w K mg base 1 "common_divisor" UH spGcd):Z5 P w K mg base:=by
 refine D.h9 (N:=["several","least","one"]) fsc λH Q hr h nd=>?_;obtain⟨a,xs,rs,n,D,Ws,rfl,hA,hRs,rep,hn,q⟩:=h;refine⟨_,(Z9 (Zi (i:=1) nd rfl (Or.inl rfl) Za)
  (Z9 (Xm XY rfl (Z48 (pv 0)) (Zk (i:=2) nd rfl (Or.inl rfl))
   (Zc (Zi (i:=1) nd rfl (Or.inl rfl) (Zm Wj (Zm Y1 (pv 1) (Zj Xe (pv 2) Za (λ_ _=>rfl))) (Zf eM hr (Z0 (pv 1) (Z0 (Zj Xe (pv 2) Za (λ_ _=>rfl)) Z8)))))))
  (Zc (Zh (pv 1))))),?_⟩
 have lx:=hRs.len;refine⟨_,rfl,Z33 (K:=K) (a:=a) (xs:=xs) (λi σ H'=>H'=H/\∃ x:Option V,σ=[some (.ref a),some (.int (lcmB (rs.take i))),x]) hA ⟨rfl,none,rfl⟩ (λi σ H' _ h=>by rw[h.1];exact Same.refl _) ?_ ?_⟩
 ·rintro i x σ H1 hi ⟨rfl,x0,rfl⟩;obtain⟨r,er,b,rfl,hb⟩:=hRs.back hi;have g:=rep.good r (YG er);have lo:=(rep.take i).least;have hg:((Int.gcd (lcmB (rs.take i)) r.2:Nat):Int)≠0:=by
   have:=jz r.2 (show lcmB (rs.take i)≠0 by have:=lo.pos;omega);omega
  have hgb:Bd n ((Int.gcd (lcmB (rs.take i)) r.2:Nat):Int):=g.b2.of_le' (Xi g.pos (zX _ _));refine⟨_,rfl,_,rfl,b,_,_,rfl,rfl,hb,_,_,rfl,rfl,lo.bD.mulOk g.b2 (by omega) (by omega),_,rfl,_,rfl,b,_,_,rfl,rfl,hb,_,_,rfl,_,_,rfl,rfl,⟨hg,hgb.log (by omega)⟩,?_⟩;refine⟨rfl,some (.ref b),?_⟩;rw[Fh er];rfl
 rintro σ H1 ⟨rfl,x0,rfl⟩;rw[<-lx,YM (YD _)];exact⟨_,rfl,q⟩
inductive spWholeBy (K:TQ) (vs:TY) (H:Hp) (Q:VK) (_z3:XK):Prop
 | i (a:Addr) (D:Int) (xs:TY) (rs:UA) (n:Nat) (_:vs=[.ref a,.int D]) (_:(SqL K H a xs \/ SqT K H a xs)) (_:Rs K H rs xs) (_:(∀ r∈rs,Good n r)) (_:Bd n D) (_:0<D) (_:n<=4000) (_:rs.length<=1000) (_:∀ (d:Addr) (H':Hp),H d=none->Same H H'->H' d=some (.lst ((wholeB rs D).map V.int))->Q (.ref d) H')
theorem Gr (D:Def K mg "whole_by" iW UX):Has P w K mg base 1 "whole_by" UX (spWholeBy K):=by
 refine D.h9 (N:=UX) fsc λH Q hr h nd=>?_;obtain⟨a,D,xs,rs,n,rfl,hA,hRs,g,bD,hD,hn,hl,k⟩:=h;have nd1:(["one","bottom"]:List Str).Nodup:=by decide +kernel
 refine⟨_,(Zc (Zh (Ym (N:=["one","bottom"]) (k:=1) (fv:=[1]) rfl (Z49 (pv 0))
  (λ_ _ _ _ _=>Zk (i:=0) nd1 rfl (Or.inl rfl)) (λ_ _ _ _ _=>Ya) (λ_ _ _ _ _=>(Zm Y1 (Zj (Z50 (K:=K)) (pv 0) Za (λ_ _=>rfl)) (Zm Wj (pv 1) (Zj (Z4z (K:=K)) (pv 0) Za (λ_ _=>rfl))))) Y0))),?_⟩
 have lx:=hRs.len;refine⟨_,rfl,a,xs,rfl,hA,λJ G d hd=>?_⟩;refine⟨xs.length,λi ys H2=>Same H H2/\ys=((wholeB rs D).take i).map V.int,Zq (by omega),⟨Same.new hd,rfl⟩,?_,?_⟩
 ·rintro i ys H2 hi ⟨S2,rfl⟩ hd2;refine⟨G.go i H2 S2 hi,?_⟩;intro x H3 hy;obtain⟨rfl,ex⟩:=G.yld i H2 x H3 S2 hy;obtain⟨r,er,ix⟩:=hRs.back ex;obtain⟨b,rfl,hb⟩:=ix.ext (Ext.same S2);have gr:=g r (YG er);refine Yh ?_;refine⟨_,rfl,b,_,_,rfl,rfl,hb,_,rfl,_,rfl,b,_,_,rfl,rfl,hb,_,_,rfl,rfl,⟨by have:=gr.pos;omega,gr.b2.log (by omega)⟩,_,_,rfl,rfl,gr.b1.mulOk (bD.of_le' (Np hD gr.pos)) (by omega) (by omega),hd2,λq o' e=>?_,?_⟩
  ·rw[Ze (Zd e hd)];exact S2 _ _ e
  have:(wholeB rs D)[i]?=some (r.1*D.fdiv r.2):=by unfold wholeB;rw[YF,er];rfl
  rw[Yf this,XR];rfl
 rintro ys H2 ⟨S2,rfl⟩ hd2;refine⟨G.stop H2 S2,?_⟩;rw[YM (by unfold wholeB;rw[YC];omega)] at hd2;exact k d H2 hd S2 hd2
end
section
variable {P:TR}{w:World}{K:TQ}{mg:TB}{base:Heap}{C:Addr}
def rowZ (rs:UA):List Int:=wholeB rs (lcmB rs)
theorem Va (rs:UA):(rowZ rs).length=rs.length:=by unfold rowZ wholeB;rw[YC]
inductive spWholeLine (K:TQ) (vs:TY) (H:Hp) (Q:VK) (_z3:XK):Prop
 | i (a:Addr) (e:Int) (xs:TY) (rs:UA) (n:Nat) (D:Int) (Ws:TU) (_:vs=[.ref a,.int e]) (_:(SqL K H a xs \/ SqT K H a xs)) (_:Rs K H rs xs) (_:RepL n D Ws rs) (_:n<=4000) (_:rs.length<=900) (_:∀ (d:Addr) (H':Hp),H d=none->Same H H'->H' d=some (.lst ((rowZ rs++[e]).map V.int))->Q (.ref d) H')
theorem Mi (D:Def K mg "whole_line" iO ["row","end"])(eD:Z5 P w K mg base)(eN:Has P w K mg base 1 "whole_by" UX (spWholeBy K)):Has P w K mg base 3 "whole_line" ["row","end"] (spWholeLine K):=by
 refine D.h9 (N:=["row","end"]) fsc λH Q hr h nd=>?_;obtain⟨a,e,xs,rs,n,D,Ws,rfl,hA,hRs,rep,hn,hl,k⟩:=h;refine⟨_,(Zc (Zh (Zm Tu (Zf eN hr (Z0 (pv 0) (Z0 (Zf eD hr (Z0 (pv 0) Z8)) Z8))) (X4 (Z0 (pv 1) Z8))))),?_⟩;have le:=rep.least;refine⟨_,rfl,_,rfl,a,xs,rs,n,D,Ws,rfl,hA,hRs,rep,hn,a,lcmB rs,xs,rs,n,rfl,hA,hRs,rep.good,le.bD,le.pos,hn,by omega,λd H1 fd1 S1 e1=>?_⟩;refine⟨_,rfl,sz1,λp hp=>?_⟩;have e1':upd H1 p (.lst [.int e]) d=some (.lst ((rowZ rs).map V.int)):=by rw[Ze (Zd e1 hp)];exact e1
 refine⟨d,p,_,_,rfl,rfl,e1',Zb,?_,λq hq=>?_⟩
 ·rw[YC,Va];exact Zq (show rs.length+1<=1000 by omega)
 have hqH:H q=none:=by
  cases z:H q with
  | none=>rfl
  | some o =>
   have z2:=S1 _ _ z;rw[Ze (Zd z2 hp)] at hq;rw[z2] at hq
   cases hq
 refine k q _ hqH (λx o z=>?_) ?_
 ·have z2:=S1 _ _ z;rw[Ze (Zd (show upd H1 p (.lst [.int e]) x=some o by rw[Ze (Zd z2 hp)];exact z2) hq),Ze (Zd z2 hp)];exact z2
 rw[Zb,XR];rfl
end
section
variable {P:TR}{w:World}{K:TQ}{mg:TB}{base:Heap}{C:Addr}
def AOf (rss:UB)(k v:Nat):Int:=(rowZ (rss.getD k [])).getD v 0
def rowF (rs:UA)(v:Nat):Int:=(rowZ rs).getD v 0
def papR (c:Nat)(o:TV):List Rat:=cutR o (List.replicate c (1,1))
def T0S (c:Nat)(rss:UB)(o:TV)(gs:UA):Sv.Tab:=Sv.T0 c rss.length (AOf rss) (rowF (papR c o)) (rowF gs)
inductive spStart (K:TQ) (C:Addr) (vs:TY) (H:Hp) (Q:VK) (_z3:XK):Prop
 | i (l g:Addr) (ve:V) (c n:Nat) (rss:UB) (o:TV) (gs:UA) (_:vs=[.int (c:Int),.ref l,ve,.ref g]) (_:RowsAt K H l rss) (_:EvAt K H c o ve) (_:RowAt K H g gs) (_:gs.length=c) (_:(∀ rs∈rss,rs.length=c/\∃ D Ws,RepL n D Ws rs)) (_:(∃ D Ws,RepL n D Ws gs)) (_:1<=n) (_:n<=4000) (_:1<=c) (_:c<=800) (_:rss.length<=800) (_:∀ (q:Addr) (H':Hp),Same H H'->TabAt C H' q (rss.length+2) c (c+rss.length) (T0S c rss o gs)->Q (.ref q) H')
theorem U8 {c:Nat}{e:Int}{F:TX}(hl:rs.length=c)(h:∀ j,j<c->F j=(rowZ rs).getD j 0)(he:F c=e):rowZ rs++[e]=(List.range (c+1)).map F:=by
 refine Vk (by simp[Va,hl]) λi hi=>?_;by_cases q:i<c
 ·rw[JA (by rw[Va];omega),h i q];simp[List.getD,show i<(rowZ rs).length by rw[Va];omega]
 have:i=c:=by omega
 subst this;rw[XW (by rw[Va];omega),he];simp[Va,hl]
theorem Z2a (D:Def K mg "start" jU UY)(eU:Has P w K mg base 3 "whole_line" ["row","end"] (spWholeLine K))(gJ:Has P w K mg base 3 "paper_of" UW (spPaper K))(fY:Has P w K mg base 3 "first_table" ["lines"] (spFirst C)):Has P w K mg base 4 "start" UY (spStart K C):=by
 refine D.h9 (N:=["count","rows","event","goal","lines"]) fsc λH Q hr h nd=>?_;obtain⟨l,g,ve,c,n,rss,o,gs,rfl,⟨as,hl,hp⟩,hv,hg,gl,hrs,⟨Dg,Wg,rg⟩,hn1,hn,hc2,hc,hm,k⟩:=h;have nd1:(["row"]:TF).Nodup:=by decide +kernel
 refine⟨_,(Z9 (Wi (i:=4) (N:=["row"]) (k:=1) (fv:=[]) nd rfl (Or.inl rfl) rfl (Xk (pv 1))
  (λ_ _ _ _ _=>Zk (i:=0) nd1 rfl (Or.inl rfl)) (λ_ _ _ _ _=>Ya) (λ_ _ _ _ _=>(Zf eU hr (Z0 (pv 0) (Z0 Za Z8)))) Y0)
  (Z9 (X7 (Wu XE XT XU Yn (pv 4) (Z0 (Zf eU hr (Z0 (Zf gJ hr (Z0 (pv 0) (Z0 (pv 2) Z8))) (Z0 Za Z8))) Z8)))
  (Z9 (X7 (Wu XE XT XU Yn (pv 4) (Z0 (Zf eU hr (Z0 (pv 3) (Z0 Za Z8))) Z8)))
  (Zc (Zh (Zf fY hr (Z0 (pv 4) Z8))))))),?_⟩
 have lx:=XG hp;refine⟨_,rfl,l,rfl,⟨_,SqL.of hl⟩,λd hd=>?_⟩;refine⟨as.length,λi ys H2=>Same H H2/\∃ ns:List Addr,ys=ns.map V.ref/\ns.length=i/\∀ (t:Nat) (a:Addr),ns[t]?=some a->a≠d/\H2 a=some (.lst ((rowZ (rss.getD t [])++[0]).map V.int)),Zq (by omega),⟨Same.new hd,[],rfl,rfl,λt a e=>by simp at e⟩,?_,?_⟩
 ·rintro i ys H2 hi ⟨S2,ns,rfl,l2,q2⟩ hd2;have ei:as[i]?=some (as[i]'hi):=by simp
  have er:rss[i]?=some (rss[i]'(by omega)):=by simp
  refine⟨⟨_,V.ref (as[i]'hi),SqL.of (S2 _ _ hl),by simp⟩,?_⟩;rintro x H3 ⟨rfl,fx⟩;have ex:x=V.ref (as[i]'hi):=by
   have:=fx _ (SqL.of (S2 _ _ hl));rw[YF,ei] at this;exact (YK this).symm
  subst ex;refine Yh ?_;obtain⟨xs,h1,h2⟩:=(Paired.getB hp ei er).same S2;obtain⟨hrl,Dr,Wr,rr⟩:=hrs _ (YG er);refine⟨_,rfl,_,_,xs,_,n,Dr,Wr,rfl,.inr h1,h2,rr,hn,by omega,λa4 H4 f4 S4 e4=>?_⟩;have hd4:=S4 _ _ hd2;have hne:a4≠d:=λz=>by rw[z] at f4;rw[f4] at hd2;cases hd2
  refine⟨hd4,λq o e=>?_,ns++[a4],by rw[XR];rfl,by rw[YS,l2];rfl,λt a e=>?_⟩
  ·rw[Ze (Zd e hd)];exact S4 _ _ (S2 _ _ e)
  by_cases q:t<ns.length
  ·rw[JA q] at e;have:=q2 t a e;refine⟨this.1,?_⟩;rw[Ze this.1];exact S4 _ _ this.2
  rw[XW (by omega)] at e;have hk0:t - ns.length=0:=by
   have:=(YE.mp e).1;simp at this;omega
  rw[hk0] at e
  cases e;have hti:t=i:=by omega
  subst hti;refine⟨hne,?_⟩;rw[Ze hne];have eg:rss.getD t []=rss[t]'(by omega):=by simp[List.getD,show t<rss.length by omega]
  rw[eg];exact e4
 rintro ys H2 ⟨S2,ns,rfl,l2,q2⟩ hd2;refine⟨⟨_,SqL.of (S2 _ _ hl),by simp⟩,?_⟩;have rpap:RepL n 1 (cutZ o (List.replicate c 1)) (papR c o):=((RepL.ones c).cut o).mono hn1;have lpap:(papR c o).length=c:=by
  have:=rpap.len;rw[L8] at this
  simpa using this.symm
 refine⟨_,rfl,.inl ⟨rfl,_,SqL.of hd2⟩,_,rfl,_,rfl,c,ve,o,rfl,hv.same S2,hc2,by omega,λp H3 S3 rp=>?_⟩;obtain⟨xp,rp1,rp2⟩:=rp;refine⟨p,1,xp,papR c o,n,_,_,rfl,.inr rp1,rp2,rpap,hn,by omega,λa4 H4 f4 S4 e4=>?_⟩;have hd4:=S4 _ _ (S3 _ _ hd2);have hne4:a4≠d:=λz=>by rw[z] at f4;rw[S3 _ _ hd2] at f4;cases f4
 refine⟨d,_,_,rfl,rfl,hd4,?_,?_⟩
 ·rw[YC];exact Zq (show ns.length+1<=1000 by omega)
 have S14:Same H (upd H4 d (.lst (ns.map V.ref++[.ref a4]))):=λq z y=>by
  rw[Ze (Zd y hd)];exact S4 _ _ (S3 _ _ (S2 _ _ y))
 have q4:∀ (t:Nat) (a:Addr),(ns++[a4])[t]?=some a->a≠d/\upd H4 d (.lst (ns.map V.ref++[.ref a4])) a=some (.lst ((if t<as.length then rowZ (rss.getD t [])++[0] else rowZ (papR c o)++[1]).map V.int)):=λt a e=>by
  by_cases q:t<ns.length
  ·rw[JA q] at e;have:=q2 t a e;refine⟨this.1,?_⟩;rw[Ze this.1,YJ (by omega)];exact S4 _ _ (S3 _ _ this.2)
  rw[XW (by omega)] at e;have hk0:t - ns.length=0:=by
   have:=(YE.mp e).1;simp at this;omega
  rw[hk0] at e
  cases e;refine⟨hne4,?_⟩;rw[Ze hne4,YH (by omega)];exact e4
 have hd5:upd H4 d (.lst (ns.map V.ref++[.ref a4])) d=some (.lst ((ns++[a4]).map V.ref)):=by rw[Zb,XR];rfl
 generalize upd H4 d (.lst (ns.map V.ref++[.ref a4]))=H5 at *
 obtain⟨xg,hg1,hg2⟩:=hg.same S14;refine⟨_,rfl,.inl ⟨rfl,_,SqL.of hd5⟩,_,rfl,g,0,xg,gs,n,_,_,rfl,.inr hg1,hg2,rg,hn,by omega,λa6 H6 f6 S6 e6=>?_⟩;have hd6:=S6 _ _ hd5;have hne6:a6≠d:=λz=>by rw[z] at f6;rw[hd5] at f6;cases f6
 refine⟨d,_,_,rfl,rfl,hd6,?_,?_⟩
 ·rw[YC,YS];exact Zq (show ns.length+1+1<=1000 by omega)
 have S17:Same H (upd H6 d (.lst ((ns++[a4]).map V.ref++[.ref a6]))):=λq z y=>by
  rw[Ze (Zd y hd)];exact S6 _ _ (S14 _ _ y)
 have hd7:upd H6 d (.lst ((ns++[a4]).map V.ref++[.ref a6])) d=some (.lst ((ns++[a4]++[a6]).map V.ref)):=by rw[Zb,XR (l₁:=ns++[a4])];rfl
 refine⟨_,rfl,d,rss.length,c,ns++[a4]++[a6],T0S c rss o gs,rfl,hd7,by simp;omega,λt a e=>?_,by omega,by omega,rfl,λ_=>rfl,λ_=>rfl,λq H8 S8 tab=>k q H8 (S17.trans S8) tab⟩;have key:∀ (t:Nat) (a:Addr),(ns++[a4]++[a6])[t]?=some a->a≠d/\upd H6 d (.lst ((ns++[a4]).map V.ref++[.ref a6])) a=some (.lst ((if t<rss.length then rowZ (rss.getD t [])++[0] else if t=rss.length then rowZ (papR c o)++[1] else rowZ gs++[0]).map V.int))/\t<rss.length+2:=λt a e=>by
  by_cases q:t<(ns++[a4]).length
  ·rw[JA q] at e;have:=q4 t a e;rw[YS] at q;simp at q;refine⟨this.1,?_,by omega⟩;rw[Ze this.1,S6 _ _ this.2];by_cases q':t<rss.length
   ·rw[YJ q',YJ (by omega)]
   rw[YH q',YH (by omega),YJ (by omega)]
  rw[XW (by omega)] at e;have hk0:t - (ns++[a4]).length=0:=by
   have:=(YE.mp e).1;simp at this;simp;omega
  rw[hk0] at e
  cases e;simp at q hk0;refine⟨hne6,?_,by omega⟩;rw[Ze hne6,YH (by omega),YH (by omega)];exact e6
 obtain⟨_,e7,ht⟩:=key t a e;rw[e7]
 congr 2
 unfold lineI;by_cases q:t<rss.length
 ·rw[YJ q];have er:rss[t]?=some (rss[t]'q):=by simp
  have eg:rss.getD t []=rss[t]'q:=by simp[List.getD,q]
  refine congrArg _ (U8 ?_ (λj hj=>?_) ?_)
  ·rw[eg];exact (hrs _ (YG er)).1
  ·show (if j<c then Sv.colS c rss.length (AOf rss) (rowF (papR c o)) (rowF gs) j t else _)=_;rw[YJ hj];unfold Sv.colS;rw[YJ hj,YJ q];rfl
  show (if c<c then _ else Sv.rhsS rss.length t)=_;rw[YH (by omega)];unfold Sv.rhsS;rw[YH (by omega)]
 rw[YH q];by_cases q':t=rss.length
 ·rw[YJ q'];refine congrArg _ (U8 lpap (λj hj=>?_) ?_)
  ·show (if j<c then Sv.colS c rss.length (AOf rss) (rowF (papR c o)) (rowF gs) j t else _)=_;rw[YJ hj];unfold Sv.colS;rw[YJ hj,YH q,YJ q'];rfl
  show (if c<c then _ else Sv.rhsS rss.length t)=_;rw[YH (by omega)];unfold Sv.rhsS;rw[YJ q']
 rw[YH q'];refine congrArg _ (U8 gl (λj hj=>?_) ?_)
 ·show (if j<c then Sv.colS c rss.length (AOf rss) (rowF (papR c o)) (rowF gs) j t else _)=_;rw[YJ hj];unfold Sv.colS;rw[YJ hj,YH q,YH q'];rfl
 show (if c<c then _ else Sv.rhsS rss.length t)=_;rw[YH (by omega)];unfold Sv.rhsS;rw[YH q']
end
section
variable {P:TR}{w:World}{K:TQ}{mg:TB}{base:Heap}{C:Addr}
def multR (c:Nat)(rss:UB)(T:UC)(i:Nat)(b:Int):List Rat:=(List.range rss.length).map λk=>nrm (-(Sv.numAt c T i (c+k))*lcmB (rss.getD k [])) (b*T.b)
theorem Bd.zero (n:Nat):Bd n 0:=qe n
theorem TabOk.numBd {m n N i:Nat}(h:TabOk m n T)(bd:TabBd N m n T)(hi:i<m)(v:Nat):Bd N (Sv.numAt n T i v):=by
 by_cases q:∃ j,j<n/\T.hd j=v
 ·obtain⟨j,hj,rfl⟩:=q;rw[h.numH hj];exact bd.l i j hi (by omega)
 have:Sv.numAt n T i v=0:=Sv.sm_zero λj hj=>YH λz=>q ⟨j,hj,z⟩;rw[this];exact Bd.zero N
inductive spShown (K:TQ) (C:Addr) (vs:TY) (H:Hp) (Q:VK) (_z3:XK):Prop
 | i (l p:Addr) (c m lk i n N:Nat) (b:Int) (rss:UB) (T:UC) (_:vs=[.int (c:Int),.ref l,.ref p,.int (T.own i:Int),.int b]) (_:RowsAt K H l rss) (_:TabAt C H p m c lk T) (_:TabOk m c T) (_:TabBd N m c T) (_:0<T.b) (_:i<m) (_:m<=900) (_:c<=900) (_:rss.length<=900) (_:(∀ rs∈rss,∃ D Ws,RepL n D Ws rs)) (_:0<b) (_:Bd n b) (_:n<=4000) (_:n+N<=8800) (_:∀ (q:Addr) (xs:TY) (H':Hp),H q=none->Same H H'->H' q=some (.lst xs)->Rs K H' (multR c rss T i b) xs->Q (.ref q) H')
theorem Z2c (D:Def K mg "shown_multiples" iH UZ)(T0:Blt mg)(tc:TabC K mg C)(gD:Has P w K mg base 2 "number_at" UN (spNumAt C))(eD:Z5 P w K mg base)(fF:Has P w K mg base 3 "ratio" UI spLowest):Has P w K mg base 4 "shown_multiples" UZ (spShown K C):=by
 refine D.h9 (N:=["count","rows","table","owner","bottom","told","number","row","top"]) fsc λH Q hr h nd=>?_;obtain⟨l,p,c,m,lk,i0,n,N,b,rss,Tb,rfl,⟨as,hl,hp⟩,tab,ok,bd,hb,hi0,hm,hc,hrl,hrs,hb0,bb,hn,hN,kk⟩:=h;obtain⟨dx,la,oa,ha,las,h1,h2,h3,h4,h5,h6⟩:=id tab;have T:=T0;have lx:=XG hp;refine⟨_,(Z9 (Zi (i:=5) nd rfl (Or.inl rfl) (X4 Z8))
  (Z9 (Xm XY rfl (Q4 rfl T.enumerate (Z0 (pv 1) Z8)) (W9 (n:=2) rfl (Y3 (Zk (i:=6) nd rfl (Or.inl rfl)) (Y3 (Zk (i:=7) nd rfl (Or.inl rfl)) Xl)))
   (Z9 (Zi (i:=8) nd rfl (Or.inl rfl) (Zm Y1 (U4 Wt (Zf gD hr (Z0 (pv 2) (Z0 (pv 3) (Z0 (Zm Yx (pv 0) (pv 6)) Z8))))) (Zf eD hr (Z0 (pv 7) Z8))))
   (Zc (X7 (Wu XE XT XU Yn (pv 5) (Z0 (Zf fF hr (Z0 (pv 8) (Z0 (Zm Y1 (pv 4) (Yi (pv 2) rfl)) Z8))) Z8))))))
  (Zc (Zh (pv 5))))),?_⟩
 refine⟨sz0,λd hd=>?_⟩;refine⟨_,rfl,l,rfl,⟨_,SqL.of ((Same.new hd) _ _ hl)⟩,Sh (K:=K) (a:=l) (xs:=as.map V.ref) (λi σ H'=>Same H H'/\∃ (xs:TY) (x y z:TZ),H' d=some (.lst xs)/\Rs K H' ((multR c rss Tb i0 b).take i) xs/\σ=[some (.int (c:Int)),some (.ref l),some (.ref p),some (.int (Tb.own i0:Int)),some (.int b),some (.ref d),x,y,z]) ⟨Same.new hd,[],none,none,none,Zb,.nil,rfl⟩ (λi σ H' _ h=>SqL.of (h.1 _ _ hl)) ?_ ?_⟩
 ·rintro i v σ H1 pp hi ⟨S1,xs,x,y,z,hd1,rs1,rfl⟩ hpp;have him:i<as.length:=by
   have:=(YE.mp hi).1;rw[YC] at this;exact this
  have ei:as[i]?=some (as[i]'him):=by simp
  have er:rss[i]?=some (rss[i]'(by omega)):=by simp
  have eg:rss.getD i []=rss[i]'(by omega):=by simp[List.getD,show i<rss.length by omega]
  rw[YF,ei] at hi
  cases hi;refine⟨pp,_,rfl,SqT.of Zb,rfl,_,_,rfl,_,_,rfl,rfl,?_⟩;have S2:Same H1 (upd H1 pp (.tup [.int (i:Int),.ref (as[i]'him)])):=Same.new hpp;generalize upd H1 pp (.tup [.int (i:Int),.ref (as[i]'him)])=H2 at *
  have S02:=S1.trans S2;obtain⟨us,hu1,hu2⟩:=(Paired.getB hp ei er).same S02;obtain⟨Dr,Wr,rr⟩:=hrs _ (YG er);have lcb:=rr.least;refine⟨_,rfl,_,rfl,_,rfl,_,rfl,_,_,rfl,rfl,p,m,c,lk,i0,c+i,Tb,rfl,tab.same S02,ok,hi0,by omega,by omega,_,rfl,_,rfl,_,us,_,n,Dr,Wr,rfl,.inr hu1,hu2,rr,by omega,_,_,rfl,rfl,((ok.numBd bd hi0 (c+i)).neg).mulOk lcb.bD (by omega) (by omega),?_⟩;refine⟨_,rfl,.inl ⟨rfl,_,SqL.of (S2 _ _ hd1)⟩,_,rfl,_,rfl,_,rfl,p,C,dx,_,_,rfl,S02 _ _ h1,tc.cl,tc.nB,Vj,_,_,rfl,rfl,bb.mulOk bd.b (by omega) (by omega),?_⟩;have hq0:b*Tb.b≠0:=by
   have:=XX hb0 hb;omega
  refine⟨_,_,rfl,hq0,(bb.mul bd.b).log (by omega),λa H3 f3 S3 e3=>?_⟩;have hd3:=S3 _ _ (S2 _ _ hd1);refine⟨d,xs,_,rfl,rfl,hd3,?_,?_⟩
  ·have:=rs1.len;rw[JU] at this;exact Zq (show xs.length+1<=1000 by omega)
  refine⟨λq o e=>?_,xs++[.ref a],_,_,_,Zb,?_,rfl⟩
  ·rw[Ze (Zd e hd)];exact S3 _ _ (S02 _ _ e)
  have e4:(multR c rss Tb i0 b)[i]?=some (nrm (-(Sv.numAt c Tb i0 (c+i))*lcmB (rss.getD i [])) (b*Tb.b)):=by
   unfold multR;rw[YF,zz (show i<rss.length by omega)];rfl
  rw[Yf e4];refine Paired.appP ((rs1.ext (Ext.same (S2.trans S3))).ext (Ext.upd hd3)) (.cons ⟨a,rfl,?_⟩ .nil);refine SqT.of ?_;rw[Ze (λz=>by rw[z] at e3;rw[e3] at hd3;cases hd3),eg];exact e3
 rintro σ H1 ⟨S1,xs,x,y,z,hd1,rs1,rfl⟩;rw[YM (by unfold multR;simp[lx])] at rs1;exact⟨_,rfl,kk d xs H1 hd S1 hd1 rs1⟩
end
end Sb
namespace Sv
def sN:Nat->(Nat->Nat)->Nat
 | 0,_=>0
 | n+1,f=>sN n f+f n
def pN:Nat->(Nat->Nat)->Nat
 | 0,_=>1
 | n+1,f=>pN n f*f n
theorem Mb (f:TW):∀ n,sN (n+1) f=f 0+sN n (λr=>f (r+1))
 | 0=>by show 0+f 0=f 0+0;omega
 | n+1=>by
  show sN (n+1) f+f (n+1)=f 0+(sN n (λr=>f (r+1))+f (n+1));rw[Mb f n];omega
theorem Ca {f g:TW}:∀ {n:Nat},(∀ k,k<n->f k<=g k)->sN n f<=sN n g
 | 0,_=>YD _
 | n+1,h=>Nat.add_le_add (Ca λk hk=>h k (by omega)) (h n (by omega))
theorem pN_le {f g:TW}:∀ {n:Nat},(∀ k,k<n->f k<=g k)->pN n f<=pN n g
 | 0,_=>YD _
 | n+1,h=>Y0F (pN_le λk hk=>h k (by omega)) (h n (by omega))
theorem Mh {f g:TW}:∀ {n:Nat},(∀ k,k<n->f k=g k)->pN n f=pN n g
 | 0,_=>rfl
 | n+1,h=>by
  show pN n f*f n=pN n g*g n;rw[Mh (n:=n) λk hk=>h k (by omega),h n (by omega)]
theorem sN_congr {f g:TW}:∀ {n:Nat},(∀ k,k<n->f k=g k)->sN n f=sN n g
 | 0,_=>rfl
 | n+1,h=>by
  show sN n f+f n=sN n g+g n;rw[sN_congr (n:=n) λk hk=>h k (by omega),h n (by omega)]
theorem K2 (f:TW)(b:Nat):∀ n,sN n (λk=>f k*b)=sN n f*b
 | 0=>by show 0=0*b;rw[Nat.zero_mul]
 | n+1=>by
  show sN n (λk=>f k*b)+f n*b=(sN n f+f n)*b;rw[K2 f b n,Nat.add_mul]
theorem N2 {f:TX}:∀ {n:Nat},(sm n f).natAbs<=sN n (λk=>(f k).natAbs)
 | 0=>by show (0:Int).natAbs<=0;decide
 | n+1=>by
  show (sm n f+f n).natAbs<=sN n (λk=>(f k).natAbs)+(f n).natAbs;have:=N2 (f:=f) (n:=n);have:=Int.natAbs_add_le (sm n f) (f n);omega
theorem Ra {x:TW}:∀ {n:Nat},sm n (λk=>((x k:Nat):Int))=((sN n x:Nat):Int)
 | 0=>rfl
 | n+1=>by
  show sm n (λk=>((x k:Nat):Int))+(x n:Int)=((sN n x+x n:Nat):Int);rw[Ra (n:=n),Int.natCast_add]
theorem Z0l (a b:TW):∀ m,sN (m+1) (λk=>a k*pN m (λi=>b (skip k i)))<=pN (m+1) (λk=>a k+b k)
 | 0=>by
  show 0+a 0*1<=1*(a 0+b 0);omega
 | m+1=>by
  have ih:=Z0l a b m;have e1:sN (m+1) (λk=>a k*pN (m+1) (λi=>b (skip k i)))=sN (m+1) (λk=>a k*pN m (λi=>b (skip k i)))*b (m+1):=by
   rw[<-K2];refine sN_congr λk hk=>?_;show a k*(pN m (λi=>b (skip k i))*b (skip k m))=_;have:skip k m=m+1:=by unfold skip;split <;> omega
   rw[this,Y0O]
  have e2:pN (m+1) (λi=>b (skip (m+1) i))=pN (m+1) b:=Mh λi hi=>by
   have:skip (m+1) i=i:=by unfold skip;split <;> omega
   rw[this]
  show sN (m+1) (λk=>a k*pN (m+1) (λi=>b (skip k i)))+a (m+1)*pN (m+1) (λi=>b (skip (m+1) i))<=pN (m+1) (λk=>a k+b k)*(a (m+1)+b (m+1));rw[e1,e2];have h1:=GL (b (m+1)) ih;have h2:pN (m+1) b<=pN (m+1) (λk=>a k+b k):=pN_le λk _=>by omega
  have h3:=GG (a (m+1)) h2;rw[Y0G,qf (pN (m+1) λk=>a k+b k) (a (m+1))];omega
theorem Jq:∀ {m:Nat} {v:Mat} {w:TW},(∀ k,k<m->sN m (λr=>(v k r).natAbs)<=w k)->(det m v).natAbs<=pN m w
 | 0,_,_,_=>by show (1:Int).natAbs<=1;decide
 | m+1,v,w,h=>by
  have key:(sm (m+1) (λk=>sgn k*v k 0*det m (minor v k))).natAbs<=sN (m+1) (λk=>(v k 0).natAbs*pN m (λi=>sN m (λr=>(v (skip k i) (r+1)).natAbs))):=by
   refine YX N2 (Ca λk hk=>?_);show (sgn k*v k 0*det m (minor v k)).natAbs<=_;rw[JY,JY,Rb,Y13];exact GG _ (Jq (m:=m) λi hi=>YD _)
  refine YX key (YX (Z0l (λk=>(v k 0).natAbs) (λk=>sN m (λr=>(v k (r+1)).natAbs)) m) (pN_le λk hk=>?_));have:=h k hk;rw[Mb] at this;exact this
theorem Nd (B:Nat)(x:TW):∀ m,pN m (λk=>B ^ x k)=B ^ sN m x
 | 0=>rfl
 | m+1=>by
  show pN m (λk=>B ^ x k)*B ^ x m=B ^ (sN m x+x m);rw[Nd B x m,zP]
theorem sN_const {f:TW}{M:Nat}:∀ {n:Nat},(∀ k,k<n->f k<=M)->sN n f<=n*M
 | 0,_=>JH _
 | n+1,h=>by
  have h1:=sN_const (n:=n) (f:=f) (M:=M) λk hk=>h k (by omega);have h2:=h n (by omega);show sN n f+f n<=(n+1)*M;rw[Y0v];omega
theorem sN_unit {i:Nat}:∀ {m:Nat},sN m (λr=>(if i=r then (1:Int) else 0).natAbs)<=1
 | 0=>JH _
 | m+1=>by
  show sN m (λr=>(if i=r then (1:Int) else 0).natAbs)+(if i=m then (1:Int) else 0).natAbs<=1;by_cases h:i=m
  ·subst h;have:sN i (λr=>(if i=r then (1:Int) else 0).natAbs)<=i*0:=sN_const λk hk=>by rw[YH (by omega)];decide
   rw[YJ rfl];show _+1<=1;omega
  rw[YH h];exact sN_unit (m:=m)
theorem Cb {x:TW}{j:Nat}:∀ {n:Nat},j<n->x j<=sN n x
 | 0,h=>by omega
 | n+1,h=>by
  show x j<=sN n x+x n;by_cases e:j=n
  ·rw[e];omega
  have:=Cb (x:=x) (n:=n) (j:=j) (by omega);omega
theorem K1 {x:TW}{i y:Nat}:∀ {m:Nat},sN m (λk=>if k=i then y else x k)<=sN m x+y
 | 0=>JH _
 | m+1=>by
  show sN m (λk=>if k=i then y else x k)+(if m=i then y else x m)<=sN m x+x m+y;by_cases e:m=i
  ·rw[YJ e];have:sN m (λk=>if k=i then y else x k)=sN m x:=sN_congr λk hk=>YH (by omega);omega
  rw[YH e];have:=K1 (x:=x) (i:=i) (y:=y) (m:=m);omega
section
variable {m n:Nat}{col:Nat->Vec}{rhs:Vec}{T:Tab}
def isW (n v:Nat):Nat:=if v<n then 1 else 0
theorem Jk:∀ k,sN (n+k) (isW n)=n
 | 0=>by
  have:∀ j,j<=n->sN j (isW n)=j:=λj=>by
   induction j with
   | zero=>intro _;rfl
   | succ j ih =>
    intro hj;show sN j (isW n)+isW n j=j+1;rw[ih (by omega)];unfold isW;rw[YJ (by omega)]
  exact this n (YD _)
 | k+1=>by
  show sN (n+k) (isW n)+isW n (n+k)=n;rw[Jk k];unfold isW;rw[YH (by omega)];rfl
theorem Inv.worlds (I:Inv m n col rhs T):sN m (λi=>isW n (T.own i))+sN n (λj=>isW n (T.hd j))=n:=by
 have:=I.part (λv=>((isW n v:Nat):Int));rw[Ra,Ra,Ra,Jk] at this;omega
theorem Inv.sizeW (I:Inv m n col rhs T){B:Nat}(hc:∀ v,v<n+m->sN m (λr=>(col v r).natAbs)<=B ^ isW n v)(hr:sN m (λr=>(rhs r).natAbs)<=1)(hB:1<=B){i j:Nat}(hi:i<m)(hj:j<=n):(T.L i j).natAbs<=B ^ n:=by
 have wd:=I.worlds;rw[<-I.phi hi hj];by_cases hjn:j<n
 ·have key:(det m (put (bas col T) i (colOf n col rhs T j))).natAbs<=pN m (λk=>B ^ (if k=i then isW n (T.hd j) else isW n (T.own k))):=Jq λk hk=>by
   by_cases e:k=i
   ·subst e;rw[Ye,YJ rfl,W5 hjn];exact hc _ (I.hdLt hjn)
   rw[Y7 e,YH e];exact hc _ (I.ownLt hk)
  refine YX key ?_;rw[Nd];refine GF hB ?_;have h1:=K1 (x:=λk=>isW n (T.own k)) (i:=i) (y:=isW n (T.hd j)) (m:=m);have h2:=Cb (x:=λj=>isW n (T.hd j)) (n:=n) hjn;omega
 have key:(det m (put (bas col T) i (colOf n col rhs T j))).natAbs<=pN m (λk=>B ^ (if k=i then 0 else isW n (T.own k))):=Jq λk hk=>by
  by_cases e:k=i
  ·subst e;rw[Ye,YJ rfl];unfold colOf;rw[YH hjn];exact hr
  rw[Y7 e,YH e];exact hc _ (I.ownLt hk)
 refine YX key ?_;rw[Nd];refine GF hB ?_;have h1:=K1 (x:=λk=>isW n (T.own k)) (i:=i) (y:=0) (m:=m);omega
theorem Inv.sizeBW (I:Inv m n col rhs T){B:Nat}(hc:∀ v,v<n+m->sN m (λr=>(col v r).natAbs)<=B ^ isW n v)(hB:1<=B):T.b.natAbs<=B ^ n:=by
 have wd:=I.worlds;rw[<-I.dt];have key:(det m (bas col T)).natAbs<=pN m (λk=>B ^ isW n (T.own k)):=Jq λk hk=>hc _ (I.ownLt hk);refine YX key ?_;rw[Nd];exact GF hB (by omega)
end
end Sv
namespace Sb
open PySem L2
theorem N8 {v:Nat}{r:Rat}(h:rs[v]?=some r):rowF rs v=r.1*(lcmB rs).fdiv r.2:=by
 unfold rowF rowZ wholeB;simp[List.getD,h]
theorem Wz {n:Nat}(h:RepL n D Ws rs)(v:Nat):Bd n (rowF rs v):=by
 unfold rowF;exact No (λz hz=>(h.least).bdW z hz) v
theorem U6 (c:Nat)(o:TV):(papR c o).length=c:=by unfold papR;rw[Yp];simp
theorem Vc (c:Nat)(o:TV):RepL 1 1 (cutZ o (List.replicate c 1)) (papR c o):=(RepL.ones c).cut o
theorem Z4b {c v:Nat}{o:TV}(hv:v<c):rowF (papR c o) v=if inE o v then lcmB (papR c o) else 0:=by
 rw[N8 (show (papR c o)[v]?=some (if inE o v then (1,1) else (0,1)) from V2 (by simp[hv]))]
 cases inE o v <;> simp
theorem Z20 {c v:Nat}{o:TV}(hv:v<c):0<=rowF (papR c o) v:=by
 rw[Z4b hv];have:=(Vc c o).least.pos;split <;> omega
theorem Gp {c v:Nat}{o:TV}{rs:UA}(hv:v<c)(hl:rs.length=c)(h:rowF (papR c o) v=0):rowF (cutR o rs) v=0:=by
 rw[Z4b hv] at h;have:=(Vc c o).least.pos;have e:inE o v=false:=by
  cases q:inE o v with
  | false=>rfl
  | true=>rw[q,YJ rfl] at h;omega
 rw[N8 (V2 (show rs[v]?=some (rs[v]'(by omega)) by simp)),e];simp
abbrev InvR (c:Nat)(rss:UB)(o:TV)(gs:UA)(T:UC):Prop:=Sv.InvS c rss.length (AOf rss) (rowF (papR c o)) (rowF gs) T
def bitsOf (n c g:Nat):Nat:=(n+5)*min c (g+2)+1
theorem De {c n:Nat}{o:TV}(hrs:∀ rs∈rss,rs.length=c/\∃ D Ws,RepL n D Ws rs)(hgs:∃ D Ws,RepL n D Ws gs)(hn:1<=n)(hm:rss.length+2<=32)(I:InvR c rss o gs T):TabBd (bitsOf n c rss.length) (rss.length+2) c T:=by
 have p1:1<=2 ^ n:=qe n;have hcol:∀ v r,v<c+(rss.length+2)->r<rss.length+2->(Sv.colS c rss.length (AOf rss) (rowF (papR c o)) (rowF gs) v r).natAbs<=2 ^ n:=λv r _ _=>by
  unfold Sv.colS;split
  ·split
   ·rename_i h
    have er:rss[r]?=some (rss[r]'h):=by simp
    have eg:rss.getD r []=rss[r]'h:=by simp[List.getD,h]
    obtain⟨_,D,Ws,rp⟩:=hrs _ (YG er);have:=Wz rp v;unfold AOf;rw[eg];exact XZ this
   split
   ·exact XZ ((Wz (Vc c o) v).mono hn)
   obtain⟨D,Ws,rp⟩:=hgs;exact XZ (Wz rp v)
  split
  ·exact p1
  exact JH _
 have hrhs:∀ r,r<rss.length+2->(Sv.rhsS rss.length r).natAbs<=2 ^ n:=λr _=>by
  unfold Sv.rhsS;split
  ·exact p1
  exact JH _
 have h5:(rss.length+2)*2 ^ n<=2 ^ (n+5):=by
  rw[zP,qf];exact GG _ (show rss.length+2<=2 ^ 5 by omega)
 have fin:∀ (x k:Nat),x<=(2 ^ (n+5)) ^ k->k<=min c (rss.length+2)->x<2 ^ bitsOf n c rss.length:=λx k h hk=>by
  rw[<-Nat.pow_mul] at h;refine JL h (Y0H (by decide) ?_);unfold bitsOf;have:=GG (n+5) hk;omega
 by_cases hcm:c<=rss.length+2
 ·have hcw:∀ v,v<c+(rss.length+2)->Sv.sN (rss.length+2) (λr=>(Sv.colS c rss.length (AOf rss) (rowF (papR c o)) (rowF gs) v r).natAbs)<=(2 ^ (n+5)) ^ Sv.isW c v:=λv hv=>by
   by_cases q:v<c
   ·have e:Sv.isW c v=1:=YJ q;rw[e,Nat.pow_one];exact YX (Sv.sN_const λr hr=>hcol v r hv hr) h5
   have e:Sv.isW c v=0:=YH q;rw[e,Nat.pow_zero];refine YX (Y0t (Sv.sN_congr λr _=>?_)) (Sv.sN_unit (i:=v - c));unfold Sv.colS;rw[YH q]
  have hrw:Sv.sN (rss.length+2) (λr=>(Sv.rhsS rss.length r).natAbs)<=1:=by
   refine YX (Y0t (Sv.sN_congr λr _=>?_)) (Sv.sN_unit (i:=rss.length));unfold Sv.rhsS;by_cases q:r=rss.length
   ·rw[YJ q,YJ q.symm]
   rw[YH q,YH (XJ q)]
  exact⟨λi j hi hj=>fin _ c (I.sizeW hcw hrw (qe _) hi hj) (by omega),fin _ c (I.sizeBW hcw (qe _)) (by omega)⟩
 have low:∀ x,x<=((rss.length+2)*2 ^ n) ^ (rss.length+2)->x<2 ^ bitsOf n c rss.length:=λx h=>fin x (rss.length+2) (YX h (Y0J h5 _)) (by omega);exact⟨λi j hi hj=>low _ (I.size hcol hrhs hi hj),low _ (I.sizeB hcol)⟩
end Sb
namespace Sv
theorem Mg (f:TW):∀ n,pN (n+1) f=f 0*pN n (λr=>f (r+1))
 | 0=>by show 1*f 0=f 0*1;omega
 | n+1=>by
  show pN (n+1) f*f (n+1)=f 0*(pN n (λr=>f (r+1))*f (n+1));rw[Mg f n,Y0O]
theorem J2 (f:TW)(k:Nat):∀ m,sN m (λi=>f (skip k i))<=sN (m+1) f
 | 0=>JH _
 | m+1=>by
  show sN m (λi=>f (skip k i))+f (skip k m)<=sN (m+1) f+f (m+1);by_cases h:m<k
  ·have e:skip k m=m:=by unfold skip;split <;> omega
   have e2:sN m (λi=>f (skip k i))=sN m f:=sN_congr λi hi=>by
    have:skip k i=i:=by unfold skip;split <;> omega
    rw[this]
   rw[e,e2];show sN m f+f m<=sN m f+f m+f (m+1);omega
  have e:skip k m=m+1:=by unfold skip;split <;> omega
  have:=J2 f k m;rw[e];omega
theorem Z0u:∀ {m:Nat} {v:Mat} {w:TW},(∀ r,r<m->sN m (λk=>(v k r).natAbs)<=w r)->(det m v).natAbs<=pN m w
 | 0,_,_,_=>by show (1:Int).natAbs<=1;decide
 | m+1,v,w,h=>by
  have key:(sm (m+1) (λk=>sgn k*v k 0*det m (minor v k))).natAbs<=sN (m+1) (λk=>(v k 0).natAbs*pN m (λr=>w (r+1))):=by
   refine YX N2 (Ca λk hk=>?_);show (sgn k*v k 0*det m (minor v k)).natAbs<=_;rw[JY,JY,Rb,Y13];refine GG _ (Z0u (m:=m) λr hr=>?_);exact YX (J2 (λi=>(v i (r+1)).natAbs) k m) (h (r+1) (by omega))
  refine YX key ?_;rw[K2,Mg];exact GL _ (h 0 (by omega))
section
variable {m n:Nat}{col:Nat->Vec}{rhs:Vec}{T:Tab}
theorem Inv.sizeR (I:Inv m n col rhs T){B:TW}(hc:∀ v r,v<n+m->r<m->(col v r).natAbs<=B r)(hr:∀ r,r<m->(rhs r).natAbs<=B r){i j:Nat}(hi:i<m)(hj:j<=n):(T.L i j).natAbs<=pN m (λr=>m*B r):=by
 rw[<-I.phi hi hj];refine Z0u λr hr'=>sN_const λk hk=>?_;by_cases e:k=i
 ·subst e;rw[Ye];by_cases hjn:j<n
  ·rw[W5 hjn];exact hc _ _ (I.hdLt hjn) hr'
  unfold colOf;rw[YH hjn];exact hr r hr'
 rw[Y7 e];exact hc _ _ (I.ownLt hk) hr'
theorem Inv.sizeBR (I:Inv m n col rhs T){B:TW}(hc:∀ v r,v<n+m->r<m->(col v r).natAbs<=B r):T.b.natAbs<=pN m (λr=>m*B r):=by
 rw[<-I.dt];exact Z0u λr hr'=>sN_const λk hk=>hc _ _ (I.ownLt hk) hr'
theorem pN_two (x:TW):∀ m,pN m (λr=>2 ^ x r)=2 ^ sN m x
 | 0=>rfl
 | m+1=>by
  show pN m (λr=>2 ^ x r)*2 ^ x m=2 ^ (sN m x+x m);rw[pN_two x m,zP]
end
end Sv
namespace Sb
open PySem L2
theorem Z13 {c ng:Nat}{nb:TW}{o:TV}(hrs:∀ (r:Nat) (rs:UA),rss[r]?=some rs->∃ D Ws,RepL (nb r) D Ws rs)(hgs:∃ D Ws,RepL ng D Ws gs)(hm:rss.length+2<=32)(I:InvR c rss o gs T):TabBd (Sv.sN rss.length (λr=>nb r+5)+ng+12) (rss.length+2) c T:=by
 have hcol:∀ v r,v<c+(rss.length+2)->r<rss.length+2->(Sv.colS c rss.length (AOf rss) (rowF (papR c o)) (rowF gs) v r).natAbs<=2 ^ (if r<rss.length then nb r else if r=rss.length then 1 else ng):=λv r _ _=>by
  have p1:1<=2 ^ (if r<rss.length then nb r else if r=rss.length then 1 else ng):=qe _;unfold Sv.colS;split
  ·split
   ·rename_i h
    have er:rss[r]?=some (rss[r]'h):=by simp
    have eg:rss.getD r []=rss[r]'h:=by simp[List.getD,h]
    obtain⟨D,Ws,rp⟩:=hrs r _ er;have:=Wz rp v;unfold AOf;rw[eg];exact XZ this
   split
   ·exact XZ (Wz (Vc c o) v)
   obtain⟨D,Ws,rp⟩:=hgs;exact XZ (Wz rp v)
  split
  ·exact p1
  exact JH _
 have hrhs:∀ r,r<rss.length+2->(Sv.rhsS rss.length r).natAbs<=2 ^ (if r<rss.length then nb r else if r=rss.length then 1 else ng):=λr _=>by
  have p1:1<=2 ^ (if r<rss.length then nb r else if r=rss.length then 1 else ng):=qe _;unfold Sv.rhsS;split
  ·exact qe _
  exact JH _
 have fin:∀ x,x<=Sv.pN (rss.length+2) (λr=>(rss.length+2)*2 ^ (if r<rss.length then nb r else if r=rss.length then 1 else ng))->x<2 ^ (Sv.sN rss.length (λr=>nb r+5)+ng+12):=λx h=>by
  have h2:Sv.pN (rss.length+2) (λr=>(rss.length+2)*2 ^ (if r<rss.length then nb r else if r=rss.length then 1 else ng))<=Sv.pN (rss.length+2) (λr=>2 ^ ((if r<rss.length then nb r else if r=rss.length then 1 else ng)+5)):=Sv.pN_le λr _=>by
   show (rss.length+2)*2 ^ _<=2 ^ (_+5);rw[zP,qf];exact GG _ (show rss.length+2<=2 ^ 5 by omega)
  rw[Sv.pN_two] at h2;refine JL (YX h h2) (Y0H (by decide) ?_);show Sv.sN rss.length (λr=>(if r<rss.length then nb r else if r=rss.length then 1 else ng)+5)+((if rss.length<rss.length then nb rss.length else if rss.length=rss.length then 1 else ng)+5)+((if rss.length+1<rss.length then nb (rss.length+1) else if rss.length+1=rss.length then 1 else ng)+5)<_;have e:Sv.sN rss.length (λr=>(if r<rss.length then nb r else if r=rss.length then 1 else ng)+5)=Sv.sN rss.length (λr=>nb r+5):=Sv.sN_congr λk hk=>by rw[YJ hk]
  rw[e,YH (XO _),YJ rfl,YH (by omega),YH (by omega)];omega
 exact⟨λi j hi hj=>fin _ (I.sizeR hcol hrhs hi hj),fin _ (I.sizeBR hcol)⟩
end Sb
namespace Sv
end Sv
namespace Sv
section
variable {m n:Nat}{col:Nat->Vec}{rhs:Vec}{T:Tab}
end
end Sv
namespace Sb
open PySem L2
section
variable {P:TR}{w:World}{K:TQ}{mg:TB}{base:Heap}{C:Addr}
structure NoneT (c:Nat)(rss:UB)(o:TV)(gs:UA)(T:UC):Prop where
 inv:InvR c rss o gs T
 lk:T.own rss.length=c+rss.length
 aim:T.own (rss.length+1)=c+rss.length+1
 no:∀ j,j<c->T.hd j≠c+rss.length->T.L rss.length j<=0
structure MostT (c:Nat)(rss:UB)(o:TV)(gs:UA)(T:UC):Prop where
 inv:InvR c rss o gs T
 feas:Sv.Feas (rss.length+2) c (c+rss.length) T
 aim:T.own (rss.length+1)=c+rss.length+1
 lk:∃ jl,jl<c/\T.hd jl=c+rss.length
 no:∀ j,j<c->T.hd j≠c+rss.length->T.L (rss.length+1) j<=0
def loadsR (c g:Nat)(T:UC):List Rat:=(List.range c).map λv=>nrm (Sv.endOf (g+2) c T v) T.b
def valueR (c g:Nat)(gs:UA)(T:UC):Rat:=nrm (-Sv.endOf (g+2) c T (c+g+1)) (lcmB gs*T.b)
theorem Ud {H H':Hp}{q:Addr}(S:Same H H')(h:H' q=none):H q=none:=by
 cases z:H q with
 | none=>rfl
 | some o =>
  have:=S _ _ z;rw[h] at this
  cases this
inductive spSolveN (K:TQ) (vs:TY) (H:Hp) (Q:VK) (_z3:XK):Prop
 | i (l g:Addr) (ve:V) (c n N:Nat) (rss:UB) (o:TV) (as:UA) (_:vs=[.int (c:Int),.ref l,ve,.ref g]) (_:RowsAt K H l rss) (_:EvAt K H c o ve) (_:RowAt K H g as) (_:as.length=c) (_:(∀ rs∈rss,rs.length=c/\∃ D Ws,RepL n D Ws rs)) (_:(∃ D Ws,RepL n D Ws as)) (_:1<=n) (_:n<=4000) (_:N<=8000) (_:n+N<=8800) (_:(∀ T':Sv.Tab,InvR c rss o (cutR o as) T'->TabBd N (rss.length+2) c T')) (_:1<=c) (_:c<=800) (_:rss.length+2<=32) (_:(∀ (T:UC) (q t:Addr) (xs:TY) (H':Hp),H q=none->Same H H'->NoneT c rss o (cutR o as) T->H' q=some (.lst xs)->Rs K H' (multR c rss T rss.length 1) xs->SqT K H' t [.str "none",.ref q]->Q (.ref t) H')) (_:(∀ (T:UC) (q t va lo:Addr) (xs:TY) (H':Hp),H q=none->Same H H'->MostT c rss o (cutR o as) T->H' q=some (.lst xs)->Rs K H' (multR c rss T (rss.length+1) (lcmB (cutR o as))) xs->IsR K H' (valueR c rss.length (cutR o as) T) (.ref va)->RowAt K H' lo (loadsR c rss.length T)->SqT K H' t [.str "most",.ref va,.ref lo,.ref q]->Q (.ref t) H'))
theorem B6 (D:Def K mg "solve" jV VA)(T0:Blt mg)(tc:TabC K mg C)(gR:Has P w K mg base 2 "cut" UV (spCut K))(gZ:Has P w K mg base 4 "start" UY (spStart K C))(gC:Has P w K mg base 4 "driven" UK (spDriven C))(eQ:Has P w K mg base 4 "shown_multiples" UZ (spShown K C))(eD:Z5 P w K mg base)(fF:Has P w K mg base 3 "ratio" UI spLowest)(gQ:Has P w K mg base 2 "end_of" UM (spEndOf C)):Has P w K mg base 5 "solve" VA (spSolveN K):=by
 refine D.h9 (N:=["count","rows","event","aim","goal","lack","table","bottom","value","loads"]) fsc λH Q hr h nd=>?_;obtain⟨l,g,ve,c,n,N,rss,o,as,rfl,hR,hv,hg,gl,hrs,⟨Da,Wa,ra⟩,hn1,hn,hbits,hnN,hbd,hc2,hc,hm,kN,kM⟩:=h;have T:=T0;have nd1:(["world","table"]:List Str).Nodup:=by decide +kernel
 refine⟨_,(Z9 (Zi (i:=4) nd rfl (Or.inl rfl) (Zf gR hr (Z0 (pv 3) (Z0 (pv 2) Z8))))
  (Z9 (Zi (i:=5) nd rfl (Or.inl rfl) (Zm Yx (pv 0) (Zx Y2 rfl T.len qp (Z0 (pv 1) Z8))))
  (Z9 (Zi (i:=6) nd rfl (Or.inr rfl) (Zf gC hr (Z0 (Zf gZ hr (Z0 (pv 0) (Z0 (pv 1) (Z0 (pv 2) (Z0 (pv 4) Z8))))) (Z0 (pv 5) Z8))))
  (Z9 (Y4 (Zl Wo (pv 5) (Yi (pv 6) rfl) rfl)
   (Zc (Zh (Yc (Z0 Xr (Z0 (Zf eQ hr (Z0 (pv 0) (Z0 (pv 1) (Z0 (pv 6) (Z0 (pv 5) (Z0 Za Z8)))))) Z8)))))
   Zp)
  (Z9 (Zi (i:=6) nd rfl (Or.inr rfl) (Zf gC hr (Z0 (pv 6) (Z0 (Zm Yx (pv 5) Za) Z8))))
  (Z9 (Zi (i:=7) nd rfl (Or.inl rfl) (Zf eD hr (Z0 (pv 4) Z8)))
  (Z9 (Zi (i:=8) nd rfl (Or.inl rfl) (Zf fF hr (Z0 (U4 Wt (Zf gQ hr (Z0 (pv 6) (Z0 (Zm Yx (pv 5) Za) Z8)))) (Z0 (Zm Y1 (pv 7) (Yi (pv 6) rfl)) Z8))))
  (Z9 (Zi (i:=9) nd rfl (Or.inl rfl) (Zw Zy rfl T.tuple YZ (Z0 (Ym (N:=["world","table"]) (k:=1) (fv:=[6]) rfl (Yl rfl T.range (Z0 (pv 0) Z8))
  (λ_ _ _ _ _=>Zk (i:=0) nd1 rfl (Or.inl rfl)) (λ_ _ _ _ _=>Ya) (λ_ _ _ _ _=>(Zf fF hr (Z0 (Zf gQ hr (Z0 (pv 1) (Z0 (pv 0) Z8))) (Z0 (Nc (K:=K) (pv 1) rfl) Z8)))) Y0) Z8)))
  (Zc (Zh (Yc (Z0 Xr (Z0 (pv 8) (Z0 (pv 9) (Z0 (Zf eQ hr (Z0 (pv 0) (Z0 (pv 1) (Z0 (pv 6) (Z0 (Zm Yx (pv 5) Za) (Z0 (pv 7) Z8)))))) Z8))))))))))))))),?_⟩
 have o1:rss.length<rss.length+2:=Nat.lt_add_of_pos_right (by decide);have o2:rss.length+1<rss.length+2:=Y0n _;have o3:rss.length+2<=900:=YX hm (by decide);have o4:c<=900:=YX hc (by decide);have o5:rss.length<=900:=YX (GZ _ 2) o3;have o6:rss.length+2<=1000:=YX o3 (by decide);have o8:c<=1000:=YX o4 (by decide);have o9:rss.length<=800:=YX (GZ _ 2) (YX hm (by decide));have ev':EvAt K H as.length o ve:=by rw[gl];exact hv
 refine⟨_,rfl,_,rfl,g,ve,as,o,rfl,hg,ev',by rw[gl];exact o8,λpg H1 S1 rg=>?_⟩;obtain⟨ads,hl,hp⟩:=id hR;have elen:(ads.map V.ref).length=rss.length:=by rw[YC];exact XG hp
 have gl':(cutR o as).length=c:=by rw[Yp];exact gl
 refine⟨_,rfl,_,rfl,l,_,rfl,.inl (SqL.of (S1 _ _ hl)),?_⟩;rw[elen];refine⟨_,_,rfl,rfl,?_⟩;refine⟨_,rfl,_,rfl,_,rfl,_,rfl,l,pg,ve,c,n,rss,o,cutR o as,rfl,⟨ads,S1 _ _ hl,Yw hp (Ext.same S1)⟩,hv.same S1,rg,gl',hrs,⟨_,_,ra.cut o⟩,hn1,hn,hc2,hc,o9,λq2 H2 S2 tab2=>?_⟩;refine⟨_,rfl,q2,rss.length+2,c,c+rss.length,rss.length,N,c+rss.length,Sv.colS c rss.length (AOf rss) (rowF (papR c o)) (rowF (cutR o as)),Sv.rhsS rss.length,(λT'=>T'.own (rss.length+1)=c+rss.length+1),_,rfl,tab2,o1,o3,o4,hbits,Sv.inv0,Sv.feas0,rfl,rfl,hbd,λT' c' I' F' X' ho hc' hnl hpos=>⟨rss.length,o1,by rw[ho];exact YD _,hpos⟩,λT' pl c' I' X' st=>?_,λq3 H3 T3 S3 tab3 ⟨I3,F3,X3,alt⟩=>?_⟩
 ·have:pl≠rss.length+1:=λz=>by
   have:=st.el;rw[z,X'] at this;omega
  show (Sv.piv T' pl c').own (rss.length+1)=_;rw[Sv.own_ne (XJ this)];exact X'
 have S03:=(S1.trans S2).trans S3;obtain⟨dx,la,oa,ha,las,h1,h2,h3,h4,h5,h6⟩:=id tab3;refine⟨_,rfl,_,rfl,q3,C,dx,_,_,rfl,h1,tc.cl,tc.nO,Xd,Nn h5 ⟨_,rfl,?_⟩⟩;rcases alt with ⟨ho,hno⟩ | ⟨T1,c1,ho,I1,st,e3⟩
 ·refine X6 (λ_=>?_) (λh=>absurd (XQ (mem_ownI.mpr ⟨rss.length,o1,ho⟩)) h);refine⟨_,rfl,_,rfl,_,rfl,_,rfl,l,q3,c,rss.length+2,c+rss.length,rss.length,n,N,1,rss,T3,by rw[ho];rfl,⟨ads,S03 _ _ hl,Yw hp (Ext.same S03)⟩,tab3,TabOk.of I3,hbd _ I3,I3.pos,o1,o3,o4,o5,λrs hr=>(hrs rs hr).2,by decide,(show Bd n 1 from YU (show (1:Int).natAbs<2 ^ 1 by decide) (GF (by decide) hn1)),hn,hnN,λq4 xs H4 f4 S4 e4 r4=>?_⟩;refine⟨sz2,λt ht=>?_⟩;have S5:=Same.new (o:=.tup [.str "none",.ref q4]) ht;exact kN T3 q4 t xs _ (Ud S03 f4) ((S03.trans S4).trans S5) ⟨I3,ho,X3,hno⟩ (S5 _ _ e4) (r4.ext (Ext.same S5)) (SqT.of Zb)
 subst e3;have hlk:∃ jl,jl<c/\(Sv.piv T1 rss.length c1).hd jl=c+rss.length:=⟨c1,st.hc,by
  show Sv.up T1.hd c1 (T1.own rss.length) c1=_;unfold Sv.up;rw[YJ rfl];exact ho⟩
 generalize Sv.piv T1 rss.length c1=T3 at *
 refine X6 (λh=>?_) (λ_=>?_)
 ·obtain⟨i,hi,e⟩:=mem_ownI.mp (XH h);obtain⟨jl,hjl,ej⟩:=hlk;exact absurd (e.trans ej.symm) (I3.ne hi hjl)
 have ok3:=TabOk.of I3;refine⟨_,rfl,_,rfl,_,_,rfl,rfl,q3,rss.length+2,c,c+rss.length,rss.length+1,N,c+rss.length+1,Sv.colS c rss.length (AOf rss) (rowF (papR c o)) (rowF (cutR o as)),Sv.rhsS rss.length,(λT'=>∃ jl,jl<c/\T'.hd jl=c+rss.length),T3,rfl,tab3,o2,o3,o4,hbits,I3,F3,hlk,X3,hbd,λT' c' I' F' X' ho' hc' hnl hpos=>?_,λT' pl c' I' X' st'=>?_,λq5 H5 T5 S5 tab5 ⟨I5,F5,X5,alt⟩=>?_⟩
 ·obtain⟨jl,hjl,ej⟩:=X';obtain⟨k,hk,h7,h8⟩:=Sv.InvS.bounded I' (λv hv=>Z20 hv) (λv hv z=>Gp hv gl z) (i:=rss.length+1) (o2) ho' hjl ej hc' hnl hpos;exact⟨k,hk,h7,h8⟩
 ·obtain⟨jl,hjl,ej⟩:=X';refine⟨jl,hjl,?_⟩;show Sv.up T'.hd c' (T'.own pl) jl=_;unfold Sv.up;rw[YH (λz=>st'.nl (by rw[<-z];exact ej))];exact ej
 have ho5:T5.own (rss.length+1)=c+rss.length+1/\∀ j,j<c->T5.hd j≠c+rss.length->T5.L (rss.length+1) j<=0:=by
  rcases alt with h | ⟨T6,c6,h7,_,st6,_⟩
  ·exact h
  have:=st6.el;omega
 have S05:=S03.trans S5;have bd5:=hbd _ I5;have ok5:=TabOk.of I5;have gr:=(ra.cut o).least;obtain⟨xg,hg1,hg2⟩:=rg.same ((S2.trans S3).trans S5);obtain⟨dx5,la5,oa5,ha5,las5,t1,t2,t3,t4,t5,t6⟩:=id tab5;refine⟨_,rfl,pg,xg,cutR o as,n,_,_,rfl,.inr hg1,hg2,ra.cut o,hn,?_⟩;have hq0:lcmB (cutR o as)*T5.b≠0:=by
  have:=XX gr.pos I5.pos;omega
 refine⟨_,rfl,_,rfl,_,_,rfl,rfl,q5,rss.length+2,c,c+rss.length,c+rss.length+1,T5,rfl,tab5,ok5,o6,o8,_,rfl,_,rfl,_,rfl,q5,C,dx5,_,_,rfl,t1,tc.cl,tc.nB,Vj,_,_,rfl,rfl,gr.bD.mulOk bd5.b (YX hn (by decide)) (YX hbits (by decide)),_,_,rfl,hq0,(gr.bD.mul bd5.b).log (JL hnN (by decide)),λva H6 f6 S6 e6=>?_⟩;have S06:=S05.trans S6;have t1':=S6 _ _ t1;refine⟨_,rfl,(c:Int),rfl,(by omega),(by omega),λd hd=>?_⟩;have et:(c:Int).toNat=c:=by omega
 rw[et];refine⟨c,λi ys H2=>Same H6 H2/\Rs K H2 ((loadsR c rss.length T5).take i) ys,Zq (o8),⟨Same.new hd,.nil⟩,?_,?_⟩
 ·rintro i ys H7 hi ⟨S7,r7⟩ hd7;refine⟨hi,?_⟩;rintro x H8 ⟨rfl,rfl⟩;refine Yh ?_;have S57:=S6.trans S7;refine⟨_,rfl,_,rfl,q5,rss.length+2,c,c+rss.length,i,T5,by rw[Int.zero_add];rfl,tab5.same S57,ok5,o6,o8,_,rfl,q5,C,dx5,_,_,rfl,S57 _ _ t1,tc.cl,tc.nB,Vj,_,_,rfl,by have:=I5.pos;omega,bd5.b.log (JL hbits (by decide)),λa8 H8 f8 S8 e8=>?_⟩;have hd8:=S8 _ _ hd7;refine⟨hd8,λq z e=>?_,?_⟩
  ·rw[Ze (Zd e hd)];exact S8 _ _ (S7 _ _ e)
  have e4:(loadsR c rss.length T5)[i]?=some (nrm (Sv.endOf (rss.length+2) c T5 i) T5.b):=by
   unfold loadsR;rw[YF,zz hi];rfl
  rw[Yf e4];refine ((r7.ext (Ext.same S8)).ext (Ext.upd hd8)).snoc ⟨a8,rfl,SqT.of ?_⟩;rw[Ze (λz=>by rw[z] at e8;rw[e8] at hd8;cases hd8)];exact e8
 rintro ys H7 ⟨S7,r7⟩ hd7;rw[YM (by unfold loadsR;simp)] at r7;refine⟨YD _,d,ys,rfl,.inl ⟨SqL.of hd7,λlo hlo=>?_⟩⟩;have S8:=S7.trans (Same.new (o:=.tup ys) hlo);have row8:RowAt K (upd H7 lo (.tup ys)) lo (loadsR c rss.length T5):=⟨ys,SqT.of Zb,r7.ext (Ext.new hlo)⟩;generalize upd H7 lo (.tup ys)=H8 at *
 have S08:=S06.trans S8;have S58:=S6.trans S8;refine⟨_,rfl,_,rfl,_,rfl,_,rfl,_,rfl,_,rfl,_,_,rfl,rfl,_,rfl,l,q5,c,rss.length+2,c+rss.length,rss.length+1,n,N,lcmB (cutR o as),rss,T5,by rw[ho5.1];rfl,⟨ads,S08 _ _ hl,Yw hp (Ext.same S08)⟩,tab5.same S58,ok5,bd5,I5.pos,o2,o3,o4,o5,λrs hr=>(hrs rs hr).2,gr.pos,gr.bD,hn,hnN,λq9 xs H9 f9 S9 e9 r9=>?_⟩;refine⟨sz4,λt ht=>?_⟩;have SX:=Same.new (o:=.tup [.str "most",.ref va,.ref lo,.ref q9]) ht;refine kM T5 q9 t va lo xs _ (Ud S08 f9) ((S08.trans S9).trans SX) ⟨I5,F5,ho5.1,X5,ho5.2⟩ (SX _ _ e9) (r9.ext (Ext.same SX)) ⟨va,rfl,SqT.of (SX _ _ (S9 _ _ (S8 _ _ e6)))⟩ ((row8.same S9).same SX) (SqT.of Zb)
end
open Sv (sm Y6 V4 Xa sm_zero Yb Y8 T7)
theorem Mu {c:Nat}{o:TV}:lcmB (papR c o)=1:=by
 have h:∀ r∈papR c o,0<r.2:=λr hr=>((Vc c o).good r hr).pos;obtain⟨h1,_,h3⟩:=Wp h;have h4:=h3 1 λr hr=>by
  obtain⟨i,hi⟩:=XN hr;have hc:i<c:=by
   have:=(YE.mp hi).1;rw[U6] at this;exact this
  have e:(papR c o)[i]?=some (if inE o i then (1,1) else (0,1)):=V2 (by simp[hc]);rw[e] at hi
  cases hi
  cases inE o i <;> exact Int.one_dvd 1
 have:=Xi (by decide) h4;omega
theorem TabOk.endBd {m n N:Nat}(h:TabOk m n T)(bd:TabBd N m n T)(v:Nat):Bd N (Sv.endOf m n T v):=by
 by_cases q:∃ i,i<m/\T.own i=v
 ·obtain⟨i,hi,rfl⟩:=q;rw[h.endO hi];exact bd.l i n hi (YD _)
 have:Sv.endOf m n T v=0:=Sv.sm_zero λi hi=>YH λz=>q ⟨i,hi,z⟩;rw[this];exact Bd.zero N
def endZ (c g:Nat)(T:UC):List Int:=(List.range c).map λv=>Sv.endOf (g+2) c T v
theorem Fr {c g v:Nat}(hv:v<c):(endZ c g T).getD v 0=Sv.endOf (g+2) c T v:=by
 unfold endZ;simp[List.getD,hv]
theorem Tz {c g N:Nat}(pos:0<T.b)(ok:TabOk (g+2) c T)(bd:TabBd N (g+2) c T):RepL N T.b (endZ c g T) (loadsR c g T) :=
 RepL.of_map pos bd.b (List.range c) _ _ λv _=>⟨Xc _ _,ok.endBd bd v,X8 (by omega)⟩
theorem Tv {r:Rat}{W:Int}(hD:0<D)(hr:0<r.2)(h:r.1*D=W*r.2):(0<=r.1 ↔ 0<=W)/\(r.1<=0 ↔ W<=0)/\(r.1=0 ↔ W=0):=by
 have a1:0<r.1->0<W:=λz=>by
  have h1:=XX z hD;rw[h] at h1;apply YR;intro q;have:=GJ (show W<=0 by omega) (show 0<=r.2 by omega);omega
 have a2:r.1<0->W<0:=λz=>by
  have h1:=XX (show 0 < -r.1 by omega) hD;rw[Y15,h] at h1;apply YR;intro q;have:=zy (show 0<=W by omega) (show 0<=r.2 by omega);omega
 have a3:r.1=0->W=0:=λz=>by
  rw[z,ja] at h;rcases Int.mul_eq_zero.mp h.symm with q | q <;> omega
 omega
structure LoadsOk (c:Nat)(rss:UB)(o:TV)(as:UA)(N:Nat)(ls:UA)(va:Rat):Prop where
 len:ls.length=c
 rep:∃ D Ls,RepL N D Ls ls
 nn:∀ r∈ls,0<=r.1
 fit:∀ rs∈rss,(sumR (List.zipWith mulR' ls rs)).1<=0
 lie:sumR (List.zipWith mulR' ls (papR c o))=(1,1)
 val:va=sumR (List.zipWith mulR' ls (cutR o as))
theorem MostT.sv {c:Nat}{o:TV}(h:MostT c rss o gs T):Sv.Most c rss.length (AOf rss) (rowF (papR c o)) (rowF gs) T (rss.length+1):=by
 obtain⟨jl,hjl,ej⟩:=h.lk;exact Sv.InvS.most h.inv h.feas (by omega) h.aim hjl ej h.no
theorem NoneT.sv {c:Nat}{o:TV}(h:NoneT c rss o gs T):(∀ k,k<rss.length->Sv.numAt c T rss.length (c+k)<=0)/\∀ w,w<c->rowF (papR c o) w*T.b<=sm rss.length (λk=>AOf rss k w * -Sv.numAt c T rss.length (c+k)) :=
 Sv.InvS.none h.inv (by omega) h.lk (ia:=rss.length+1) (by omega) h.aim h.no
theorem Pj {c g:Nat}:(loadsR c g T).length=c:=by unfold loadsR;simp
theorem Z0r {c g:Nat}:(endZ c g T).length=c:=by unfold endZ;simp
theorem Lj {v:Nat}:(wholeB rs (lcmB rs)).getD v 0=rowF rs v:=rfl
theorem Ut {c g N n:Nat}(pos:0<T.b)(ok:TabOk (g+2) c T)(bd:TabBd N (g+2) c T)(h:RepL n D Zs rs)(hl:rs.length=c) :
  (sumR (List.zipWith mulR' (loadsR c g T) rs)).1*(T.b*lcmB rs)=sm c (λw=>rowF rs w*Sv.endOf (g+2) c T w)*(sumR (List.zipWith mulR' (loadsR c g T) rs)).2/\Low (sumR (List.zipWith mulR' (loadsR c g T) rs)):=by
 have hw:=h.least;obtain⟨e,lo⟩:=((Tz pos ok bd).mul hw (by rw[Pj];omega)).sum;refine⟨?_,lo⟩;have e2:(List.zipWith (·*·) (endZ c g T) (wholeB rs (lcmB rs))).sum=sm c (λw=>rowF rs w*Sv.endOf (g+2) c T w):=by
  rw[Kx c _ _ Z0r (by rw[hw.len];exact hl)];refine Y6 λi hi=>?_;rw[Fr hi,Lj,XL]
 rw[<-e2];exact e
theorem MostT.loads {c n:Nat}{o:TV}(h:MostT c rss o (cutR o as) T)(hrs:∀ rs∈rss,rs.length=c/\∃ D Ws,RepL n D Ws rs)(ha:∃ D Ws,RepL n D Ws as)(la:as.length=c)(hn:1<=n)(hm:rss.length+2<=32) :
  LoadsOk c rss o as (bitsOf n c rss.length) (loadsR c rss.length T) (valueR c rss.length (cutR o as) T):=by
 have I:=h.inv;have pos:=I.pos;have ok:=TabOk.of I;obtain⟨Da,Wa,ra⟩:=ha;have bd:=De hrs ⟨_,_,ra.cut o⟩ hn hm I;have M:=h.sv;have lr:=Tz pos ok bd;refine⟨Pj,⟨_,_,lr⟩,λr hr=>?_,λrs hr=>?_,?_,?_⟩
 ·unfold loadsR at hr;obtain⟨v,hv,rfl⟩:=XM.mp hr;have hv':v<c:=by simpa using hv
  exact ((Tv (r:=nrm (Sv.endOf (rss.length+2) c T v) T.b) pos (X8 (by omega)).pos (Xc _ _)).1).mpr (M.x0 v hv')
 ·obtain⟨hl,D,Ws,rp⟩:=hrs rs hr;obtain⟨e,lo⟩:=Ut pos ok bd rp hl;obtain⟨k,hk,ek⟩:=Y0K hr;have ea:AOf rss k=rowF rs:=by
   funext v
   unfold AOf rowF;simp[List.getD,hk,ek]
  have:=M.fit k hk;rw[ea] at this;have p2:=XX pos rp.least.pos;exact ((Tv p2 lo.pos e).2.1).mpr this
 ·obtain⟨e,lo⟩:=Ut pos ok bd (Vc c o) (U6 c o);rw[M.lie,Mu,GK,XL] at e;have e1:=JX (show T.b≠0 by omega) e;refine Xv lo.pos low11.pos lo.cop low11.cop ?_;show _*1=1*_;rw[e1];omega
 have lc:(cutR o as).length=c:=by rw[Yp];exact la
 obtain⟨e,lo⟩:=Ut pos ok bd (ra.cut o) lc;rw[M.val] at e;have p2:=XX (ra.cut o).least.pos pos;have lv:Low (valueR c rss.length (cutR o as) T):=X8 (by omega);have ev:(valueR c rss.length (cutR o as) T).1*(lcmB (cutR o as)*T.b)=-Sv.endOf (rss.length+2) c T (c+rss.length+1)*(valueR c rss.length (cutR o as) T).2:=Xc _ _;rw[<-h.aim,ok.endO (by omega)] at ev;generalize valueR c rss.length (cutR o as) T=va at *
 generalize sumR (List.zipWith mulR' (loadsR c rss.length T) (cutR o as))=s at *
 refine Xv lv.pos lo.pos lv.cop lo.cop ?_;have q0:lcmB (cutR o as)*T.b≠0:=by omega
 generalize hE:-T.L (rss.length+1) c=E at *
 generalize hL:lcmB (cutR o as)=L at *
 apply ql q0;have h1:va.1*s.2*(L*T.b)=(va.1*(L*T.b))*s.2:=by grind
 have h2:s.1*va.2*(L*T.b)=(s.1*(T.b*L))*va.2:=by grind
 rw[h1,h2,ev,e];grind
end Sb
namespace Sb
open PySem L2
def TabHere (K:TQ)(mg:TB):Prop:=∃ (C f:Addr) (fd:FuncData),TabC K mg C/\Mk K C f/\Fun K "__init__" "Table.__init__" iG f fd/\Binds K fd US []
theorem Z3n {sl:Array (Option Value)}{kV:Value}(X:K.In h)(G:h.Ns mainGlobals mg)
  (aC:W.nsIn K mainGlobals "Table"=some (some (.ref C)))
  (a1:W.findIn K (.ref C) "__init__"=some (some (.ref f))) (i1:W.isFn K (.ref f)=true) (l1:K.lookup f=some ⟨oc,od,.func (W.fnOf "__init__" "Table.__init__" (defArgs iG) (defBody iG) (defScope iG) .none kV dc pm an cd ct),sl⟩) (c1:W.codeIn K cd "Table.__init__"=true) (k1:W.keepIn K (.ref f)=true)
  (pg:W.plainGet K C Str.empty=true) (hd:W.hasDictIn K C=true) (po:W.plainOver K C=true) (sa:W.findIn K (.ref C) "__setattr__"=some (some (.builtin "object.__setattr__"))) (mk:W.makesIn K C=true) (kc:W.keepIn K (.ref C)=true)
  (nL:W.findIn K (.ref C) "lines"=some none) (nO:W.findIn K (.ref C) "owners"=some none) (nH:W.findIn K (.ref C) "heads"=some none) (nB:W.findIn K (.ref C) "bottom"=some none) (nK:W.findIn K (.ref C) "lack"=some none):TabHere K mg :=
 ⟨C,f,_,⟨⟨pg,hd,po,sa⟩,nL,nO,nH,nB,nK,zu X G aC⟩,⟨mk,a1,i1,kc⟩,Sg l1 c1 k1,(Sg l1 c1 k1).binds λ_ _ _ _ _ _ us hl=>match us,hl with | [_,_,_,_,_,_],_=>rfl⟩
inductive spMeanP (K:TQ) (vs:TY) (H:Hp) (Q:VK) (_z3:XK):Prop
 | i (a b:Addr) (xs us:TY) (ws rs:UA) (n n':Nat) (D D':Int) (Ws Zs:TU) (_:vs=[.ref a,.ref b]) (_:(SqL K H a xs \/ SqT K H a xs)) (_:Rs K H ws xs) (_:(SqL K H b us \/ SqT K H b us)) (_:Rs K H rs us) (_:ws.length=rs.length) (_:rs.length<=1000) (_:RepL n D Ws ws) (_:RepL n' D' Zs rs) (_:n+n'+10<=4000) (_:∀ c H',Same H H'->SqT K H' c [.int (sumR (List.zipWith mulR' ws rs)).1,.int (sumR (List.zipWith mulR' ws rs)).2]->Q (.ref c) H')
section
variable {P:TR}{w:World}{K:TQ}{mg:TB}{base:Heap}
theorem Bj (D:Def K mg "_law_mean" j3 VB)(T:Blt mg)(eH:Z3 P w K mg base)(eK:Z7 P w K mg base) :
  Has P w K mg base 4 "_law_mean" VB (spMeanP K):=by
 refine D.h9 (N:=["_law_weights_here","_law_row_here","_law_some","_law_k"]) fsc λH Q hr h nd=>?_;obtain⟨a,b,xs,us,ws,rs,n,n',D,D',Ws,Zs,rfl,hA,hWs,hB,hRs,hl,hl2,rw_,rr,hnn,k⟩:=h;refine⟨_,(Z9 (Zi (i:=2) nd rfl (Or.inl rfl) (Yc (Z0 Za (Z0 Za Z8))))
  (Z9 (Xm XY rfl (Yl rfl T.range (Z0 (Zx Y2 rfl T.len qp (Z0 (pv 1) Z8)) Z8)) (Zk (i:=3) nd rfl (Or.inl rfl))
   (Zc (Zi (i:=2) nd rfl (Or.inl rfl) (Zf eH hr (Z0 (pv 2) (Z0 (Zf eK hr (Z0 (Zj Z09 (pv 0) (pv 3) (λ_ _=>rfl)) (Z0 (Zj Z09 (pv 1) (pv 3) (λ_ _=>rfl)) Z8))) Z8))))))
  (Zc (Zh (pv 2))))),?_⟩
 refine⟨sz2,λp hp=>?_⟩;have lx:=hWs.len;have lu:=hRs.len;have S0:Same H (upd H p (.tup [.int 0,.int 1])):=Same.new hp;have rm:=rw_.mul rr hl;have lz:(List.zipWith mulR' ws rs).length=rs.length:=by rw[JR];omega
 have anyS:∀ {c:Addr} {ys:TY} {H1:Hp},Same H H1->(SqL K H c ys \/ SqT K H c ys)->(SqL K H1 c ys \/ SqT K H1 c ys):=λS h=>h.elim (λz=>.inl (M7 S z)) λz=>.inr (Zt S z);refine⟨_,rfl,b,us,rfl,anyS S0 hB,(us.length:Int),rfl,(by omega),(by omega),?_⟩;have et:(us.length:Int).toNat=us.length:=by omega
 rw[et];refine Uh (lo:=0) (n:=us.length) (λi σ H'=>Same H H'/\∃ (c:Addr) (x:TZ),σ=[some (.ref a),some (.ref b),some (.ref c),x]/\SqT K H' c [.int (sumR ((List.zipWith mulR' ws rs).take i)).1,.int (sumR ((List.zipWith mulR' ws rs).take i)).2]) ⟨S0,p,none,rfl,SqT.of Zb⟩ ?_ ?_
 ·rintro i σ H1 hi ⟨S1,c,x0,rfl,hc⟩;have e0:(0+(i:Int))=((i:Nat):Int):=by omega
  rw[e0];have hir:i<ws.length:=by omega
  have his:i<rs.length:=by omega
  have er:ws[i]?=some ws[i]:=by simp[hir]
  have es:rs[i]?=some rs[i]:=by simp[his]
  obtain⟨x1,ex,ix⟩:=hWs.at er;obtain⟨y1,ey,iy⟩:=hRs.at es;obtain⟨a1,rfl,sq1⟩:=ix.ext (Ext.same S1);obtain⟨b1,rfl,sq2⟩:=iy.ext (Ext.same S1);refine⟨_,rfl,_,rfl,_,rfl,a,xs,_,_,rfl,rfl,anyS S1 hA,Zg ex,_,rfl,_,rfl,b,us,_,_,rfl,rfl,anyS S1 hB,Zg ey,?_⟩;refine⟨a1,b1,ws[i],rs[i],n+n'+10,rfl,sq1,sq2,(rw_.good _ (XB hir)).mono (by omega),(rr.good _ (XB his)).mono (by omega),by omega,λc2 H2 f2 S2 e2=>?_⟩;have ez:(List.zipWith mulR' ws rs)[i]?=some (mulR' ws[i] rs[i]):=by rw[GB,er,es]
  refine⟨c,c2,_,mulR' ws[i] rs[i],n+n'+10,rfl,Zt S2 hc,SqT.of e2,(rm.take i).sumGood (k:=10) (by rw[JU];omega),(rm.good _ (YG ez)).mono (by omega),hnn,λc3 H3 f3 S3 e3=>?_⟩;refine⟨(S1.trans S2).trans S3,c3,_,rfl,?_⟩;rw[Pc ez];exact SqT.of e3
 rintro σ H1 ⟨S1,c,x0,rfl,hc⟩;rw[YM (by omega)] at hc;exact⟨_,rfl,k c H1 S1 hc⟩
end
open Sv (sm Y6 V4 Xa sm_zero Yb Y8 T7)
end Sb
namespace Sb
open PySem L2
open Sv (sm Y6 V4 Xa sm_zero Yb Y8 T7)
theorem Z5b {N i:Nat}{f:TX}(h:∀ j,j<i->Bd N (f j))(hi:i<=1000):Bd (N+10) (sm i f):=by
 have h1:=Sv.sm_abs (n:=i) (M:=2 ^ N) (f:=f) λj hj=>XZ (h j hj);have h2:i*2 ^ N<=1000*2 ^ N:=GL _ hi;have h3:2 ^ (N+10)=1024*2 ^ N:=by rw[zP,qf]
 have h4:=qe N;show (sm i f).natAbs<2 ^ (N+10);omega
structure ComeR (c n N:Nat)(rss:UB)(ms:UA)(D:Int)(E:Nat->Nat->Int):Prop where
 pos:0<D
 bD:Bd N D
 len:∀ rs∈rss,rs.length=c
 lm:ms.length=rss.length
 gr:∀ rs∈rss,∀ r∈rs,Good n r
 gm:∀ m∈ms,Good n m
 at_:∀ (j k:Nat) (rs:UA) (r m:Rat),rss[j]?=some rs->rs[k]?=some r->ms[j]?=some m->(mulR' r m).1*D=E j k*(mulR' r m).2/\Bd N (E j k)
def comeE (c g:Nat)(E:Nat->Nat->Int):List Int:=(List.range c).map λk=>sm g (λj=>E j k)
theorem Tp {c g k:Nat}{E:Nat->Nat->Int}(hk:k<c):(comeE c g E)[k]?=some (sm g (λj=>E j k)):=by
 unfold comeE;simp[hk]
theorem Z5x {c N:Nat}{E:Nat->Nat->Int}(pos:0<D)(bD:Bd N D):RepL (N+10) D (comeE c 0 E) (List.replicate c (0,1)):=by
 refine⟨pos,bD.mono (by omega),by unfold comeE;simp,λi W r hW hr=>?_⟩;have h2:=GI (YG hr);subst h2;have hi:i<c:=by have:=(YE.mp hr).1;simpa using this
 rw[Tp hi] at hW
 cases hW;refine⟨?_,bd0 _,Qh⟩;show (0:Int)*D=0*1;omega
theorem Fu {c n N g:Nat}{E:Nat->Nat->Int}{cs ns:UA}{m:Rat}(h:ComeR c n N rss ms D E)(hg:g<rss.length)(hg2:rss.length<=1000)(er:rss[g]?=some rs)(em:ms[g]?=some m)(rc:RepL (N+10) D (comeE c g E) cs)(ln:ns.length=c)(hn:∀ (k:Nat) (r x:Rat),cs[k]?=some x->rs[k]?=some r->ns[k]?=some (addR x (mulR' r m))):RepL (N+10) D (comeE c (g+1) E) ns:=by
 refine⟨h.pos,h.bD.mono (by omega),by unfold comeE;simp[ln],λk W z hW hz=>?_⟩;have hk:k<c:=by have:=(YE.mp hz).1;omega
 have lc:cs.length=c:=by rw[<-rc.len];unfold comeE;simp
 have lr:=h.len rs (YG er);have ex:cs[k]?=some (cs[k]'(by omega)):=by simp
 have ey:rs[k]?=some (rs[k]'(by omega)):=by simp
 have e:=hn k _ _ ex ey;rw[e] at hz
 cases hz;rw[Tp hk] at hW
 cases hW;obtain⟨a1,_,a3⟩:=rc.at_ k _ _ (Tp hk) ex;obtain⟨b1,_⟩:=h.at_ g k rs _ m er ey em;have gr:=h.gr rs (YG er) _ (YG ey);have gm:=h.gm m (YG em);have lm:=Wk gr.low gm.low;refine⟨?_,Z5b (λj hj=>?_) (by omega),Uf a3 lm⟩
 ·exact Rf a3.pos lm.pos a1 b1
 have hj':j<rss.length:=by omega
 have e1:rss[j]?=some rss[j]:=by simp[hj']
 have l1:=h.len rss[j] (XB hj');have e2:rss[j][k]?=some (rss[j][k]'(by omega)):=by simp
 have e3:ms[j]?=some (ms[j]'(by have:=h.lm;omega)):=by simp
 exact (h.at_ j k _ _ _ e1 e2 e3).2
theorem Q8 {c:Nat}{i:Nat}:(multR c rss T i b).length=rss.length:=by unfold multR;simp
end Sb
namespace Sb
open PySem L2
open Sv (sm Y6 V4 Xa sm_zero Yb Y8 T7)
def multY (c:Nat)(rss:UB)(T:UC)(i:Nat):List Int:=(List.range rss.length).map λk=>-(Sv.numAt c T i (c+k))*lcmB (rss.getD k [])
theorem Mo {c n N i:Nat}(hrs:∀ rs∈rss,rs.length=c/\∃ D Ws,RepL n D Ws rs)(pos:0<T.b)(ok:TabOk (rss.length+2) c T)(bd:TabBd N (rss.length+2) c T)(hi:i<rss.length+2)(hb:0<b)(bb:Bd n b):RepL (n+N) (b*T.b) (multY c rss T i) (multR c rss T i b):=by
 have p2:=XX hb pos;refine RepL.of_map p2 (bb.mul bd.b) (List.range rss.length) _ _ λk hk=>⟨Xc _ _,?_,X8 (by omega)⟩;have hk':k<rss.length:=by simpa using hk
 have eg:rss.getD k []=rss[k]:=by simp[List.getD,hk']
 obtain⟨_,D,Ws,rp⟩:=hrs _ (XB hk');have b1:=((ok.numBd bd hi (c+k)).neg).mul rp.least.bD;rw[zW] at b1;rw[eg];exact b1
def wholeM (ms:UA):List Int:=wholeB ms (lcmB ms)
theorem Lk (ms:UA):(wholeM ms).length=ms.length:=by unfold wholeM wholeB;simp
theorem LoadsOk.total {c N:Nat}{ls:UA}{va:Rat}(h:LoadsOk c rss none as N ls va):sumR ls=(1,1):=by
 have e:=h.lie;have e2:List.zipWith mulR' ls (papR c none)=ls:=by
  obtain⟨D,Ls,rL⟩:=h.rep;apply Y0h;intro i;rw[GB];by_cases hi:i<ls.length
  ·have h1:ls[i]?=some ls[i]:=by simp[hi]
   have h2:(papR c none)[i]?=some (1,1):=by
    have:(papR c none)[i]?=some (if inE none i then (1,1) else (0,1)):=V2 (by rw[zO,YJ (by have:=h.len;omega)]);rw[this];rfl
   rw[h1,h2];have lo:=(rL.good _ (XB hi)).low;have e:=Xc (ls[i].1*1) (ls[i].2*1);have l:Low (mulR' ls[i] (1,1)):=Wk lo low11;show some (mulR' ls[i] (1,1))=some ls[i]
   congr 1
   refine Xv l.pos lo.pos l.cop lo.cop ?_;have:(mulR' ls[i] (1,1)).1*(ls[i].2*1)=(ls[i].1*1)*(mulR' ls[i] (1,1)).2:=e;rw[GK,GK] at this;exact this
  have h1:ls[i]?=none:=by simp;omega
  rw[h1]
 rw[e2] at e;exact e
end Sb
namespace Sb
open PySem PySem.Spec PyProof.Rows L2
section
variable {X:Cx}{K:TQ}
end
end Sb
namespace Sb
open PySem L2
section
variable {P:TR}{w:World}{K:TQ}{mg:TB}{base:Heap}
theorem Z2h (D:Def K mg "minus" j0 UH)(eZ:Has P w K mg base 2 "lowest" UI spLowest):Has P w K mg base 3 "minus" UH (spTwo K subR):=by
 refine D.h9 (N:=UH) fsc λH Q hr h nd=>?_;obtain⟨a,b,r,s,n,rfl,hA,hB,gr,gs,hn,k⟩:=h;refine⟨_,(Zc (Zh (Zf eZ hr (Z0 (Zm Up (Zm Y1 (Zj Xt (pv 0) Za (λ_ _=>rfl)) (Zj Xe (pv 1) Za (λ_ _=>rfl))) (Zm Y1 (Zj Xt (pv 1) Za (λ_ _=>rfl)) (Zj Xe (pv 0) Za (λ_ _=>rfl)))) (Z0 (Zm Y1 (Zj Xe (pv 0) Za (λ_ _=>rfl)) (Zj Xe (pv 1) Za (λ_ _=>rfl))) Z8))))),?_⟩;exact⟨_,rfl,_,_,_,rfl,rfl,hA,_,rfl,_,_,_,rfl,rfl,hB,_,_,rfl,rfl,gr.b1.mulOk gs.b2 (by omega) (by omega),_,rfl,_,_,_,rfl,rfl,hB,_,rfl,_,_,_,rfl,rfl,hA,_,_,rfl,rfl,gs.b1.mulOk gr.b2 (by omega) (by omega),_,_,rfl,rfl,_,rfl,_,_,_,rfl,rfl,hA,_,rfl,_,_,_,rfl,rfl,hB,_,_,rfl,rfl,gr.b2.mulOk gs.b2 (by omega) (by omega),_,_,rfl,Xs gr.pos gs.pos,Ti gr.b2 gs.b2 hn,k⟩
end
def ConI (mg:TB)(x:Str)(i:Int):Prop:=∃ t,mg x=some (Value.int i t)
theorem Rn {x:Str}{i:Int}{t:Tok}(X:K.In h)(G:h.Ns mainGlobals mg)(e:W.nsIn K mainGlobals x=some (some (.int i t))):ConI mg x i:=⟨t,zu X G e⟩
structure Offr where
 row:List Rat
 ask:Option Rat
 bid:Option Rat
 ev:Option (Nat->Bool)
abbrev _root_.UD:=List Offr
def MayAt (K:TQ)(H:Hp)(o:Option Rat)(v:V):Prop:=match o with
 | none=>v=.non
 | some r=>IsR K H r v
theorem MayAt.ext {K:TQ}{H H':Hp}{o:Option Rat}{v:V}(h:MayAt K H o v)(e:Ext H H'):MayAt K H' o v:=by
 cases o with
 | none=>exact h
 | some r=>exact IsR.ext h e
def OffAt (K:TQ)(H:Hp)(c:Nat)(o:Offr)(v:V):Prop:=∃ (p a:Addr) (va vb ve:V),v=.ref p/\SqT K H p [.ref a,va,vb,ve]/\RowAt K H a o.row/\o.row.length=c/\MayAt K H o.ask va/\MayAt K H o.bid vb/\EvAt K H c o.ev ve
theorem OffAt.ext {K:TQ}{H H':Hp}{c:Nat}{o:Offr}{v:V}(h:OffAt K H c o v)(e:Ext H H'):OffAt K H' c o v:=by
 obtain⟨p,a,va,vb,ve,h0,h1,h2,h3,h4,h5,h6⟩:=h;exact⟨p,a,va,vb,ve,h0,e.sq h1,h2.ext e,h3,h4.ext e,h5.ext e,h6.ext e⟩
theorem OffAt.same {K:TQ}{H H':Hp}{c:Nat}{o:Offr}{v:V}(h:OffAt K H c o v)(e:Same H H'):OffAt K H' c o v:=h.ext (Ext.same e)
structure GoodO (n:Nat)(o:Offr):Prop where
 row:∀ r∈o.row,Good n r
 ask:∀ r,o.ask=some r->Good n r
 bid:∀ r,o.bid=some r->Good n r
def gainR (o:Offr)(buy:Bool):List Rat:=cutR o.ev (o.row.map λr=>if buy then subR r (o.ask.getD (0,1)) else subR (o.bid.getD (0,1)) r)
def priceO (o:Offr)(buy:Bool):Option Rat:=if buy then o.ask else o.bid
def wordO (buy:Bool):Str:=if buy then "buy" else "sell"
theorem Fo (o:Offr)(buy:Bool):(gainR o buy).length=o.row.length:=by unfold gainR;rw[Yp,YC]
section
variable {P:TR}{w:World}{K:TQ}{mg:TB}{base:Heap}
inductive spGain (K:TQ) (vs:TY) (H:Hp) (Q:VK) (_z3:XK):Prop
 | i (v:V) (c n:Nat) (o:Offr) (buy:Bool) (pr:Rat) (_:vs=[v,.str (wordO buy)]) (_:OffAt K H c o v) (_:c<=1000) (_:GoodO n o) (_:n<=4000) (_:priceO o buy=some pr) (_:∀ p H',Same H H'->RowAt K H' p (gainR o buy)->Q (.ref p) H')
theorem Z4p (D:Def K mg "gain" kJ ["offer","word"])(T:Blt mg)(fR:Has P w K mg base 3 "minus" UH (spTwo K subR))(gR:Has P w K mg base 2 "cut" UV (spCut K))(iE:ConI mg "ROW" 0)(iA:ConI mg "ASK" 1)(hZ:ConI mg "BID" 2)(hI:ConI mg "EVENT" 3) :
  Has P w K mg base 4 "gain" ["offer","word"] (spGain K):=by
 refine D.h9 (N:=["offer","word","worths"]) fsc λH Q hr h nd=>?_;obtain⟨v,c,n,o,buy,pr,rfl,⟨p,a,va,vb,ve,rfl,hp,hR,hl,hA,hB,hE⟩,hc,g,hn,hpr,k⟩:=h;obtain⟨t0,m_ROW⟩:=iE;obtain⟨t1,m_ASK⟩:=iA;obtain⟨t2,m_BID⟩:=hZ;obtain⟨t3,m_EVENT⟩:=hI;obtain⟨xs,hxs,hrs⟩:=hR;have lx:=hrs.len;have nd1:(["worth","offer"]:List Str).Nodup:=by decide +kernel
 have nd2:(["worth","offer"]:List Str).Nodup:=by decide +kernel
 refine⟨_,(Z9 (Y4 (Zl Yy (pv 1) Xr (Zo _))
   (Zc (Wi (i:=2) (N:=["worth","offer"]) (k:=1) (fv:=[0]) nd rfl (Or.inl rfl) rfl (V5 (Zj Yd (pv 0) (Yq (v:=.int 0) rfl m_ROW ⟨_,rfl⟩) (λ_ _=>rfl)))
  (λ_ _ _ _ _=>Zk (i:=0) nd1 rfl (Or.inl rfl)) (λ_ _ _ _ _=>Ya) (λ_ _ _ _ _=>(Zf fR hr (Z0 (pv 0) (Z0 (Zj (Mw (K:=K)) (pv 1) (Yq (v:=.int 1) rfl m_ASK ⟨_,rfl⟩) (λ_ _=>rfl)) Z8)))) Y0))
   (Zc (Wi (i:=2) (N:=["worth","offer"]) (k:=1) (fv:=[0]) nd rfl (Or.inl rfl) rfl (V5 (Zj Yd (pv 0) (Yq (v:=.int 0) rfl m_ROW ⟨_,rfl⟩) (λ_ _=>rfl)))
  (λ_ _ _ _ _=>Zk (i:=0) nd2 rfl (Or.inl rfl)) (λ_ _ _ _ _=>Ya) (λ_ _ _ _ _=>(Zf fR hr (Z0 (Zj (Mw (K:=K)) (pv 1) (Yq (v:=.int 2) rfl m_BID ⟨_,rfl⟩) (λ_ _=>rfl)) (Z0 (pv 0) Z8)))) Y0)))
  (Zc (Zh (Zf gR hr (Z0 (Zw Zy rfl T.tuple YZ (Z0 (pv 2) Z8)) (Z0 (Zj Yd (pv 0) (Yq (v:=.int 3) rfl m_EVENT ⟨_,rfl⟩) (λ_ _=>rfl)) Z8)))))),?_⟩
 cases buy with
 | true =>
  replace hpr:o.ask=some pr:=hpr;have kk:=k;unfold gainR at kk;rw[hpr] at hA kk;obtain⟨b,rfl,hb⟩:=hA;refine⟨_,rfl,rfl,_,rfl,Jj rfl ?_⟩;refine⟨_,rfl,p,_,_,_,rfl,rfl,hp,Zg (j:=0) rfl,a,rfl,⟨_,hxs⟩,λd hd=>?_⟩;refine⟨o.row.length,λi ys H2=>Same H H2/\Rs K H2 ((o.row.map λr=>subR r pr).take i) ys,Zq (by omega),⟨Same.new hd,.nil⟩,?_,?_⟩
  ·rintro i ys H2 hi ⟨S2,R2⟩ hd2;refine⟨⟨xs,xs[i]'(by omega),Zt S2 hxs,by simp⟩,?_⟩;rintro x H3 ⟨rfl,fx⟩;obtain⟨r,er,ix⟩:=hrs.back (fx xs (Zt S2 hxs));obtain⟨a1,rfl,sq1⟩:=ix.ext (Ext.same S2);refine Yh ?_;refine⟨_,rfl,_,rfl,p,_,_,_,rfl,rfl,Zt S2 hp,Zg (j:=1) rfl,a1,b,r,pr,n,rfl,sq1,Zt S2 hb,g.row r (YG er),g.ask pr hpr,hn,λc4 H4 f4 S4 e4=>?_⟩;have hd4:=S4 _ _ hd2;refine⟨hd4,λq o' e=>?_,?_⟩
   ·rw[Ze (Zd e hd)];exact S4 _ _ (S2 _ _ e)
   rw[Xy _ er];exact (R2.ext ((Ext.same S4).trans (Ext.upd hd4))).snoc ⟨c4,rfl,(Ext.upd hd4).sq (SqT.of e4)⟩
  rintro ys H2 ⟨S2,R2⟩ hd2;rw[YM (by rw[YC];omega)] at R2;refine⟨⟨xs,Zt S2 hxs,by omega⟩,_,rfl,d,ys,rfl,.inl ⟨SqL.of hd2,λl hl'=>?_⟩⟩;have S3:Same H2 (upd H2 l (.tup ys)):=Same.new hl';refine⟨_,rfl,p,_,_,_,rfl,rfl,Zt (S2.trans S3) hp,Zg (j:=3) rfl,l,ve,_,o.ev,rfl,⟨ys,SqT.of Zb,R2.ext (Ext.same S3)⟩,?_,by rw[YC];omega,λp' H' S' R'=>kk p' H' ((S2.trans S3).trans S') R'⟩;rw[YC,hl];exact hE.same (S2.trans S3)
 | false =>
  replace hpr:o.bid=some pr:=hpr;have kk:=k;unfold gainR at kk;rw[hpr] at hB kk;obtain⟨b,rfl,hb⟩:=hB;refine⟨_,rfl,rfl,_,rfl,Pn (by decide) ?_⟩;refine⟨_,rfl,p,_,_,_,rfl,rfl,hp,Zg (j:=0) rfl,a,rfl,⟨_,hxs⟩,λd hd=>?_⟩;refine⟨o.row.length,λi ys H2=>Same H H2/\Rs K H2 ((o.row.map λr=>subR pr r).take i) ys,Zq (by omega),⟨Same.new hd,.nil⟩,?_,?_⟩
  ·rintro i ys H2 hi ⟨S2,R2⟩ hd2;refine⟨⟨xs,xs[i]'(by omega),Zt S2 hxs,by simp⟩,?_⟩;rintro x H3 ⟨rfl,fx⟩;obtain⟨r,er,ix⟩:=hrs.back (fx xs (Zt S2 hxs));obtain⟨a1,rfl,sq1⟩:=ix.ext (Ext.same S2);refine Yh ?_;refine⟨_,rfl,p,_,_,_,rfl,rfl,Zt S2 hp,Zg (j:=2) rfl,_,rfl,b,a1,pr,r,n,rfl,Zt S2 hb,sq1,g.bid pr hpr,g.row r (YG er),hn,λc4 H4 f4 S4 e4=>?_⟩;have hd4:=S4 _ _ hd2;refine⟨hd4,λq o' e=>?_,?_⟩
   ·rw[Ze (Zd e hd)];exact S4 _ _ (S2 _ _ e)
   rw[Xy _ er];exact (R2.ext ((Ext.same S4).trans (Ext.upd hd4))).snoc ⟨c4,rfl,(Ext.upd hd4).sq (SqT.of e4)⟩
  rintro ys H2 ⟨S2,R2⟩ hd2;rw[YM (by rw[YC];omega)] at R2;refine⟨⟨xs,Zt S2 hxs,by omega⟩,_,rfl,d,ys,rfl,.inl ⟨SqL.of hd2,λl hl'=>?_⟩⟩;have S3:Same H2 (upd H2 l (.tup ys)):=Same.new hl';refine⟨_,rfl,p,_,_,_,rfl,rfl,Zt (S2.trans S3) hp,Zg (j:=3) rfl,l,ve,_,o.ev,rfl,⟨ys,SqT.of Zb,R2.ext (Ext.same S3)⟩,?_,by rw[YC];omega,λp' H' S' R'=>kk p' H' ((S2.trans S3).trans S') R'⟩;rw[YC,hl];exact hE.same (S2.trans S3)
end
def wordsO (o:Offr):List Bool:=(if o.ask.isSome then [true] else [])++if o.bid.isSome then [false] else []
def offD:Offr:=⟨[],none,none,none⟩
def sidesP (os:UD)(n:Nat):List (Nat × Bool):=(List.range n).flatMap λi=>(wordsO (os.getD i offD)).map λb=>(i,b)
def gainsP (os:UD)(n:Nat):List (List Rat):=(List.range n).flatMap λi=>(wordsO (os.getD i offD)).map λb=>gainR (os.getD i offD) b
theorem So (os:UD)(n:Nat):sidesP os (n+1)=sidesP os n++(wordsO (os.getD n offD)).map λb=>(n,b):=by
 unfold sidesP;rw[zH,zA];simp
theorem Sx (os:UD)(n:Nat):gainsP os (n+1)=gainsP os n++(wordsO (os.getD n offD)).map λb=>gainR (os.getD n offD) b:=by
 unfold gainsP;rw[zH,zA];simp
theorem Ua (os:UD)(n:Nat):(sidesP os n).map (λs=>gainR (os.getD s.1 offD) s.2)=gainsP os n:=by
 unfold sidesP gainsP;rw[List.map_flatMap]
 congr 1
 funext i
 rw[List.map_map];rfl
theorem Ry {os:UD}{n i:Nat}{b:Bool}(h:(i,b)∈sidesP os n):i<n/\∃ r,priceO (os.getD i offD) b=some r:=by
 unfold sidesP at h;rw[List.mem_flatMap] at h;obtain⟨j,hj,hm⟩:=h;rw[XM] at hm;obtain⟨b',hb,e⟩:=hm
 cases e;refine⟨qi.mp hj,?_⟩;unfold wordsO at hb;rcases JF.mp hb with z | z
 ·split at z
  ·rename_i hs
   rw[JQ.mp z];exact zB.mp hs
  cases z
 split at z
 ·rename_i hs
  rw[JQ.mp z];exact zB.mp hs
 cases z
theorem Uk (o:Offr):(wordsO o).length<=2:=by
 unfold wordsO;split <;> split <;> decide
theorem Vn (os:UD):∀ n,(sidesP os n).length<=2*n
 | 0=>by unfold sidesP;simp
 | n+1=>by
  rw[So,YS,YC];have:=Vn os n;have:=Uk (os.getD n offD);omega
section
variable {P:TR}{w:World}{K:TQ}{mg:TB}{base:Heap}
def OffsAt (K:TQ)(H:Hp)(l:Addr)(c:Nat)(os:UD):Prop:=∃ vs:List V,H l=some (.lst vs)/\Paired (λv o=>OffAt K H c o v) vs os
theorem Zz {c:Nat}{vs:TY}{os:UD}(h:Paired (λv o=>OffAt K H c o v) vs os)(x:Ext H H'):Paired (λv o=>OffAt K H' c o v) vs os:=Paired.mapP h λ_ _ q=>q.ext x
theorem OffAt.asks {H:Hp}{c:Nat}{o:Offr}{v:V}(h:OffAt K H c o v):∃ (p a:Addr) (va vb ve:V),v=.ref p/\SqT K H p [.ref a,va,vb,ve]/\(va=.non ↔ o.ask=none)/\(vb=.non ↔ o.bid=none):=by
 obtain⟨p,a,va,vb,ve,rfl,hp,_,_,hA,hB,_⟩:=h;refine⟨p,a,va,vb,ve,rfl,hp,?_,?_⟩
 ·cases e:o.ask with
  | none=>rw[e] at hA;exact⟨λ_=>rfl,λ_=>hA⟩
  | some r=>rw[e] at hA;obtain⟨b,rfl,_⟩:=hA;exact⟨(λz=>nomatch z),λz=>nomatch z⟩
 cases e:o.bid with
 | none=>rw[e] at hB;exact⟨λ_=>rfl,λ_=>hB⟩
 | some r=>rw[e] at hB;obtain⟨b,rfl,_⟩:=hB;exact⟨(λz=>nomatch z),λz=>nomatch z⟩
inductive spWords (K:TQ) (vs:TY) (H:Hp) (Q:VK) (_z3:XK):Prop
 | i (v:V) (c:Nat) (o:Offr) (_:vs=[v]) (_:OffAt K H c o v) (_:∀ l H',H l=none->Same H H'->H' l=some (.lst ((wordsO o).map λb=>V.str (wordO b)))->Q (.ref l) H')
theorem Z25 (D:Def K mg "words_of" iV ["offer"])(iA:ConI mg "ASK" 1)(hZ:ConI mg "BID" 2):Has P w K mg base 1 "words_of" ["offer"] (spWords K):=by
 refine D.h9 (N:=["offer","told"]) fsc λH Q hr h nd=>?_;obtain⟨v,c,o,rfl,hO,k⟩:=h;obtain⟨t1,m_ASK⟩:=iA;obtain⟨t2,m_BID⟩:=hZ;obtain⟨p,a,va,vb,ve,rfl,hp,ha,hb⟩:=hO.asks;refine⟨_,(Z9 (Zi (i:=1) nd rfl (Or.inl rfl) (X4 Z8))
  (Z9 (Yk (Y4 (Zl Tf (Zj Yd (pv 0) (Yq (v:=.int 1) rfl m_ASK ⟨_,rfl⟩) (λ_ _=>rfl)) Yj (Zo _))
   (Zc (X7 (Wu XE XT XU Yn (pv 1) (Z0 Xr Z8))))
   Zp))
  (Z9 (Y4 (Zl Tf (Zj Yd (pv 0) (Yq (v:=.int 2) rfl m_BID ⟨_,rfl⟩) (λ_ _=>rfl)) Yj (Zo _))
   (Zc (X7 (Wu XE XT XU Yn (pv 1) (Z0 Xr Z8))))
   Zp)
  (Zc (Zh (pv 1)))))),?_⟩
 refine⟨sz0,λl hl=>?_⟩;have S0:Same H (upd H l (.lst [])):=Same.new hl;have up:∀ (zs:TY) (H1:Hp),Same H H1->Same H (upd H1 l (.lst zs)):=λzs H1 S1 q o e=>by
  rw[Ze (Zd e hl)];exact S1 _ _ e
 refine⟨λσ H'=>Same H H'/\σ=[some (.ref p),some (.ref l)]/\H' l=some (.lst ((if o.ask.isSome then [true] else []).map λb=>V.str (wordO b))),?_,?_⟩
 ·refine⟨_,rfl,p,_,_,_,rfl,rfl,Zt S0 hp,Zg (j:=1) rfl,rfl,_,rfl,?_⟩
  cases e:o.ask with
  | none =>
   have:=ha.mpr e;subst this;exact X9 ⟨S0,rfl,Zb⟩
  | some r =>
   have hne:va≠V.non:=λz=>by rw[ha.mp z] at e;cases e
   refine Pl hne ?_;exact⟨_,rfl,.inl ⟨rfl,_,SqL.of Zb⟩,l,_,_,rfl,rfl,Zb,(by show 0<sizeLine;decide),up _ _ S0,rfl,Zb⟩
 rintro σ H1 ⟨S1,rfl,h1⟩;refine⟨_,rfl,p,_,_,_,rfl,rfl,Zt S1 hp,Zg (j:=2) rfl,rfl,_,rfl,?_⟩
 cases e:o.bid with
 | none =>
  have:=hb.mpr e;subst this;refine X9 ⟨_,rfl,k l H1 hl S1 ?_⟩;rw[h1];unfold wordsO;rw[e];simp
 | some r =>
  have hne:vb≠V.non:=λz=>by rw[hb.mp z] at e;cases e
  refine Pl hne ⟨_,rfl,.inl ⟨rfl,_,SqL.of h1⟩,l,_,_,rfl,rfl,h1,?_,_,rfl,k l _ hl (up _ _ S1) ?_⟩
  ·refine Xo ?_;rw[YC];split <;> decide
  rw[Zb];unfold wordsO;rw[e];simp;rfl
def SideV (K:TQ)(H:Hp)(v:V)(s:Nat × Bool):Prop:=∃ t:Addr,v=.ref t/\SqT K H t [.int (s.1:Int),.str (wordO s.2)]
theorem SideV.ext {s:Nat × Bool}(h:SideV K H v s)(x:Ext H H'):SideV K H' v s:=by
 obtain⟨t,e,q⟩:=h;exact⟨t,e,x.sq q⟩
inductive spSides (K:TQ) (vs:TY) (H:Hp) (Q:VK) (_z3:XK):Prop
 | i (l:Addr) (c:Nat) (os:UD) (_:vs=[.ref l]) (_:OffsAt K H l c os) (_:os.length<=100) (_:∀ (d:Addr) (ws:TY) (H':Hp),H d=none->Same H H'->H' d=some (.lst ws)->Paired (SideV K H') ws (sidesP os os.length)->Q (.ref d) H')
theorem Z2b (D:Def K mg "sides" jX VC)(T:Blt mg)(gH:Has P w K mg base 1 "words_of" ["offer"] (spWords K)):Has P w K mg base 2 "sides" VC (spSides K):=by
 refine D.h9 (N:=["offers","told","number","offer"]) fsc λH Q hr h nd=>?_;obtain⟨l,c,os,rfl,⟨vs,hl,hO⟩,hlen,k⟩:=h;have nd1:(["word","number"]:List Str).Nodup:=by decide +kernel
 refine⟨_,(Z9 (Zi (i:=1) nd rfl (Or.inl rfl) (X4 Z8))
  (Z9 (Xm XY rfl (Q4 rfl T.enumerate (Z0 (pv 0) Z8)) (W9 (n:=2) rfl (Y3 (Zk (i:=2) nd rfl (Or.inr rfl)) (Y3 (Zk (i:=3) nd rfl (Or.inl rfl)) Xl)))
   (Zc (X7 (Wu XE PySem.F.slot_list_extend PySem.F.type_list_extend Fe (pv 1) (Z0 (Ym (N:=["word","number"]) (k:=1) (fv:=[2]) rfl (Xk (Zf gH hr (Z0 (pv 3) Z8)))
  (λ_ _ _ _ _=>Zk (i:=0) nd1 rfl (Or.inl rfl)) (λ_ _ _ _ _=>Ya) (λ_ _ _ _ _=>(Yc (Z0 (pv 1) (Z0 (pv 0) Z8)))) Y0) Z8)))))
  (Zc (Zh (pv 1))))),?_⟩
 have lo:=XG hO;refine⟨sz0,λd hd=>?_⟩;have S0:Same H (upd H d (.lst [])):=Same.new hd;have up:∀ (zs:TY) (H1:Hp),Same H H1->Same H (upd H1 d (.lst zs)):=λzs H1 S1 q o e=>by
  rw[Ze (Zd e hd)];exact S1 _ _ e
 refine⟨_,rfl,l,rfl,⟨_,SqL.of (S0 _ _ hl)⟩,Sh (K:=K) (a:=l) (xs:=vs) (λi σ H'=>Same H H'/\∃ (ws:TY) (x y:TZ),σ=[some (.ref l),some (.ref d),x,y]/\H' d=some (.lst ws)/\Paired (SideV K H') ws (sidesP os i)) ⟨S0,[],none,none,rfl,Zb,.nil⟩ (λi σ H' _ h=>SqL.of (h.1 _ _ hl)) ?_ ?_⟩
 ·rintro i v σ H1 p hi ⟨S1,ws,x,y,rfl,hd1,P1⟩ hp;have S2:Same H1 (upd H1 p (.tup [.int (i:Int),v])):=Same.new hp;have hd2:=S2 _ _ hd1;have hiv:i<vs.length:=(YE.mp hi).1;have hio:i<os.length:=by omega
  have eo:os[i]?=some (os.getD i offD):=by simp[List.getD,hio]
  have hv:=((Paired.getB hO hi eo).same S1).same S2;refine⟨p,_,rfl,SqT.of Zb,rfl,_,_,rfl,_,_,rfl,rfl,?_⟩;refine⟨_,rfl,.inl ⟨rfl,_,SqL.of hd2⟩,_,rfl,v,c,os.getD i offD,rfl,hv,λlw H3 f3 S3 e3=>?_⟩;generalize hw:wordsO (os.getD i offD)=wo at *
  have lwo:wo.length<=2:=by rw[<-hw];exact Uk _
  refine⟨lw,rfl,⟨_,SqL.of e3⟩,λdc hdc=>?_⟩;refine⟨wo.length,λj ys H4=>Same H3 H4/\Paired (SideV K H4) ys ((wo.map λb=>(i,b)).take j),Zq (by omega),⟨Same.new hdc,.nil⟩,?_,?_⟩
  ·rintro j ys H4 hj ⟨S4,P4⟩ hd4;have ew:wo[j]?=some wo[j]:=by simp[hj]
   refine⟨⟨_,V.str (wordO wo[j]),SqL.of (S4 _ _ e3),by simp[hj]⟩,?_⟩;rintro x' H5 ⟨rfl,fx⟩;have ex:x'=V.str (wordO wo[j]):=by
    have:=fx _ (SqL.of (S4 _ _ e3));rw[YF,ew] at this;exact (YK this).symm
   subst ex;refine Yh ?_;refine⟨_,rfl,_,rfl,sz2,λt ht=>?_⟩;have S6:Same H5 (upd H5 t (.tup [.int (i:Int),.str (wordO wo[j])])):=Same.new ht;have hd6:=S6 _ _ hd4;refine⟨hd6,λq o' e=>?_,?_⟩
   ·rw[Ze (Zd e hdc)];exact S6 _ _ (S4 _ _ e)
   rw[Xy _ ew];have x7:=(Ext.same S6).trans (Ext.upd (o:=.lst (ys++[.ref t])) hd6);exact zR (Paired.mapP P4 λ_ _ q=>q.ext x7) ⟨t,rfl,(Ext.upd hd6).sq (SqT.of Zb)⟩
  rintro ys H4 ⟨S4,P4⟩ hd4;rw[YM (by rw[YC];omega)] at P4;refine⟨⟨_,SqL.of (S4 _ _ e3),by rw[YC];omega⟩,?_⟩;have hd5:=S4 _ _ (S3 _ _ hd2);have lw1:=XG P1;have lw4:=XG P4;have sl:=Vn os i;rw[YC] at lw4;refine⟨d,dc,ws,ys,rfl,rfl,hd5,hd4,Zq (by omega),?_⟩;have S15:Same H1 H4:=(S2.trans S3).trans S4;refine⟨up _ _ (S1.trans S15),ws++ys,_,_,rfl,Zb,?_⟩;rw[So,hw];have xx:=Ext.upd (o:=.lst (ws++ys)) hd5;exact Paired.appP (Paired.mapP P1 λ_ _ q=>q.ext ((Ext.same S15).trans xx)) (Paired.mapP P4 λ_ _ q=>q.ext xx)
 rintro σ H1 ⟨S1,ws,x,y,rfl,hd1,P1⟩;rw[lo] at P1;exact⟨_,rfl,k d ws H1 hd S1 hd1 P1⟩
inductive spGainsP (K:TQ) (vs:TY) (H:Hp) (Q:VK) (_z3:XK):Prop
 | i (l:Addr) (c n:Nat) (os:UD) (_:vs=[.ref l]) (_:OffsAt K H l c os) (_:os.length<=100) (_:c<=1000) (_:n<=4000) (_:(∀ o∈os,GoodO n o)) (_:∀ (d:Addr) (H':Hp),H d=none->Same H H'->RowsAt K H' d (gainsP os os.length)->Q (.ref d) H')
theorem Bm (D:Def K mg "gains" j4 VC)(g6:Has P w K mg base 2 "sides" VC (spSides K))(iD:Has P w K mg base 4 "gain" ["offer","word"] (spGain K)):Has P w K mg base 5 "gains" VC (spGainsP K):=by
 refine D.h9 (N:=VC) fsc λH Q hr h nd=>?_;obtain⟨l,c,n,os,rfl,⟨vs,hl,hO⟩,hlen,hc,hn,g,k⟩:=h;have nd1:(["number","word","offers"]:List Str).Nodup:=by decide +kernel
 refine⟨_,(Zc (Zh (Ym (N:=["number","word","offers"]) (k:=2) (fv:=[0]) rfl (Xk (Zf g6 hr (Z0 (pv 0) Z8)))
  (λ_ _ _ _ _=>W9 (n:=2) rfl (Y3 (Zk (i:=0) nd1 rfl (Or.inl rfl)) (Y3 (Zk (i:=1) nd1 rfl (Or.inl rfl)) Xl))) (λ_ _ _ _ _=>Ya) (λ_ _ _ _ _=>(Zf iD hr (Z0 (Zj (Jf (K:=K)) (pv 2) (pv 0) (λ_ _=>rfl)) (Z0 (pv 1) Z8)))) V8))),?_⟩
 have lo:=XG hO;refine⟨_,rfl,l,c,os,rfl,⟨vs,hl,hO⟩,hlen,λds ws H1 f1 S1 e1 P1=>?_⟩;have lp:=XG P1;have sl:=Vn os os.length;refine⟨ds,rfl,⟨_,SqL.of e1⟩,λd hd=>?_⟩;have hd0:H d=none:=by
  cases q:H d with
  | none=>rfl
  | some o=>rw[S1 _ _ q] at hd;cases hd
 refine⟨ws.length,λi ys H2=>Same H1 H2/\∃ as:List Addr,ys=as.map V.ref/\Paired (RowAt K H2) as ((gainsP os os.length).take i),Zq (by omega),⟨Same.new hd,[],rfl,.nil⟩,?_,?_⟩
 ·rintro i ys H2 hi ⟨S2,as,rfl,P2⟩ hd2;have ew:ws[i]?=some ws[i]:=by simp[hi]
  refine⟨⟨_,ws[i],SqL.of (S2 _ _ e1),by simp⟩,?_⟩;rintro x' H3 ⟨rfl,fx⟩;have ex:x'=ws[i]:=by
   have:=fx _ (SqL.of (S2 _ _ e1));rw[ew] at this;exact (YK this).symm
  subst ex;have his:i<(sidesP os os.length).length:=by omega
  have es:(sidesP os os.length)[i]?=some ((sidesP os os.length)[i]):=by simp[his]
  obtain⟨t,et,sqt⟩:=(Paired.getB P1 ew es).ext (Ext.same S2);have hmem:=XB his;generalize hsd:(sidesP os os.length)[i]=sd at *
  obtain⟨j,b⟩:=sd;obtain⟨hj,r,hr'⟩:=Ry hmem;rw[et];refine Ri sqt ?_;have ej:os[j]?=some (os.getD j offD):=by simp[List.getD,hj]
  have hjv:j<vs.length:=by omega
  have ev:vs[j]?=some vs[j]:=by simp[hjv]
  have hov:=((Paired.getB hO ev ej).same S1).same S2;refine⟨_,rfl,_,rfl,l,vs,_,_,rfl,rfl,SqL.of (S2 _ _ (S1 _ _ hl)),Zg ev,_,rfl,?_⟩;refine⟨vs[j],c,n,os.getD j offD,b,r,rfl,hov,hc,g _ (YG ej),hn,hr',λp H4 S4 R4=>?_⟩;have hd4:=S4 _ _ hd2;refine⟨hd4,λq o' e=>?_,as++[p],by rw[XR];rfl,?_⟩
  ·rw[Ze (Zd e hd)];exact S4 _ _ (S2 _ _ e)
  have eg:(gainsP os os.length)[i]?=some (gainR (os.getD j offD) b):=by rw[<-Ua,YF,es];rfl
  rw[Yf eg];exact zR (Yw P2 ((Ext.same S4).trans (Ext.upd hd4))) (R4.ext (Ext.upd hd4))
 rintro ys H2 ⟨S2,as,rfl,P2⟩ hd2;have lg:(gainsP os os.length).length=ws.length:=by rw[<-Ua,YC,lp]
 rw[YM (by omega)] at P2;exact⟨⟨_,SqL.of (S2 _ _ e1),YD _⟩,k d H2 hd0 (S1.trans S2) ⟨as,hd2,P2⟩⟩
end
open Sv (sm Y6 V4 Xa sm_zero Yb Y8 T7)
end Sb
variable {os:UD}
namespace Sb
open PySem L2
open Sv (sm Y6 V4 Xa sm_zero Yb Y8 T7)
structure Wts (c:Nat)(rss:UB)(ls:UA):Prop where
 len:ls.length=c
 rep:∃ N D Ls,RepL N D Ls ls
 nn:∀ r∈ls,0<=r.1
 fit:∀ rs∈rss,(sumR (List.zipWith mulR' ls rs)).1<=0
 lie:sumR (List.zipWith mulR' ls (papR c none))=(1,1)
theorem LoadsOk.wts {c N:Nat}{ls:UA}{va:Rat}(h:LoadsOk c rss none as N ls va):Wts c rss ls:=⟨h.len,h.rep.elim λD z=>z.elim λL r=>⟨N,D,L,r⟩,h.nn,h.fit,h.lie⟩
def mn (ls as:UA):Rat:=sumR (List.zipWith mulR' ls as)
def leR (r s:Rat):Prop:=r.1*s.2<=s.1*r.2
def negR (r:Rat):Rat:=(-r.1,r.2)
theorem negR.low {r:Rat}(h:Low r):Low (negR r):=⟨h.pos,by show Int.gcd (-r.1) r.2=1;rw[Int.neg_gcd];exact h.cop⟩
theorem mul_neg {r:Rat}(h:Low r):mulR' r (-1,1)=negR r:=by
 show nrm (r.1 * -1) (r.2*1)=negR r;rw[GK,Int.mul_neg,GK];exact Mm (r:=negR r) h.pos (negR.low h).cop
theorem Lr {r:Rat}(h:Low r):subR (0,1) r=negR r:=by
 show nrm (0*r.2 - r.1*1) (1*r.2)=negR r;rw[ja,GK,qX,Int.zero_sub];exact Mm (r:=negR r) h.pos (negR.low h).cop
def RowR (c:Nat)(as:UA):Prop:=as.length=c/\∃ n D Zs,RepL n D Zs as
section
variable {c:Nat}{rss:UB}{ls as bs:UA}
end
structure MostV (c:Nat)(rss:UB)(as:UA)(va:Rat):Prop where
 low:Low va
 hit:∃ ls,Wts c rss ls/\mn ls as=va
 top:∀ ls,Wts c rss ls->leR (mn ls as) va
structure LeastV (c:Nat)(rss:UB)(as:UA)(va:Rat):Prop where
 low:Low va
 hit:∃ ls,Wts c rss ls/\mn ls as=va
 bot:∀ ls,Wts c rss ls->leR va (mn ls as)
section
variable {c:Nat}{rss:UB}{as bs cs:UA}{u v x y z:Rat}
end
end Sb
namespace Sb
open PySem L2
section
variable {P:TR}{w:World}{K:TQ}{mg:TB}{base:Heap}
theorem Z27 (D:Def K mg "times" jT UH)(eZ:Has P w K mg base 2 "lowest" UI spLowest):Has P w K mg base 3 "times" UH (spTwo K mulR'):=by
 refine D.h9 (N:=UH) fsc λH Q hr h nd=>?_;obtain⟨a,b,r,s,n,rfl,hA,hB,gr,gs,hn,k⟩:=h;refine⟨_,(Zc (Zh (Zf eZ hr (Z0 (Zm Y1 (Zj Xt (pv 0) Za (λ_ _=>rfl)) (Zj Xt (pv 1) Za (λ_ _=>rfl))) (Z0 (Zm Y1 (Zj Xe (pv 0) Za (λ_ _=>rfl)) (Zj Xe (pv 1) Za (λ_ _=>rfl))) Z8))))),?_⟩;exact⟨_,rfl,_,_,_,rfl,rfl,hA,_,rfl,_,_,_,rfl,rfl,hB,_,_,rfl,rfl,gr.b1.mulOk gs.b1 (by omega) (by omega),_,rfl,_,_,_,rfl,rfl,hA,_,rfl,_,_,_,rfl,rfl,hB,_,_,rfl,rfl,gr.b2.mulOk gs.b2 (by omega) (by omega),_,_,rfl,Xs gr.pos gs.pos,Ti gr.b2 gs.b2 hn,k⟩
inductive spMultiplied (K:TQ) (vs:TY) (H:Hp) (Q:VK) (_z3:XK):Prop
 | i (a b:Addr) (rs:UA) (s:Rat) (n:Nat) (_:vs=[.ref a,.ref b]) (_:RowAt K H a rs) (_:SqT K H b [.int s.1,.int s.2]) (_:rs.length<=1000) (_:(∀ r∈rs,Good n r)) (_:Good n s) (_:n<=4000) (_:∀ c H' ys,Same H H'->H' c=some (.tup ys)->Rs K H' (rs.map λr=>mulR' r s) ys->Q (.ref c) H')
theorem T8:FnScope ["row","by"] ["row","by"] (defScope iM):=fsc
theorem Ni (D:Def K mg "multiplied" iM ["row","by"])(T:Blt mg)(gY:Has P w K mg base 3 "times" UH (spTwo K mulR')):Has P w K mg base 4 "multiplied" ["row","by"] (spMultiplied K):=by
 refine D.has λf fd F=>F.ok T8 (λvs H Q E h=>?_) (λcdv A outer s H vs Q E hr h=>?_)
 ·obtain⟨a,b,rs,s,n,rfl,_⟩:=h;rfl
 obtain⟨a,b,rs,s,n,rfl,⟨xs,hA,hRs⟩,hB,hl2,gr,gs,hn,k⟩:=h;have sc:=T8;have nd:(["worth","by"]:List Str).Nodup:=by decide +kernel
 refine⟨_,(Zc (Zh (Zw Zy rfl T.tuple YZ (Z0 (Ym (N:=["worth","by"]) (k:=1) (fv:=[1]) rfl (V5 (pv 0))
  (λ_ _ _ _ _=>Zk (i:=0) nd rfl (Or.inl rfl)) (λ_ _ _ _ _=>Ya) (λ_ _ _ _ _=>Cp gY (hr.mono (by decide)) rfl (Z0 (pv 0) (Z0 (pv 1) Z8))) Y0) Z8)))),?_⟩
 refine⟨_,rfl,a,rfl,⟨_,hA⟩,λd hd=>?_⟩;have lx:=hRs.len;refine⟨rs.length,λi ys H2=>Same H H2/\Rs K H2 (mapR (λr=>mulR' r s) rs i) ys,Zq hl2,⟨Same.new hd,.nil⟩,?_,?_⟩
 ·rintro i ys H2 hi ⟨S2,R2⟩ hd2;refine⟨⟨xs,xs[i]'(by omega),Zt S2 hA,by simp⟩,?_⟩;rintro x H3 ⟨rfl,fx⟩;obtain⟨r,er,ix⟩:=hRs.back (fx xs (Zt S2 hA));obtain⟨a1,rfl,sq1⟩:=ix.ext (Ext.same S2);refine Yh ?_;refine⟨_,rfl,_,rfl,a1,b,r,s,n,rfl,sq1,Zt S2 hB,gr r (YG er),gs,hn,λc H4 fc S4 e4=>?_⟩;have hd4:H4 d=some (.lst ys):=S4 _ _ hd2;have E5:Ext H4 (upd H4 d (.lst (ys++[.ref c]))):=Ext.upd hd4;refine⟨hd4,λq o e=>?_,?_⟩
  ·rw[Ze (Zd e hd)];exact S4 _ _ (S2 _ _ e)
  rw[Ff _ er];exact (R2.ext ((Ext.same S4).trans E5)).snoc ⟨c,rfl,E5.sq (SqT.of e4)⟩
 rintro ys H2 ⟨S2,R2⟩ hd2;refine⟨⟨xs,Zt S2 hA,by omega⟩,d,ys,rfl,.inl ⟨SqL.of hd2,λl hl'=>?_⟩⟩;rw[Z03 _ rfl] at R2;exact k l _ ys (S2.trans (Same.new hl')) Zb (R2.ext (Ext.new hl'))
end
theorem Z2s {n:Nat}{D:Int}{Zs:TU}{as:UA}(h:RepL n D Zs as):RepL n D (Zs.map λz=>-z) (as.map λr=>mulR' r (-1,1)):=by
 refine⟨h.pos,h.bD,by rw[YC,YC,h.len],λi W r hW hr=>?_⟩;rw[YF] at hW hr
 cases e1:Zs[i]? with
 | none=>rw[e1] at hW;cases hW
 | some z =>
  cases e2:as[i]? with
  | none=>rw[e2] at hr;cases hr
  | some x =>
   rw[e1] at hW;rw[e2] at hr
   cases hW
   cases hr;obtain⟨a1,a2,a3⟩:=h.at_ i z x e1 e2;show (mulR' x (-1,1)).1*D=-z*(mulR' x (-1,1)).2/\Bd n (-z)/\Low (mulR' x (-1,1));rw[mul_neg a3];refine⟨?_,?_,negR.low a3⟩
   ·show -x.1*D=-z*x.2;rw[Y15,Y15,a1]
   show (-z).natAbs<2 ^ n;rw[Y0E];exact a2
section
variable {P:TR}{w:World}{K:TQ}{mg:TB}{base:Heap}
inductive spTurned (K:TQ) (vs:TY) (H:Hp) (Q:VK) (_z3:XK):Prop
 | i (a:Addr) (rs:UA) (n:Nat) (_:vs=[.ref a]) (_:RowAt K H a rs) (_:rs.length<=1000) (_:(∀ r∈rs,Good n r)) (_:1<=n) (_:n<=4000) (_:∀ c H',Same H H'->RowAt K H' c (rs.map λr=>mulR' r (-1,1))->Q (.ref c) H')
theorem B0 (D:Def K mg "turned" jF ["row"])(fU:Has P w K mg base 4 "multiplied" ["row","by"] (spMultiplied K)):Has P w K mg base 5 "turned" ["row"] (spTurned K):=by
 refine D.h9 (N:=["row"]) fsc λH Q hr h nd=>?_;obtain⟨a,rs,n,rfl,hA,hl,gr,n1,hn,k⟩:=h;refine⟨_,(Zc (Zh (Zf fU hr (Z0 (pv 0) (Z0 (Yc (Z0 (U4 Wt Za) (Z0 Za Z8))) Z8))))),?_⟩;refine⟨_,rfl,_,rfl,sz2,λp hp=>?_⟩;have S1:Same H (upd H p (.tup [.int (-1),.int 1])):=Same.new hp;have g1:Good n (-1,1):=⟨Yv 1 (by decide) n1,Yv 1 (by decide) n1,by decide,by decide⟩;exact⟨a,p,rs,(-1,1),n,rfl,hA.same S1,SqT.of Zb,hl,gr,g1,hn,λc H' ys S e R=>k c H' (S1.trans S) ⟨ys,SqT.of e,R⟩⟩
end
section
variable {c:Nat}{rss:UB}{ls:UA}{o:TV}{u v:Rat}
theorem MostT.meets {n:Nat}(h:MostT c rss none (cutR none as) T)(hrs:∀ rs∈rss,rs.length=c/\∃ D Ws,RepL n D Ws rs)(ha:∃ D Ws,RepL n D Ws as)(la:as.length=c)(hn:1<=n)(hm:rss.length+2<=32):Wts c rss (loadsR c rss.length T)/\mn (loadsR c rss.length T) as=valueR c rss.length (cutR none as) T/\∃ D Us,RepL (bitsOf n c rss.length) D Us (loadsR c rss.length T):=by
 have ok:=h.loads hrs ha la hn hm;refine⟨ok.wts,?_,ok.rep⟩;have:=ok.val;rw[Qr] at this;rw[Qr];exact this.symm
end
def gainsO (o:Offr):List (List Rat):=(wordsO o).map λb=>gainR o b
theorem Sw (os:UD):∀ n,n<=os.length->gainsP os n=(os.take n).flatMap gainsO
 | 0,_=>rfl
 | n+1,h=>by
  have e:os[n]?=some (os.getD n offD):=by simp[List.getD,show n<os.length by omega]
  rw[Sx,Sw os n (by omega),Yf e,zA];simp[gainsO]
theorem Xn (os:UD):gainsP os os.length=os.flatMap gainsO:=by rw[Sw os _ (YD _),YM (YD _)]
theorem Kq {o:Offr}(h:rs∈gainsO o):∃ b r,priceO o b=some r/\rs=gainR o b:=by
 unfold gainsO at h;obtain⟨b,hb,e⟩:=XM.mp h;have:(0,b)∈sidesP [o] 1:=by
  unfold sidesP;simp;exact hb
 obtain⟨_,r,hr⟩:=Ry this;exact⟨b,r,hr,e.symm⟩
theorem Kr (o:Offr):(gainsO o).length<=2:=by unfold gainsO;rw[YC];exact Uk o
theorem L3:∀ os:List Offr,(os.flatMap gainsO).length<=2*os.length
 | []=>by simp
 | o::t=>by
  rw[List.flatMap_cons,YS,JT];have:=L3 t;have:=Kr o;omega
structure Fd (n:Nat)(r:Rat):Prop where
 g:Good n r
 d:r.2 ∣ 420
theorem Z00 (p q:Int):nB p q ∣ q:=⟨sg p q,(Tw p q).symm⟩
theorem Kt {p q:Int}(h1:-2000000<p)(h2:p<2000000)(q1:1<=q)(q7:q<=7):Fd 21 (nrm p q):=by
 refine⟨Wv (Sm h1 h2) (Sm (by omega) (by omega)) (by omega),Y0P (Z00 p q) ?_⟩;have h:q=1 \/ q=2 \/ q=3 \/ q=4 \/ q=5 \/ q=6 \/ q=7:=by omega
 rcases h with rfl | rfl | rfl | rfl | rfl | rfl | rfl
 ·exact⟨420,rfl⟩
 ·exact⟨210,rfl⟩
 ·exact⟨140,rfl⟩
 ·exact⟨105,rfl⟩
 ·exact⟨84,rfl⟩
 ·exact⟨70,rfl⟩
 exact⟨60,rfl⟩
theorem Fd.rep {n:Nat}{r:Rat}(h:Fd n r):r.1*420=(r.1*(420:Int).fdiv r.2)*r.2/\Bd (n+9) (r.1*(420:Int).fdiv r.2):=by
 refine⟨Wq h.d,?_⟩;have:Bd 9 ((420:Int).fdiv r.2):=by
  refine Bd.of_le (Np (by decide) h.g.pos) ?_;show (420:Int).natAbs<2 ^ 9
  decide
 exact h.g.b1.mul this
theorem RepL.fd {n:Nat}(h:∀ r∈rs,Fd n r):RepL (n+9) 420 (wholeB rs 420) rs:=by
 refine⟨by decide,Yv 9 (by decide) (by omega),by unfold wholeB;rw[YC],λi W r hW hr=>?_⟩;unfold wholeB at hW;rw[YF,hr] at hW
 cases hW;have:=h r (YG hr);exact⟨this.rep.1,this.rep.2,this.g.low⟩
section
variable {P:TR}{w:World}{K:TQ}{mg:TB}{base:Heap}
inductive spSmallB (K:TQ) (vs:TY) (H:Hp) (Q:VK) (_z3:XK):Prop
 | i (b:Addr) (n:Nat) (_:vs=[.ref b]) (_:BagAt H b n) (_:n<=1000000) (_:∀ (a:Addr) (H':Hp) (r:Rat),BagAt H' b (n+3)->SameX b H H'->H' a=some (.tup [.int r.1,.int r.2])->Fd 21 r->Q (.ref a) H')
theorem Ba (D:Def K mg "_law_small" jW VD)(eC:Z1 P w K mg base)(eE:Z2 P w K mg base) :
  Has P w K mg base 3 "_law_small" VD (spSmallB K):=by
 refine D.h9 (N:=VD) fsc λH Q hr h nd=>?_;obtain⟨b,n,rfl,hB,hn,k⟩:=h;refine⟨_,(Z9 (Y4 (Zl Yy (Zf eC hr (Z0 (pv 0) (Z0 Za Z8))) Za (Zo _))
   (Zc (Zh (Zf eE hr (Z0 (Zm Up (Zf eC hr (Z0 (pv 0) (Z0 (Zm Yx (Zm Y1 Za (Zm Nf Za Za)) Za) Z8))) (Zm Nf Za Za)) (Z0 (Zm Yx Za (Zf eC hr (Z0 (pv 0) (Z0 Za Z8)))) Z8)))))
   Zp)
  (Zc (Zh (Zf eE hr (Z0 (Zm Up (Zf eC hr (Z0 (pv 0) (Z0 Za Z8))) Za) (Z0 (Zm Yx Za (Zf eC hr (Z0 (pv 0) (Z0 Za Z8)))) Z8)))))),?_⟩
 refine⟨_,rfl,b,_,n,rfl,hB,by omega,by decide,by decide +kernel,λr2 H2 r20 r21 B2 S2=>⟨rfl,_,rfl,?_⟩⟩;refine X6 (λh=>?_) (λh=>?_)
 ·refine⟨_,rfl,_,_,rfl,rfl,Z39 (by decide) (by decide),_,_,rfl,rfl,Fc (by decide) (by decide),_,_,rfl,rfl,b,_,n+1,rfl,B2,by omega,by rw[p6];decide,lg6,λr3 H3 r30 r31 B3 S3=>?_⟩;rw[p6] at r31;refine⟨_,_,rfl,rfl,Z39 (by decide) (by decide),_,_,rfl,rfl,?_⟩;refine⟨_,rfl,b,_,n+1+1,rfl,B3,by omega,by decide,by decide +kernel,λr4 H4 r40 r41 B4 S4=>⟨_,_,rfl,rfl,?_⟩⟩;refine⟨_,_,rfl,by omega,(Sm (x:=1+r4) (by omega) (by omega)).log (by decide),λa H5 fa S5 e=>?_⟩;rw[p6] at e;exact k a H5 (nrm (r3 - 1000000) (1+r4)) (B4.same S5) (((S2.trans S3).trans S4).trans (SameX.of S5)) e (Kt (by omega) (by omega) (by omega) (by omega))
 refine⟨_,rfl,b,_,n+1,rfl,B2,by omega,by decide,by decide +kernel,λr3 H3 r30 r31 B3 S3=>⟨_,_,rfl,rfl,?_⟩⟩;refine⟨_,rfl,b,_,n+1+1,rfl,B3,by omega,by decide,by decide +kernel,λr4 H4 r40 r41 B4 S4=>⟨_,_,rfl,rfl,?_⟩⟩;refine⟨_,_,rfl,by omega,(Sm (x:=1+r4) (by omega) (by omega)).log (by decide),λa H5 fa S5 e=>?_⟩;exact k a H5 (nrm (r3 - 4) (1+r4)) (B4.same S5) (((S2.trans S3).trans S4).trans (SameX.of S5)) e (Kt (by omega) (by omega) (by omega) (by omega))
inductive spRowB (K:TQ) (vs:TY) (H:Hp) (Q:VK) (_z3:XK):Prop
 | i (b:Addr) (c n:Nat) (_:vs=[.ref b,.int c]) (_:BagAt H b n) (_:n<=100000) (_:c<=1000) (_:∀ (a:Addr) (H':Hp) (rs:UA),BagAt H' b (n+3*c)->SameX b H H'->RowAt K H' a rs->rs.length=c->(∀ r∈rs,Fd 21 r)->Q (.ref a) H')
theorem Dq:FnScope VE VE (defScope kP):=fsc
theorem Z4l (D:Def K mg "_law_row" kP VE)(T:Blt mg)(eI:Has P w K mg base 3 "_law_small" VD (spSmallB K)):Has P w K mg base 4 "_law_row" VE (spRowB K):=by
 refine D.has λf fd F=>F.ok Dq (λvs H Q E h=>?_) (λcdv A outer s H vs Q E hr h=>?_)
 ·obtain⟨b,c,n,rfl,_⟩:=h;rfl
 obtain⟨b,c,n,rfl,hB,hn,hc,k⟩:=h;have sc:=Dq;have nd1:(VF:List Str).Nodup:=by decide +kernel
 refine⟨_,(Zc (Zh (Zw Zy rfl T.tuple YZ (Z0 (Ym (N:=VF) (k:=1) (fv:=[0]) rfl (Yl rfl T.range (Z0 (pv 1) Z8))
  (λ_ _ _ _ _=>Zk (i:=0) nd1 rfl (Or.inl rfl)) (λ_ _ _ _ _=>Ya) (λ_ _ _ _ _=>(Zf eI hr (Z0 (pv 1) Z8))) Y0) Z8)))),?_⟩
 have hBl:=hB.lst;refine⟨_,rfl,(c:Int),rfl,(by omega),(by omega),λd hd=>?_⟩;have hdb:d≠b:=by
  obtain⟨ys,e⟩:=hBl;exact (Zd e hd).symm
 have et:(c:Int).toNat=c:=by omega
 rw[et];refine⟨c,λi ys H2=>∃ rs,Rs K H2 rs ys/\rs.length=i/\(∀ r∈rs,Fd 21 r)/\BagAt H2 b (n+3*i)/\SameX b H H2,Zq hc,?_,?_,?_⟩
 ·exact⟨[],.nil,rfl,(λ_ h=>nomatch h),hB.upd (XJ hdb),SameX.of (Same.new hd)⟩
 ·rintro i ys H2 hi ⟨rs,h1,h2,h3,h4,h5⟩ hd2;refine⟨hi,?_⟩;rintro x H3 ⟨rfl,rfl⟩;refine Yh ?_;refine⟨_,rfl,b,n+3*i,rfl,h4,by omega,λa H4 r B4 S4 e4 g4=>?_⟩;have E4:=Ext.bag S4 h4;have hd4:H4 d=some (.lst ys):=S4 _ _ hd2 hdb;have E5:Ext H4 (upd H4 d (.lst (ys++[.ref a]))):=Ext.upd hd4;refine⟨hd4,rs++[r],(h1.ext (E4.trans E5)).snoc ⟨a,rfl,E5.sq (SqT.of e4)⟩,by rw[YS,h2];rfl,λr' hr'=>?_,(B4.upd (XJ hdb)).mono (by omega),?_⟩
  ·rcases JF.mp hr' with z | z
   ·exact h3 r' z
   rw[JQ.mp z];exact g4
  exact λq o e ne=>by
   have e2:=S4 q o (h5 q o e ne) ne;rw[Ze (Zd e hd)];exact e2
 rintro ys H2 ⟨rs,h1,h2,h3,h4,h5⟩ hd2;refine⟨YD _,d,ys,rfl,.inl ⟨SqL.of hd2,λl hl=>?_⟩⟩;have E:=Ext.new (o:=.tup ys) hl;exact k l _ rs (h4.same (Same.new hl)) (h5.trans (SameX.of (Same.new hl))) ⟨ys,SqT.of Zb,h1.ext E⟩ h2 h3
structure WtsR (c:Nat)(Ws:TU)(rs:UA):Prop where
 len:rs.length=c
 nn:∀ W∈Ws,0<=W
 pos:0<Ws.sum
 rep:RepL 10 Ws.sum Ws rs
inductive spWeightsR (K:TQ) (vs:TY) (H:Hp) (Q:VK) (_z3:XK):Prop
 | i (b:Addr) (c n:Nat) (_:vs=[.ref b,.int c]) (_:BagAt H b n) (_:n<=100000) (_:1<=c) (_:c<=100) (_:∀ (a:Addr) (H':Hp) (Ws:TU) (rs:UA),BagAt H' b (n+c+1)->SameX b H H'->RowAt K H' a rs->WtsR c Ws rs->Q (.ref a) H')
theorem Kb (D:Def K mg "_law_weights" iX VE)(T:Blt mg)(eC:Z1 P w K mg base)(eE:Z2 P w K mg base) :
  Has P w K mg base 3 "_law_weights" VE (spWeightsR K):=by
 refine D.h9 (N:=["_law_bag_here","_law_count","_law_parts","_law_at"]) fsc λH Q hr h nd=>?_;obtain⟨b,c,n,rfl,hB,hn,hc1,hc,k⟩:=h;have nd1:(VF:List Str).Nodup:=by decide +kernel
 have nd2:(["_law_part","_law_parts"]:List Str).Nodup:=by decide +kernel
 refine⟨_,(Z9 (Zi (i:=2) nd rfl (Or.inr rfl) (Ym (N:=VF) (k:=1) (fv:=[0]) rfl (Yl rfl T.range (Z0 (pv 1) Z8))
  (λ_ _ _ _ _=>Zk (i:=0) nd1 rfl (Or.inl rfl)) (λ_ _ _ _ _=>Ya) (λ_ _ _ _ _=>(Zf eC hr (Z0 (pv 1) (Z0 Za Z8)))) Y0))
  (Z9 (Zi (i:=3) nd rfl (Or.inl rfl) (Zf eC hr (Z0 (pv 0) (Z0 (pv 1) Z8))))
  (Z9 (Yk (Y4 (Zl Yy (Zx (Sl (K:=K) rfl) rfl T.sum jg (Z0 (pv 2) Z8)) Za (Zo _))
   (Zc (Vq Za (Tt (pv 2) (pv 3) V9)))
   Zp))
  (Zc (Zh (Zw Zy rfl T.tuple YZ (Z0 (Ym (N:=["_law_part","_law_parts"]) (k:=1) (fv:=[2]) rfl (Xk (pv 2))
  (λ_ _ _ _ _=>Zk (i:=0) nd2 rfl (Or.inl rfl)) (λ_ _ _ _ _=>Ya) (λ_ _ _ _ _=>(Zf eE hr (Z0 (pv 0) (Z0 (Zx (Sl (K:=K) rfl) rfl T.sum jg (Z0 (pv 1) Z8)) Z8)))) Y0) Z8))))))),?_⟩
 have hBl:=hB.lst;refine⟨_,rfl,(c:Int),rfl,(by omega),(by omega),λd hd=>?_⟩;have hdb:d≠b:=by
  obtain⟨ys,e⟩:=hBl;exact (Zd e hd).symm
 have et:(c:Int).toNat=c:=by omega
 rw[et];refine⟨c,λi ys H2=>∃ ns:List Int,ys=ns.map V.int/\ns.length=i/\(∀ z∈ns,0<=z/\z<=4)/\BagAt H2 b (n+i)/\SameX b H H2,Zq (by omega),?_,?_,?_⟩
 ·exact⟨[],rfl,rfl,(λ_ h=>nomatch h),hB.upd (XJ hdb),SameX.of (Same.new hd)⟩
 ·rintro i ys H2 hi ⟨ns,rfl,h2,h3,B2,S2⟩ hd2;refine⟨hi,?_⟩;rintro x H3 ⟨rfl,rfl⟩;refine Yh ?_;refine⟨_,rfl,b,_,_,rfl,B2,by omega,by decide,by decide +kernel,λr H4 r0 r1 B4 S4=>?_⟩;have hd4:H4 d=some (.lst (ns.map V.int)):=S4 _ _ hd2 hdb;refine⟨hd4,ns++[r],by rw[XR];rfl,by rw[YS,h2];rfl,λz hz=>?_,(B4.upd (XJ hdb)).mono (by omega),?_⟩
  ·rcases JF.mp hz with z' | z'
   ·exact h3 z z'
   rw[JQ.mp z'];omega
  exact λq o e ne=>by
   have e2:=S4 q o (S2 q o e ne) ne;rw[Ze (Zd e hd)];exact e2
 rintro ys H2 ⟨ns,rfl,h2,h3,B2,S2⟩ hd2;refine⟨YD _,?_⟩;refine⟨_,rfl,_,rfl,b,_,_,rfl,B2,by omega,by omega,Z2w (by omega),λr H4 r0 r1 B4 S4=>?_⟩;obtain⟨j,rfl,hj⟩:=Z5q r0 r1;have hd4:H4 d=some (.lst (ns.map V.int)):=S4 _ _ hd2 hdb;have S04:=S2.trans S4;refine⟨λσ H'=>σ=[some (.ref b),some (.int c),some (.ref d),some (.int (j:Int))]/\∃ ms:List Int,ms.length=c/\(∀ z∈ms,0<=z/\z<=4)/\1<=ms.sum/\H' d=some (.lst (ms.map V.int))/\BagAt H' b (n+c+1)/\SameX b H H',?_,?_⟩
 ·refine⟨_,rfl,d,ns,rfl,SqL.of hd4,rfl,_,rfl,?_⟩;refine X6 (λh=>?_) (λh=>?_)
  ·have hjn:j<ns.length:=by omega
   refine⟨_,rfl,_,rfl,d,_,_,j,rfl,rfl,hd4,?_,?_⟩
   ·rw[YC];exact Km (by omega) (by omega)
   have em:(ns.map V.int).set j (V.int 1)=(ns.set j 1).map V.int:=by rw[jb]
   rw[em];have h4:∀ z∈ns.set j 1,0<=z/\z<=4:=λz hz=>by
    rcases List.mem_or_eq_of_mem_set hz with e | e
    ·exact h3 z e
    omega
   refine⟨rfl,ns.set j 1,by rw[qc];exact h2,h4,?_,Zb,(B4.upd (XJ hdb)).mono (by omega),λq o e ne=>?_⟩
   ·exact Kz _ (λz hz=>(h4 z hz).1) ⟨1,by
     refine List.mem_iff_getElem?.mpr ⟨j,?_⟩;rw[JP (by simpa using hjn)],by omega⟩
   rw[Ze (Zd e hd)];exact S04 q o e ne
  have h0:ns.sum≠0:=λz=>h (XQ (by rw[z]));have:=(Lq ns 4 h3).1;exact⟨rfl,ns,h2,h3,by omega,hd4,B4.mono (by omega),S04⟩
 rintro σ H5 ⟨rfl,ms,l4,h4,s1,hd5,B5,S5⟩;have s2:ms.sum<=4*(c:Int):=by
  have:=(Lq _ 4 h4).2;rw[l4] at this;exact this
 refine⟨_,rfl,d,rfl,⟨_,SqL.of hd5⟩,λe he=>?_⟩;have hed:d≠e:=Zd hd5 he;refine⟨c,λi ys H2=>Same H5 H2/\Rs K H2 ((ms.map λm=>nrm m ms.sum).take i) ys,Zq (by omega),⟨Same.new he,.nil⟩,?_,?_⟩
 ·rintro i ys H6 hi ⟨S6,R6⟩ he6;have him:i<ms.length:=by omega
  refine⟨⟨_,V.int ms[i],SqL.of (S6 _ _ hd5),by simp[him]⟩,?_⟩;rintro x H7 ⟨rfl,fx⟩;have ex:x=V.int ms[i]:=by
   have:=fx _ (SqL.of (S6 _ _ hd5));rw[YF,show ms[i]?=some ms[i] by simp[him]] at this;exact (YK this).symm
  subst ex;refine Yh ?_;have b2:Bd 10 ms.sum:=bdS (by omega);refine⟨_,rfl,_,rfl,d,ms,rfl,SqL.of (S6 _ _ hd5),ms[i],ms.sum,rfl,by omega,b2.log (by decide),λa8 H8 f8 S8 e8=>?_⟩;have he8:=S8 _ _ he6;refine⟨he8,λq o' e'=>?_,?_⟩
  ·rw[Ze (Zd e' he)];exact S8 _ _ (S6 _ _ e')
  rw[Yf (show (ms.map λm=>nrm m ms.sum)[i]?=some (nrm ms[i] ms.sum) by rw[YF,show ms[i]?=some ms[i] by simp[him]];rfl)];exact (R6.ext ((Ext.same S8).trans (Ext.upd he8))).snoc ⟨a8,rfl,(Ext.upd he8).sq (SqT.of e8)⟩
 rintro ys H6 ⟨S6,R6⟩ he6;refine⟨⟨_,SqL.of (S6 _ _ hd5),by rw[YC];omega⟩,e,ys,rfl,.inl ⟨SqL.of he6,λl hl'=>?_⟩⟩;rw[YM (by rw[YC];omega)] at R6;refine k l _ ms _ (((B5.same S6).same (Same.new hl')).mono (by omega)) ((S5.trans (SameX.of S6)).trans (SameX.of (Same.new hl'))) ⟨ys,SqT.of Zb,R6.ext (Ext.new hl')⟩ ⟨by rw[YC];exact l4,λW hW=>(h4 W hW).1,by omega,⟨by omega,bdS (by omega),by rw[YC],λi W r hW hr=>?_⟩⟩;rw[YF,hW] at hr
 cases hr;have:=h4 W (YG hW);exact⟨J5 (by omega),bdS (by omega),X8 (by omega)⟩
inductive spEvent (K:TQ) (vs:TY) (H:Hp) (Q:VK) (_z3:XK):Prop
 | i (b:Addr) (c n:Nat) (_:vs=[.ref b,.int c]) (_:BagAt H b n) (_:n<=100000) (_:c<=1000) (_:∀ (v:V) (H':Hp) (o:TV),BagAt H' b (n+c+1)->SameX b H H'->EvAt K H' c o v->Q v H')
theorem Z2o (D:Def K mg "_law_event" j6 VE)(T:Blt mg)(eC:Z1 P w K mg base):Has P w K mg base 2 "_law_event" VE (spEvent K):=by
 refine D.h9 (N:=["_law_bag_here","_law_count","_law_bits"]) fsc λH Q hr h nd=>?_;obtain⟨b,c,n,rfl,hB,hn,hl,k⟩:=h;have nd1:(VF:List Str).Nodup:=by decide +kernel
 have nd2:(["_law_world","_law_bits"]:List Str).Nodup:=by decide +kernel
 refine⟨_,(Z9 (Y4 (Zl Q5 (Zf eC hr (Z0 (pv 0) (Z0 Za Z8))) Za (Zo _))
   (Zc (Zh Yj))
   Zp)
  (Z9 (Zi (i:=2) nd rfl (Or.inr rfl) (Ym (N:=VF) (k:=1) (fv:=[0]) rfl (Yl rfl T.range (Z0 (pv 1) Z8))
  (λ_ _ _ _ _=>Zk (i:=0) nd1 rfl (Or.inl rfl)) (λ_ _ _ _ _=>Ya) (λ_ _ _ _ _=>(Zf eC hr (Z0 (pv 1) (Z0 Za Z8)))) Y0))
  (Zc (Zh (Zw Zy rfl T.tuple YZ (Z0 (Ym (N:=["_law_world","_law_bits"]) (k:=1) (fv:=[2]) rfl (Yl rfl T.range (Z0 (pv 1) Z8))
  (λ_ _ _ _ _=>Zk (i:=0) nd2 rfl (Or.inl rfl)) (λ_ _ _ _ _=>J7 (Zl Yy (Zj (Jf (K:=K)) (pv 1) (pv 0) (λ_ _=>rfl)) Za (Zo _))) (λ_ _ _ _ _=>(pv 0)) Y0) Z8)))))),?_⟩
 refine⟨_,rfl,b,_,_,rfl,hB,by omega,by decide,by decide +kernel,λz H1 z0 z1 B1 S1=>⟨_,_,rfl,rfl,_,rfl,?_⟩⟩;refine X6 (λh=>?_) (λh=>?_)
 ·exact k _ _ none (B1.mono (by omega)) S1 rfl
 have hBl:=B1.lst;refine⟨_,rfl,(c:Int),rfl,(by omega),(by omega),λd hd=>?_⟩;have hdb:d≠b:=by
  obtain⟨ys,e⟩:=hBl;exact (Zd e hd).symm
 have et:(c:Int).toNat=c:=by omega
 rw[et];refine⟨c,λi ys H2=>∃ ns:List Int,ys=ns.map V.int/\ns.length=i/\BagAt H2 b (n+1+i)/\SameX b H H2,Zq hl,?_,?_,?_⟩
 ·exact⟨[],rfl,rfl,B1.upd (XJ hdb),S1.trans (SameX.of (Same.new hd))⟩
 ·rintro i ys H2 hi ⟨ns,rfl,ln,B2,S2⟩ hd2;refine⟨hi,?_⟩;rintro x H3 ⟨rfl,rfl⟩;refine Yh ?_;refine⟨_,rfl,b,_,_,rfl,B2,by omega,by decide,by decide +kernel,λr H4 r0 r1 B4 S4=>?_⟩;have hd4:H4 d=some (.lst (ns.map V.int)):=S4 _ _ hd2 hdb;refine⟨hd4,ns++[r],by rw[XR];rfl,by rw[YS,ln];rfl,(B4.upd (XJ hdb)).mono (by omega),λq o e ne=>?_⟩;have e2:=S4 q o (S2 q o e ne) ne;rw[Ze (Zd (S1 q o e ne) hd)];exact e2
 rintro ys H2 ⟨ns,rfl,ln,B2,S2⟩ hd2;refine⟨YD _,?_⟩;refine⟨_,rfl,(c:Int),rfl,(by omega),(by omega),λd5 hd5=>?_⟩;rw[et];refine⟨c,λi ys H3=>ys=(evI i λj=>decide (ns.getD j 0=1)).map V.int/\Same H2 H3,Zq hl,⟨rfl,Same.new hd5⟩,?_,?_⟩
 ·rintro i ys H3 hi ⟨rfl,S3⟩ hd3;refine⟨hi,?_⟩;rintro x H4 ⟨rfl,rfl⟩;have e0:(0+(i:Int))=((i:Nat):Int):=by omega
  rw[e0];refine By ?_;have hin:i<ns.length:=by omega
  have en:(ns.map V.int)[i]?=some (V.int (ns.getD i 0)):=by rw[YF];simp[List.getD,hin]
  refine⟨_,rfl,_,rfl,d,_,_,_,rfl,rfl,SqL.of (S3 _ _ hd2),Zg en,rfl,_,rfl,?_⟩;have ss:=Z0n i λj=>decide (ns.getD j 0=1);refine X6 (λh=>?_) (λh=>?_)
  ·have h0:ns.getD i 0=1:=V.int.inj (XH h);refine⟨_,rfl,hd3,?_,λq o e=>?_⟩
   ·rw[ss,YJ (XQ h0),XR];rfl
   rw[Ze (Zd e hd5)];exact S3 _ _ e
  have h0:¬ ns.getD i 0=1:=λz=>h (XQ (by rw[z]));refine⟨hd3,?_,S3⟩;rw[ss,YH (by rw[zv];exact h0),GS]
 rintro ys H3 ⟨rfl,S3⟩ hd3;refine⟨YD _,d5,_,rfl,.inl ⟨SqL.of hd3,λl hl'=>?_⟩⟩;have S4:=S3.trans (Same.new (o:=.tup ((evI c λj=>decide (ns.getD j 0=1)).map V.int)) hl');exact k _ _ (some λj=>decide (ns.getD j 0=1)) ((B2.same S4).mono (by omega)) (S2.trans (SameX.of S4)) ⟨l,rfl,SqT.of Zb⟩
inductive spInside (K:TQ) (vs:TY) (H:Hp) (Q:VK) (_z3:XK):Prop
 | i (a:Addr) (v:V) (rs:UA) (o:TV) (_:vs=[.ref a,v]) (_:RowAt K H a rs) (_:EvAt K H rs.length o v) (_:rs.length<=1000) (_:∀ p H',Same H H'->RowAt K H' p (cutR o rs)->Q (.ref p) H')
theorem Bl (D:Def K mg "_law_inside" jO VG)(T:Blt mg):Has P w K mg base 1 "_law_inside" VG (spInside K):=by
 refine D.h9 (N:=["_law_row_here","_law_event_here","_law_inside_here","_law_world"]) fsc λH Q hr h nd=>?_;obtain⟨a,v,rs,o,rfl,⟨us,hus,hrs⟩,hv,hl,k⟩:=h;refine⟨_,(Z9 (Zi (i:=2) nd rfl (Or.inl rfl) (X4 Z8))
  (Z9 (Xm XY rfl (Yl rfl T.range (Z0 (Zx Y2 rfl T.len qp (Z0 (pv 0) Z8)) Z8)) (Zk (i:=3) nd rfl (Or.inl rfl))
   (Zc (Y4 (PW.pt (Wf (Zl Uq (pv 1) Yj (Zo _)) (W8 (Zl Wo (pv 3) (pv 1) rfl))))
    (Zc (X7 (Wu XE XT XU Yn (pv 2) (Z0 (Zj Yd (pv 0) (pv 3) (λ_ _=>rfl)) Z8))))
    (Zc (X7 (Wu XE XT XU Yn (pv 2) (Z0 (Yc (Z0 Za (Z0 Za Z8))) Z8)))))))
  (Zc (Zh (Zw Zy rfl T.tuple YZ (Z0 (pv 2) Z8)))))),?_⟩
 have lu:=hrs.len;refine⟨sz0,λd hd=>?_⟩;have S0:Same H (upd H d (.lst [])):=Same.new hd;have e0:upd H d (.lst []) d=some (.lst []):=Zb;generalize upd H d (.lst [])=H0 at *
 refine⟨_,rfl,a,us,rfl,.inr (Zt S0 hus),(us.length:Int),rfl,(by omega),(by omega),?_⟩;have et:(us.length:Int).toNat=us.length:=by omega
 rw[et];refine Uh (lo:=0) (n:=us.length) (λi σ H'=>Same H H'/\∃ (ys:TY) (x:TZ),σ=[some (.ref a),some v,some (.ref d),x]/\H' d=some (.lst ys)/\Rs K H' ((cutR o rs).take i) ys) ⟨S0,[],none,rfl,e0,.nil⟩ ?_ ?_
 ·rintro i σ H1 hi ⟨S1,ys,x,rfl,hd1,R1⟩;have e1:(0+(i:Int))=((i:Nat):Int):=by omega
  rw[e1];have hir:i<rs.length:=by omega
  have er:rs[i]?=some rs[i]:=by simp[hir]
  obtain⟨x0,ex,ix⟩:=hrs.at er;have ly:=R1.len;rw[JU,Yp] at ly;have snoc:∀ (vv:V) (H2:Hp),Same H1 H2->IsR K H2 (if inE o i then rs[i] else (0,1)) vv->Same H (upd H2 d (.lst (ys++[vv])))/\∃ (zs:TY) (x:TZ),[some (.ref a),some v,some (.ref d),some (V.int (i:Int))]=[some (.ref a),some v,some (.ref d),x]/\upd H2 d (.lst (ys++[vv])) d=some (.lst zs)/\Rs K (upd H2 d (.lst (ys++[vv]))) ((cutR o rs).take (i+1)) zs:=λvv H2 S2 iv=>by
   have hd2:=S2 _ _ hd1;refine⟨λq o' e=>?_,ys++[vv],_,rfl,Zb,?_⟩
   ·rw[Ze (Zd e hd)];exact S2 _ _ (S1 _ _ e)
   rw[Yf (V2 er)];exact (R1.ext ((Ext.same S2).trans (Ext.upd hd2))).snoc (iv.ext (Ext.upd hd2))
  have yes:inE o i=true->(rIn K false (.int (i:Int)) v H1 λ_ _=>True) \/ True:=λ_=>.inr trivial;have app1:inE o i=true->∃ x,some (V.ref d)=x/\True:=λ_=>⟨_,rfl,trivial⟩;clear yes app1;refine⟨_,rfl,rfl,_,rfl,?_⟩;have done1:inE o i=true->∀ (R:Prop),R->R:=λ_ R z=>z;clear done1
  cases o with
  | none =>
   have z:v=.non:=hv;subst z;refine Vf ?_;refine⟨_,rfl,.inl ⟨rfl,_,SqL.of hd1⟩,_,rfl,_,rfl,a,us,_,_,rfl,rfl,Zt S1 hus,Zg ex,d,_,_,rfl,rfl,hd1,Xo (by omega),?_⟩;exact snoc x0 H1 (Same.refl _) (ix.ext (Ext.same S1))
  | some p =>
   obtain⟨e9,rfl,he9⟩:=hv.same S1;refine Pn (by intro z;cases z) ?_;refine⟨_,rfl,_,rfl,e9,_,rfl,.inr he9,rfl,Si _,_,rfl,?_⟩;have ev:inV (.int (i:Int)) ((evI rs.length p).map V.int)=inE (some p) i:=by
    rw[Qm,qb,zv,Jc];show _ ↔ p i=true;simp[hir]
   show if inV (.int (i:Int)) ((evI rs.length p).map V.int)=true then _ else _
   rw[ev];refine Z2z (λe=>?_) (λe=>?_)
   ·refine⟨_,rfl,.inl ⟨rfl,_,SqL.of hd1⟩,_,rfl,_,rfl,a,us,_,_,rfl,rfl,Zt S1 hus,Zg ex,d,_,_,rfl,rfl,hd1,Xo (by omega),?_⟩;refine snoc x0 H1 (Same.refl _) ?_;rw[e,YJ rfl];exact ix.ext (Ext.same S1)
   refine⟨_,rfl,.inl ⟨rfl,_,SqL.of hd1⟩,sz2,λp' hp=>?_⟩;have S3:Same H1 (upd H1 p' (.tup [.int 0,.int 1])):=Same.new hp;refine⟨d,_,_,rfl,rfl,S3 _ _ hd1,Xo (by omega),?_⟩;refine snoc (.ref p') _ S3 ?_;rw[e];exact⟨p',rfl,SqT.of Zb⟩
 rintro σ H1 ⟨S1,ys,x,rfl,hd1,R1⟩;rw[YM (by rw[Yp];omega)] at R1;refine⟨_,rfl,d,ys,rfl,.inl ⟨SqL.of hd1,λlt hlt=>?_⟩⟩;exact k lt _ (S1.trans (Same.new hlt)) ⟨ys,SqT.of Zb,R1.ext (Ext.new hlt)⟩
end
def shR (c:Nat)(ev:TV)(ws:UA):Rat:=mn ws (cutR ev (List.replicate c (1,1)))
theorem RowR.low8 {c:Nat}(ra:RowR c as){x:Rat}(h:x∈as):Low x:=by
 obtain⟨_,n,D,Z,r⟩:=ra;exact (r.good x h).low
theorem RowR.cut {c:Nat}{as:UA}(ra:RowR c as)(ev:TV):RowR c (cutR ev as):=by
 obtain⟨l,n,D,Z,r⟩:=ra;exact⟨by rw[Yp];exact l,n,_,_,r.cut ev⟩
def gP (o:TV)(as:UA)(p:Rat):List Rat:=cutR o (as.map λx=>subR x p)
structure ConV (c:Nat)(rss:UB)(o:TV)(as:UA)(v:Rat):Prop where
 low:Low v
 hit:∃ W,Wts c rss W/\(mn W (gP o as v)).1=0/\0<(shR c o W).1
 top:∀ W,Wts c rss W->(mn W (gP o as v)).1<=0
theorem Pa (c:Nat){n:Nat}(hn:1<=n):RepL n 1 (List.replicate c 0) (List.replicate c (0,1)):=by
 refine⟨by decide,YU (show (1:Int).natAbs<2 ^ 1 by decide) (GF (by decide) hn),by simp,λi W r hW hr=>?_⟩;have h1:=GI (YG hW);have h2:=GI (YG hr);subst h1;subst h2;exact⟨rfl,bd0 n,Qh⟩
theorem Z05 {r:Rat}(l:Low r):∃ m,Good m r:=⟨r.1.natAbs+r.2.natAbs,YU Y0L (GF (by decide) (by omega)),YU Y0L (GF (by decide) (by omega)),l.pos,l.cop⟩
abbrev ngR (as:UA):List Rat:=as.map λr=>mulR' r (-1,1)
abbrev QQ:=_root_.Rat
def qv (r:Rat):QQ:=(r.1:QQ) / (r.2:QQ)
theorem Xu {z:Int}(h:0<z):(z:QQ)≠0:=λe=>by
 have:z=0:=_root_.Rat.intCast_inj.mp (e.trans _root_.Rat.intCast_zero.symm);omega
theorem W7 {z:Int}(h:0<z):0<(z:QQ):=_root_.Rat.intCast_pos.mpr h
theorem K9 {a b:QQ}(h:0<=a*b)(p:0<b):0<=a:=by
 by_cases q:0<=a
 ·exact q
 have:=_root_.Rat.mul_pos (show 0 < -a by grind) p;grind
theorem Ch {r:Rat}{p q:Int}(hr:0<r.2)(hq:0<q)(e:r.1*q=p*r.2):qv r=(p:QQ) / q:=by
 unfold qv;have h1:=Xu hr;have h2:=Xu hq;have e':(r.1:QQ)*q=p*r.2:=by rw[<-_root_.Rat.intCast_mul,<-_root_.Rat.intCast_mul,e]
 grind
theorem U2 {p q:Int}(h:0<q):qv (nrm p q)=(p:QQ) / q:=Ch (X8 (by omega)).pos h (Xc p q)
theorem Z42 {r s:Rat}(lr:Low r)(ls:Low s):qv (addR r s)=qv r+qv s:=by
 have h1:=Xu lr.pos;have h2:=Xu ls.pos;rw[show addR r s=nrm (r.1*s.2+s.1*r.2) (r.2*s.2) from rfl,U2 (XX lr.pos ls.pos)];unfold qv;rw[_root_.Rat.intCast_add,_root_.Rat.intCast_mul,_root_.Rat.intCast_mul,_root_.Rat.intCast_mul];grind
theorem Cg {r s:Rat}(lr:Low r)(ls:Low s):qv (subR r s)=qv r - qv s:=by
 have h1:=Xu lr.pos;have h2:=Xu ls.pos;rw[show subR r s=nrm (r.1*s.2 - s.1*r.2) (r.2*s.2) from rfl,U2 (XX lr.pos ls.pos)];unfold qv;rw[_root_.Rat.intCast_sub,_root_.Rat.intCast_mul,_root_.Rat.intCast_mul,_root_.Rat.intCast_mul];grind
theorem K5 {r s:Rat}(lr:Low r)(ls:Low s):qv (mulR' r s)=qv r*qv s:=by
 have h1:=Xu lr.pos;have h2:=Xu ls.pos;rw[show mulR' r s=nrm (r.1*s.1) (r.2*s.2) from rfl,U2 (XX lr.pos ls.pos)];unfold qv;rw[_root_.Rat.intCast_mul,_root_.Rat.intCast_mul];grind
theorem Ts {r:Rat}(h:0<r.2):qv r*(r.2:QQ)=r.1:=by
 have:=Xu h;unfold qv;grind
theorem Md {r:Rat}(h:0<r.2):0<=r.1 ↔ 0<=qv r:=by
 have e:=Ts h;have p:=W7 h;constructor
 ·intro q;have:(0:QQ)<=(r.1:QQ):=_root_.Rat.intCast_nonneg.mpr q;rw[<-e] at this;exact K9 this p
 intro q;have:=_root_.Rat.mul_nonneg q (_root_.Rat.le_of_lt p);rw[e] at this;exact _root_.Rat.intCast_nonneg.mp this
theorem Sr {r:Rat}(h:0<r.2):r.1<=0 ↔ qv r<=0:=by
 have a:=Md (r:=(-r.1,r.2)) h;have e:qv (-r.1,r.2)=- qv r:=by
  unfold qv;rw[show ((-r.1,r.2):Rat).1=-r.1 from rfl,_root_.Rat.intCast_neg];grind
 rw[e] at a;constructor
 ·intro q;have:=a.mp (show 0<=-r.1 by omega);grind
 intro q;have:0<=-r.1:=a.mpr (by grind);omega
theorem Z41 {r:Rat}(h:0<r.2):0<r.1 ↔ 0<qv r:=by
 have:=Sr h;constructor
 ·intro q;by_cases z:qv r<=0
  ·have:=this.mpr z;omega
  grind
 intro q;by_cases z:r.1<=0
 ·have:=this.mp z;grind
 omega
theorem Q1 {r s:Rat}(lr:Low r)(ls:Low s)(h:qv r=qv s):r=s:=by
 refine Xv lr.pos ls.pos lr.cop ls.cop ?_;have h1:=Ts lr.pos;have h2:=Ts ls.pos;have:(r.1:QQ)*s.2=s.1*r.2:=by rw[<-h1,<-h2,h];grind
 rw[<-_root_.Rat.intCast_mul,<-_root_.Rat.intCast_mul] at this;exact _root_.Rat.intCast_inj.mp this
theorem Z43:qv (0,1)=0:=by
 show ((0:Int):QQ) / ((1:Int):QQ)=0;rw[_root_.Rat.intCast_zero,_root_.Rat.intCast_one];grind
theorem Z1s:qv (1,1)=1:=by
 show ((1:Int):QQ) / ((1:Int):QQ)=1;rw[_root_.Rat.intCast_one];grind
def sQ:Nat->(Nat->QQ)->QQ
 | 0,_=>0
 | n+1,f=>sQ n f+f n
theorem Zu {f g:Nat->QQ}:∀ {n:Nat},(∀ k,k<n->f k=g k)->sQ n f=sQ n g
 | 0,_=>rfl
 | n+1,h=>by
  show sQ n f+f n=sQ n g+g n;rw[Zu λk hk=>h k (by omega),h n (by omega)]
theorem Vz (f g:Nat->QQ):∀ (n:Nat),sQ n (λk=>f k+g k)=sQ n f+sQ n g
 | 0=>by show (0:QQ)=0+0;grind
 | n+1=>by
  show sQ n (λk=>f k+g k)+(f n+g n)=(sQ n f+f n)+(sQ n g+g n);rw[Vz f g n];grind
theorem Yo (a:QQ)(f:Nat->QQ):∀ (n:Nat),sQ n (λk=>a*f k)=a*sQ n f
 | 0=>by show 0=a*0;grind
 | n+1=>by
  show sQ n (λk=>a*f k)+a*f n=a*(sQ n f+f n);rw[Yo a f n];grind
theorem N6 {f:Nat->QQ}{n:Nat}(h:∀ k,k<n->f k=0):sQ n f=0:=by
 rw[Zu h];have:∀ n,sQ n (λ_=>0)=0:=λn=>by
  induction n with
  | zero=>rfl
  | succ n ih=>show sQ n _+0=0;rw[ih];grind
 exact this n
theorem M9 {f:Nat->QQ}:∀ {n:Nat},(∀ k,k<n->0<=f k)->0<=sQ n f
 | 0,_=>by show (0:QQ)<=0;grind
 | n+1,h=>by
  show 0<=sQ n f+f n;have h1:=M9 (f:=f) λk (hk:k<n)=>h k (by omega);have h2:=h n (by omega);grind
theorem C9 {f g:Nat->QQ}{n:Nat}(h:∀ k,k<n->f k<=g k):sQ n f<=sQ n g:=by
 have:=M9 (f:=λk=>g k + -1*f k) λk (hk:k<n)=>by have:=h k hk;grind
 rw[Vz,Yo] at this;grind
theorem Re (f:Nat->Nat->QQ)(m:Nat):∀ (n:Nat),sQ n (λi=>sQ m (λj=>f i j))=sQ m (λj=>sQ n (λi=>f i j))
 | 0=>(N6 λ_ _=>rfl).symm
 | n+1=>by
  show sQ n (λi=>sQ m (λj=>f i j))+sQ m (λj=>f n j)=sQ m (λj=>sQ n (λi=>f i j)+f n j);rw[Re f m n,Vz]
theorem Ma (f:Nat->QQ):∀ (n:Nat),sQ (n+1) f=f 0+sQ n (λk=>f (k+1))
 | 0=>by show 0+f 0=f 0+0;grind
 | n+1=>by
  show sQ (n+1) f+f (n+1)=f 0+(sQ n (λk=>f (k+1))+f (n+1));rw[Ma f n];grind
def qr (l:UA)(k:Nat):QQ:=qv (l.getD k (0,1))
def Lows (l:UA):Prop:=∀ r∈l,Low r
theorem RowR.lows {c:Nat}(h:RowR c l):Lows l:=λr hr=>h.low8 hr
theorem Lows.row {l:UA}(h:Lows l):RowR l.length l:=by
 have:∃ n,∀ r∈l,Good n r:=by
  induction l with
  | nil=>exact⟨0,λr hr=>nomatch hr⟩
  | cons a t ih =>
   obtain⟨n,hn⟩:=ih λr hr=>h r (YY _ hr);obtain⟨m,hm⟩:=Z05 (h a XI);refine⟨n+m,λr hr=>?_⟩;rcases YW.mp hr with rfl | hr
   ·exact hm.mono (by omega)
   exact (hn r hr).mono (by omega)
 obtain⟨n,hn⟩:=this;exact⟨rfl,_,_,_,RepL.of_good hn⟩
theorem Rr:∀ {l:UA} {x:Rat},Low x->Lows l->Low (l.foldl addR x)/\qv (l.foldl addR x)=qv x+sQ l.length (qr l)
 | [],x,lx,_=>⟨lx,by show qv x=qv x+0;grind⟩
 | a::t,x,lx,h=>by
  have la:=h a XI;obtain⟨h1,h2⟩:=Rr (x:=addR x a) (Uf lx la) λr hr=>h r (YY _ hr);refine⟨h1,?_⟩;show qv (t.foldl addR (addR x a))=qv x+sQ (t.length+1) (qr (a::t));rw[h2,Ma,Z42 lx la];have e:sQ t.length (λk=>qr (a::t) (k+1))=sQ t.length (qr t):=Zu λk _=>rfl;rw[e];show qv x+qv a+_=qv x+(qv a+_);grind
theorem J0 (h:Lows l):Low (sumR l):=(Rr Qh h).1
theorem Z40 (h:Lows l):qv (sumR l)=sQ l.length (qr l):=by
 have:=(Rr Qh h).2;rw[Z43] at this;show qv (l.foldl addR (0,1))=_;rw[this];grind
theorem Ue {l:UA}(h:Lows l)(k:Nat):Low (l.getD k (0,1)):=by
 rw[YQ]
 cases e:l[k]? with
 | none=>exact Qh
 | some x=>exact h x (YG e)
theorem Qe {l m:UA}(h:Lows l)(h':Lows m):Lows (List.zipWith mulR' l m):=λr hr=>by
 obtain⟨i,hi⟩:=XN hr;rw[GB] at hi
 cases e1:l[i]? with
 | none=>rw[e1] at hi;simp at hi
 | some x =>
  cases e2:m[i]? with
  | none=>rw[e1,e2] at hi;simp at hi
  | some y =>
   rw[e1,e2] at hi
   cases hi;exact Wk (h x (YG e1)) (h' y (YG e2))
theorem Z44 {m:UA}(h:Lows l)(h':Lows m){k:Nat}(h1:k<l.length)(h2:k<m.length):qr (List.zipWith mulR' l m) k=qr l k*qr m k:=by
 unfold qr;have e:(List.zipWith mulR' l m).getD k (0,1)=mulR' (l.getD k (0,1)) (m.getD k (0,1)):=by
  rw[YQ,GB,YQ,YQ,JK h1,JK h2];rfl
 rw[e,K5 (Ue h k) (Ue h' k)]
theorem Wd {m:UA}(h:Lows l)(h':Lows m):Low (mn l m):=J0 (Qe h h')
theorem Vb {m:UA}{c:Nat}(h:Lows l)(h':Lows m)(h1:l.length=c)(h2:m.length=c):qv (mn l m)=sQ c (λk=>qr l k*qr m k):=by
 show qv (sumR _)=_;rw[Z40 (Qe h h')];have:(List.zipWith mulR' l m).length=c:=by rw[JR,h1,h2];omega
 rw[this];exact Zu λk hk=>Z44 h h' (by omega) (by omega)
theorem Qg {o:TV}(h:Lows l):Lows (cutR o l):=(h.row.cut o).lows
theorem K8 {o:TV}{l:UA}{k:Nat}:qr (cutR o l) k=if inE o k then qr l k else 0:=by
 unfold qr cutR;rw[YQ,jp,YQ]
 cases l[k]? with
 | none=>show qv (0,1)=if inE o k then qv (0,1) else 0;rw[Z43];cases inE o k <;> rfl
 | some x =>
  show qv (if inE o k then x else (0,1))=if inE o k then qv x else 0
  cases inE o k
  ·exact Z43
  rfl
theorem Z1t {c k:Nat}(h:k<c):qr (List.replicate c (1,1)) k=1:=by
 unfold qr;rw[YQ,zO,YJ h];exact Z1s
theorem Pi (c:Nat):Lows (List.replicate c (1,1)):=λr hr=>by rw[GI hr];exact low11
theorem K6 {c k:Nat}{o:TV}(h:k<c):qr (papR c o) k=if inE o k then 1 else 0:=by
 unfold papR;rw[K8,Z1t h]
theorem Th (c:Nat)(o:TV):Lows (papR c o):=Qg (Pi c)
structure WtsQ (c:Nat)(rss:UB)(l:UA):Prop where
 len:l.length=c
 low:Lows l
 nn:∀ k,k<c->0<=qr l k
 fit:∀ rs∈rss,sQ c (λk=>qr l k*qr rs k)<=0
 lie:sQ c (qr l)=1
theorem Wts.toQ {c:Nat}(w:Wts c rss l)(hrs:∀ rs∈rss,RowR c rs):WtsQ c rss l:=by
 have lw:Lows l:=w.rep.elim λn z=>z.elim λD z=>z.elim λL r=>λx hx=>(r.good x hx).low;refine⟨w.len,lw,λk hk=>?_,λrs hr=>?_,?_⟩
 ·refine (Md (Ue lw k).pos).mp ?_;rw[YQ,JK (by rw[w.len];exact hk)];exact w.nn _ (XB _)
 ·have h2:=(hrs rs hr).lows;rw[<-Vb lw h2 w.len (hrs rs hr).1];exact (Sr (Wd lw h2).pos).mp (w.fit rs hr)
 have h:=congrArg qv w.lie;have e:qv (mn l (papR c none))=1:=by rw[<-Z1s];exact h
 rw[Vb lw (Th c none) w.len (U6 c none)] at e;rw[<-e];exact Zu λk hk=>by rw[K6 hk];show _=_*1;grind
theorem WtsQ.wts {c:Nat}(w:WtsQ c rss l)(hrs:∀ rs∈rss,RowR c rs):Wts c rss l:=by
 have rr:=w.low.row;rw[w.len] at rr;refine⟨w.len,rr.2,λr hr=>?_,λrs hr=>?_,?_⟩
 ·obtain⟨k,hk⟩:=XN hr;have lk:k<c:=by have:=(YE.mp hk).1;rw[w.len] at this;exact this
  have:=w.nn k lk;unfold qr at this;rw[YQ,hk] at this;exact (Md (w.low r hr).pos).mpr this
 ·have h2:=(hrs rs hr).lows;refine (Sr (Wd w.low h2).pos).mpr ?_;rw[Vb w.low h2 w.len (hrs rs hr).1];exact w.fit rs hr
 refine Q1 (Wd w.low (Th c none)) low11 ?_;show qv (mn l (papR c none))=_;rw[Vb w.low (Th c none) w.len (U6 c none),Z1s,<-w.lie];exact Zu λk hk=>by rw[K6 hk];show _*1=_;grind
theorem U1 {c:Nat}{o:TV}(h:Lows l)(hl:l.length=c):qv (shR c o l)=sQ c (λk=>if inE o k then qr l k else 0):=by
 show qv (mn l (papR c o))=_;rw[Vb h (Th c o) hl (U6 c o)];exact Zu λk hk=>by rw[K6 hk];cases inE o k <;> simp <;> grind
open Sv (sm)
theorem Yu {α:Type}{l:List α}{k:Nat}{x d:α}(h:l[k]?=some x):l.getD k d=x:=by rw[YQ,h];rfl
theorem Z46 {a l:QQ}(hl:0<l)(h:l*a<=0):a<=0:=by
 have:=K9 (a:=-a) (b:=l) (by grind) hl;grind
theorem Cl {a b:QQ}(h:b≠0):a / b*b=a:=by grind
theorem Q9 {a b:QQ}(ha:0<=a)(hb:b<=0):a*b<=0:=by
 have:=_root_.Rat.mul_nonneg ha (show 0<=-b by grind);grind
theorem C8 {f:Nat->QQ}{n:Nat}(h:∀ k,k<n->f k<=0):sQ n f<=0:=by
 have:=C9 (f:=f) (g:=λ_=>0) h;rw[N6 (f:=λ_=>0) λ_ _=>rfl] at this;exact this
theorem M3 (f:TX):∀ (n:Nat),((sm n f:Int):QQ)=sQ n (λj=>(f j:QQ))
 | 0=>_root_.Rat.intCast_zero
 | n+1=>by
  show ((sm n f+f n:Int):QQ)=sQ n (λj=>(f j:QQ))+(f n:QQ);rw[_root_.Rat.intCast_add,M3 f n]
theorem Cj {f:Rat->Rat}{k:Nat}(hk:k<l.length):qr (l.map f) k=qv (f (l.getD k (0,1))):=by
 have e1:l[k]?=some l[k]:=by simp[hk]
 unfold qr;rw[YQ,YF,e1,Yu e1];rfl
theorem Ci {c k:Nat}{f:Nat->Rat}(hk:k<c):qr ((List.range c).map f) k=qv (f k):=by
 unfold qr;rw[YQ,YF,zz hk];rfl
theorem Z3f {c:Nat}(h:RowR c rs):0<lcmB rs/\∀ v,v<c->(rowF rs v:QQ)=(lcmB rs:QQ)*qr rs v:=by
 obtain⟨hl,n,D,Z,r⟩:=h;refine⟨r.least.pos,λv hv=>?_⟩;have er:rs[v]?=some (rs[v]'(by omega)):=by simp
 obtain⟨e2,_,lo⟩:=r.least.at_ v ((rs[v]'(by omega)).1*(lcmB rs).fdiv (rs[v]'(by omega)).2) (rs[v]'(by omega)) (by unfold wholeB;simp[show v<rs.length by omega]) er;have p:=Xu r.least.pos;rw[N8 er];unfold qr;rw[Yu er,Ch lo.pos r.least.pos e2];grind
section
variable {c:Nat}{rss:UB}{o:TV}{as W:UA}{T:UC}{v:Rat}
theorem N1 (rows:∀ rs∈rss,RowR c rs){j:Nat}(hj:j<rss.length):0<lcmB (rss.getD j [])/\∀ i,i<c->(AOf rss j i:QQ)=(lcmB (rss.getD j []):QQ)*qr (rss.getD j []) i:=by
 refine Z3f ?_;rw[Yu (l:=rss) (x:=rss[j]) (by simp[hj])];exact rows _ (XB hj)
theorem Cu {i:Nat}(hi:i<c):(rowF (papR c o) i:QQ)=if inE o i then 1 else 0:=by
 rw[Z4b hi,Mu]
 cases inE o i <;> rfl
theorem Z55 {y α β:TX}(rows:∀ rs∈rss,RowR c rs)(w:WtsQ c rss W)(y0:∀ j,j<rss.length->0<=y j)(h:∀ i,i<c->α i<=sm rss.length (λj=>AOf rss j i*y j)+β i):sQ c (λi=>qr W i*(α i:QQ))<=sQ c (λi=>qr W i*(β i:QQ)):=by
 have a:sQ c (λi=>qr W i*(α i:QQ))<=sQ c (λi=>sQ rss.length (λj=>qr W i*((AOf rss j i:QQ)*(y j:QQ)))+qr W i*(β i:QQ)):=C9 λi hi=>by
  have:=_root_.Rat.intCast_le_intCast.mpr (h i hi);rw[_root_.Rat.intCast_add,M3] at this;rw[Zu (f:=λj=>((AOf rss j i*y j:Int):QQ)) (g:=λj=>(AOf rss j i:QQ)*(y j:QQ)) λj _=>_root_.Rat.intCast_mul _ _] at this;rw[Yo];have:=_root_.Rat.mul_nonneg (w.nn i hi) (show 0<=sQ rss.length (λj=>(AOf rss j i:QQ)*(y j:QQ))+(β i:QQ) - (α i:QQ) by grind);grind
 rw[Vz,Re] at a;have b:sQ rss.length (λj=>sQ c (λi=>qr W i*((AOf rss j i:QQ)*(y j:QQ))))<=0:=C8 λj hj=>by
  obtain⟨lp,e⟩:=N1 rows hj;rw[Zu (g:=λi=>(y j:QQ)*(lcmB (rss.getD j []):QQ)*(qr W i*qr (rss.getD j []) i)) λi hi=>by rw[e i hi];grind,Yo];refine Q9 (_root_.Rat.mul_nonneg (_root_.Rat.intCast_nonneg.mpr (y0 j hj)) (_root_.Rat.le_of_lt (W7 lp))) (w.fit _ ?_);rw[Yu (l:=rss) (x:=rss[j]) (by simp[hj])];exact XB hj
 grind
theorem NoneT.q (h:NoneT c rss o gs T)(rows:∀ rs∈rss,RowR c rs){i:Nat}(hi:i<c):(if inE o i then (1:QQ) else 0)<=sQ rss.length (λj=>qr (multR c rss T rss.length 1) j*qr (rss.getD j []) i):=by
 have bp:=h.inv.pos;have pb:=W7 bp;have s:=_root_.Rat.intCast_le_intCast.mpr (h.sv.2 i hi);rw[_root_.Rat.intCast_mul,Cu hi,M3] at s;have e:sQ rss.length (λj=>((AOf rss j i * -Sv.numAt c T rss.length (c+j):Int):QQ))=(T.b:QQ)*sQ rss.length (λj=>qr (multR c rss T rss.length 1) j*qr (rss.getD j []) i):=by
  rw[<-Yo];refine Zu λj hj=>?_;have:qr (multR c rss T rss.length 1) j=((-Sv.numAt c T rss.length (c+j)*lcmB (rss.getD j []):Int):QQ) / ((1*T.b:Int):QQ):=(Ci hj).trans (U2 (by omega));rw[this,_root_.Rat.intCast_mul,_root_.Rat.intCast_mul,(N1 rows hj).2 i hi,qX];grind
 rw[e] at s;have:=K9 (a:=sQ rss.length (λj=>qr (multR c rss T rss.length 1) j*qr (rss.getD j []) i) - if inE o i then (1:QQ) else 0) (b:=(T.b:QQ)) (by grind) pb;grind
theorem Sf (hl:Lows as)(lv:Low v):Lows (gP o as v):=by
 unfold gP;refine Qg λr hr=>?_;obtain⟨x,hx,rfl⟩:=XM.mp hr;exact Xx (hl x hx) lv
theorem Z0g:(gP o as v).length=as.length:=by unfold gP;rw[Yp,YC]
theorem Z3g {k:Nat}(hl:Lows as)(lv:Low v)(hk:k<as.length):qr (gP o as v) k=if inE o k then qr as k - qv v else 0:=by
 unfold gP;rw[K8,Cj hk,Cg (Ue hl k) lv];rfl
theorem Z0h (lw:Lows W)(len:W.length=c)(hl:Lows as)(la:as.length=c)(lv:Low v):qv (mn W (gP o as v))=sQ c (λk=>qr W k*qr (cutR o as) k) + -qv v*qv (shR c o W):=by
 rw[Vb lw (Sf hl lv) len (by rw[Z0g,la]),U1 lw len,<-Yo,<-Vz];refine Zu λk hk=>?_;rw[Z3g hl lv (by omega),K8]
 cases inE o k <;> simp <;> grind
theorem Z2u {r:Rat}(l:Low r)(e:qv r=0):r.1=0:=by
 have a:=(Sr l.pos).mpr (by grind);have b:=(Md l.pos).mpr (by grind);omega
theorem MostT.conq (h:MostT c rss o (cutR o as) T)(rows:∀ rs∈rss,RowR c rs)(ra:RowR c as):ConV c rss o as (valueR c rss.length (cutR o as) T):=by
 have M:=h.sv;have bp:=h.inv.pos;have pb:=W7 bp;obtain⟨gp,ge⟩:=Z3f (ra.cut o);have pg:=W7 gp;have la:=ra.1;have low:=ra.lows;have p2:=XX gp bp;have lv:Low (valueR c rss.length (cutR o as) T):=X8 (by omega);have ev:qv (valueR c rss.length (cutR o as) T)*((lcmB (cutR o as):QQ)*(T.b:QQ))=((-T.L (rss.length+1) c:Int):QQ):=by
  have e:qv (valueR c rss.length (cutR o as) T)=((-Sv.endOf (rss.length+2) c T (c+rss.length+1):Int):QQ) / ((lcmB (cutR o as)*T.b:Int):QQ):=U2 p2;rw[<-h.aim,(TabOk.of h.inv).endO (by omega),_root_.Rat.intCast_mul] at e;rw[e];exact Cl (by have:=_root_.Rat.mul_pos pg pb;grind)
 generalize valueR c rss.length (cutR o as) T=v at *
 generalize hV:-T.L (rss.length+1) c=V at *
 refine⟨lv,?_,λW w=>?_⟩
 ·have x0:=M.x0;have fit:=M.fit;have lie:=congrArg (λz:Int=>(z:QQ)) M.lie;have val:=congrArg (λz:Int=>(z:QQ)) M.val;simp only [M3,_root_.Rat.intCast_mul] at lie val;generalize Sv.endOf (rss.length+2) c T=e at *
  rw[Zu λi hi=>by rw[Cu hi]] at lie;rw[Zu λi hi=>by rw[ge i hi],hV] at val;have en:∀ i,i<c->0<=(e i:QQ):=λi hi=>_root_.Rat.intCast_nonneg.mpr (x0 i hi);have Sp:0<sm c e:=by
   refine _root_.Rat.intCast_pos.mp ?_;rw[M3];have:=C9 (n:=c) (f:=λi=>(if inE o i then (1:QQ) else 0)*(e i:QQ)) (g:=λi=>(e i:QQ)) λi hi=>by have:=en i hi;cases inE o i <;> simp <;> grind
   grind
  have ps:=W7 Sp;have se:=M3 e c;generalize sm c e=S at *
  have rp:0<(1:QQ) / (S:QQ):=by
   rcases Classical.em (0<(1:QQ) / (S:QQ)) with z | z
   ·exact z
   have:=Q9 (_root_.Rat.le_of_lt ps) (show (1:QQ) / (S:QQ)<=0 by grind);have e1:(S:QQ)*(1 / (S:QQ))=1:=by grind
   rw[e1] at this;exact absurd this (by decide)
  have qw:∀ i,i<c->qr ((List.range c).map λi=>nrm (e i) S) i=1 / (S:QQ)*(e i:QQ):=λi hi=>by rw[Ci hi,U2 Sp];grind
  have lw:Lows ((List.range c).map λi=>nrm (e i) S):=λr hr=>by
   obtain⟨i,_,rfl⟩:=XM.mp hr;exact X8 (by omega)
  have len:((List.range c).map λi=>nrm (e i) S).length=c:=by simp
  generalize (List.range c).map (λi=>nrm (e i) S)=W at *
  have wq:WtsQ c rss W:=by
   refine⟨len,lw,λi hi=>?_,λrs hr=>?_,?_⟩
   ·rw[qw i hi];exact _root_.Rat.mul_nonneg (_root_.Rat.le_of_lt rp) (en i hi)
   ·obtain⟨j,hj,rfl⟩:=Y0K hr;have f:=_root_.Rat.intCast_le_intCast.mpr (fit j hj);rw[M3] at f;obtain⟨lp,ea⟩:=N1 rows hj;rw[Yu (l:=rss) (x:=rss[j]) (by simp[hj])] at lp ea;rw[Zu (g:=λi=>(lcmB rss[j]:QQ)*((e i:QQ)*qr rss[j] i)) λi hi=>by rw[_root_.Rat.intCast_mul,ea i hi];grind,Yo] at f;rw[Zu (g:=λi=>1 / (S:QQ)*((e i:QQ)*qr rss[j] i)) λi hi=>by rw[qw i hi];grind,Yo];exact Q9 (_root_.Rat.le_of_lt rp) (Z46 (W7 lp) f)
   rw[Zu qw,Yo,<-se];grind
  have es:qv (shR c o W)=1 / (S:QQ)*(T.b:QQ):=by
   rw[U1 lw len,<-lie,<-Yo];exact Zu λi hi=>by rw[qw i hi];cases inE o i <;> simp <;> grind
  refine⟨W,wq.wts rows,Z2u (Wd lw (Sf low lv)) ?_,(Z41 (Wd lw (Qg (Pi c))).pos).mpr ?_⟩
  ·rw[Z0h lw len low la lv,es];have e1:(lcmB (cutR o as):QQ)*sQ c (λk=>qr W k*qr (cutR o as) k)=1 / (S:QQ)*(V:QQ):=by
    rw[<-val,<-Yo,<-Yo];exact Zu λi hi=>by rw[qw i hi];grind
   have e2:(lcmB (cutR o as):QQ)*(sQ c (λk=>qr W k*qr (cutR o as) k) + -qv v*(1 / (S:QQ)*(T.b:QQ)))=0:=by
    rw[<-ev] at e1;grind
   have a:=Z46 pg (show _<=(0:QQ) by rw[e2];exact _root_.Rat.le_refl);have b:=K9 (a:=sQ c (λk=>qr W k*qr (cutR o as) k) + -qv v*(1 / (S:QQ)*(T.b:QQ))) (b:=(lcmB (cutR o as):QQ)) (by grind) pg;grind
  show 0<qv (shR c o W);rw[es];exact _root_.Rat.mul_pos rp pb
 have wq:=w.toQ rows;refine (Sr (Wd wq.low (Sf low lv)).pos).mpr ?_;rw[Z0h wq.low wq.len low la lv];have d:=Z55 (y:=λk=>-Sv.numAt c T (rss.length+1) (c+k)) (α:=λi=>rowF (cutR o as) i*T.b) (β:=λi=>rowF (papR c o) i*V) rows wq (λj hj=>by have:=M.y0 j hj;omega) λi hi=>by have:=M.show_ i hi;rw[hV] at this;exact this
 have e1:sQ c (λi=>qr W i*((rowF (cutR o as) i*T.b:Int):QQ))=(lcmB (cutR o as):QQ)*(T.b:QQ)*sQ c (λk=>qr W k*qr (cutR o as) k):=by
  rw[<-Yo];exact Zu λi hi=>by rw[_root_.Rat.intCast_mul,ge i hi];grind
 have e2:sQ c (λi=>qr W i*((rowF (papR c o) i*V:Int):QQ))=(V:QQ)*qv (shR c o W):=by
  rw[U1 wq.low wq.len,<-Yo];exact Zu λi hi=>by rw[_root_.Rat.intCast_mul,Cu hi];cases inE o i <;> simp <;> grind
 rw[e1,e2,<-ev] at d;exact Z46 (_root_.Rat.mul_pos pg pb) (by grind)
end
end Sb
namespace Sb
open PySem L2
open Sv (sm)
theorem Jp {n:Nat}{Z:TU}(h:RepL n D Z rs):∀ r∈rs,∃ W,r.1*D=W*r.2/\Bd n W/\Low r:=λr hr=>by
 obtain⟨i,hi⟩:=XN hr;have hl:i<Z.length:=by rw[h.len];exact (YE.mp hi).1
 exact⟨_,h.at_ i Z[i] r (by simp[hl]) hi⟩
theorem RepL.each {n:Nat}{D:Int}(hD:0<D)(bD:Bd n D):∀ {rs:UA},(∀ r∈rs,∃ W,r.1*D=W*r.2/\Bd n W/\Low r)->∃ Ws,RepL n D Ws rs
 | [],_=>⟨[],hD,bD,rfl,λi W r h=>by simp at h⟩
 | r::t,h=>by
  obtain⟨Ws,p⟩:=RepL.each hD bD (rs:=t) λx hx=>h x (YY _ hx);obtain⟨W,e⟩:=h r XI;refine⟨W::Ws,hD,bD,by simp[p.len],λi V x hV hx=>?_⟩
  cases i with
  | zero=>cases hV;cases hx;exact e
  | succ i=>exact p.at_ i V x (by simpa using hV) (by simpa using hx)
theorem Q6 {n:Nat}{W:Int}{r:Rat}(hD:0<D)(bD:Bd n D)(e:r.1*D=W*r.2)(b:Bd n W)(l:Low r):Good n r:=by
 obtain⟨Ws,p⟩:=RepL.each hD bD (rs:=[r]) λx hx=>by
  obtain rfl:=JQ.mp hx;exact⟨W,e,b,l⟩
 exact p.good r (by simp)
theorem Go {r S x:Rat}{V Y:Int}(hr:0<r.2)(hs:0<S.2)(e1:r.1*D=V*r.2)(e:S.1*D=Y*S.2)(cr:x.1*(r.2*S.1)=r.1*S.2*x.2):x.1*Y=V*x.2:=by
 refine JX (Int.ne_of_gt (XX hr hs)) ?_;have a1:r.2*S.2*(x.1*Y)=x.1*r.2*(Y*S.2):=by grind
 have a2:r.2*S.2*(V*x.2)=(V*r.2)*S.2*x.2:=by grind
 rw[a1,a2,<-e,<-e1];have a3:x.1*r.2*(S.1*D)=x.1*(r.2*S.1)*D:=by grind
 rw[a3,cr];grind
theorem N7 {f:Nat->QQ}:∀ {n:Nat},(∀ k,k<n->0<=f k)->sQ n f=0->∀ k,k<n->f k=0
 | 0,_,_=>λk hk=>absurd hk (by omega)
 | n+1,h,e=>λk hk=>by
  have e':sQ n f+f n=0:=e;have a:=M9 (n:=n) (f:=f) λk hk=>h k (by omega);have b:=h n (by omega);by_cases z:k=n
  ·rw[z];grind
  exact N7 (n:=n) (λk hk=>h k (by omega)) (by grind) k (by omega)
theorem U0 {n:Nat}{E:Int}{p:Rat}{Y:Int}(h:∀ r∈rs,Fd 21 r)(hE:0<E)(bE:Bd n E)(e:p.1*(420*E)=Y*p.2)(bY:Bd (n+30) Y)(l:Low p):(∃ Z,RepL (n+31) (420*E) Z (rs.map λx=>subR x p))/\∃ Z,RepL (n+31) (420*E) Z (rs.map λx=>subR p x):=by
 have hD:0<420*E:=by omega
 have bD:Bd (n+31) (420*E):=by
  have:=(Yv (n:=9) (x:=420) 9 (by decide) (by decide)).mul bE;exact this.mono (by omega)
 have key:∀ r∈rs,∃ V,r.1*(420*E)=V*r.2/\Bd (n+30) V/\Low r:=λr hr=>by
  have f:=h r hr;have b:=f.rep.2.mul bE;refine⟨r.1*(420:Int).fdiv r.2*E,?_,by rw[zW];exact b,f.g.low⟩;rw[<-JW,f.rep.1];grind
 constructor
 ·refine RepL.each hD bD λx hx=>?_;obtain⟨r,hr,rfl⟩:=XM.mp hx;obtain⟨V,e1,b1,l1⟩:=key r hr;exact⟨_,Vo l1.pos l.pos e1 e,b1.sub bY,Xx l1 l⟩
 refine RepL.each hD bD λx hx=>?_;obtain⟨r,hr,rfl⟩:=XM.mp hx;obtain⟨V,e1,b1,l1⟩:=key r hr;exact⟨_,Vo l.pos l1.pos e e1,bY.sub b1,Xx l l1⟩
section
variable {c:Nat}{o:TV}{as W:UA}{v:Rat}
end
end Sb
namespace Sb
open PySem L2
structure OffN (n c:Nat)(o:Offr):Prop where
 len:o.row.length=c
 good:GoodO n o
 gain:∀ bb r,priceO o bb=some r->∃ D Z,RepL n D Z (gainR o bb)
section
variable {P:TR}{w:World}{K:TQ}{mg:TB}{base:Heap}
def WOpt (K:TQ)(H:Hp)(c m:Nat)(vw:V):Prop:=vw=.non \/ ∃ (aw:Addr) (ws:UA) (D:Int) (U:TU),vw=.ref aw/\RowAt K H aw ws/\ws.length=c/\RepL m D U ws
theorem WOpt.ext {H H':Hp}{c m:Nat}{vw:V}(h:WOpt K H c m vw)(e:Ext H H'):WOpt K H' c m vw:=h.elim .inl λ⟨aw,ws,D,U,a,r,l,p⟩=>.inr ⟨aw,ws,D,U,a,r.ext e,l,p⟩
inductive spOfferO (K:TQ) (vs:TY) (H:Hp) (Q:VK) (_z3:XK):Prop
 | i (b:Addr) (vw:V) (c n m:Nat) (_:vs=[.ref b,.int (c:Int),vw]) (_:BagAt H b n) (_:n<=50000) (_:WOpt K H c m vw) (_:m<=100) (_:1<=c) (_:c<=16) (_:∀ (v:V) (H':Hp) (o:Offr),BagAt H' b (n+4*c+10)->SameX b H H'->OffAt K H' c o v->OffN (m+36) c o->Q v H')
theorem M5:FnScope ["_law_bag_here","_law_count","_law_weights_here","_law_row_here","_law_event_here","_law_ask","_law_bid","_law_share","_law_middle","_law_way"] VH (defScope jZ):=fsc
theorem Bc (D:Def K mg "_law_offer" jZ VH)(T:Blt mg)(eC:Z1 P w K mg base)(eE:Z2 P w K mg base)(eI:Has P w K mg base 3 "_law_small" VD (spSmallB K))(fS:Has P w K mg base 4 "_law_row" VE (spRowB K))(gE:Has P w K mg base 2 "_law_event" VE (spEvent K))(eL:Has P w K mg base 1 "_law_inside" VG (spInside K))
  (fD:Has P w K mg base 4 "_law_mean" VB (spMeanP K)) (eH:Z3 P w K mg base) (eF:Z4 P w K mg base):Has P w K mg base 5 "_law_offer" VH (spOfferO K):=by
 refine D.has λf fd F=>F.ok M5 (λvs H Q E h=>?_) (λcdv A outer s H vs Q E hr h=>?_)
 ·obtain⟨b,vw,c,n,m,rfl,_⟩:=h;rfl
 obtain⟨b,vw,c,n,m,rfl,hB,hn,hW,hm,hc1,hc,k⟩:=h;have sc:=M5;have nd1:(["_law_world"]:TF).Nodup:=by decide +kernel
 refine⟨_,(Z9 (Zi (i:=3) sc.nd rfl (Or.inl rfl) (Zf fS hr (Z0 (pv 0) (Z0 (pv 1) Z8))))
  (Z9 (Zi (i:=4) sc.nd rfl (Or.inl rfl) (Zf gE hr (Z0 (pv 0) (Z0 (pv 1) Z8))))
  (Z9 (Zi (i:=5) sc.nd rfl (Or.inl rfl) (Zf eI hr (Z0 (pv 0) Z8)))
  (Z9 (Zi (i:=6) sc.nd rfl (Or.inl rfl) (Zf eI hr (Z0 (pv 0) Z8)))
  (Z9 (Zi (i:=7) sc.nd rfl (Or.inl rfl) (Yc (Z0 Za (Z0 Za Z8))))
  (Z9 (Yk (Y4 (Zl Tf (pv 2) Yj (Zo _))
   (Zc (Zi (i:=7) sc.nd rfl (Or.inl rfl) (Zf fD hr (Z0 (pv 2) (Z0 (Zf eL hr (Z0 (Zw Zy rfl T.tuple YZ (Z0 (Ym (N:=["_law_world"]) (k:=1) (fv:=[]) rfl (V5 (pv 3))
  (λ_ _ _ _ _=>Zk (i:=0) nd1 rfl (Or.inl rfl)) (λ_ _ _ _ _=>Ya) (λ_ _ _ _ _=>(Yc (Z0 Za (Z0 Za Z8)))) Y0) Z8)) (Z0 (pv 4) Z8))) Z8)))))
   Zp))
  (Z9 (Yk (Y4 (Zl Q5 (Zj Xt (pv 7) Za (λ_ _=>rfl)) Za (Zo _))
   (Z9 (Zi (i:=8) sc.nd rfl (Or.inl rfl) (Zf fD hr (Z0 (pv 2) (Z0 (Zf eL hr (Z0 (pv 3) (Z0 (pv 4) Z8))) Z8))))
   (Z9 (Zi (i:=8) sc.nd rfl (Or.inl rfl) (Zf eE hr (Z0 (Zm Y1 (Zj Xt (pv 8) Za (λ_ _=>rfl)) (Zj Xe (pv 7) Za (λ_ _=>rfl))) (Z0 (Zm Y1 (Zj Xe (pv 8) Za (λ_ _=>rfl)) (Zj Xt (pv 7) Za (λ_ _=>rfl))) Z8))))
   (Z9 (Zi (i:=5) sc.nd rfl (Or.inl rfl) (Zf eH hr (Z0 (pv 8) (Z0 (Zf eE hr (Z0 (Zf eC hr (Z0 (pv 0) (Z0 Za Z8))) (Z0 Za Z8))) Z8))))
   (Zc (Zi (i:=6) sc.nd rfl (Or.inl rfl) (Zf eF hr (Z0 (pv 8) (Z0 (Zf eE hr (Z0 (Zf eC hr (Z0 (pv 0) (Z0 Za Z8))) (Z0 Za Z8))) Z8))))))))
   Zp))
  (Z9 (Zi (i:=9) sc.nd rfl (Or.inl rfl) (Zf eC hr (Z0 (pv 0) (Z0 Za Z8))))
  (Zc (Zh (Yc (Z0 (pv 3) (Z0 (Zj Zv (X4 (Z0 (pv 5) (Z0 Yj (Z0 (pv 5) (Z0 (pv 5) Z8))))) (pv 9) (λ_ _=>rfl)) (Z0 (Zj Zv (X4 (Z0 (pv 6) (Z0 (pv 6) (Z0 Yj (Z0 (pv 6) Z8))))) (pv 9) (λ_ _=>rfl)) (Z0 (pv 4) Z8))))))))))))))),?_⟩
 refine⟨_,rfl,_,rfl,b,c,n,rfl,hB,by omega,by omega,λar H1 rs B1 S1 R1 l1 f1=>?_⟩;have W1:=hW.ext (Ext.bag S1 hB);refine⟨_,rfl,_,rfl,b,c,_,rfl,B1,by omega,by omega,λve H2 o B2 S2 E2=>?_⟩;have x2:=Ext.bag S2 B1;refine⟨_,rfl,b,_,rfl,B2,by omega,λaA H3 rA B3 S3 eA fA=>?_⟩;have x3:=Ext.bag S3 B2;refine⟨_,rfl,b,_,rfl,B3,by omega,λaB H4 rB B4 S4 eB fB=>?_⟩;have x4:=Ext.bag S4 B3;have S04:=((S1.trans S2).trans S3).trans S4;have R4:=R1.ext ((x2.trans x3).trans x4);have E4:=E2.ext (x3.trans x4);have W4:=W1.ext ((x2.trans x3).trans x4);have qA:SqT K H4 aA [.int rA.1,.int rA.2]:=x4.sq (SqT.of eA);have qB:SqT K H4 aB [.int rB.1,.int rB.2]:=SqT.of eB;clear S1 S2 S3 S4 B1 B2 B3 R1 E2 W1 hW eA eB x2 x3 x4 hB;refine⟨sz2,λpS hS=>?_⟩;have S5:Same H4 (upd H4 pS (.tup [.int 0,.int 1])):=Same.new hS;have e5:upd H4 pS (.tup [.int 0,.int 1]) pS=some (.tup [.int 0,.int 1]):=Zb;generalize upd H4 pS (.tup [.int 0,.int 1])=H5 at *
 refine⟨λσ H'=>∃ (ps:Addr) (sh:Rat),σ=[some (.ref b),some (.int (c:Int)),some vw,some (.ref ar),some ve,some (.ref aA),some (.ref aB),some (.ref ps),none,none]/\Same H4 H'/\SqT K H' ps [.int sh.1,.int sh.2]/\(0<sh.1->∃ (aw:Addr) (ws:UA) (D:Int) (U:TU),vw=.ref aw/\RowAt K H' aw ws/\ws.length=c/\RepL m D U ws/\sh=shR c o ws),?_,?_⟩
 ·refine⟨_,rfl,rfl,_,rfl,?_⟩;rcases W4 with rfl | ⟨aw,ws,D,U,rfl,rw0,lw,rW⟩
  ·exact Pm rfl ⟨pS,(0,1),rfl,S5,SqT.of e5,λz=>absurd z (by decide)⟩
  obtain⟨xs,hxs,hws⟩:=rw0.same S5;refine Pl (λz=>nomatch z) ?_
  skip
  obtain⟨us,hus,hrs⟩:=R4.same S5;have lus:=hrs.len;refine⟨_,rfl,_,rfl,ar,rfl,⟨_,hus⟩,λd hd=>?_⟩;refine⟨c,λj ys H'=>Same H5 H'/\Rs K H' (List.replicate j (1,1)) ys,Zq (by omega),⟨Same.new hd,.nil⟩,?_,?_⟩
  ·rintro j ys H10 hj ⟨S10,R10⟩ hd10;refine⟨⟨us,us[j]'(by omega),Zt S10 hus,by simp⟩,?_⟩;rintro x' H3' ⟨rfl,fx⟩;refine Yh ?_;refine⟨sz2,λp hp=>?_⟩;have S11:Same H3' (upd H3' p (.tup [.int 1,.int 1])):=Same.new hp;have hd11:=S11 _ _ hd10;refine⟨hd11,λq o' e=>?_,?_⟩
   ·rw[Ze (Zd e hd)];exact S11 _ _ (S10 _ _ e)
   rw[Y0I];exact (R10.ext ((Ext.same S11).trans (Ext.upd hd11))).snoc ⟨p,rfl,(Ext.upd hd11).sq (SqT.of Zb)⟩
  rintro ys H10 ⟨S10,R10⟩ hd10;refine⟨⟨us,Zt S10 hus,by omega⟩,d,ys,rfl,.inl ⟨SqL.of hd10,λlt hlt=>?_⟩⟩;have S11:Same H10 (upd H10 lt (.tup ys)):=Same.new hlt;have R11:RowAt K (upd H10 lt (.tup ys)) lt (List.replicate c (1,1)):=⟨ys,SqT.of Zb,R10.ext (Ext.new hlt)⟩;generalize upd H10 lt (.tup ys)=H11 at *
  have S511:=S10.trans S11;refine⟨_,rfl,lt,ve,List.replicate c (1,1),o,rfl,R11,by rw[GT];exact E4.same (S5.trans S511),by rw[GT];omega,λp12 H12 S12 R12=>?_⟩;obtain⟨ys12,h12,r12⟩:=R12;have S512:=S511.trans S12;have ro:=(RepL.ones c).cut o;have lo:(cutR o (List.replicate c (1,1))).length=c:=by rw[Yp,GT]
  refine⟨aw,p12,xs,ys12,ws,_,m,1,_,_,_,_,rfl,.inr (Zt S512 hxs),hws.ext (Ext.same S512),.inr h12,r12,by rw[lo];exact lw,by rw[lo];omega,rW,ro,by omega,λash H13 S13 e13=>?_⟩;exact⟨ash,_,rfl,(S5.trans S512).trans S13,e13,λ_=>⟨aw,ws,D,U,rfl,rw0.same ((S5.trans S512).trans S13),lw,rW,rfl⟩⟩
 rintro σ H6 ⟨ps,sh,rfl,S6,sqs,hsh⟩;replace R4:=R4.same S6;replace E4:=E4.same S6;replace B4:=B4.same S6;replace qA:=Zt S6 qA;replace qB:=Zt S6 qB;replace S04:=S04.trans (SameX.of S6);clear S6 S5 e5 hS;refine⟨λσ H'=>∃ (pa pb:Addr) (ra rb:Rat) (y:TZ),σ=[some (.ref b),some (.int (c:Int)),some vw,some (.ref ar),some ve,some (.ref pa),some (.ref pb),some (.ref ps),y,none]/\SameX b H6 H'/\Ext H6 H'/\BagAt H' b (n+4*c+9)/\SqT K H' pa [.int ra.1,.int ra.2]/\SqT K H' pb [.int rb.1,.int rb.2]/\Good (m+36) ra/\Good (m+36) rb/\(∃ D Z,RepL (m+36) D Z (rs.map λx=>subR x ra))/\(∃ D Z,RepL (m+36) D Z (rs.map λx=>subR rb x)),?_,?_⟩
 ·refine⟨_,rfl,ps,_,_,rfl,rfl,sqs,_,_,rfl,rfl,_,rfl,?_⟩;refine X6 (λh=>?_) (λh=>?_)
  ·have hpos:0<sh.1:=XH h;obtain⟨aw,ws,D,U,rfl,W4,lw,rW,hsh⟩:=hsh hpos;obtain⟨xs,hxs,hws⟩:=W4;have ro:=(RepL.ones c).cut o;have lo1:(cutR o (List.replicate c (1,1))).length=c:=by rw[Yp,GT]
   have rs1:=rW.mul ro (by rw[lo1];exact lw);have gs:Good (m+5) sh:=by rw[hsh];exact rs1.sumGood (k:=4) (by rw[JR,lo1];omega)
   obtain⟨se,_⟩:=rs1.sum;replace se:(shR c o ws).1*(D*1)=(List.zipWith (·*·) U (cutZ o (List.replicate c 1))).sum*(shR c o ws).2:=se;have sb:Bd (m+5) (List.zipWith (·*·) U (cutZ o (List.replicate c 1))).sum:=Ny _ rs1.bdW 4 (by rw[rs1.len,JR,lo1];omega);have rf:=RepL.fd f1;refine⟨_,rfl,_,rfl,_,rfl,ar,ve,rs,o,rfl,R4,by rw[l1];exact E4,by omega,λp7 H7 S7 R7=>?_⟩;obtain⟨ys7,h7,r7⟩:=R7;have lo:(cutR o rs).length=c:=by rw[Yp];exact l1
   refine⟨aw,p7,xs,ys7,ws,_,m,30,_,_,_,_,rfl,.inr (Zt S7 hxs),hws.ext (Ext.same S7),.inr h7,r7,by rw[lo];exact lw,by rw[lo];omega,rW,rf.cut o,by omega,λam H8 S8 e8=>?_⟩;have rm:=rW.mul (rf.cut o) (by rw[lo];exact lw);have gm:Good (m+34) (sumR (List.zipWith mulR' ws (cutR o rs))):=rm.sumGood (k:=4) (by rw[JR,lo];omega);obtain⟨me,_⟩:=rm.sum;have mb:Bd (m+34) (List.zipWith (·*·) U (cutZ o (wholeB rs 420))).sum:=Ny _ rm.bdW 4 (by rw[rm.len,JR,lo];omega);replace me:(sumR (List.zipWith mulR' ws (cutR o rs))).1*(D*420)=(List.zipWith (·*·) U (cutZ o (wholeB rs 420))).sum*(sumR (List.zipWith mulR' ws (cutR o rs))).2:=me;generalize (List.zipWith (·*·) U (cutZ o (wholeB rs 420))).sum=Mt at *
   generalize sumR (List.zipWith mulR' ws (cutR o rs))=M at *
   have S68:=S7.trans S8;have sq8:=Zt S68 sqs;have mne:M.2*sh.1≠0:=Int.mul_ne_zero (by have:=gm.pos;omega) (by omega);refine⟨_,rfl,_,_,_,rfl,rfl,e8,_,rfl,_,_,_,rfl,rfl,sq8,_,_,rfl,rfl,gm.b1.mulOk gs.b2 (by omega) (by omega),_,rfl,_,_,_,rfl,rfl,e8,_,rfl,_,_,_,rfl,rfl,sq8,_,_,rfl,rfl,gm.b2.mulOk gs.b1 (by omega) (by omega),_,_,rfl,mne,(gm.b2.mul gs.b1).log (by omega),λa9 H9 f9 S9 e9=>?_⟩;replace e9:SqT K H9 a9 [.int (nrm (M.1*sh.2) (M.2*sh.1)).1,.int (nrm (M.1*sh.2) (M.2*sh.1)).2]:=SqT.of e9;have cmid:(nrm (M.1*sh.2) (M.2*sh.1)).1*(M.2*sh.1)=(M.1*sh.2)*(nrm (M.1*sh.2) (M.2*sh.1)).2:=Xc _ _;have lmid:Low (nrm (M.1*sh.2) (M.2*sh.1)):=X8 mne;generalize nrm (M.1*sh.2) (M.2*sh.1)=mid at *
   rw[<-hsh] at se;have St:0<(List.zipWith (·*·) U (cutZ o (List.replicate c 1))).sum:=by
    have:0<(List.zipWith (·*·) U (cutZ o (List.replicate c 1))).sum*sh.2:=by rw[<-se,GK];exact XX hpos rW.pos
    exact Int.pos_of_mul_pos_left this gs.pos
   generalize (List.zipWith (·*·) U (cutZ o (List.replicate c 1))).sum=E at *
   have cm:mid.1*(420*E)=Mt*mid.2:=Go gm.pos gs.pos me (show sh.1*(D*420)=420*E*sh.2 by rw[GK] at se;rw[<-JW,se];grind) cmid;have bD:Bd (m+34) (420*E):=((Yv (n:=9) (x:=420) 9 (by decide) (by decide)).mul sb).mono (by omega);have gr:Good (m+34) mid:=Q6 (by omega) bD cm mb lmid;have half:∀ z:Int,0<=z->z<4->(nrm z 2).1*(420*E)=z*210*E*(nrm z 2).2/\Bd (m+34) (z*210*E)/\0<=qv (nrm z 2):=λz z0 z1=>by
    have e:(nrm z 2).1*2=z*(nrm z 2).2:=Xc _ _;refine⟨?_,?_,?_⟩
    ·have:(nrm z 2).1*(420*E)=(nrm z 2).1*2*(210*E):=by grind
     rw[this,e];grind
    ·have b1:Bd 10 (z*210):=by
      show (z*210).natAbs<2 ^ 10;omega
     exact (b1.mul sb).mono (by omega)
    rw[U2 (by decide)];refine K9 (b:=((2:Int):QQ)) ?_ (by decide);rw[Cl (by decide)];exact _root_.Rat.intCast_nonneg.mpr z0
   have S69:=S68.trans S9;have B9:=B4.same S69;have g2:∀ z:Int,0<=z->z<4->Good 21 (nrm z 2):=λz z0 z1=>Wv (Sm (by omega) (by omega)) (Sm (by omega) (by omega)) (by decide);refine⟨_,rfl,_,rfl,b,_,_,rfl,B9,by omega,by decide,by decide +kernel,λz H10 z0 z1 B10 S10=>?_⟩;refine⟨_,_,rfl,by decide,(Sm (x:=2) (by decide) (by decide)).log (by decide),λa11 H11 f11 S11 e11=>?_⟩;have x911:=(Ext.bag S10 B9).trans (Ext.same S11);refine⟨a9,a11,mid,nrm z 2,m+34,rfl,x911.sq e9,SqT.of e11,gr,(g2 z z0 z1).mono (by omega),by omega,λa12 H12 f12 S12 e12=>?_⟩;have B12:=(B10.same S11).same S12;have x912:=x911.trans (Ext.same S12);refine⟨_,rfl,_,rfl,b,_,_,rfl,B12,by omega,by decide,by decide +kernel,λz' H13 z0' z1' B13 S13=>?_⟩;refine⟨_,_,rfl,by decide,(Sm (x:=2) (by decide) (by decide)).log (by decide),λa14 H14 f14 S14 e14=>?_⟩;have x1214:=(Ext.bag S13 B12).trans (Ext.same S14);refine⟨a9,a14,mid,nrm z' 2,m+34,rfl,(x912.trans x1214).sq e9,SqT.of e14,gr,(g2 z' z0' z1').mono (by omega),by omega,λa15 H15 f15 S15 e15=>?_⟩;obtain⟨h1,h2,h3⟩:=half z z0 z1;obtain⟨h1',h2',h3'⟩:=half z' z0' z1';have lz:=(g2 z z0 z1).low;have lz':=(g2 z' z0' z1').low;have pa:=Rf lmid.pos lz.pos cm h1;have pb:=Vo lmid.pos lz'.pos cm h1';have ba:=mb.add h2;have bb:=mb.sub h2';have bD5:Bd (m+5+30) (420*E):=bD.mono (by omega);refine⟨a12,a15,_,_,_,rfl,?_,?_,((B13.same S14).same S15).mono (by omega),(x1214.trans (Ext.same S15)).sq (SqT.of e12),SqT.of e15,(Q6 (by omega) bD5 pa (ba.mono (by omega)) (Uf lmid lz)).mono (by omega),(Q6 (by omega) bD5 pb (bb.mono (by omega)) (Xx lmid lz')).mono (by omega),⟨_,(U0 f1 St sb pa (ba.mono (by omega)) (Uf lmid lz)).1⟩,⟨_,(U0 f1 St sb pb (bb.mono (by omega)) (Xx lmid lz')).2⟩⟩
   ·exact ((((((SameX.of S69).trans S10).trans (SameX.of S11)).trans (SameX.of S12)).trans S13).trans (SameX.of S14)).trans (SameX.of S15)
   exact (((Ext.same S69).trans x912).trans x1214).trans (Ext.same S15)
  have f1':=f1;have r1:=(U0 (n:=1) (E:=1) f1 (by decide) (Yv 1 (by decide) (by decide)) (show rA.1*(420*1)=_ from fA.rep.1) (fA.rep.2.mono (by decide)) fA.g.low).1;have r2:=(U0 (n:=1) (E:=1) f1 (by decide) (Yv 1 (by decide) (by decide)) (show rB.1*(420*1)=_ from fB.rep.1) (fB.rep.2.mono (by decide)) fB.g.low).2;exact⟨aA,aB,rA,rB,none,rfl,SameX.refl _ _,Ext.same (Same.refl _),B4.mono (by omega),qA,qB,fA.g.mono (by omega),fB.g.mono (by omega),r1.elim λZ r=>⟨_,Z,r.mono (by omega)⟩,r2.elim λZ r=>⟨_,Z,r.mono (by omega)⟩⟩
 rintro σ H7 ⟨pa,pb,ra,rb,y,rfl,S7,x7,B7,sqa,sqb,ga,gb,⟨DA,ZA,repA⟩,⟨DB,ZB,repB⟩⟩;replace R4:=R4.ext x7;replace E4:=E4.ext x7;replace S04:=S04.trans S7;clear qA qB B4 S7 x7 sqs;refine⟨_,rfl,b,_,_,rfl,B7,by omega,by decide,by decide +kernel,λz H8 z0 z1 B8 S8=>?_⟩;have x8:=Ext.bag S8 B7;replace R4:=R4.ext x8;replace E4:=E4.ext x8;replace sqa:=x8.sq sqa;replace sqb:=x8.sq sqb;replace S04:=S04.trans S8;refine⟨_,rfl,_,rfl,_,rfl,_,rfl,sz4,λlA hA=>?_⟩;have S9:Same H8 (upd H8 lA (.lst [.ref pa,.non,.ref pa,.ref pa])):=Same.new hA;have e9:upd H8 lA (.lst [.ref pa,.non,.ref pa,.ref pa]) lA=some (.lst [.ref pa,.non,.ref pa,.ref pa]):=Zb;generalize upd H8 lA (.lst [.ref pa,.non,.ref pa,.ref pa])=H9 at *
 obtain⟨va,oa,eva,hva,goa⟩:∃ (va:V) (oa:Option Rat),atI [V.ref pa,.non,.ref pa,.ref pa] z=some va/\(∀ H',SqT K H' pa [.int ra.1,.int ra.2]->MayAt K H' oa va)/\∀ r,oa=some r->r=ra:=by
  have h:z=0 \/ z=1 \/ z=2 \/ z=3:=by omega
  have g1:∀ r,some ra=some r->r=ra:=λr e=>by cases e;rfl
  rcases h with rfl | rfl | rfl | rfl
  ·exact⟨_,some ra,Zg (j:=0) rfl,λH' q=>⟨pa,rfl,q⟩,g1⟩
  ·exact⟨_,none,Zg (j:=1) rfl,λH' q=>rfl,λr e=>nomatch e⟩
  ·exact⟨_,some ra,Zg (j:=2) rfl,λH' q=>⟨pa,rfl,q⟩,g1⟩
  exact⟨_,some ra,Zg (j:=3) rfl,λH' q=>⟨pa,rfl,q⟩,g1⟩
 refine⟨_,rfl,lA,_,_,_,rfl,rfl,SqL.of e9,eva,?_⟩;refine⟨_,rfl,_,rfl,_,rfl,sz4,λlB hB'=>?_⟩;have S10:Same H9 (upd H9 lB (.lst [.ref pb,.ref pb,.non,.ref pb])):=Same.new hB';have e10:upd H9 lB (.lst [.ref pb,.ref pb,.non,.ref pb]) lB=some (.lst [.ref pb,.ref pb,.non,.ref pb]):=Zb;generalize upd H9 lB (.lst [.ref pb,.ref pb,.non,.ref pb])=H10 at *
 obtain⟨vb,ob,evb,hvb,gob⟩:∃ (vb:V) (ob:Option Rat),atI [V.ref pb,.ref pb,.non,.ref pb] z=some vb/\(∀ H',SqT K H' pb [.int rb.1,.int rb.2]->MayAt K H' ob vb)/\∀ r,ob=some r->r=rb:=by
  have h:z=0 \/ z=1 \/ z=2 \/ z=3:=by omega
  have g1:∀ r,some rb=some r->r=rb:=λr e=>by cases e;rfl
  rcases h with rfl | rfl | rfl | rfl
  ·exact⟨_,some rb,Zg (j:=0) rfl,λH' q=>⟨pb,rfl,q⟩,g1⟩
  ·exact⟨_,some rb,Zg (j:=1) rfl,λH' q=>⟨pb,rfl,q⟩,g1⟩
  ·exact⟨_,none,Zg (j:=2) rfl,λH' q=>rfl,λr e=>nomatch e⟩
  exact⟨_,some rb,Zg (j:=3) rfl,λH' q=>⟨pb,rfl,q⟩,g1⟩
 refine⟨_,rfl,lB,_,_,_,rfl,rfl,SqL.of e10,evb,?_⟩;refine⟨_,rfl,sz4,λp hp=>?_⟩;have S11:Same H10 (upd H10 p (.tup [.ref ar,va,vb,ve])):=Same.new hp;have S811:=(S9.trans S10).trans S11;exact k (.ref p) _ ⟨rs,oa,ob,o⟩ ((B8.same S811).mono (by omega)) (S04.trans (SameX.of S811)) ⟨p,ar,va,vb,ve,rfl,SqT.of Zb,R4.same S811,l1,hva _ (Zt S811 sqa),hvb _ (Zt S811 sqb),E4.same S811⟩ ⟨l1,⟨λr hr=>(f1 r hr).g.mono (by omega),λr e=>by rw[goa r e];exact ga,λr e=>by rw[gob r e];exact gb⟩,λbb r hp=>by
  cases bb with
  | true =>
   have hp:oa=some r:=hp;have e:=goa r hp;subst e;unfold gainR;rw[hp];exact⟨_,_,repA.cut o⟩
  | false =>
   have hp:ob=some r:=hp;have e:=gob r hp;subst e;unfold gainR;rw[hp];exact⟨_,_,repB.cut o⟩⟩
inductive spSureN (K:TQ) (vs:TY) (H:Hp) (Q:VK) (_z3:XK):Prop
 | i (b:Addr) (c n:Nat) (_:vs=[.ref b,.int (c:Int)]) (_:BagAt H b n) (_:n<=50000) (_:1<=c) (_:c<=100) (_:∀ (l:Addr) (H':Hp) (vs:TY) (os:UD),BagAt H' b (n+3*c+7)->SameX b H H'->H' l=some (.lst vs)->Paired (λv o=>OffAt K H' c o v) vs os->os.length=2->(∀ o∈os,OffN 66 c o)->(gainsP os os.length).length<=2->Q (.ref l) H')
theorem J1:FnScope ["_law_bag_here","_law_count","_law_row_here","_law_other","_law_ask","_law_gap","_law_turned"] VE (defScope kA):=fsc
theorem Z29 (D:Def K mg "_law_sure" kA VE)(T:Blt mg)(eC:Z1 P w K mg base)(eE:Z2 P w K mg base)(eI:Has P w K mg base 3 "_law_small" VD (spSmallB K))(fS:Has P w K mg base 4 "_law_row" VE (spRowB K))(eF:Z4 P w K mg base):Has P w K mg base 5 "_law_sure" VE (spSureN K):=by
 refine D.has λf fd F=>F.ok J1 (λvs H Q E h=>?_) (λcdv A outer s H vs Q E hr h=>?_)
 ·obtain⟨b,c,n,rfl,_⟩:=h;rfl
 obtain⟨b,c,n,rfl,hB,hn,hc1,hc,k⟩:=h;have sc:=J1;have nd1:(["_law_part","_law_other"]:List Str).Nodup:=by decide +kernel
 refine⟨_,(Z9 (Zi (i:=2) sc.nd rfl (Or.inl rfl) (Zf fS hr (Z0 (pv 0) (Z0 (pv 1) Z8))))
  (Z9 (Zi (i:=3) sc.nd rfl (Or.inr rfl) (Zf eI hr (Z0 (pv 0) Z8)))
  (Z9 (Zi (i:=4) sc.nd rfl (Or.inl rfl) (Zf eI hr (Z0 (pv 0) Z8)))
  (Z9 (Zi (i:=5) sc.nd rfl (Or.inl rfl) (Zf eE hr (Z0 (Zm Yx Za (Zf eC hr (Z0 (pv 0) (Z0 Za Z8)))) (Z0 Za Z8))))
  (Z9 (Zi (i:=6) sc.nd rfl (Or.inl rfl) (Zw Zy rfl T.tuple YZ (Z0 (Ym (N:=["_law_part","_law_other"]) (k:=1) (fv:=[3]) rfl (V5 (pv 2))
  (λ_ _ _ _ _=>Zk (i:=0) nd1 rfl (Or.inl rfl)) (λ_ _ _ _ _=>Ya) (λ_ _ _ _ _=>(Zf eF hr (Z0 (pv 1) (Z0 (pv 0) Z8)))) Y0) Z8)))
  (Zc (Zh (X4 (Z0 (Yc (Z0 (pv 2) (Z0 (pv 4) (Z0 Yj (Z0 Yj Z8))))) (Z0 (Yc (Z0 (pv 6) (Z0 (Zf eF hr (Z0 (Zf eF hr (Z0 (pv 3) (Z0 (pv 4) Z8))) (Z0 (pv 5) Z8))) (Z0 Yj (Z0 Yj Z8))))) Z8)))))))))),?_⟩
 refine⟨_,rfl,_,rfl,b,c,n,rfl,hB,by omega,by omega,λar H1 rs B1 S1 R1 l1 f1=>?_⟩;refine⟨_,rfl,b,_,rfl,B1,by omega,λaO H2 rO B2 S2 eO fO=>?_⟩;have x2:=Ext.bag S2 B1;refine⟨_,rfl,b,_,rfl,B2,by omega,λaA H3 rA B3 S3 eA fA=>?_⟩;have x3:=Ext.bag S3 B2;refine⟨_,rfl,b,_,_,rfl,B3,by omega,by decide,by decide +kernel,λz H4 z0 z1 B4 S4=>⟨_,_,rfl,rfl,?_⟩⟩;have x4:=Ext.bag S4 B3;refine⟨_,_,rfl,by decide,(Sm (x:=4) (by decide) (by decide)).log (by decide),λaG H5 fG S5 eG=>?_⟩;have x5:=x4.trans (Ext.same S5);have hfG:Fd 21 (nrm (1+z) 4):=Kt (by omega) (by omega) (by omega) (by omega);have gG:Good 21 (nrm (1+z) 4):=Wv (Sm (by omega) (by omega)) (Sm (by omega) (by omega)) (by decide);replace eG:SqT K H5 aG [.int (nrm (1+z) 4).1,.int (nrm (1+z) 4).2]:=SqT.of eG;generalize nrm (1+z) 4=rG at *
 have R5:=R1.ext ((x2.trans x3).trans x5);have qO:SqT K H5 aO [.int rO.1,.int rO.2]:=(x3.trans x5).sq (SqT.of eO);have qA:SqT K H5 aA [.int rA.1,.int rA.2]:=x5.sq (SqT.of eA);have B5:=B4.same S5;have S05:=(((S1.trans S2).trans S3).trans S4).trans (SameX.of S5);clear S1 S2 S3 S4 S5 B1 B2 B3 B4 R1 x2 x3 x4 x5 eO eA hB;obtain⟨us,hus,hrs⟩:=id R5;have lus:=hrs.len;refine⟨_,rfl,ar,rfl,⟨_,hus⟩,λd hd=>?_⟩;refine⟨c,λi ys H'=>Same H5 H'/\Rs K H' ((rs.map λr=>subR rO r).take i) ys,Zq (by omega),⟨Same.new hd,.nil⟩,?_,?_⟩
 ·rintro i ys H2 hi ⟨S2,R2⟩ hd2;refine⟨⟨us,us[i]'(by omega),Zt S2 hus,by simp⟩,?_⟩;rintro x H3 ⟨rfl,fx⟩;obtain⟨r,er,ix⟩:=hrs.back (fx us (Zt S2 hus));obtain⟨a1,rfl,sq1⟩:=ix.ext (Ext.same S2);refine Yh ?_;refine⟨_,rfl,_,rfl,aO,a1,rO,r,21,rfl,Zt S2 qO,sq1,fO.g,(f1 r (YG er)).g,by decide,λp H4 fp S4 e4=>?_⟩;have hd4:=S4 _ _ hd2;refine⟨hd4,λq o e=>?_,?_⟩
  ·rw[Ze (Zd e hd)];exact S4 _ _ (S2 _ _ e)
  rw[Xy _ er];exact (R2.ext ((Ext.same S4).trans (Ext.upd hd4))).snoc ⟨p,rfl,(Ext.upd hd4).sq (SqT.of e4)⟩
 rintro ys H6 ⟨S6,R6⟩ hd6;rw[YM (by rw[YC];omega)] at R6;refine⟨⟨us,Zt S6 hus,by omega⟩,d,ys,rfl,.inl ⟨SqL.of hd6,λlt hlt=>?_⟩⟩;have S7:Same H6 (upd H6 lt (.tup ys)):=Same.new hlt;have R7:RowAt K (upd H6 lt (.tup ys)) lt (rs.map λr=>subR rO r):=⟨ys,SqT.of Zb,R6.ext (Ext.new hlt)⟩;generalize upd H6 lt (.tup ys)=H7 at *
 have S57:=S6.trans S7;refine⟨_,rfl,_,rfl,sz4,λp1 hp1=>?_⟩;have S8:Same H7 (upd H7 p1 (.tup [.ref ar,.ref aA,.non,.non])):=Same.new hp1;have e8:upd H7 p1 (.tup [.ref ar,.ref aA,.non,.non]) p1=some (.tup [.ref ar,.ref aA,.non,.non]):=Zb;generalize upd H7 p1 (.tup [.ref ar,.ref aA,.non,.non])=H8 at *
 have S58:=S57.trans S8;refine⟨_,rfl,_,rfl,_,rfl,aO,aA,rO,rA,21,rfl,Zt S58 qO,Zt S58 qA,fO.g,fA.g,by decide,λa9 H9 f9 S9 e9=>?_⟩;have g9:Good 43 (subR rO rA):=Tr fO.g fA.g;have S59:=S58.trans S9;refine⟨_,rfl,a9,aG,subR rO rA,rG,43,rfl,SqT.of e9,Zt S59 eG,g9,gG.mono (by decide),by decide,λa10 H10 f10 S10 e10=>?_⟩;have g10:Good 65 (subR (subR rO rA) rG):=Tr g9 gG;have S510:=S59.trans S10;refine⟨sz4,λp2 hp2=>?_⟩;have S11:Same H10 (upd H10 p2 (.tup [.ref lt,.ref a10,.non,.non])):=Same.new hp2;have e11:upd H10 p2 (.tup [.ref lt,.ref a10,.non,.non]) p2=some (.tup [.ref lt,.ref a10,.non,.non]):=Zb;generalize upd H10 p2 (.tup [.ref lt,.ref a10,.non,.non])=H11 at *
 have S511:=S510.trans S11;refine⟨sz2,λl hl=>?_⟩;have S12:Same H11 (upd H11 l (.lst [.ref p1,.ref p2])):=Same.new hl;have S512:=S511.trans S12;have S812:=((S9.trans S10).trans S11).trans S12;have S712:=S8.trans S812;have S1012:=S11.trans S12;have lt':(rs.map λr=>subR rO r).length=c:=by rw[YC];exact l1
 have fG:Fd 21 rG:=hfG;have h1:=(U0 (n:=1) (E:=1) f1 (by decide) (Yv 1 (by decide) (by decide)) (show rA.1*(420*1)=_ from fA.rep.1) (fA.rep.2.mono (by decide)) fA.g.low).1;have h2:∃ Z,RepL 40 420 Z ((rs.map λr=>subR rO r).map λx=>subR x (subR (subR rO rA) rG)):=RepL.each (by decide) (Yv 9 (by decide) (by decide)) λx hx=>by
  obtain⟨y,hy,rfl⟩:=XM.mp hx;obtain⟨r,hr,rfl⟩:=XM.mp hy;have fr:=f1 r hr;have l1:=Xx fO.g.low fr.g.low;have l2:=Xx fO.g.low fA.g.low;have l3:=Xx l2 fG.g.low;refine⟨_,Vo l1.pos l3.pos (Vo fO.g.low.pos fr.g.low.pos fO.rep.1 fr.rep.1) (Vo l2.pos fG.g.low.pos (Vo fO.g.low.pos fA.g.low.pos fO.rep.1 fA.rep.1) fG.rep.1),?_,Xx l1 l3⟩;exact (((fO.rep.2.sub fr.rep.2).mono (by decide)).sub ((fO.rep.2.sub fA.rep.2).sub (fG.rep.2.mono (by decide)))).mono (by decide)
 refine k l _ [.ref p1,.ref p2] [⟨rs,some rA,none,none⟩,⟨rs.map λr=>subR rO r,some (subR (subR rO rA) rG),none,none⟩] ((B5.same S512).mono (by omega)) (S05.trans (SameX.of S512)) Zb (.cons ⟨p1,ar,.ref aA,.non,.non,rfl,Zt S812 (SqT.of e8),R5.same S512,l1,⟨aA,rfl,Zt S512 qA⟩,rfl,rfl⟩ (.cons ⟨p2,lt,.ref a10,.non,.non,rfl,Zt S12 (SqT.of e11),R7.same S712,lt',⟨a10,rfl,Zt S1012 (SqT.of e10)⟩,rfl,rfl⟩ .nil)) rfl (λo ho=>?_) (YD 2);simp only [YW,JC,qk] at ho;rcases ho with rfl | rfl
 ·refine⟨l1,⟨λr hr=>(f1 r hr).g.mono (by decide),λr e=>by cases e;exact fA.g.mono (by decide),λr e=>nomatch e⟩,λbb r e=>?_⟩
  cases bb with
  | true =>
   obtain⟨Z,q⟩:=h1;exact⟨_,_,(q.mono (by decide)).cut none⟩
  | false=>cases e
 refine⟨lt',⟨λr hr=>?_,λr e=>by cases e;exact g10.mono (by decide),λr e=>nomatch e⟩,λbb r e=>?_⟩
 ·obtain⟨x,hx,rfl⟩:=XM.mp hr;exact (Tr fO.g (f1 x hx).g).mono (by decide)
 cases bb with
 | true =>
  obtain⟨Z,q⟩:=h2;exact⟨_,_,(q.mono (by decide)).cut none⟩
 | false=>cases e
end
def farN:Int:=100000000000000000
def nearR (ws us:UA):List Rat:=List.zipWith (λw u=>addR (mulR' w (farN - 1,farN)) (mulR' u (1,farN))) ws us
theorem low_f1:Low (farN - 1,farN):=⟨by decide,by decide⟩
theorem low_f2:Low (1,farN):=⟨by decide,by decide⟩
theorem good_f1:Good 57 (farN - 1,farN):=⟨Yv 57 (by decide) (by decide),Yv 57 (by decide) (by decide),by decide,by decide⟩
theorem good_f2:Good 57 (1,farN):=⟨Yv 57 (by decide) (by decide),Yv 57 (by decide) (by decide),by decide,by decide⟩
section
variable {c:Nat}{Ws Us:TU}{ws us:UA}
theorem Mn (lw:ws.length=c)(lu:us.length=c):(nearR ws us).length=c:=by unfold nearR;rw[JR];omega
theorem Bx {r:Rat}(h:r∈nearR ws us):∃ (k:Nat) (w u:Rat),ws[k]?=some w/\us[k]?=some u/\r=addR (mulR' w (farN - 1,farN)) (mulR' u (1,farN)):=by
 obtain⟨k,hk⟩:=XN h;unfold nearR at hk;rw[GB] at hk
 cases e1:ws[k]? with
 | none=>rw[e1] at hk;simp at hk
 | some w =>
  cases e2:us[k]? with
  | none=>rw[e1,e2] at hk;simp at hk
  | some u =>
   rw[e1,e2] at hk;exact⟨k,w,u,e1,e2,(YK hk).symm⟩
theorem Bw (w1:WtsR c Ws ws)(w2:WtsR c Us us):∃ D U,RepL 78 D U (nearR ws us):=by
 refine⟨Ws.sum*Us.sum*farN,RepL.each ?_ ?_ λx hx=>?_⟩
 ·exact XX (XX w1.rep.pos w2.rep.pos) (by decide)
 ·exact ((w1.rep.bD.mul w2.rep.bD).mul (Yv (n:=57) (x:=farN) 57 (by decide) (by decide))).mono (by decide)
 obtain⟨k,w,u,e1,e2,rfl⟩:=Bx hx;obtain⟨W,a1,b1,l1⟩:=Jp w1.rep w (YG e1);obtain⟨U,a2,b2,l2⟩:=Jp w2.rep u (YG e2);have m1:=N9 l1.pos low_f1.pos a1 (show (farN - 1,farN).1*farN=(farN - 1)*(farN - 1,farN).2 from rfl);have m2:=N9 l2.pos low_f2.pos a2 (show ((1:Int),farN).1*farN=1*((1:Int),farN).2 from rfl);have lm1:=Wk l1 low_f1;have lm2:=Wk l2 low_f2;have n1:(mulR' w (farN - 1,farN)).1*(Ws.sum*Us.sum*farN)=W*(farN - 1)*Us.sum*(mulR' w (farN - 1,farN)).2:=by
  have:(mulR' w (farN - 1,farN)).1*(Ws.sum*Us.sum*farN)=(mulR' w (farN - 1,farN)).1*(Ws.sum*farN)*Us.sum:=by grind
  rw[this,m1];grind
 have n2:(mulR' u (1,farN)).1*(Ws.sum*Us.sum*farN)=U*1*Ws.sum*(mulR' u (1,farN)).2:=by
  have:(mulR' u (1,farN)).1*(Ws.sum*Us.sum*farN)=(mulR' u (1,farN)).1*(Us.sum*farN)*Ws.sum:=by grind
  rw[this,m2];grind
 refine⟨_,Rf lm1.pos lm2.pos n1 n2,?_,Uf lm1 lm2⟩;have c1:=(b1.mul (Yv (n:=57) (x:=farN - 1) 57 (by decide) (by decide))).mul w2.rep.bD;have c2:=(b2.mul (Yv (n:=57) (x:=1) 57 (by decide) (by decide))).mul w1.rep.bD;exact (c1.add c2).mono (by decide)
end
section
variable {P:TR}{w:World}{K:TQ}{mg:TB}{base:Heap}
inductive spNear (K:TQ) (vs:TY) (H:Hp) (Q:VK) (_z3:XK):Prop
 | i (a1 a2:Addr) (c:Nat) (ws us:UA) (_:vs=[.ref a1,.ref a2]) (_:RowAt K H a1 ws) (_:RowAt K H a2 us) (_:ws.length=c) (_:us.length=c) (_:(∀ r∈ws,Good 57 r)) (_:(∀ r∈us,Good 57 r)) (_:c<=100) (_:∀ (p:Addr) (H':Hp),Same H H'->RowAt K H' p (nearR ws us)->Q (.ref p) H')
theorem Z4m (D:Def K mg "_law_near" kD VI)(T:Blt mg)(eK:Z7 P w K mg base)(eH:Z3 P w K mg base):Has P w K mg base 4 "_law_near" VI (spNear K):=by
 refine D.h9 (N:=["_law_weights_here","_law_others","_law_far","_law_some","_law_k","_law_part"]) fsc λH Q hr h nd=>?_;obtain⟨a1,a2,c,ws,us,rfl,⟨xs,hxs,hws⟩,⟨ys,hys,hus⟩,lw,lu,gw,gu,hc,k⟩:=h;refine⟨_,(Z9 (Zi (i:=2) nd rfl (Or.inl rfl) (Zm Nf Za Za))
  (Z9 (Zi (i:=3) nd rfl (Or.inl rfl) (X4 Z8))
  (Z9 (Xm XY rfl (Yl rfl T.range (Z0 (Zx Y2 rfl T.len qp (Z0 (pv 0) Z8)) Z8)) (Zk (i:=4) nd rfl (Or.inl rfl))
   (Z9 (Zi (i:=5) nd rfl (Or.inl rfl) (Zf eK hr (Z0 (Zj Yd (pv 0) (pv 4) (λ_ _=>rfl)) (Z0 (Yc (Z0 (Zm Up (pv 2) Za) (Z0 (pv 2) Z8))) Z8))))
   (Zc (X7 (Wu XE XT XU Yn (pv 3) (Z0 (Zf eH hr (Z0 (pv 5) (Z0 (Zf eK hr (Z0 (Zj Yd (pv 1) (pv 4) (λ_ _=>rfl)) (Z0 (Yc (Z0 Za (Z0 (pv 2) Z8))) Z8))) Z8))) Z8))))))
  (Zc (Zh (Zw Zy rfl T.tuple YZ (Z0 (pv 3) Z8))))))),?_⟩
 have lx:=hws.len;have ly:=hus.len;refine⟨_,_,rfl,rfl,Z39 (by decide) (by decide),?_⟩;refine⟨sz0,λd hd=>?_⟩;have S0:Same H (upd H d (.lst [])):=Same.new hd;have e0:upd H d (.lst []) d=some (.lst []):=Zb;generalize upd H d (.lst [])=H0 at *
 refine⟨_,rfl,a1,xs,rfl,.inr (Zt S0 hxs),(xs.length:Int),rfl,(by omega),(by omega),?_⟩;have et:(xs.length:Int).toNat=xs.length:=by omega
 rw[et];refine Uh (lo:=0) (n:=xs.length) (λi σ H'=>Same H H'/\∃ (zs:TY) (x y:TZ),σ=[some (.ref a1),some (.ref a2),some (.int farN),some (.ref d),x,y]/\H' d=some (.lst zs)/\Rs K H' ((nearR ws us).take i) zs) ⟨S0,[],none,none,rfl,e0,.nil⟩ ?_ ?_
 ·rintro i σ H1 hi ⟨S1,zs,x,y,rfl,hd1,R1⟩;have e1:(0+(i:Int))=((i:Nat):Int):=by omega
  rw[e1];have e1':ws[i]?=some (ws[i]'(by omega)):=by simp
  have e2':us[i]?=some (us[i]'(by omega)):=by simp
  obtain⟨x1,ex1,b1,rfl,sb1⟩:=(hws.ext (Ext.same S1)).at e1';obtain⟨x2,ex2,b2,rfl,sb2⟩:=(hus.ext (Ext.same S1)).at e2';have g1:=gw _ (XB (show i<ws.length by omega));have g2:=gu _ (XB (show i<us.length by omega));have lz:=R1.len;refine⟨_,rfl,_,rfl,a1,_,_,_,rfl,rfl,Zt S1 hxs,Zg ex1,_,rfl,_,_,rfl,rfl,_,rfl,sz2,λq1 hq1=>?_⟩;have T1:=Same.new (o:=.tup [.int (farN - 1),.int farN]) hq1;have f1:upd H1 q1 (.tup [.int (farN - 1),.int farN]) q1=some (.tup [.int (farN - 1),.int farN]):=Zb;generalize upd H1 q1 (.tup [.int (farN - 1),.int farN])=H2 at *
  refine⟨b1,q1,_,(farN - 1,farN),57,rfl,Zt T1 sb1,SqT.of f1,g1,good_f1,by decide,λp3 H3 f3 S3 e3=>?_⟩;have S13:=T1.trans S3;refine⟨_,rfl,.inl ⟨rfl,_,SqL.of (S13 _ _ hd1)⟩,_,rfl,_,rfl,_,rfl,a2,_,_,_,rfl,rfl,Zt (S1.trans S13) hys,Zg ex2,_,rfl,sz2,λq2 hq2=>?_⟩;have T4:=Same.new (o:=.tup [.int 1,.int farN]) hq2;have f4:upd H3 q2 (.tup [.int 1,.int farN]) q2=some (.tup [.int 1,.int farN]):=Zb;generalize upd H3 q2 (.tup [.int 1,.int farN])=H4 at *
  refine⟨b2,q2,_,(1,farN),57,rfl,Zt (S13.trans T4) sb2,SqT.of f4,g2,good_f2,by decide,λp5 H5 f5 S5 e5=>?_⟩;have gm1:=(Wv (g1.b1.mul good_f1.b1) (g1.b2.mul good_f1.b2) (Xs g1.pos good_f1.pos):Good (57+57) (mulR' (ws[i]'(by omega)) (farN - 1,farN)));have gm2:=(Wv (g2.b1.mul good_f2.b1) (g2.b2.mul good_f2.b2) (Xs g2.pos good_f2.pos):Good (57+57) (mulR' (us[i]'(by omega)) (1,farN)));refine⟨p3,p5,_,_,114,rfl,SqT.of ((T4.trans S5) _ _ e3),SqT.of e5,gm1,gm2,by decide,λp6 H6 f6 S6 e6=>?_⟩;have S46:=(T4.trans S5).trans S6;have S16:=S13.trans S46;have hd6:=S16 _ _ hd1;refine⟨d,_,_,rfl,rfl,hd6,Xo (by rw[<-lz,JU];omega),?_⟩;refine⟨λq o' e=>?_,zs++[.ref p6],_,_,rfl,Zb,?_⟩
  ·rw[Ze (Zd e hd)];exact S16 _ _ (S1 _ _ e)
  have ec:(nearR ws us)[i]?=some (addR (mulR' (ws[i]'(by omega)) (farN - 1,farN)) (mulR' (us[i]'(by omega)) (1,farN))):=by
   unfold nearR;rw[GB,e1',e2']
  rw[Yf ec];exact (R1.ext ((Ext.same S16).trans (Ext.upd hd6))).snoc ⟨p6,rfl,(Ext.upd hd6).sq (SqT.of e6)⟩
 rintro σ H1 ⟨S1,zs,x,y,rfl,hd1,R1⟩;have ln:=Mn (c:=c) lw lu;rw[YM (by omega)] at R1;refine⟨_,rfl,d,zs,rfl,.inl ⟨SqL.of hd1,λl2 hl2=>?_⟩⟩;exact k l2 _ (S1.trans (Same.new hl2)) ⟨_,SqT.of Zb,R1.ext (Ext.new hl2)⟩
inductive spMeanW (K:TQ) (vs:TY) (H:Hp) (Q:VK) (_z3:XK):Prop
 | i (a b:Addr) (xs us:TY) (ws rs:UA) (n n':Nat) (D D':Int) (Ws Zs:TU) (_:vs=[.ref a,.ref b]) (_:(SqL K H a xs \/ SqT K H a xs)) (_:Rs K H ws xs) (_:(SqL K H b us \/ SqT K H b us)) (_:Rs K H rs us) (_:ws.length=rs.length) (_:rs.length<=1000) (_:RepL n D Ws ws) (_:RepL n' D' Zs rs) (_:n<=4000) (_:n'<=4000) (_:n+n'+10<=8000) (_:∀ c H',Same H H'->SqT K H' c [.int (sumR (List.zipWith mulR' ws rs)).1,.int (sumR (List.zipWith mulR' ws rs)).2]->Q (.ref c) H')
theorem Z2i (D:Def K mg "mean" kG ["weights","row"])(T:Blt mg)(eD:Z5 P w K mg base)(eN:Has P w K mg base 1 "whole_by" UX (spWholeBy K))(fF:Has P w K mg base 3 "ratio" UI spLowest):Has P w K mg base 4 "mean" ["weights","row"] (spMeanW K):=by
 refine D.h9 (N:=["weights","row","mine","theirs","products"]) fsc λH Q hr h nd=>?_;obtain⟨a,b,xs,us,ws,rs,n,n',D,D',Ws,Zs,rfl,hA,hWs,hB,hRs,hl,hl2,rw_,rr,hn,hn',hnn,k⟩:=h;have nd1:(UH:List Str).Nodup:=by decide +kernel
 refine⟨_,(Z9 (Zi (i:=2) nd rfl (Or.inl rfl) (Zf eD hr (Z0 (pv 0) Z8)))
  (Z9 (Zi (i:=3) nd rfl (Or.inl rfl) (Zf eD hr (Z0 (pv 1) Z8)))
  (Z9 (Wi (i:=4) (N:=UH) (k:=2) (fv:=[]) nd rfl (Or.inl rfl) rfl (Nb rfl T.zip (Z0 (Zf eN hr (Z0 (pv 0) (Z0 (pv 2) Z8))) (Z0 (Zf eN hr (Z0 (pv 1) (Z0 (pv 3) Z8))) Z8)))
  (λ_ _ _ _ _=>W9 (n:=2) rfl (Y3 (Zk (i:=0) nd1 rfl (Or.inl rfl)) (Y3 (Zk (i:=1) nd1 rfl (Or.inl rfl)) Xl))) (λ_ _ _ _ _=>Ya) (λ_ _ _ _ _=>(Zm Y1 (pv 0) (pv 1))) V8)
  (Zc (Zh (Zf fF hr (Z0 (Zx (Sl (K:=K) rfl) rfl T.sum jg (Z0 (pv 4) Z8)) (Z0 (Zm Y1 (pv 2) (pv 3)) Z8)))))))),?_⟩
 have lw:=rw_.least;have lr:=rr.least;refine⟨_,rfl,a,xs,ws,n,D,Ws,rfl,hA,hWs,rw_,hn,?_⟩;refine⟨_,rfl,b,us,rs,n',D',Zs,rfl,hB,hRs,rr,hn',?_⟩;refine⟨_,rfl,_,rfl,a,_,xs,ws,n,rfl,hA,hWs,lw.good,lw.bD,lw.pos,hn,by omega,λd1 H1 f1 S1 e1=>?_⟩;have hB1:SqL K H1 b us \/ SqT K H1 b us:=hB.elim (λz=>.inl (M7 S1 z)) λz=>.inr (Zt S1 z);refine⟨_,rfl,_,rfl,b,_,us,rs,n',rfl,hB1,hRs.ext (Ext.same S1),lr.good,lr.bD,lr.pos,hn',hl2,λd2 H2 f2 S2 e2=>?_⟩;replace e1:=S2 _ _ e1;refine⟨d1,d2,rfl,⟨_,SqL.of e1⟩,⟨_,SqL.of e2⟩,λd hd=>?_⟩;have ll:(wholeB ws (lcmB ws)).length=rs.length:=by rw[lw.len,hl]
 have ll2:(wholeB rs (lcmB rs)).length=rs.length:=lr.len;generalize hX:wholeB ws (lcmB ws)=As at *
 generalize hY:wholeB rs (lcmB rs)=Bs at *
 have bA:∀ z∈As,Bd n z:=λz hz=>by
  obtain⟨i,hi⟩:=XN hz;have hl':i<As.length:=(YE.mp hi).1;exact (lw.at_ i z (ws[i]'(by omega)) hi (by simp)).2.1
 have bB:∀ z∈Bs,Bd n' z:=λz hz=>by
  obtain⟨i,hi⟩:=XN hz;have hl':i<Bs.length:=(YE.mp hi).1;exact (lr.at_ i z (rs[i]'(by omega)) hi (by simp)).2.1
 refine⟨rs.length,λi ys H3=>Same H2 H3/\ys=((List.zipWith (·*·) As Bs).take i).map V.int,Zq hl2,⟨Same.new hd,rfl⟩,?_,?_⟩
 ·rintro i ys H3 hi ⟨S3,rfl⟩ hd3;refine⟨⟨_,_,SqL.of (S3 _ _ e1),SqL.of (S3 _ _ e2),by rw[YC];omega,by rw[YC];omega⟩,?_⟩;rintro x H4 ⟨p,x0,y0,rfl,hp,rfl,fx,fy⟩;have ea:As[i]?=some (As[i]'(by omega)):=by simp
  have eb:Bs[i]?=some (Bs[i]'(by omega)):=by simp
  have ex0:x0=V.int (As[i]'(by omega)):=by
   have:=fx _ (SqL.of (S3 _ _ e1));rw[YF,ea] at this;exact (YK this).symm
  have ey0:y0=V.int (Bs[i]'(by omega)):=by
   have:=fy _ (SqL.of (S3 _ _ e2));rw[YF,eb] at this;exact (YK this).symm
  subst ex0 ey0;refine Ri (SqT.of Zb) ?_;have hpd:d≠p:=Zd hd3 hp;refine⟨_,rfl,_,rfl,_,_,rfl,rfl,(bA _ (XB _)).mulOk (bB _ (XB _)) (by omega) (by omega),by rw[Ze hpd];exact hd3,λq o e=>?_,?_⟩
  ·have:=S3 _ _ e;rw[Ze (Zd e hd),Ze (Zd this hp)];exact this
  have:(List.zipWith (·*·) As Bs)[i]?=some (As[i]'(by omega)*Bs[i]'(by omega)):=by rw[GB,ea,eb]
  rw[Yf this,XR];rfl
 rintro ys H3 ⟨S3,rfl⟩ hd3;rw[YM (by rw[JR];omega)] at hd3;refine⟨⟨_,_,SqL.of (S3 _ _ e1),SqL.of (S3 _ _ e2),by rw[YC];omega⟩,?_⟩;refine⟨_,rfl,d,_,rfl,SqL.of hd3,_,rfl,_,rfl,_,_,rfl,rfl,lw.bD.mulOk lr.bD (by omega) (by omega),_,_,rfl,by have:=XX lw.pos lr.pos;omega,(lw.bD.mul lr.bD).log (by omega),λc H4 f4 S4 e4=>?_⟩;have me:=Z2v lw lr hl;have e5:sumR (List.zipWith mulR' ws rs)=nrm (List.zipWith (·*·) As Bs).sum (lcmB ws*lcmB rs):=me.symm;refine k c H4 (((S1.trans S2).trans S3).trans S4) ?_;rw[e5];exact SqT.of e4
end
theorem RepL.crude {n:Nat}:∀ {rs:UA},(∀ r∈rs,Good n r)->∃ D Ws,RepL (n*rs.length+1) D Ws rs
 | [],_=>⟨1,[],by decide,by show (1:Int).natAbs<2 ^ (n*0+1);rw[Nat.mul_zero];decide,rfl,λi W r e=>by simp at e⟩
 | r::rs,h=>by
  obtain⟨D,Ws,rp⟩:=RepL.crude (n:=n) (rs:=rs) λx hx=>h x (YY _ hx);have g:=h r XI;have el:n*(r::rs).length+1=n+(n*rs.length+1):=by rw[JT,Y0G,Nat.mul_one];omega
  rw[el];refine⟨r.2*D,r.1*D::Ws.map (r.2*·),XX g.pos rp.pos,g.b2.mul rp.bD,by simp[rp.len],λi W x eW ex=>?_⟩
  cases i with
  | zero =>
   simp at eW ex;subst eW;subst ex;exact⟨by rw[JW,XL D,<-JW],g.b1.mul rp.bD,g.low⟩
  | succ i =>
   simp at eW ex;obtain⟨z,ez,rfl⟩:=eW;obtain⟨e1,b1,l1⟩:=rp.at_ i z x ez ex;refine⟨?_,g.b2.mul b1,l1⟩;rw[Int.mul_left_comm,e1,JW]
def colR (rss:UB)(k:Nat):List Rat:=rss.map λrs=>rs.getD k (0,1)
def comeW (c:Nat)(rss:UB)(ms:UA):List Rat:=(List.range c).map λk=>sumR (List.zipWith mulR' (colR rss k) ms)
theorem F8 (r s:Rat):mulR' r s=mulR' s r:=by
 unfold mulR';rw[XL r.1,XL r.2]
theorem Jy (xs ys:UA):List.zipWith mulR' xs ys=List.zipWith mulR' ys xs:=List.zipWith_comm_of_comm F8
theorem Fv {n c k:Nat}(hk:k<c)(h:∀ rs∈rss,rs.length=c/\∀ r∈rs,Good n r):∀ r∈colR rss k,Good n r:=λr hr=>by
 obtain⟨rs,hm,rfl⟩:=XM.mp hr;obtain⟨l,g⟩:=h rs hm;have:rs.getD k (0,1)=rs[k]'(by omega):=by simp[List.getD,show k<rs.length by omega]
 rw[this];exact g _ (XB _)
section
variable {P:TR}{w:World}{K:TQ}{mg:TB}{base:Heap}
def LstAt (K:TQ)(H:Hp)(a:Addr)(ms:UA):Prop:=∃ xs,H a=some (.lst xs)/\Rs K H ms xs
end
open Sv (sm)
theorem F6 {c i:Nat}(h:0<T.b):Lows (multR c rss T i 1):=λm hm=>by
 unfold multR at hm;obtain⟨j,_,rfl⟩:=XM.mp hm;exact X8 (by omega)
theorem Lg {c k:Nat}(hrs:∀ rs∈rss,RowR c rs):Lows (colR rss k):=λr hr=>by
 unfold colR at hr;obtain⟨rs,h,rfl⟩:=XM.mp hr;exact Ue (hrs rs h).lows k
theorem Z45 {k:Nat}(hj:j<rss.length):qr (colR rss k) j=qr (rss.getD j []) k:=by
 unfold qr colR;rw[YQ,YF,JK hj,Yu (l:=rss) (x:=rss[j]) (by simp[hj])];rfl
theorem Pw {c:Nat}(hrs:∀ rs∈rss,RowR c rs)(hm:Lows ms):Lows (comeW c rss ms):=λr hr=>by
 unfold comeW at hr;obtain⟨k,_,rfl⟩:=XM.mp hr;exact J0 (Qe (Lg hrs) hm)
theorem Lf {c:Nat}:(comeW c rss ms).length=c:=by unfold comeW;simp
theorem J6 {c k:Nat}(hrs:∀ rs∈rss,RowR c rs)(hm:Lows ms)(lm:ms.length=rss.length)(hk:k<c):qr (comeW c rss ms) k=sQ rss.length (λj=>qr ms j*qr (rss.getD j []) k):=by
 have e:(comeW c rss ms).getD k (0,1)=mn (colR rss k) ms:=by
  unfold comeW;rw[YQ,YF,zz hk];rfl
 show qv ((comeW c rss ms).getD k (0,1))=_;rw[e,Vb (Lg hrs) hm (by unfold colR;simp) lm];exact Zu λj hj=>by rw[Z45 hj];grind
theorem Z0s {c:Nat}(hrs:∀ rs∈rss,RowR c rs)(hm:Lows ms)(lm:ms.length=rss.length)(f:Nat->QQ):sQ c (λk=>f k*qr (comeW c rss ms) k)=sQ rss.length (λj=>qr ms j*sQ c (λk=>f k*qr (rss.getD j []) k)):=by
 have e1:sQ c (λk=>f k*qr (comeW c rss ms) k)=sQ c (λk=>sQ rss.length (λj=>qr ms j*(f k*qr (rss.getD j []) k))):=Zu λk hk=>by
  rw[J6 hrs hm lm hk,<-Yo];exact Zu λj _=>by grind
 rw[e1,Re];exact Zu λj _=>Yo _ _ _
def outsW (c:Nat)(o:TV):List Nat:=(List.range c).filter λk=>!inE o k
def foldR (q rs:UA)(us:List Nat):List Rat:=mn q rs::us.map λk=>rs.getD k (0,1)
structure OnE (c:Nat)(o:TV)(q:UA):Prop where
 len:q.length=c
 low:Lows q
 nn:∀ k,k<c->0<=qr q k
 out:∀ k,k<c->inE o k=false->qr q k=0
 lie:sQ c (qr q)=1
def narrow (c:Nat)(o:TV)(q:UA)(rss:UB):List (List Rat):=rss.map λrs=>foldR q rs (outsW c o)
def oneW:Option (Nat->Bool):=some λk=>k == 0
structure NotL (c:Nat)(o:TV)(rss:UB)(q R:UA):Prop where
 len:R.length=c
 low:Lows R
 up:0<sQ c (λk=>qr q k*qr R k)
 out:∀ k,k<c->inE o k=false->0<=qr R k
 top:∀ W,WtsQ c rss W->sQ c (λk=>qr W k*qr R k)<=0
structure ToldQ (c:Nat)(o:TV)(W t:UA):Prop where
 len:t.length=c
 low:Lows t
 s0:0<qv (shR c o W)
 at_:∀ k,k<c->qr t k*qv (shR c o W)=if inE o k then qr W k else 0
end Sb
namespace Sb
open PySem L2
open Sv (sm)
theorem Lc {r:Rat}{S:Int}(hr:0<r.2)(hD:0<D)(e:qv r=(S:QQ) / (D:QQ)):r.1*D=S*r.2:=by
 have a:=Xu hr;have b:=Xu hD;have h:((r.1*D:Int):QQ)=((S*r.2:Int):QQ):=by
  rw[_root_.Rat.intCast_mul,_root_.Rat.intCast_mul];have t:=Ts hr;rw[e] at t;rw[<-t];grind
 exact _root_.Rat.intCast_inj.mp h
structure BeatN (c:Nat)(rss:UB)(N:Nat)(ns:TU):Prop where
 len:ns.length=rss.length
 nn:∀ j,j<rss.length->0<=ns.getD j 0
 up:∀ i,i<c->0<sQ rss.length (λj=>(ns.getD j 0:QQ)*qr (rss.getD j []) i)
 bits:∃ (D:Int) (y:TX),0<D/\Bd N D/\∀ j,j<rss.length->Bd N (y j)/\ns.getD j 0*D=y j*lcmB (rss.getD j [])
theorem D4 (h:Lows ms){j:Nat}(hj:j<ms.length):0<lcmB ms/\((wholeM ms).getD j 0:QQ)=(lcmB ms:QQ)*qr ms j:=by
 obtain⟨p,d,_⟩:=Wp (rs:=ms) λr hr=>(h r hr).pos;refine⟨p,?_⟩;have e1:ms[j]?=some ms[j]:=by simp[hj]
 have l:=h _ (XB hj);have w:=Wq (r:=ms[j]) (d _ (XB hj));have e2:(wholeM ms).getD j 0=ms[j].1*(lcmB ms).fdiv ms[j].2:=by
  unfold wholeM wholeB;rw[YQ,YF,e1];rfl
 rw[e2];unfold qr;rw[Yu e1,Ch l.pos p w];have:=Xu p;grind
theorem NoneT.beatN {c N:Nat}(h:NoneT c rss none gs T)(rows:∀ rs∈rss,RowR c rs)(bd:TabBd N (rss.length+2) c T):BeatN c rss N (wholeM (multR c rss T rss.length 1)):=by
 have bp:=h.inv.pos;have low:=F6 (c:=c) (i:=rss.length) (rss:=rss) bp;have lm:(multR c rss T rss.length 1).length=rss.length:=Q8;have ok:=TabOk.of h.inv;have qm:∀ j,j<rss.length->qr (multR c rss T rss.length 1) j=((-Sv.numAt c T rss.length (c+j)*lcmB (rss.getD j []):Int):QQ) / (T.b:QQ):=λj hj=>by
  have:qr (multR c rss T rss.length 1) j=((-Sv.numAt c T rss.length (c+j)*lcmB (rss.getD j []):Int):QQ) / ((1*T.b:Int):QQ):=(Ci hj).trans (U2 (by omega));rw[this,qX]
 have dv:lcmB (multR c rss T rss.length 1) ∣ T.b:=(Wp (rs:=multR c rss T rss.length 1) λr hr=>(low r hr).pos).2.2 _ λr hr=>by
  unfold multR at hr;obtain⟨k,_,rfl⟩:=XM.mp hr;have:=Z00 (-Sv.numAt c T rss.length (c+k)*lcmB (rss.getD k [])) (1*T.b);rw[qX] at this;show nB _ (1*T.b) ∣ T.b;rw[qX];exact this
 have nq:=λi hi=>h.q rows (i:=i) hi;have yn:=h.sv.1;have wa:=λj (hj:j<rss.length)=>D4 low (j:=j) (by omega);have len:(wholeM (multR c rss T rss.length 1)).length=rss.length:=by rw[Lk,lm]
 have pl:0<lcmB (multR c rss T rss.length 1):=(Wp (rs:=multR c rss T rss.length 1) λr hr=>(low r hr).pos).1;generalize multR c rss T rss.length 1=ms at *
 obtain⟨e,he⟩:=dv;have ep:0<e:=by
  have:0<lcmB ms*e:=by rw[<-he];exact bp
  exact Int.pos_of_mul_pos_right this pl
 have pq:=W7 pl;refine⟨len,λj hj=>?_,λi hi=>?_,e,λj=>-Sv.numAt c T rss.length (c+j),ep,?_,λj hj=>⟨?_,?_⟩⟩
 ·have m0:0<=qr ms j:=by
   rw[qm j hj];refine K9 (b:=(T.b:QQ)) ?_ (W7 bp);rw[Cl (Xu bp)];exact _root_.Rat.intCast_nonneg.mpr (zy (by have:=yn j hj;omega) (Int.le_of_lt (N1 rows hj).1))
  have:=_root_.Rat.mul_nonneg (_root_.Rat.le_of_lt pq) m0;rw[<-(wa j hj).2] at this;exact _root_.Rat.intCast_nonneg.mp this
 ·have q:=nq i hi;rw[Zu (g:=λj=>(lcmB ms:QQ)*(qr ms j*qr (rss.getD j []) i)) λj hj=>by rw[(wa j hj).2];grind,Yo];have q1:(1:QQ)<=sQ rss.length (λj=>qr ms j*qr (rss.getD j []) i):=q;exact _root_.Rat.mul_pos pq (by grind)
 ·have hb:T.b.natAbs<2 ^ N:=bd.b;show e.natAbs<2 ^ N;have h1:e*1<=e*lcmB ms:=Int.mul_le_mul_of_nonneg_left (by omega) (by omega);have h2:e*lcmB ms=T.b:=by rw[XL,he]
  omega
 ·exact (ok.numBd bd (by omega) (c+j)).neg
 refine _root_.Rat.intCast_inj.mp ?_;rw[_root_.Rat.intCast_mul,(wa j hj).2,qm j hj,he,_root_.Rat.intCast_mul (lcmB ms) e];have a:=Xu pl;have b:=Xu ep;grind
end Sb
namespace Sb
open PySem L2
section
variable {P:TR}{w:World}{K:TQ}{mg:TB}{base:Heap}
inductive spMadeWhole (K:TQ) (vs:TY) (H:Hp) (Q:VK) (_z3:XK):Prop
 | i (a:Addr) (xs:TY) (rs:UA) (n:Nat) (D:Int) (Ws:TU) (_:vs=[.ref a]) (_:(SqL K H a xs \/ SqT K H a xs)) (_:Rs K H rs xs) (_:RepL n D Ws rs) (_:n<=4000) (_:rs.length<=1000) (_:∀ (d:Addr) (H':Hp),H d=none->Same H H'->H' d=some (.lst ((wholeM rs).map V.int))->Q (.ref d) H')
theorem Mj (D:Def K mg "made_whole" iP ["multiples"])(eD:Z5 P w K mg base)(eN:Has P w K mg base 1 "whole_by" UX (spWholeBy K)):Has P w K mg base 3 "made_whole" ["multiples"] (spMadeWhole K):=by
 refine D.h9 (N:=["multiples"]) fsc λH Q hr h nd=>?_;obtain⟨a,xs,rs,n,D,Ws,rfl,hA,hRs,rep,hn,hl,k⟩:=h;refine⟨_,(Zc (Zh (Zf eN hr (Z0 (pv 0) (Z0 (Zf eD hr (Z0 (pv 0) Z8)) Z8))))),?_⟩;refine⟨_,rfl,_,rfl,a,xs,rs,n,D,Ws,rfl,hA,hRs,rep,hn,?_⟩;exact⟨a,lcmB rs,xs,rs,n,rfl,hA,hRs,rep.good,rep.least.bD,rep.least.pos,hn,hl,k⟩
structure BookP (c N:Nat)(os:UD):Prop where
 few:os.length<=100
 good:∀ o∈os,GoodO 114 o
 rep:∀ rs∈gainsP os os.length,rs.length=c/\∃ D Zs,RepL 114 D Zs rs
 sides:(gainsP os os.length).length<=30
 nN:N<=1200
 bd:∀ (gs:UA) (T':UC),(∃ D Ws,RepL 1 D Ws gs)->InvR c (gainsP os os.length) none gs T'->TabBd N ((gainsP os os.length).length+2) c T'
theorem BookP.rows {c N:Nat}(b:BookP c N os):∀ rs∈gainsP os os.length,RowR c rs:=λrs hr=>⟨(b.rep rs hr).1,(b.rep rs hr).2.elim λD z=>z.elim λZ r=>⟨114,D,Z,r⟩⟩
inductive spJudgedP (K:TQ) (vs:TY) (H:Hp) (Q:VK) (_z3:XK):Prop
 | i (l:Addr) (c N:Nat) (os:UD) (_:vs=[.int (c:Int),.ref l]) (_:OffsAt K H l c os) (_:BookP c N os) (_:2<=c) (_:c<=100) (_:(∀ (t q:Addr) (ns:TU) (H':Hp),Same H H'->H' q=some (.lst (ns.map V.int))->SqT K H' t [.str "beaten",.ref q]->BeatN c (gainsP os os.length) N ns->(∃ n,n<=1400/\∀ z∈ns,Bd n z)->Q (.ref t) H')) (_:(∀ (t lo:Addr) (ls:UA) (H':Hp),Same H H'->SqT K H' t [.str "fair",.ref lo]->RowAt K H' lo ls->Wts c (gainsP os os.length) ls->(∃ D U,RepL N D U ls)->Q (.ref t) H'))
abbrev Z6 (P:TR)(w:World)(K:TQ)(mg:TB)(base:Heap):Prop:=Has P w K mg base 6 "judged" ["count","offers"] (spJudgedP K)
theorem Gu (D:Def K mg "judged" jM ["count","offers"])(fZ:Has P w K mg base 5 "solve" VA (spSolveN K))(fN:Has P w K mg base 5 "gains" VC (spGainsP K))(eV:Has P w K mg base 3 "made_whole" ["multiples"] (spMadeWhole K))(eY:Con K mg "NOUGHT" (0,1)):Z6 P w K mg base:=by
 refine D.h9 (N:=["count","offers","found"]) fsc λH Q hr h nd=>?_;obtain⟨l,c,N,os,rfl,hO,bg,hc2,hc,kB,kF⟩:=h;obtain⟨c_NOUGHT,m_NOUGHT,s_NOUGHT⟩:=eY;refine⟨_,(Z9 (Zi (i:=2) nd rfl (Or.inl rfl) (Zf fZ hr (Z0 (pv 0) (Z0 (Zf fN hr (Z0 (pv 1) Z8)) (Z0 Yj (Z0 (Zm Jb (Yc (Z0 (Yq (v:=.ref c_NOUGHT) rfl m_NOUGHT rfl) Z8)) (pv 0)) Z8))))))
  (Z9 (Y4 (Zl Yy (Zj Yd (pv 2) Za (λ_ _=>rfl)) Xr (Zo _))
   (Zc (Zh (Yc (Z0 Xr (Z0 (Zf eV hr (Z0 (Zj Yd (pv 2) Za (λ_ _=>rfl)) Z8)) Z8)))))
   Zp)
  (Zc (Zh (Yc (Z0 Xr (Z0 (Zj Yd (pv 2) Za (λ_ _=>rfl)) Z8))))))),?_⟩
 have few:=bg.few;have nN:=bg.nN;have sides:=bg.sides;refine⟨_,rfl,_,rfl,l,c,114,os,rfl,hO,few,by omega,by decide,bg.good,λd H1 fd S1 hR1=>?_⟩;refine⟨sz1,λt ht=>⟨_,rfl,t,c,[.ref c_NOUGHT],rfl,rfl,SqT.of Zb,by omega,by simp,by simp;omega,λp hp=>?_⟩⟩;have S2:Same H1 (upd H1 t (.tup [.ref c_NOUGHT])):=Same.new ht;have et:(c:Int).toNat=c:=by omega
 have ef:(List.replicate (c:Int).toNat [V.ref c_NOUGHT]).flatten=List.replicate c (V.ref c_NOUGHT):=by rw[et];simp
 rw[ef];have S3:=S2.trans (Same.new (o:=.tup (List.replicate c (V.ref c_NOUGHT))) hp);have R3:RowAt K (upd (upd H1 t (.tup [.ref c_NOUGHT])) p (.tup (List.replicate c (V.ref c_NOUGHT)))) p (List.replicate c (0,1)):=⟨_,SqT.of Zb,Rs.rep ⟨c_NOUGHT,rfl,s_NOUGHT _⟩ c⟩;generalize upd (upd H1 t (.tup [.ref c_NOUGHT])) p (.tup (List.replicate c (V.ref c_NOUGHT)))=H3 at *
 obtain⟨ads,hd,hP⟩:=hR1;have S03:=S1.trans S3;have zr:=Pa c (show 1<=114 by decide);have z1:=Pa c (show 1<=1 by decide);have zrow:RowR c (List.replicate c ((0,1):Rat)):=⟨by simp,_,_,_,zr⟩;refine⟨d,p,.non,c,114,N,gainsP os os.length,none,List.replicate c (0,1),rfl,⟨ads,S3 _ _ hd,Yw hP (Ext.same S3)⟩,rfl,R3,by simp,bg.rep,⟨_,_,zr⟩,by decide,by decide,by omega,by omega,λT' I=>bg.bd _ T' ⟨_,_,z1.cut none⟩ I,by omega,by omega,by omega,λTb q t4 xs H4 fq S4 nt hq rs4 sq=>?_,λTb q t4 va lo xs H4 fq S4 mt hq rs4 iv rl sq=>?_⟩
 ·refine⟨_,rfl,t4,_,_,_,rfl,rfl,sq,Zg (j:=0) rfl,rfl,_,rfl,Vf ?_⟩;have I:=nt.inv;have bd:=bg.bd _ _ ⟨_,_,z1.cut none⟩ I;have mr:=Mo (b:=1) bg.rep I.pos (TabOk.of I) bd (show (gainsP os os.length).length<(gainsP os os.length).length+2 by omega) (by decide) (Yv 1 (by decide) (by decide));refine⟨_,rfl,t4,_,_,_,rfl,rfl,sq,Zg (j:=1) rfl,q,xs,_,_,_,_,rfl,.inl (SqL.of hq),rs4,mr,by omega,by rw[Q8];omega,λd2 H5 fd2 S5 e5=>?_⟩;refine⟨sz2,λt6 ht6=>?_⟩;have S6:=Same.new (o:=.tup [.str "beaten",.ref d2]) ht6;have S05:=(S03.trans S4).trans S5;exact kB t6 d2 _ _ (S05.trans S6) (S6 _ _ e5) (SqT.of Zb) (nt.beatN bg.rows bd) ⟨_,by omega,mr.least.bdW⟩
 refine⟨_,rfl,t4,_,_,_,rfl,rfl,sq,Zg (j:=0) rfl,rfl,_,rfl,X9 ?_⟩;refine⟨_,rfl,t4,_,_,_,rfl,rfl,sq,Zg (j:=2) rfl,sz2,λt6 ht6=>?_⟩;have S6:=Same.new (o:=.tup [.str "fair",.ref lo]) ht6;have bd:=bg.bd _ _ ⟨_,_,z1.cut none⟩ mt.inv;obtain⟨wl,_⟩:=mt.meets bg.rep ⟨_,_,zr⟩ (by simp) (by decide) (by omega);exact kF t6 lo _ _ ((S03.trans S4).trans S6) (SqT.of Zb) (rl.same S6) wl ⟨_,_,Tz mt.inv.pos (TabOk.of mt.inv) bd⟩
inductive spAsRI (vs:TY) (H:Hp) (Q:VK) (_z3:XK):Prop
 | i (z:Int) (_:vs=[.int z]) (_:∀ p,H p=none->Q (.ref p) (upd H p (.tup [.int z,.int 1])))
theorem Z4s (D:Def K mg "as_ratio" jE VJ)(fE:Has P w K mg base 1 "is_whole" ["value"] spWhole):Has P w K mg base 2 "as_ratio" VJ spAsRI:=by
 refine D.h9 (N:=VJ) fsc λH Q hr h nd=>?_;obtain⟨z,rfl,q⟩:=h;refine⟨_,(Zc (Zh (U5 (Yr (Zf fE hr (Z0 (pv 0) Z8))) (Yc (Z0 (pv 0) (Z0 Za Z8))) (pv 0)))),?_⟩;exact⟨_,rfl,z,rfl,_,rfl,Vf ⟨_,rfl,sz2,λp hp=>q p hp⟩⟩
inductive spComeToI (K:TQ) (vs:TY) (H:Hp) (Q:VK) (_z3:XK):Prop
 | i (l q:Addr) (c:Nat) (rss:UB) (ns:TU) (nm:Nat) (_:vs=[.int (c:Int),.ref l,.ref q]) (_:RowsAt K H l rss) (_:H q=some (.lst (ns.map V.int))) (_:ns.length=rss.length) (_:rss.length<=24) (_:c<=100) (_:(∀ rs∈rss,rs.length=c/\∀ r∈rs,Good 126 r)) (_:nm<=4000) (_:1<=nm) (_:(∀ z∈ns,Bd nm z)) (_:∀ (a:Addr) (H':Hp),Same H H'->RowAt K H' a (comeW c rss (ns.map λz=>(z,1)))->Q (.ref a) H')
theorem Gy (D:Def K mg "come_to" jQ VL)(T:Blt mg)(gS:Has P w K mg base 2 "as_ratio" VJ spAsRI)(iB:Has P w K mg base 4 "mean" ["weights","row"] (spMeanW K)):Has P w K mg base 5 "come_to" VL (spComeToI K):=by
 refine D.h9 (N:=["count","rows","multiples","taken"]) fsc λH Q hr h nd=>?_;obtain⟨l,q,c,rss,ns,nm,rfl,⟨ads,hl,hA⟩,hq,ln,few,hc,hrs,hnm,n1,bn,k⟩:=h;have nd1:(VJ:TF).Nodup:=by decide +kernel
 have nd2:(["world","rows","taken"]:List Str).Nodup:=by decide +kernel
 have nd3:(["row","world"]:List Str).Nodup:=by decide +kernel
 refine⟨_,(Z9 (Zi (i:=3) nd rfl (Or.inr rfl) (Ym (N:=VJ) (k:=1) (fv:=[]) rfl (Xk (pv 2))
  (λ_ _ _ _ _=>Zk (i:=0) nd1 rfl (Or.inl rfl)) (λ_ _ _ _ _=>Ya) (λ_ _ _ _ _=>(Zf gS hr (Z0 (pv 0) Z8))) Y0))
  (Zc (Zh (Zw Zy rfl T.tuple YZ (Z0 (Cs (x0:="world") (N:=["world","rows","taken"]) (k:=1) (fv:=[1,3]) rfl (Yl rfl T.range (Z0 (pv 0) Z8))
  (λ_ _ _ _ _=>Zk (i:=0) nd2 rfl (Or.inr rfl)) (λ_ _ _ _ _=>Ya) (λ_ _ _ _ _=>(Zf iB hr (Z0 (pv 2) (Z0 (Ym (N:=["row","world"]) (k:=1) (fv:=[0]) rfl (Co (K:=K) (pv 1))
  (λ_ _ _ _ _=>Zk (i:=0) nd3 rfl (Or.inl rfl)) (λ_ _ _ _ _=>Ya) (λ_ _ _ _ _=>(Zj (Mw (K:=K)) (pv 0) (pv 1) (λ_ _=>rfl))) Y0) Z8)))) Y0) Z8))))),?_⟩
 have lads:=XG hA;have lx:(ns.map V.int).length=ns.length:=by simp
 have lm:(ns.map λz=>((z,1):Rat)).length=rss.length:=by rw[YC];exact ln
 obtain⟨Wm,rm⟩:∃ W,RepL nm 1 W (ns.map λz=>((z,1):Rat)):=RepL.each (by decide) (Yv 1 (by decide) n1) λr hr=>by
  obtain⟨z,hz,rfl⟩:=XM.mp hr;exact⟨z,rfl,bn z hz,(show (0:Int)<1 by decide),Y0i _⟩
 generalize hms:(ns.map λz=>((z,1):Rat))=ms at *
 refine⟨_,rfl,q,rfl,⟨_,SqL.of hq⟩,λd hd=>?_⟩;refine⟨ms.length,λi ys H2=>Same H H2/\Rs K H2 (ms.take i) ys,Zq (by omega),⟨Same.new hd,.nil⟩,?_,?_⟩
 ·rintro i ys H2 hi ⟨S2,R2⟩ hd2;have hin:i<ns.length:=by omega
  refine⟨⟨_,V.int ns[i],SqL.of (S2 _ _ hq),by simp[hin]⟩,?_⟩;rintro x H3 ⟨rfl,fx⟩;have ex:x=V.int ns[i]:=by
   have:=fx _ (SqL.of (S2 _ _ hq));rw[YF,JK hin] at this;exact (YK this).symm
  subst ex;have er:ms[i]?=some (ns[i],1):=by rw[<-hms,YF,JK hin];rfl
  refine Yh ?_;refine⟨_,rfl,ns[i],rfl,λp hp=>?_⟩;have S4:=Same.new (o:=.tup [.int ns[i],.int 1]) hp;have hd4:=S4 _ _ hd2;refine⟨hd4,λq' o' e=>?_,?_⟩
  ·rw[Ze (Zd e hd)];exact S4 _ _ (S2 _ _ e)
  rw[Yf er];exact (R2.ext ((Ext.same S4).trans (Ext.upd hd4))).snoc ⟨p,rfl,(Ext.upd hd4).sq (SqT.of Zb)⟩
 rintro ys H1 ⟨S1,R1⟩ hd1;rw[YM (YD _)] at R1;refine⟨⟨_,SqL.of (S1 _ _ hq),by omega⟩,?_⟩;replace hl:=S1 _ _ hl;replace hA:=Yw hA (Ext.same S1);refine⟨_,rfl,(c:Int),rfl,(by omega),(by omega),λd0 hd0=>?_⟩;have et:(c:Int).toNat=c:=by omega
 rw[et];refine⟨c,λj ys H'=>Same H1 H'/\Rs K H' ((comeW c rss ms).take j) ys,Zq (by omega),⟨Same.new hd0,.nil⟩,?_,?_⟩
 ·rintro j zs H2 hj ⟨S2,R2⟩ hd2;refine⟨hj,?_⟩;rintro x H3 ⟨rfl,rfl⟩;have e0:(0+(j:Int))=((j:Nat):Int):=by omega
  rw[e0];refine Yh ?_;have hl3:=S2 _ _ hl;have A3:=Yw hA (Ext.same S2);refine⟨_,rfl,_,rfl,l,rfl,⟨_,SqL.of hl3⟩,λd2 hd2'=>?_⟩;refine⟨rss.length,λi us H'=>Same H3 H'/\Rs K H' ((colR rss j).take i) us,Zq (by omega),⟨Same.new hd2',.nil⟩,?_,?_⟩
  ·rintro i us H4 hi ⟨S4,R4⟩ hd4;have hia:i<ads.length:=by omega
   refine⟨⟨_,V.ref (ads[i]'hia),SqL.of (S4 _ _ hl3),by simp[hia]⟩,?_⟩;rintro x H5 ⟨rfl,fx⟩;have ex:x=V.ref (ads[i]'hia):=by
    have:=fx _ (SqL.of (S4 _ _ hl3));rw[YF,JK hia] at this;exact (YK this).symm
   subst ex;have er:rss[i]?=some rss[i]:=by simp[hi]
   obtain⟨lr,gr⟩:=hrs rss[i] (XB hi);obtain⟨vs,hvs,rvs⟩:=(Paired.getB A3 (show ads[i]?=some ads[i] by simp[hia]) er).same S4;have lv:=rvs.len;have ew:rss[i][j]?=some (rss[i][j]'(by omega)):=by simp
   obtain⟨x1,ex1,b1,rfl,sq1⟩:=rvs.at ew;refine Yh ?_;refine⟨_,rfl,_,rfl,ads[i],_,_,_,rfl,rfl,hvs,Zg ex1,hd4,λq' o' e=>?_,?_⟩
   ·rw[Ze (Zd e hd2')];exact S4 _ _ e
   have ec:(colR rss j)[i]?=some (rss[i][j]'(by omega)):=by
    unfold colR;rw[YF,er];simp[List.getD,show j<rss[i].length by omega]
   rw[Yf ec];exact (R4.ext (Ext.upd hd4)).snoc ⟨b1,rfl,(Ext.upd hd4).sq sq1⟩
  rintro us H4 ⟨S4,R4⟩ hd4;have lcol:(colR rss j).length=rss.length:=by unfold colR;rw[YC]
  rw[YM (by omega)] at R4;refine⟨⟨_,SqL.of (S4 _ _ hl3),by rw[YC];omega⟩,?_⟩;have S14:=S2.trans S4;obtain⟨Dc,Wc,rc⟩:=RepL.crude (Fv hj hrs);have bc:126*(colR rss j).length+1<=126*24+1:=by omega
  refine⟨d,d2,ys,us,ms,colR rss j,_,_,1,Dc,Wm,Wc,rfl,.inl (SqL.of (S14 _ _ hd1)),R1.ext (Ext.same S14),.inl (SqL.of hd4),R4,by omega,by omega,rm,rc,hnm,by omega,by omega,λcm H5 S5 e5=>?_⟩;have S15:=S4.trans S5;have hd5:=S15 _ _ hd2;refine⟨hd5,λq' o' e=>?_,?_⟩
  ·rw[Ze (Zd e hd0)];exact S15 _ _ (S2 _ _ e)
  have ec:(comeW c rss ms)[j]?=some (sumR (List.zipWith mulR' ms (colR rss j))):=by
   unfold comeW;rw[YF,Jy ms];simp[hj]
  rw[Yf ec];exact (R2.ext ((Ext.same S15).trans (Ext.upd hd5))).snoc ⟨cm,rfl,(Ext.upd hd5).sq e5⟩
 rintro zs H2 ⟨S2,R2⟩ hd2;have lcw:(comeW c rss ms).length=c:=by unfold comeW;simp
 rw[YM (by omega)] at R2;refine⟨YD _,d0,zs,rfl,.inl ⟨SqL.of hd2,λar har=>?_⟩⟩;exact k ar _ ((S1.trans S2).trans (Same.new har)) ⟨zs,SqT.of Zb,R2.ext (Ext.new har)⟩
end
open Sv (sm)
theorem Z47 {a b:QQ}(h:b≠0):b*a / b=a:=by grind
theorem M8 (f:Nat->QQ)(m:Nat):∀ (n:Nat),sQ (m+n) f=sQ m f+sQ n (λk=>f (m+k))
 | 0=>by show sQ m f=sQ m f+0;grind
 | n+1=>by
  show sQ (m+n) f+f (m+n)=sQ m f+(sQ n (λk=>f (m+k))+f (m+n));rw[M8 f m n];grind
theorem Df (f:TX):∀ (n:Nat),((((List.range n).map f).sum:Int):QQ)=sQ n (λj=>(f j:QQ))
 | 0=>_root_.Rat.intCast_zero
 | n+1=>by
  rw[zH,XR,List.sum_append,_root_.Rat.intCast_add,Df f n];show _=sQ n (λj=>(f j:QQ))+(f n:QQ)
  congr 1
  simp
structure PartR (c:Nat)(r1 r2:UB)(R:UA):Prop where
 len:R.length=c
 low:Lows R
 one:∀ W,WtsQ c r1 W->sQ c (λk=>qr W k*qr R k)<=0
 two:∀ W,WtsQ c r2 W->0<sQ c (λk=>qr W k*qr R k)
def intR (ns:TU):List Rat:=ns.map λz=>((z,1):Rat)
theorem Tm (ns:TU):Lows (intR ns):=λr hr=>by
 obtain⟨z,_,rfl⟩:=XM.mp hr;exact⟨(show (0:Int)<1 by decide),Y0i _⟩
theorem K7 (hj:j<ns.length):qr (intR ns) j=(ns.getD j 0:QQ):=by
 have e:ns[j]?=some ns[j]:=by simp[hj]
 unfold qr intR;rw[YQ,YF,e,Yu e];show ((ns[j]:Int):QQ) / ((1:Int):QQ)=_;rw[_root_.Rat.intCast_one];grind
section
variable {c N:Nat}{r1 r2:UB}{ns:TU}
theorem Ky {g:Nat}(hj:j<g):(ns.take g).getD j 0=ns.getD j 0:=by
 rw[YQ,Y09,YJ hj,<-YQ]
theorem Z11 (hj:j<r1.length):(r1++r2).getD j []=r1.getD j []:=by
 rw[YQ,JA hj,<-YQ]
theorem Z3c:(r1++r2).getD (r1.length+j) []=r2.getD j []:=by
 rw[YQ,XW (by omega),Nat.add_sub_cancel_left,<-YQ]
theorem BeatN.lt (b:BeatN c (r1++r2) N ns):(ns.take r1.length).length=r1.length:=by
 have:=b.len;rw[YS] at this;rw[JU];omega
theorem BeatN.row (b:BeatN c (r1++r2) N ns)(h1:∀ rs∈r1,RowR c rs){i:Nat}(hi:i<c):qr (comeW c r1 (intR (ns.take r1.length))) i=sQ r1.length (λj=>(ns.getD j 0:QQ)*qr (r1.getD j []) i):=by
 have lt:=b.lt;have li:(intR (ns.take r1.length)).length=r1.length:=by unfold intR;rw[YC];exact lt
 rw[J6 h1 (Tm _) li hi];exact Zu λj hj=>by rw[K7 (by omega),Ky hj]
theorem BeatN.part (b:BeatN c (r1++r2) N ns)(h1:∀ rs∈r1,RowR c rs):PartR c r1 r2 (comeW c r1 (intR (ns.take r1.length))):=by
 have lt:=b.lt;have li:(intR (ns.take r1.length)).length=r1.length:=by unfold intR;rw[YC];exact lt
 have nn:∀ j,j<r1.length+r2.length->0<=(ns.getD j 0:QQ):=λj hj=>_root_.Rat.intCast_nonneg.mpr (b.nn j (by rw[YS];exact hj));refine⟨Lf,Pw h1 (Tm _),λW w=>?_,λW w=>?_⟩
 ·rw[Z0s h1 (Tm _) li];refine C8 λj hj=>?_;rw[K7 (by omega),Ky hj];refine Q9 (nn j (by omega)) (w.fit _ ?_);rw[Yu (l:=r1) (x:=r1[j]) (by simp[hj])];exact XB hj
 have up:=b.up;rw[YS] at up;have pos:0<sQ c (λi=>qr W i*sQ (r1.length+r2.length) (λj=>(ns.getD j 0:QQ)*qr ((r1++r2).getD j []) i)):=by
  have n0:∀ i,i<c->0<=qr W i*sQ (r1.length+r2.length) (λj=>(ns.getD j 0:QQ)*qr ((r1++r2).getD j []) i):=λi hi=>_root_.Rat.mul_nonneg (w.nn i hi) (_root_.Rat.le_of_lt (up i hi));have s0:=M9 n0;rcases Classical.em (0<sQ c (λi=>qr W i*sQ (r1.length+r2.length) (λj=>(ns.getD j 0:QQ)*qr ((r1++r2).getD j []) i))) with z | z
  ·exact z
  have e:=N7 n0 (by grind);have:sQ c (qr W)=0:=N6 λi hi=>by
   have a:=e i hi;have u:=up i hi;generalize sQ (r1.length+r2.length) (λj=>(ns.getD j 0:QQ)*qr ((r1++r2).getD j []) i)=x at *
   have:qr W i*x / x=qr W i:=by grind
   rw[a] at this;grind
  rw[w.lie] at this;exact absurd this (by decide)
 have e1:sQ c (λi=>qr W i*sQ (r1.length+r2.length) (λj=>(ns.getD j 0:QQ)*qr ((r1++r2).getD j []) i))=sQ c (λk=>qr W k*qr (comeW c r1 (intR (ns.take r1.length))) k)+sQ r2.length (λj=>(ns.getD (r1.length+j) 0:QQ)*sQ c (λi=>qr W i*qr (r2.getD j []) i)):=by
  have a:sQ r2.length (λj=>(ns.getD (r1.length+j) 0:QQ)*sQ c (λi=>qr W i*qr (r2.getD j []) i))=sQ c (λi=>sQ r2.length (λj=>(ns.getD (r1.length+j) 0:QQ)*(qr W i*qr (r2.getD j []) i))):=by
   rw[Re];exact Zu λj _=>(Yo _ _ _).symm
  rw[a,<-Vz];refine Zu λi hi=>?_;rw[b.row h1 hi,M8,Zu (n:=r1.length) (f:=λj=>(ns.getD j 0:QQ)*qr ((r1++r2).getD j []) i) λj hj=>by rw[Z11 hj],Zu (n:=r2.length) (f:=λk=>(ns.getD (r1.length+k) 0:QQ)*qr ((r1++r2).getD (r1.length+k) []) i) λj hj=>by rw[Z3c]];rw[Zu (n:=r2.length) (f:=λj=>(ns.getD (r1.length+j) 0:QQ)*(qr W i*qr (r2.getD j []) i)) (g:=λj=>qr W i*((ns.getD (r1.length+j) 0:QQ)*qr (r2.getD j []) i)) λj _=>by grind,Yo];grind
 have e2:sQ r2.length (λj=>(ns.getD (r1.length+j) 0:QQ)*sQ c (λi=>qr W i*qr (r2.getD j []) i))<=0:=C8 λj hj=>by
  refine Q9 (nn _ (by omega)) (w.fit _ ?_);rw[Yu (l:=r2) (x:=r2[j]) (by simp[hj])];exact XB hj
 rw[e1] at pos;grind
theorem BeatN.rep {n:Nat}(b:BeatN c (r1++r2) N ns)(h1:∀ rs∈r1,rs.length=c/\∃ D Z,RepL n D Z rs)(few:r1.length<=32):∃ D U,RepL (N+n+5) D U (comeW c r1 (intR (ns.take r1.length))):=by
 obtain⟨D,y,hD,bD,hy⟩:=b.bits;have rows:∀ rs∈r1,RowR c rs:=λrs hr=>⟨(h1 rs hr).1,(h1 rs hr).2.elim λD z=>z.elim λZ r=>⟨n,D,Z,r⟩⟩;refine⟨D,RepL.each hD (bD.mono (by omega)) λx hx=>?_⟩;have lx:=Pw rows (Tm (ns.take r1.length)) x hx;obtain⟨i,hi⟩:=XN hx;have hic:i<c:=by
  have:=(YE.mp hi).1;rw[Lf] at this;exact this
 refine⟨((List.range r1.length).map λj=>y j*AOf r1 j i).sum,Lc lx.pos hD ?_,?_,lx⟩
 ·have e:=b.row rows hic;unfold qr at e;rw[Yu hi] at e;rw[e,Df];have t:sQ r1.length (λj=>((y j*AOf r1 j i:Int):QQ))=(D:QQ)*sQ r1.length (λj=>(ns.getD j 0:QQ)*qr (r1.getD j []) i):=by
   rw[<-Yo];refine Zu λj hj=>?_;have a:=congrArg (λz:Int=>(z:QQ)) (hy j (by rw[YS];omega)).2;simp only [_root_.Rat.intCast_mul] at a;rw[Z11 hj] at a;rw[_root_.Rat.intCast_mul,(N1 rows hj).2 i hic];grind
  rw[t];exact (Z47 (Xu hD)).symm
 refine (Ny (n:=N+n) _ (λz hz=>?_) 5 (by simpa using few));obtain⟨j,hj,rfl⟩:=XM.mp hz;have hj':j<r1.length:=by simpa using hj
 have b1:=(hy j (by rw[YS];omega)).1;obtain⟨_,D',Z',rr⟩:=h1 _ (XB hj');have b2:Bd n (AOf r1 j i):=by
  have:AOf r1 j i=rowF r1[j] i:=by
   unfold AOf rowF;rw[Yu (l:=r1) (x:=r1[j]) (by simp[hj'])]
  rw[this];exact Wz rr i
 exact b1.mul b2
end
end Sb
namespace Sb
open PySem L2
theorem RowR.of {c n:Nat}(la:as.length=c)(ra:∃ D Ws,RepL n D Ws as):RowR c as:=⟨la,ra.elim λD z=>z.elim λW r=>⟨n,D,W,r⟩⟩
structure BookM (c n N M:Nat)(os:UD):Prop where
 few:os.length<=100
 good:∀ o∈os,GoodO n o
 rep:∀ rs∈gainsP os os.length,rs.length=c/\∃ D Zs,RepL M D Zs rs
 sides:(gainsP os os.length).length<=30
 m1:1<=M
 n4:n<=4000
 nN:N+M<=3900
 bd:∀ (o:TV) (gs:UA) (T':UC),(∃ D Ws,RepL M D Ws gs)->InvR c (gainsP os os.length) o gs T'->TabBd N ((gainsP os os.length).length+2) c T'
theorem BookM.rows {c n N M:Nat}(b:BookM c n N M os):∀ rs∈gainsP os os.length,RowR c rs:=λrs hr=>RowR.of (b.rep rs hr).1 (b.rep rs hr).2
theorem MostT.goodM {c N M:Nat}{o:TV}{Z:TU}(h:MostT c rss o (cutR o as) T)(ha:RepL M D Z as)(bd:TabBd N (rss.length+2) c T):Good (N+M) (valueR c rss.length (cutR o as) T):=by
 have b1:=(TabOk.of h.inv).endBd bd (c+rss.length+1);have b2:=(ha.cut o).least.bD.mul bd.b;rw[zW] at b2;have:=XX (ha.cut o).least.pos h.inv.pos;exact Wv (b1.neg.mono (by omega)) b2 (by omega)
theorem K4 {r:Rat}:qv (negR r)=-qv r:=by
 show ((-r.1:Int):QQ) / (r.2:QQ)=-((r.1:QQ) / (r.2:QQ));rw[_root_.Rat.intCast_neg];grind
theorem Q0 {r s:Rat}(hr:0<r.2)(hs:0<s.2):leR r s ↔ qv r<=qv s:=by
 have e1:=Ts hr;have e2:=Ts hs;have p1:=W7 hr;have p2:=W7 hs;have p:=_root_.Rat.mul_pos p1 p2;have c1:((r.1*s.2:Int):QQ)=qv r*((r.2:QQ)*(s.2:QQ)):=by rw[_root_.Rat.intCast_mul,<-e1];grind
 have c2:((s.1*r.2:Int):QQ)=qv s*((r.2:QQ)*(s.2:QQ)):=by rw[_root_.Rat.intCast_mul,<-e2];grind
 unfold leR;rw[<-_root_.Rat.intCast_le_intCast,c1,c2];constructor
 ·intro h;have:=K9 (a:=qv s - qv r) (b:=(r.2:QQ)*(s.2:QQ)) (by grind) p;grind
 intro h;have:=_root_.Rat.mul_nonneg (show 0<=qv s - qv r by grind) (_root_.Rat.le_of_lt p);grind
theorem Bt (h:Lows l):Lows (ngR l):=λr hr=>by
 unfold ngR at hr;obtain⟨x,hx,rfl⟩:=XM.mp hr;exact Wk (h x hx) ⟨by decide,by decide⟩
theorem Z4t:(ngR l).length=l.length:=by unfold ngR;simp
theorem Z5h {k:Nat}(h:Lows l)(hk:k<l.length):qr (ngR l) k=-qr l k:=by
 unfold ngR;rw[Cj hk,K5 (Ue h k) ⟨by decide,by decide⟩];have:qv (-1,1)=-1:=by
  show qv (negR (1,1))=-1;rw[K4,Z1s]
 rw[this];unfold qr;grind
section
variable {c:Nat}{rss:UB}{o:TV}{as bs W:UA}{u v m:Rat}
theorem G6 (w:WtsQ c rss W)(h:1<=qv (shR c o W)):∀ k,k<c->inE o k=false->qr W k=0:=by
 have e:sQ c (λk=>if inE o k then 0 else qr W k)=1 - qv (shR c o W):=by
  rw[U1 w.low w.len];have l:=w.lie;have:sQ c (qr W)=sQ c (λk=>if inE o k then 0 else qr W k)+sQ c (λk=>if inE o k then qr W k else 0):=by
   rw[<-Vz];exact Zu λk hk=>by cases inE o k <;> simp <;> grind
  grind
 have nn:∀ k,k<c->0<=(if inE o k then 0 else qr W k):=λk hk=>by
  cases inE o k
  ·simpa using w.nn k hk
  simp
 have p:=M9 nn;have z:=N7 nn (by grind);intro k hk i;have:=z k hk;rw[i] at this
 simpa using this
theorem Ld (w:WtsQ c rss W)(h:1<=qv (shR c o W))(la:Lows as)(len:as.length=c)(lv:Low v):qv (mn W (gP o as v))=qv (mn W as) - qv v:=by
 rw[Vb w.low (Sf la lv) w.len (by rw[Z0g,len]),Vb w.low la w.len len];have out:=G6 w h;have e:sQ c (λk=>qr W k*qr (gP o as v) k)=sQ c (λk=>qr W k*qr as k) + -qv v*sQ c (qr W):=by
  rw[<-Yo,<-Vz];refine Zu λk hk=>?_;rw[Z3g la lv (by omega)]
  cases z:inE o k with
  | true=>simp;grind
  | false=>rw[out k hk z];simp;grind
 rw[e,w.lie];grind
theorem ConV.most (h:ConV c rss o as v)(hrs:∀ rs∈rss,RowR c rs)(one:∀ W,Wts c rss W->1<=qv (shR c o W))(la:Lows as)(len:as.length=c):MostV c rss as v:=by
 refine⟨h.low,?_,λW w=>?_⟩
 ·obtain⟨W,w,e,_⟩:=h.hit;have wq:=w.toQ hrs;refine⟨W,w,Q1 (Wd wq.low la) h.low ?_⟩;have lg:=Wd wq.low (Sf (o:=o) la h.low);have a:=(Sr lg.pos).mp (by omega);have b:=(Md lg.pos).mp (by omega);rw[Ld wq (one W w) la len h.low] at a b;grind
 have wq:=w.toQ hrs;have lg:=Wd wq.low (Sf (o:=o) la h.low);refine (Q0 (Wd wq.low la).pos h.low.pos).mpr ?_;have a:=(Sr lg.pos).mp (h.top W w);rw[Ld wq (one W w) la len h.low] at a;grind
end
section
variable {P:TR}{w:World}{K:TQ}{mg:TB}{base:Heap}{C:Addr}
theorem N5:FnScope UE UE (defScope iL):=fsc
theorem Nh {D:Addr}{fd:FuncData}(F:Fun K "__init__" "NoFair.__init__" iL f fd)(T:Blt mg)(O:ExcI K mg xn C fI)(B:BaseI K mg "SureError" D)(S:StoI K C "multiples"):FnOk P w K mg base CX0 1 f fd UE (spErrInit K C):=by
 refine F.ok N5 (λvs H Q E h=>?_) (λcdv A outer s H vs Q E hr h=>?_)
 ·obtain⟨e,l,xs,rfl,_⟩:=h;rfl
 obtain⟨e,l,xs,rfl,he,hl,k⟩:=h;refine⟨_,Z9 (X7 (Ct B rfl (Z0 (pv 0) (Z0 Xr Z8)))) (Zc (Z1u (pv 0) (Zw Y9 rfl T.list XA (Z0 (pv 1) Z8)) rfl)),?_⟩;refine⟨_,rfl,e,C,fI,none,xn,_,rfl,sz1,he,O,?_⟩;refine⟨_,rfl,l,xs,rfl,.inl hl,λl' hl'=>?_⟩;have ne:e≠l':=λz=>by rw[<-z,he] at hl';cases hl'
 refine⟨_,rfl,e,C,fI,xn,rfl,?_,O,S,λd hd hde=>Z0o he hl' hd hde k⟩;rw[Ze ne];exact he
end
theorem Z24 {c:Nat}(hrs:∀ rs∈rss,RowR c rs):∀ W,Wts c rss W->1<=qv (shR c none W):=λW w=>by
 have wq:=w.toQ hrs;have e:qv (shR c none W)=1:=(U1 wq.low wq.len).trans wq.lie;rw[e];exact _root_.Rat.le_refl
theorem MostV.leastq {c:Nat}{v:Rat}(h:MostV c rss (as.map λr=>mulR' r (-1,1)) v)(hrs:∀ rs∈rss,RowR c rs)(la:Lows as)(len:as.length=c):LeastV c rss as (negR v):=by
 have key:∀ W,Wts c rss W->Low (mn W as)/\Low (mn W (ngR as))/\qv (mn W (ngR as))=-qv (mn W as):=λW w=>by
  have wq:=w.toQ hrs;refine⟨Wd wq.low la,Wd wq.low (Bt la),?_⟩;rw[Vb wq.low (Bt la) wq.len (by rw[Z4t];exact len),Vb wq.low la wq.len len,show -sQ c (λk=>qr W k*qr as k)=(-1)*sQ c (λk=>qr W k*qr as k) by grind,<-Yo];exact Zu λk hk=>by rw[Z5h la (by omega)];grind
 refine⟨negR.low h.low,?_,λW w=>?_⟩
 ·obtain⟨W,w,e⟩:=h.hit;obtain⟨l1,l2,e2⟩:=key W w;have e:mn W (ngR as)=v:=e;refine⟨W,w,Q1 l1 (negR.low h.low) ?_⟩;rw[K4,<-e,e2];grind
 obtain⟨l1,l2,e2⟩:=key W w;have t:=(Q0 l2.pos h.low.pos).mp (h.top W w);refine (Q0 (negR.low h.low).pos l1.pos).mpr ?_;rw[K4];grind
theorem Good.negG {n:Nat}{r:Rat}(g:Good n r):Good n (negR r):=⟨by show (-r.1).natAbs<2 ^ n;rw[Y0E];exact g.b1,g.b2,g.pos,(negR.low g.low).cop⟩
def Refuses9 (C:Addr)(H:Hp)(E:XK)(c N X:Nat)(rss:UB):Prop:=∀ (d q:Addr) (ns:TU) (H':Hp),Same H H'->H q=none->H' d=some (.xd [("multiples",.ref q)])->H' q=some (.lst (ns.map V.int))->BeatN c rss N ns->(∀ z∈ns,Bd X z)->E (.ref C) (some d) H'
theorem Refuses9.same {E:XK}{c N X:Nat}(r:Refuses9 C H E c N X rss)(S:Same H H1):Refuses9 C H1 E c N X rss:=λd q ns H' S' fq=>r d q ns H' (S.trans S') (Ud S fq)
theorem Gh {l:Addr}{E:XK}(he:H1 e=none)(hl:H1 l=some (.lst xs))(hw:∀ (d q:Addr) (H':Hp),Same H1 H'->H1 q=none->H' d=some (.xd [("multiples",.ref q)])->H' q=some (.lst xs)->E (.ref C) (some d) H') :
  spErrInit K C [.ref e,.ref l] (upd H1 e (excN e C none)) (λv H2=>v=.non/\∃ dd,H2 e=some (excN e C dd)/\E (.ref C) dd (unT H2 e)) E0:=by
 have nl:l≠e:=Zd hl he;refine⟨e,l,xs,rfl,Zb,SqL.of (by rw[Ze nl];exact hl),λd q H' hq hd h1 h2 h3 kp=>⟨rfl,some d,h1,?_⟩⟩;have nq:q≠e:=λz=>by rw[z,Zb] at hq;cases hq
 have nd:d≠e:=λz=>by rw[z,Zb] at hd;cases hd
 rw[Ze nq] at hq;refine hw d q _ (λb o hb=>?_) hq (by rw[Vm nd];exact h2) (by rw[Vm nq];exact h3);have nb:b≠e:=Zd hb he;rw[Vm nb];exact kp b o (by rw[Ze nb];exact hb) nb
section
variable {P:TR}{w:World}{K:TQ}{mg:TB}{base:Heap}{C fI:Addr}{fdI:FuncData}
inductive spUpperX (K:TQ) (C:Addr) (vs:TY) (H:Hp) (Q:VK) (E:XK):Prop
 | i (l g:Addr) (c n N M:Nat) (os:UD) (as:UA) (D:Int) (Z:TU) (_:vs=[.int (c:Int),.ref l,.ref g]) (_:OffsAt K H l c os) (_:BookM c n N M os) (_:RowAt K H g as) (_:as.length=c) (_:RepL M D Z as) (_:2<=c) (_:c<=100) (_:(∀ (t q va lo:Addr) (v:Rat) (H':Hp),Same H H'->MostV c (gainsP os os.length) as v->Good (N+M) v->SqT K H' va [.int v.1,.int v.2]->SqT K H' t [.ref va,.ref q,.ref lo]->Q (.ref t) H')) (_:Refuses9 C H E c N (N+M) (gainsP os os.length))
theorem Cz (D:Def K mg "upper" jS VM)(x_NoFair:ExcI K mg "NoFair" C fI)(F_NoFair:FnOk P w K mg base CX0 1 fI fdI UE (spErrInit K C))(b_NoFair:Binds K fdI UE [])(fZ:Has P w K mg base 5 "solve" VA (spSolveN K))(fN:Has P w K mg base 5 "gains" VC (spGainsP K))(eV:Has P w K mg base 3 "made_whole" ["multiples"] (spMadeWhole K)):HasD P w K mg base 6 "upper" VM (spUpperX K C):=by
 refine D.hD9 (N:=["count","offers","row","found"]) fsc λH Q E hr h nd=>?_;obtain⟨l,g,c,n,N,M,os,as,D,Z,rfl,hO,bg,hg,la,ra,hc2,hc,k,kE⟩:=h;refine⟨_,(Z9 (Zi (i:=3) nd rfl (Or.inl rfl) (Zf fZ hr (Z0 (pv 0) (Z0 (Zf fN hr (Z0 (pv 1) Z8)) (Z0 Yj (Z0 (pv 2) Z8))))))
  (Z9 (Y4 (Zl Yy (Zj Yd (pv 3) Za (λ_ _=>rfl)) Xr (Zo _))
   (Zc (Gj x_NoFair F_NoFair b_NoFair (hr.mono (by decide)) rfl (Z0 (Zf eV hr (Z0 (Zj Yd (pv 3) Za (λ_ _=>rfl)) Z8)) Z8)))
   Zp)
  (Zc (Zh (Yc (Z0 (Zj Yd (pv 3) Za (λ_ _=>rfl)) (Z0 (Zj Yd (pv 3) Za (λ_ _=>rfl)) (Z0 (Zj Yd (pv 3) Za (λ_ _=>rfl)) Z8)))))))),?_⟩
 have few:=bg.few;have nN:=bg.nN;have sides:=bg.sides;have n1:=bg.m1;refine⟨_,rfl,_,rfl,l,c,n,os,rfl,hO,few,by omega,bg.n4,bg.good,λd H1 fd S1 hR1=>?_⟩;refine⟨_,rfl,d,g,.non,c,M,N,gainsP os os.length,none,as,rfl,hR1,rfl,hg.same S1,la,bg.rep,⟨_,_,ra⟩,by omega,by omega,by omega,by omega,λT' I=>bg.bd _ _ T' ⟨_,_,ra.cut none⟩ I,by omega,by omega,by omega,λT q t4 xs H4 fq S4 nt hq rs4 sq=>?_,λT q t4 va lo xs H4 fq S4 mt hq rs4 iv rl sq=>?_⟩
 ·refine⟨_,rfl,t4,_,_,_,rfl,rfl,sq,Zg (j:=0) rfl,rfl,_,rfl,Vf ?_⟩;have I:=nt.inv;have bd:=bg.bd _ _ _ ⟨_,_,ra.cut none⟩ I;have mr:=Mo (b:=1) bg.rep I.pos (TabOk.of I) bd (show (gainsP os os.length).length<(gainsP os os.length).length+2 by omega) (by decide) (Yv 1 (by decide) n1);refine⟨_,rfl,t4,_,_,_,rfl,rfl,sq,Zg (j:=1) rfl,q,xs,_,_,_,_,rfl,.inl (SqL.of hq),rs4,mr,by omega,by rw[Q8];omega,λd2 H5 fd2 S5 e5=>?_⟩;have S05:=(S1.trans S4).trans S5;refine⟨sz1,λe he=>?_⟩;exact Gh he e5 λd3 q2 H' S' fq2 e1 e2=>kE d3 q2 _ H' (S05.trans S') (Ud S05 fq2) e1 e2 (nt.beatN bg.rows bd) λz hz=>(mr.least.bdW z hz).mono (by omega)
 refine⟨_,rfl,t4,_,_,_,rfl,rfl,sq,Zg (j:=0) rfl,rfl,_,rfl,X9 ?_⟩;obtain⟨va',e,sv⟩:=iv
 cases e;refine⟨_,rfl,t4,_,_,_,rfl,rfl,sq,Zg (j:=1) rfl,_,rfl,t4,_,_,_,rfl,rfl,sq,Zg (j:=3) rfl,_,rfl,t4,_,_,_,rfl,rfl,sq,Zg (j:=2) rfl,sz3,λt hp=>?_⟩;have S5:Same H4 (upd H4 t (.tup [.ref va,.ref q,.ref lo])):=Same.new hp;have bd:=bg.bd _ _ _ ⟨_,_,ra.cut none⟩ mt.inv;have rr:RowR c as:=⟨la,_,_,_,ra⟩;exact k t q va lo _ _ ((S1.trans S4).trans S5) ((mt.conq bg.rows rr).most bg.rows (Z24 bg.rows) rr.lows la) (mt.goodM ra bd) (Zt S5 sv) (SqT.of Zb)
inductive spLowerX (K:TQ) (C:Addr) (vs:TY) (H:Hp) (Q:VK) (E:XK):Prop
 | i (l g:Addr) (c n N M:Nat) (os:UD) (as:UA) (D:Int) (Z:TU) (_:vs=[.int (c:Int),.ref l,.ref g]) (_:OffsAt K H l c os) (_:BookM c n N M os) (_:RowAt K H g as) (_:as.length=c) (_:RepL M D Z as) (_:2<=c) (_:c<=100) (_:(∀ (t q va lo:Addr) (u:Rat) (H':Hp),Same H H'->LeastV c (gainsP os os.length) as u->Good (N+M) u->SqT K H' va [.int u.1,.int u.2]->SqT K H' t [.ref va,.ref q,.ref lo]->Q (.ref t) H')) (_:Refuses9 C H E c N (N+M) (gainsP os os.length))
theorem Bf (D:Def K mg "lower" j1 VM)(fK:HasD P w K mg base 6 "upper" VM (spUpperX K C))(gT:Has P w K mg base 5 "turned" ["row"] (spTurned K))(fR:Has P w K mg base 3 "minus" UH (spTwo K subR))(eY:Con K mg "NOUGHT" (0,1)):HasD P w K mg base 7 "lower" VM (spLowerX K C):=by
 refine D.hD9 (N:=["count","offers","row","told"]) fsc λH Q E hr h nd=>?_;obtain⟨l,g,c,n,N,M,os,as,D,Z,rfl,⟨vs,hl,hP⟩,bg,hg,la,ra,hc2,hc,k,kE⟩:=h;obtain⟨c_NOUGHT,m_NOUGHT,s_NOUGHT⟩:=eY;refine⟨_,(Z9 (Zi (i:=3) nd rfl (Or.inl rfl) (V0 fK (hr.mono (by decide)) rfl Uu (Z0 (pv 0) (Z0 (pv 1) (Z0 (Zf gT hr (Z0 (pv 2) Z8)) Z8)))))
  (Zc (Zh (Yc (Z0 (Zf fR hr (Z0 (Yq (v:=.ref c_NOUGHT) rfl m_NOUGHT rfl) (Z0 (Zj Yd (pv 3) Za (λ_ _=>rfl)) Z8))) (Z0 (Zj Yd (pv 3) Za (λ_ _=>rfl)) (Z0 (Zj Yd (pv 3) Za (λ_ _=>rfl)) Z8))))))),?_⟩
 have nN:=bg.nN;have n1:=bg.m1;have ln:(as.map λr=>mulR' r (-1,1)).length=c:=by rw[YC];exact la
 refine⟨_,rfl,_,rfl,_,rfl,g,as,M,rfl,hg,by omega,ra.good,by omega,by omega,λg2 H1 S1 R1=>?_⟩;refine⟨l,g2,c,n,N,M,os,_,_,_,rfl,⟨vs,S1 _ _ hl,Zz hP (Ext.same S1)⟩,bg,R1,ln,Z2s ra,hc2,hc,λt q va lo v H2 S2 mv gv sv sq=>?_,kE.same S1⟩;refine⟨_,rfl,t,_,_,_,rfl,rfl,sq,Zg (j:=0) rfl,c_NOUGHT,va,(0,1),v,N+M,rfl,s_NOUGHT _,sv,⟨bd0 _,Yv 1 (by decide) (by omega),by decide,by decide⟩,gv,by omega,λm H3 fm S3 e3=>?_⟩;rw[Lr gv.low] at e3;have rr:RowR c as:=⟨la,_,_,_,ra⟩;have lv:=mv.leastq bg.rows rr.lows la;have sq3:=Zt S3 sq;refine⟨_,rfl,t,_,_,_,rfl,rfl,sq3,Zg (j:=1) rfl,_,rfl,t,_,_,_,rfl,rfl,sq3,Zg (j:=2) rfl,sz3,λt2 hp=>?_⟩;have S4:Same H3 (upd H3 t2 (.tup [.ref m,.ref q,.ref lo])):=Same.new hp;exact k t2 q m lo _ _ ((S1.trans S2).trans (S3.trans S4)) lv gv.negG (SqT.of (S4 _ _ e3)) (SqT.of Zb)
end
section
variable {P:TR}{w:World}{K:TQ}{mg:TB}{base:Heap}{C:Addr}
inductive spJoined (K:TQ) (vs:TY) (H:Hp) (Q:VK) (_z3:XK):Prop
 | i (l1 l2:Addr) (c:Nat) (os1 os2:UD) (_:vs=[.ref l1,.ref l2]) (_:OffsAt K H l1 c os1) (_:OffsAt K H l2 c os2) (_:os1.length+os2.length<=100) (_:∀ (l:Addr) (H':Hp),Same H H'->OffsAt K H' l c (os1++os2)->Q (.ref l) H')
theorem Bk (D:Def K mg "joined" jN UH)(T:Blt mg):Has P w K mg base 1 "joined" UH (spJoined K):=by
 refine D.h9 (N:=UH) fsc λH Q hr h nd=>?_;obtain⟨l1,l2,c,os1,os2,rfl,⟨v1,h1,p1⟩,⟨v2,h2,p2⟩,few,k⟩:=h;refine⟨_,(Zc (Zh (Zm Tu (Zw Y9 rfl T.list XA (Z0 (pv 0) Z8)) (Zw Y9 rfl T.list XA (Z0 (pv 1) Z8))))),?_⟩;have n1:=XG p1;have n2:=XG p2;refine⟨_,rfl,l1,v1,rfl,.inl (SqL.of h1),λa1 ha1=>?_⟩;have T1:=Same.new (o:=.lst v1) ha1;have f1:upd H a1 (.lst v1) a1=some (.lst v1):=Zb;generalize upd H a1 (.lst v1)=H1 at *
 refine⟨_,rfl,l2,v2,rfl,.inl (SqL.of (T1 _ _ h2)),λa2 ha2=>?_⟩;have T2:=Same.new (o:=.lst v2) ha2;have f2:upd H1 a2 (.lst v2) a2=some (.lst v2):=Zb;generalize upd H1 a2 (.lst v2)=H2 at *
 refine⟨a1,a2,_,_,rfl,rfl,T2 _ _ f1,f2,Zq (by omega),λl hl=>?_⟩;have T3:=Same.new (o:=.lst (v1++v2)) hl;have S:=(T1.trans T2).trans T3;exact k l _ S ⟨_,Zb,Paired.appP (Zz p1 (Ext.same S)) (Zz p2 (Ext.same S))⟩
inductive spPartX (K:TQ) (C:Addr) (vs:TY) (H:Hp) (Q:VK) (E:XK):Prop
 | i (l1 l2:Addr) (c N N':Nat) (os1 os2:UD) (_:vs=[.int (c:Int),.ref l1,.ref l2]) (_:OffsAt K H l1 c os1) (_:OffsAt K H l2 c os2) (_:BookP c N (os1++os2)) (_:BookM c 114 N' (N+119) os1) (_:BookM c 114 N' (N+119) os2) (_:(gainsP os1 os1.length).length<=24) (_:os1.length+os2.length<=100) (_:gainsP (os1++os2) (os1++os2).length=gainsP os1 os1.length++gainsP os2 os2.length) (_:(∀ rs∈gainsP os1 os1.length,rs.length=c/\∃ D Z,RepL 114 D Z rs)) (_:2<=c) (_:c<=100) (_:(∀ (H':Hp),Same H H'->(∃ W,WtsQ c (gainsP os1 os1.length++gainsP os2 os2.length) W)->Q .non H')) (_:(∀ (t ar ah al:Addr) (R:UA) (v u:Rat) (H':Hp),Same H H'->SqT K H' t [.ref ar,.ref ah,.ref al]->RowAt K H' ar R->PartR c (gainsP os1 os1.length) (gainsP os2 os2.length) R->(∃ D U,RepL (N+119) D U R)->MostV c (gainsP os1 os1.length) R v->LeastV c (gainsP os2 os2.length) R u->Good (N'+(N+119)) v->Good (N'+(N+119)) u->SqT K H' ah [.int v.1,.int v.2]->SqT K H' al [.int u.1,.int u.2]->Q (.ref t) H')) (_:Refuses9 C H E c N' (N'+(N+119)) (gainsP os1 os1.length)) (_:((∃ W,WtsQ c (gainsP os1 os1.length) W)->Refuses9 C H E c N' (N'+(N+119)) (gainsP os2 os2.length)))
theorem Z2e (D:Def K mg "parting" jA VN)(T:Blt mg)(eP:Z6 P w K mg base)(fT:Has P w K mg base 1 "joined" UH (spJoined K))(fN:Has P w K mg base 5 "gains" VC (spGainsP K))(gX:Has P w K mg base 5 "come_to" VL (spComeToI K))(fK:HasD P w K mg base 6 "upper" VM (spUpperX K C))(f7:HasD P w K mg base 7 "lower" VM (spLowerX K C)):HasD P w K mg base 8 "parting" VN (spPartX K C):=by
 refine D.hD9 (N:=["count","one","other","told","mine","row","high","low"]) fsc λH Q E hr h nd=>?_;obtain⟨l1,l2,c,N,N',os1,os2,rfl,⟨v1,h1,p1⟩,⟨v2,h2,p2⟩,bp,b1,b2,few1,few,eg,rep1,hc2,hc,kF,kB,kR1,kR2⟩:=h;refine⟨_,(Z9 (Zi (i:=3) nd rfl (Or.inl rfl) (Zf eP hr (Z0 (pv 0) (Z0 (Zf fT hr (Z0 (pv 1) (Z0 (pv 2) Z8))) Z8))))
  (Z9 (Y4 (Zl Yy (Zj Yd (pv 3) Za (λ_ _=>rfl)) Xr (Zo _))
   (Zc (Zh Yj))
   Zp)
  (Z9 (Zi (i:=4) nd rfl (Or.inl rfl) (Zf fN hr (Z0 (pv 1) Z8)))
  (Z9 (Zi (i:=5) nd rfl (Or.inl rfl) (Zf gX hr (Z0 (pv 0) (Z0 (pv 4) (Z0 (Cq Z14 (Zj Yd (pv 3) Za (λ_ _=>rfl)) Z1w (Z1v (Zx Y2 rfl T.len qp (Z0 (pv 4) Z8)))) Z8)))))
  (Z9 (Zi (i:=6) nd rfl (Or.inl rfl) (Zj Yd (V0 fK (hr.mono (by decide)) rfl Uu (Z0 (pv 0) (Z0 (pv 1) (Z0 (pv 5) Z8)))) Za (λ_ _=>rfl)))
  (Z9 (Zi (i:=7) nd rfl (Or.inl rfl) (Zj Yd (V0 f7 (hr.mono (by decide)) rfl Uu (Z0 (pv 0) (Z0 (pv 2) (Z0 (pv 5) Z8)))) Za (λ_ _=>rfl)))
  (Zc (Zh (Yc (Z0 (pv 5) (Z0 (pv 6) (Z0 (pv 7) Z8)))))))))))),?_⟩
 refine⟨_,rfl,_,rfl,_,rfl,l1,l2,c,os1,os2,rfl,⟨v1,h1,p1⟩,⟨v2,h2,p2⟩,few,λlj H1 S1 hj=>?_⟩;refine⟨lj,c,N,os1++os2,rfl,hj,bp,hc2,hc,λt q ns H2 S2 hq ht beat ⟨nb,hnb,bn⟩=>?_,λt lo ls H2 S2 ht _ hw _=>?_⟩
 case refine_2 =>
  have hq:=hw.toQ bp.rows;rw[eg] at hq;exact⟨_,rfl,t,_,_,_,rfl,rfl,ht,Zg (j:=0) rfl,rfl,_,rfl,Vf (kF _ (S1.trans S2) ⟨_,hq⟩)⟩
 rw[eg] at beat;refine⟨_,rfl,t,_,_,_,rfl,rfl,ht,Zg (j:=0) rfl,rfl,_,rfl,X9 ?_⟩;have S02:=S1.trans S2;refine⟨_,rfl,l1,c,114,os1,rfl,⟨v1,S02 _ _ h1,Zz p1 (Ext.same S02)⟩,b1.few,by omega,by decide,b1.good,λd H3 fd3 S3 hR3=>?_⟩;have S03:=S02.trans S3;obtain⟨ads,hd,hA⟩:=hR3;have la:=XG hA;refine⟨_,rfl,_,rfl,_,rfl,t,_,_,_,rfl,rfl,Zt S3 ht,Zg (j:=1) rfl,?_⟩;have lads:(ads.map V.ref).length=(gainsP os1 os1.length).length:=by rw[YC];exact la
 have lns:=beat.len;rw[YS] at lns;have hq3:=S3 _ _ hq;refine⟨_,rfl,d,_,rfl,.inl (SqL.of hd),_,rfl,q,_,rfl,SqL.of hq3,λpq hpq=>?_⟩;have ec:cutV (ns.map V.int) none (some (((ads.map V.ref).length:Nat):Int))=(ns.take (gainsP os1 os1.length).length).map V.int:=by
  rw[Z56 (by rw[lads,YC];omega),lads,List.map_take]
 rw[ec];have T4:=Same.new (o:=.lst ((ns.take (gainsP os1 os1.length).length).map V.int)) hpq;have f4:upd H3 pq (.lst ((ns.take (gainsP os1 os1.length).length).map V.int)) pq=some (.lst ((ns.take (gainsP os1 os1.length).length).map V.int)):=Zb;generalize upd H3 pq (.lst ((ns.take (gainsP os1 os1.length).length).map V.int))=H4 at *
 have nN:=bp.nN;refine⟨d,pq,c,gainsP os1 os1.length,ns.take (gainsP os1 os1.length).length,nb+1,rfl,⟨ads,T4 _ _ hd,Yw hA (Ext.same T4)⟩,f4,beat.lt,few1,by omega,λrs hr=>⟨(rep1 rs hr).1,λr h=>(rep1 rs hr).2.elim λD z=>z.elim λZ y=>(y.good r h).mono (by decide)⟩,by omega,by omega,λz hz=>(bn z (List.mem_of_mem_take hz)).mono (by omega),λar H5 S5 R5=>?_⟩;have rows1:∀ rs∈gainsP os1 os1.length,RowR c rs:=λrs hr=>RowR.of (rep1 rs hr).1 (rep1 rs hr).2;have part:=beat.part rows1;obtain⟨DR,UR,rR⟩:=beat.rep rep1 (by omega);replace R5:RowAt K H5 ar (comeW c (gainsP os1 os1.length) (intR (ns.take (gainsP os1 os1.length).length))):=R5;generalize comeW c (gainsP os1 os1.length) (intR (ns.take (gainsP os1 os1.length).length))=R at *
 have S05:=(S03.trans T4).trans S5;have rR':RepL (N+119) DR UR R:=rR;refine⟨_,rfl,_,rfl,_,rfl,l1,ar,c,114,N',N+119,os1,R,_,_,rfl,⟨v1,S05 _ _ h1,Zz p1 (Ext.same S05)⟩,b1,R5,part.len,rR',hc2,hc,λt6 q6 va6 lo6 u6 H6 S6 mv gv sv6 ht6=>?_,kR1.same S05⟩;have S06:=S05.trans S6;have w1:∃ W,WtsQ c (gainsP os1 os1.length) W:=by
  obtain⟨W,w,_⟩:=mv.hit;exact⟨W,w.toQ rows1⟩
 refine⟨t6,_,_,_,rfl,rfl,ht6,Zg (j:=0) rfl,?_⟩;refine⟨_,rfl,_,rfl,_,rfl,l2,ar,c,114,N',N+119,os2,R,_,_,rfl,⟨v2,S06 _ _ h2,Zz p2 (Ext.same S06)⟩,b2,R5.same S6,part.len,rR',hc2,hc,λt7 q7 va7 lo7 u7 H7 S7 lv gu sv7 ht7=>?_,(kR2 w1).same S06⟩;refine⟨t7,_,_,_,rfl,rfl,ht7,Zg (j:=0) rfl,?_⟩;refine⟨_,rfl,_,rfl,_,rfl,sz3,λtt htt=>?_⟩;have S8:=Same.new (o:=.tup [.ref ar,.ref va6,.ref va7]) htt;exact kB tt ar va6 va7 R _ _ _ ((S06.trans S7).trans S8) (SqT.of Zb) (R5.same ((S6.trans S7).trans S8)) part ⟨_,_,rR'⟩ mv lv gv gu (Zt (S7.trans S8) sv6) (Zt S8 sv7)
end
open Sv (sm)
section
variable {c N n X:Nat}{rss:UB}{ns:TU}
theorem BeatN.no (b:BeatN c rss N ns)(rows:∀ rs∈rss,RowR c rs){W:UA}(w:WtsQ c rss W):False:=by
 have b':BeatN c (rss++[]) N ns:=by rw[GS];exact b
 have p:=b'.part rows;have h1:=p.one W w;have h2:=p.two W ⟨w.len,w.low,w.nn,(λ_ h=>nomatch h),w.lie⟩;grind
theorem BeatN.come (b:BeatN c rss N ns)(rep:∀ rs∈rss,rs.length=c/\∃ D Z,RepL n D Z rs)(bn:∀ z∈ns,Bd X z)(hX:n<=X)(X1:1<=X):∃ D E,ComeR c X (N+n) rss (intR ns) D E/\∀ k,k<c->0<sm rss.length (λj=>E j k):=by
 obtain⟨D,y,hD,bD,hy⟩:=b.bits;have rows:∀ rs∈rss,RowR c rs:=λrs hr=>RowR.of (rep rs hr).1 (rep rs hr).2;have ln:=b.len;have key:∀ j k,j<rss.length->k<c->((AOf rss j k*y j:Int):QQ)=(D:QQ)*((ns.getD j 0:QQ)*qr (rss.getD j []) k):=λj k hj hk=>by
  have a:=congrArg (λz:Int=>(z:QQ)) (hy j hj).2;simp only [_root_.Rat.intCast_mul] at a;rw[_root_.Rat.intCast_mul,(N1 rows hj).2 k hk];grind
 refine⟨D,λj k=>AOf rss j k*y j,⟨hD,bD.mono (by omega),λrs hr=>(rep rs hr).1,by unfold intR;rw[YC];exact ln,λrs hr r h=>(rep rs hr).2.elim λD z=>z.elim λZ t=>(t.good r h).mono hX,λm hm=>?_,λj k rs r m e1 e2 e3=>?_⟩,λk hk=>?_⟩
 ·obtain⟨z,hz,rfl⟩:=XM.mp hm;exact⟨bn z hz,(show Bd X (1:Int) from Yv 1 (by decide) X1),(show (0:Int)<1 by decide),Y0i _⟩
 ·have hj:j<rss.length:=(YE.mp e1).1;have hr:=YG e1;have hk:k<c:=by
   have:=(YE.mp e2).1;rw[(rep rs hr).1] at this;exact this
  have lr:=(rows rs hr).lows r (YG e2);have lm:=Tm ns m (YG e3);refine⟨Lc (Wk lr lm).pos hD ?_,?_⟩
  ·have q2:qv m=(ns.getD j 0:QQ):=by
    have:=K7 (ns:=ns) (j:=j) (by omega);unfold qr at this;rw[Yu e3] at this;exact this
   have q1:qr (rss.getD j []) k=qv r:=by
    unfold qr;rw[Yu e1,Yu e2]
   have:=key j k hj hk;rw[K5 lr lm,this,q1,q2];have hd:=Xu hD;grind
  obtain⟨_,D',Z',rr⟩:=rep _ hr;have b2:Bd n (AOf rss j k):=by
   have:AOf rss j k=rowF rs k:=by
    unfold AOf rowF;rw[Yu e1]
   rw[this];exact Wz rr k
  have:=b2.mul (hy j hj).1;rw[zW] at this;exact this
 refine _root_.Rat.intCast_pos.mp ?_;rw[M3,Zu (λj hj=>key j k hj hk),Yo];exact _root_.Rat.mul_pos (W7 hD) (b.up k hk)
theorem PartR.apart {r1 r2:UB}{R:UA}{v u:Rat}(p:PartR c r1 r2 R)(rows1:∀ rs∈r1,RowR c rs)(rows2:∀ rs∈r2,RowR c rs)(mv:MostV c r1 R v)(lv:LeastV c r2 R u):0<(subR u v).1:=by
 obtain⟨W,w,e⟩:=mv.hit;obtain⟨W',w',e'⟩:=lv.hit;have wq:=w.toQ rows1;have wq':=w'.toQ rows2;have h1:=p.one W wq;have h2:=p.two W' wq';rw[<-Vb wq.low p.low wq.len p.len,e] at h1;rw[<-Vb wq'.low p.low wq'.len p.len,e'] at h2;have l:=Xx lv.low mv.low;have s:=Cg lv.low mv.low;refine Int.not_le.mp λz=>?_;have:=(Sr l.pos).mp z;grind
theorem MostV.uniq {v u:Rat}(h:MostV c rss as v)(h':MostV c rss as u)(rows:∀ rs∈rss,RowR c rs)(la:Lows as):v=u:=by
 obtain⟨W,w,e⟩:=h.hit;obtain⟨W',w',e'⟩:=h'.hit;have t1:=(Q0 (by rw[e'];exact h'.low.pos) h.low.pos).mp (h.top W' w');have t2:=(Q0 (by rw[e];exact h.low.pos) h'.low.pos).mp (h'.top W w);rw[e'] at t1;rw[e] at t2;exact Q1 h.low h'.low (by grind)
theorem LeastV.uniq {v u:Rat}(h:LeastV c rss as v)(h':LeastV c rss as u):v=u:=by
 obtain⟨W,w,e⟩:=h.hit;obtain⟨W',w',e'⟩:=h'.hit;have t1:=(Q0 h.low.pos (by rw[e'];exact h'.low.pos)).mp (h.bot W' w');have t2:=(Q0 h'.low.pos (by rw[e];exact h.low.pos)).mp (h'.bot W w);rw[e'] at t1;rw[e] at t2;exact Q1 h.low h'.low (by grind)
end
end Sb
namespace Sb
open PySem L2
structure BookE (c n s:Nat)(os:UD):Prop where
 few:os.length<=20
 off:∀ o∈os,OffN n c o
 sides:(gainsP os os.length).length<=s
structure SizeE (c n s:Nat):Prop where
 n114:n<=114
 n1:1<=n
 s14:s<=14
 e:(n+5)*s+(n+5)*min c (2*s+2)<=1666
 p:(n+5)*min c (2*s+2)<=1190
section
variable {c n s:Nat}{os os1 os2:UD}
theorem BookE.rep (h:∀ o∈os,OffN n c o):∀ rs∈gainsP os os.length,rs.length=c/\∃ D Z,RepL n D Z rs:=λrs hr=>by
 rw[Xn] at hr;obtain⟨o,ho,h2⟩:=List.mem_flatMap.mp hr;obtain⟨b,r,e,rfl⟩:=Kq h2;exact⟨by rw[Fo];exact (h o ho).len,(h o ho).gain b r e⟩
theorem BookE.rep114 (h:BookE c n s os)(z:SizeE c n s):∀ rs∈gainsP os os.length,rs.length=c/\∃ D Z,RepL 114 D Z rs:=λrs hr=>⟨(BookE.rep h.off rs hr).1,(BookE.rep h.off rs hr).2.elim λD y=>y.elim λZ r=>⟨D,Z,r.mono z.n114⟩⟩
theorem GoodO.mono9 {m:Nat}{o:Offr}(h:GoodO n o)(l:n<=m):GoodO m o:=⟨λr e=>(h.row r e).mono l,λr e=>(h.ask r e).mono l,λr e=>(h.bid r e).mono l⟩
theorem Vh:gainsP (os1++os2) (os1++os2).length=gainsP os1 os1.length++gainsP os2 os2.length:=by rw[Xn,Xn,Xn,zA]
theorem BookE.app {s':Nat}(h1:BookE c n s os1)(h2:BookE c n s' os2)(l:os1.length+os2.length<=20):BookE c n (s+s') (os1++os2):=by
 refine⟨by rw[YS];omega,λo ho=>(JF.mp ho).elim (h1.off o) (h2.off o),?_⟩;have:=h1.sides;have:=h2.sides;rw[Vh,YS];omega
theorem BookE.mono {n' s':Nat}(h:BookE c n s os)(hn:n<=n')(hs:s<=s'):BookE c n' s' os:=⟨h.few,λo ho=>⟨(h.off o ho).len,(h.off o ho).good.mono9 hn,λbb r e=>(h.off o ho).gain bb r e |>.elim λD y=>y.elim λZ q=>⟨D,Z,q.mono hn⟩⟩,YX h.sides hs⟩
theorem BookE.of {m:Nat}(few:os.length<=m)(m6:m<=6)(off:∀ o∈os,OffN n c o):BookE c n (2*m) os:=by
 refine⟨by omega,off,?_⟩;have:=L3 os;rw[Xn];omega
theorem BookE.p (h1:BookE c n s os1)(h2:BookE c n s os2)(z:SizeE c n s):BookP c ((n+5)*min c (2*s+2)+1) (os1++os2):=by
 have off:∀ o∈os1++os2,OffN n c o:=λo ho=>(JF.mp ho).elim (h1.off o) (h2.off o);have rep:=BookE.rep off;have f1:=h1.few;have f2:=h2.few;have n1:=h1.sides;have n2:=h2.sides;have s14:=z.s14;have p:=z.p;have e:(gainsP (os1++os2) (os1++os2).length).length=(gainsP os1 os1.length).length+(gainsP os2 os2.length).length:=by rw[Vh,YS]
 refine⟨by rw[YS];omega,λo ho=>(off o ho).good.mono9 z.n114,λrs hr=>⟨(rep rs hr).1,(rep rs hr).2.elim λD y=>y.elim λZ r=>⟨D,Z,r.mono z.n114⟩⟩,by omega,by omega,λgs T' rg I=>?_⟩;have key:=De rep (rg.elim λD y=>y.elim λZ r=>⟨D,Z,r.mono z.n1⟩) z.n1 (by omega) I;have hb:bitsOf n c (gainsP (os1++os2) (os1++os2).length).length<=(n+5)*min c (2*s+2)+1:=by
  unfold bitsOf;have:=GG (n+5) (show min c ((gainsP (os1++os2) (os1++os2).length).length+2)<=min c (2*s+2) by omega);omega
 exact⟨λi j hi hj=>(key.l i j hi hj).mono hb,key.b.mono hb⟩
theorem BookE.m (h:BookE c n s os)(z:SizeE c n s):BookM c 114 ((n+5)*s+((n+5)*min c (2*s+2)+1+119)+12) ((n+5)*min c (2*s+2)+1+119) os:=by
 have rep:=BookE.rep h.off;have few:=h.few;have n1:=h.sides;have n114:=z.n114;have s14:=z.s14;have e:=z.e;have p:=z.p;refine⟨by omega,λo ho=>(h.off o ho).good.mono9 n114,λrs hr=>⟨(rep rs hr).1,(rep rs hr).2.elim λD y=>y.elim λZ r=>⟨D,Z,r.mono (by omega)⟩⟩,by omega,by omega,by decide,by omega,λo gs T' rg I=>?_⟩;have key:=Z13 (nb:=λ_=>n) (λr rs e=>(rep rs (YG e)).2) rg (by omega) I;have hN:Sv.sN (gainsP os os.length).length (λ_=>n+5)+((n+5)*min c (2*s+2)+1+119)+12<=(n+5)*s+((n+5)*min c (2*s+2)+1+119)+12:=by
  have t:=Sv.sN_const (f:=λ_=>n+5) (M:=n+5) (n:=(gainsP os os.length).length) λk hk=>YD _;have u:=GG (n+5) n1;rw[qf] at t;omega
 exact⟨λi j hi hj=>(key.l i j hi hj).mono hN,key.b.mono hN⟩
end
theorem Rj {a:Int}(h:decide (V.int a=V.int b)=true):a=b:=V.int.inj (XH h)
theorem Sd {t:TS}{Ds:Ends}{σ:L2.St}(h:t Ds σ H):tJ t Ds σ H:=⟨Ds.nx,h,λ_ _ z=>z⟩
theorem WtsR.opt {c:Nat}{a:Addr}{ws:UA}(w:WtsR c Ws ws)(r:RowAt K H a ws):WOpt K H c 10 (.ref a):=.inr ⟨a,ws,_,_,rfl,r,w.len,w.rep⟩
section
variable {P:TR}{w:World}{K:TQ}{mg:TB}{base:Heap}
theorem OffsAt.x {l b:Addr}{c n:Nat}(h:OffsAt K H l c os)(B:BagAt H b n)(S:SameX b H H')(ne:l≠b):OffsAt K H' l c os:=h.elim λvs z=>⟨vs,S _ _ z.1 ne,Zz z.2 (Ext.bag S B)⟩
theorem OffsAt.same {H H':Hp}{l:Addr}{c:Nat}{os:UD}(h:OffsAt K H l c os)(S:Same H H'):OffsAt K H' l c os:=h.elim λvs z=>⟨vs,S _ _ z.1,Zz z.2 (Ext.same S)⟩
inductive spTwoB (K:TQ) (vs:TY) (H:Hp) (Q:VK) (_z3:XK):Prop
 | i (b:Addr) (c m n:Nat) (_:vs=[.ref b,.int (c:Int),.int (m:Int)]) (_:BagAt H b n) (_:n<=1000) (_:2<=c) (_:c<=12) (_:m<=6) (_:2*m+min c (4*m+2)<=14) (_:∀ (t l1 l2:Addr) (H':Hp) (n s:Nat) (os1 os2:UD),SqT K H' t [.ref l1,.ref l2]->OffsAt K H' l1 c os1->OffsAt K H' l2 c os2->BookE c n s os1->BookE c n s os2->SizeE c n s->Q (.ref t) H')
theorem Z4i (D:Def K mg "_law_two" kO VO)(T:Blt mg)(eC:Z1 P w K mg base)(fJ:Has P w K mg base 3 "_law_weights" VE (spWeightsR K))(gL:Has P w K mg base 4 "_law_near" VI (spNear K))(fP:Has P w K mg base 5 "_law_offer" VH (spOfferO K))(fM:Has P w K mg base 5 "_law_sure" VE (spSureN K)):Has P w K mg base 6 "_law_two" VO (spTwoB K):=by
 refine D.h9 (N:=["_law_bag_here","_law_count","_law_most","_law_way","_law_weights_here","_law_others","_law_one","_law_other"]) fsc λH Q hr h nd=>?_;obtain⟨b,c,m,n,rfl,hB,hn,c2,c12,m6,sz,k⟩:=h;have nd1:(VP:List Str).Nodup:=by decide +kernel
 have nd2:(["_law_k","_law_bag_here","_law_count","_law_others"]:List Str).Nodup:=by decide +kernel
 refine⟨_,(Z9 (Zi (i:=3) nd rfl (Or.inl rfl) (Zf eC hr (Z0 (pv 0) (Z0 Za Z8))))
  (Z9 (Zi (i:=4) nd rfl (Or.inr rfl) (Zf fJ hr (Z0 (pv 0) (Z0 (pv 1) Z8))))
  (Z9 (Zi (i:=5) nd rfl (Or.inr rfl) (Zf fJ hr (Z0 (pv 0) (Z0 (pv 1) Z8))))
  (Z9 (Yk (Y4 (Zl Yy (pv 3) Za (Zo _))
   (Zc (Zi (i:=5) nd rfl (Or.inr rfl) (pv 4)))
   Zp))
  (Z9 (Yk (Y4 (Zl Yy (pv 3) Za (Zo _))
   (Zc (Zi (i:=5) nd rfl (Or.inr rfl) Yj))
   Zp))
  (Z9 (Yk (Y4 (Zl Yy (pv 3) Za (Zo _))
   (Zc (Zi (i:=5) nd rfl (Or.inr rfl) (Zf gL hr (Z0 (pv 4) (Z0 (pv 5) Z8)))))
   Zp))
  (Z9 (Yk (Wi (i:=6) (N:=VP) (k:=1) (fv:=[0,1,4]) nd rfl (Or.inl rfl) rfl (Yl rfl T.range (Z0 (Zf eC hr (Z0 (pv 0) (Z0 (Zm Yx (pv 2) Za) Z8))) Z8))
  (λ_ _ _ _ _=>Zk (i:=0) nd1 rfl (Or.inl rfl)) (λ_ _ _ _ _=>Ya) (λ_ _ _ _ _=>(Zf fP hr (Z0 (pv 1) (Z0 (pv 2) (Z0 (pv 3) Z8))))) Y0))
  (Z9 (Yk (Wi (i:=7) (N:=["_law_k","_law_bag_here","_law_count","_law_others"]) (k:=1) (fv:=[0,1,5]) nd rfl (Or.inl rfl) rfl (Yl rfl T.range (Z0 (Zf eC hr (Z0 (pv 0) (Z0 (Zm Yx (pv 2) Za) Z8))) Z8))
  (λ_ _ _ _ _=>Zk (i:=0) nd2 rfl (Or.inl rfl)) (λ_ _ _ _ _=>Ya) (λ_ _ _ _ _=>(Zf fP hr (Z0 (pv 1) (Z0 (pv 2) (Z0 (pv 3) Z8))))) Y0))
  (Z9 (Yk (Y4 (PW.pt (Na (Zl Yy (pv 3) Za (Zo _)) (Rg (Zl Yy (Zf eC hr (Z0 (pv 0) (Z0 Za Z8))) Za (Zo _)))))
   (Zc (Yk (Zi (i:=7) nd rfl (Or.inl rfl) (Zm Tu (pv 7) (Zf fM hr (Z0 (pv 0) (Z0 (pv 1) Z8)))))))
   Zp))
  (Z9 (Yk (Y4 (PW.pt (Na (Zl Yy (pv 3) Za (Zo _)) (Rg (Zl Yy (Zf eC hr (Z0 (pv 0) (Z0 Za Z8))) Za (Zo _)))))
   (Z9 (Yk (Zi (i:=6) nd rfl (Or.inl rfl) (Zm Tu (pv 6) (Zf fM hr (Z0 (pv 0) (Z0 (pv 1) Z8))))))
   (Zc (Yk (Zi (i:=7) nd rfl (Or.inl rfl) (Zm Tu (pv 7) (Zf fM hr (Z0 (pv 0) (Z0 (pv 1) Z8))))))))
   Zp))
  (Z9 (Y4 (Zl Yy (Zf eC hr (Z0 (pv 0) (Z0 Za Z8))) Za (Zo _))
   (Zc (Zh (Yc (Z0 (pv 6) (Z0 (pv 7) Z8)))))
   Zp)
  (Zc (Zh (Yc (Z0 (pv 7) (Z0 (pv 6) Z8)))))))))))))))),?_⟩
 refine⟨_,rfl,b,_,_,rfl,hB,by omega,by decide,by decide +kernel,λy H1 y0 y1 B1 S1=>?_⟩;refine⟨_,rfl,_,rfl,b,c,_,rfl,B1,by omega,by omega,by omega,λaw H3 Ws ws B3 S3 Rw wt=>?_⟩;refine⟨_,rfl,_,rfl,b,c,_,rfl,B3,by omega,by omega,by omega,λau H4 Us us B4 S4 Ru wu=>?_⟩;replace Rw:=Rw.ext (Ext.bag S4 B3);clear B1 B3 S1 S3 S4 hB;refine⟨λσ H'=>∃ (ao:Addr) (Vs:TU) (vs:UA),σ=[some (.ref b),some (.int c),some (.int m),some (.int y),some (.ref aw),some (.ref ao),none,none]/\H4=H'/\RowAt K H4 ao vs/\WtsR c Vs vs,?_,?_⟩
 ·refine⟨_,rfl,rfl,_,rfl,?_⟩;exact X6 (λ_=>⟨_,rfl,aw,Ws,ws,rfl,rfl,Rw,wt⟩) (λ_=>⟨au,Us,us,rfl,rfl,Ru,wu⟩)
 rintro σ _ ⟨ao,Vs,vs,rfl,rfl,Ro,wo⟩;refine⟨λσ H'=>∃ (vo:V),σ=[some (.ref b),some (.int c),some (.int m),some (.int y),some (.ref aw),some vo,none,none]/\H4=H'/\(vo=.non \/ vo=.ref ao)/\(y=4->vo=.ref ao),?_,?_⟩
 ·refine⟨_,rfl,rfl,_,rfl,?_⟩;exact X6 (λh=>⟨.non,rfl,rfl,.inl rfl,λz=>by have:=Rj h;omega⟩) (λ_=>⟨.ref ao,rfl,rfl,.inr rfl,λ_=>rfl⟩)
 rintro σ _ ⟨vo,rfl,rfl,hvo,hv4⟩;have wopt:WOpt K H4 c 10 vo:=hvo.elim .inl λe=>by rw[e];exact wo.opt Ro
 refine⟨λσ H'=>∃ (vo:V) (mw:Nat),σ=[some (.ref b),some (.int c),some (.int m),some (.int y),some (.ref aw),some vo,none,none]/\Same H4 H'/\WOpt K H' c mw vo/\mw<=78/\(y≠4->mw=10),?_,?_⟩
 ·refine⟨_,rfl,rfl,_,rfl,?_⟩;refine X6 (λh=>?_) (λ_=>⟨vo,10,rfl,Same.refl _,wopt,by decide,λ_=>rfl⟩);have y4:=Rj h;obtain rfl:=hv4 y4;refine⟨_,rfl,_,rfl,aw,ao,c,ws,vs,rfl,Rw,Ro,wt.len,wo.len,λr h=>(wt.rep.good r h).mono (by decide),λr h=>(wo.rep.good r h).mono (by decide),by omega,λp H6 S6 R6=>?_⟩;obtain⟨D,U,rU⟩:=Bw wt wo;exact⟨_,78,rfl,S6,.inr ⟨p,_,D,U,rfl,R6,Mn wt.len wo.len,rU⟩,by decide,λz=>absurd y4 z⟩
 rintro σ H6 ⟨ve,mw,rfl,S46,We,m78,mw4⟩;have Ww:WOpt K H6 c 10 (.ref aw):=wt.opt (Rw.same S46);replace B4:=B4.same S46;have lim:∀ {g:Nat},g<=m->(4*c+10)*g<=58*6:=λh=>Y0F (by omega) (by omega);clear Ru wu Ro wo wt Rw S46 wopt hv4 hvo;obtain⟨N,s,hN,hs,hNm,sz9⟩:∃ N s:Nat,66<=N/\2*m<=s/\mw+36<=N/\SizeE c N s/\(y≠4->2*m+2<=s):=by
  by_cases h:y=4
  ·refine⟨114,2*m,by decide,by omega,by omega,⟨by decide,by decide,by omega,?_,?_⟩,λz=>absurd h z⟩
   ·rw[show 2*(2*m)+2=4*m+2 by omega];omega
   rw[show 2*(2*m)+2=4*m+2 by omega];rcases Y10 m 2 with q | q <;> omega
  have:=mw4 h;refine⟨66,2*m+2,by decide,by omega,by omega,⟨by decide,by decide,by omega,?_,?_⟩,λ_=>YD _⟩
  ·rw[show 2*(2*m+2)+2=4*m+6 by omega];omega
  rw[show 2*(2*m+2)+2=4*m+6 by omega];omega
 obtain⟨sE,s3⟩:=sz9;refine⟨λσ H'=>∃ (l:Addr) (os:UD),σ=[some (.ref b),some (.int c),some (.int m),some (.int y),some (.ref aw),some ve,some (.ref l),none]/\BagAt H' b (n+500)/\WOpt K H' c mw ve/\OffsAt K H' l c os/\l≠b/\BookE c N (2*m) os/\os.length<=m,?_,?_⟩
 ·refine⟨_,rfl,_,rfl,_,_,rfl,rfl,b,_,_,rfl,B4,by omega,by omega,(Sm (x:=(m:Int)+1) (by omega) (by omega)).log (by decide),λg H7 g0 g1 B7 S7=>?_⟩;obtain⟨g,rfl⟩:=zj g0;refine⟨_,rfl,by omega,by omega,λd hd=>?_⟩;have et:((g:Nat):Int).toNat=g:=by omega
  rw[et];have gm:g<=m:=by omega
  have hdb:d≠b:=by
   obtain⟨ys,e⟩:=B7.lst;exact (Zd e hd).symm
  have x7:=(Ext.bag S7 B4).trans (Ext.new (o:=.lst []) hd);refine⟨g,λi ys H'=>WOpt K H' c 10 (.ref aw)/\WOpt K H' c mw ve/\BagAt H' b (n+50+(4*c+10)*i)/\∃ os:List Offr,Paired (λv o=>OffAt K H' c o v) ys os/\os.length=i/\∀ o∈os,OffN 46 c o,Zq (by omega),⟨Ww.ext x7,We.ext x7,(B7.upd (XJ hdb)).mono (by omega),[],.nil,rfl,(λ_ h=>nomatch h)⟩,?_,?_⟩
  ·rintro i ys H8 hi ⟨Rw8,Re8,B8,os,P8,l8,ok8⟩ hd8;refine⟨hi,?_⟩;rintro x H9 ⟨rfl,rfl⟩;refine Yh ?_;have bnd:=lim (g:=i) (by omega);refine⟨_,rfl,_,rfl,_,rfl,b,.ref aw,c,_,10,rfl,B8,by omega,Rw8,by decide,by omega,by omega,λv H10 o B10 S10 O10 ok10=>?_⟩;have hd10:H10 d=some (.lst ys):=S10 _ _ hd8 hdb;have xu:=(Ext.bag S10 B8).trans (Ext.upd (o:=.lst (ys++[v])) hd10);exact⟨hd10,Rw8.ext xu,Re8.ext xu,(B10.upd (XJ hdb)).mono (by rw[Y0G];omega),os++[o],zR (Zz P8 xu) (O10.ext (Ext.upd hd10)),by rw[YS,l8];rfl,λo' ho=>(JF.mp ho).elim (ok8 o') λz=>by rw[JQ.mp z];exact ok10⟩
  rintro ys H8 ⟨Rw8,Re8,B8,os,P8,l8,ok8⟩ hd8;have bnd:=lim gm;have os6:os.length<=m:=by omega
  exact⟨YD _,d,os,rfl,B8.mono (by omega),Re8,⟨ys,hd8,P8⟩,hdb,(BookE.of os6 m6 ok8).mono (by omega) (YD _),os6⟩
 rintro σ H7 ⟨l1,os1,rfl,B7,We7,⟨v1,h1,p1⟩,nlb,bk1,few1⟩;clear B4 Ww We;refine⟨λσ H'=>∃ (l:Addr) (os:UD),σ=[some (.ref b),some (.int c),some (.int m),some (.int y),some (.ref aw),some ve,some (.ref l1),some (.ref l)]/\BagAt H' b (n+1000)/\OffsAt K H' l1 c os1/\OffsAt K H' l c os/\l≠b/\BookE c N (2*m) os/\os.length<=m,?_,?_⟩
 ·refine⟨_,rfl,_,rfl,_,_,rfl,rfl,b,_,_,rfl,B7,by omega,by omega,(Sm (x:=(m:Int)+1) (by omega) (by omega)).log (by decide),λg H8 g0 g1 B8 S8=>?_⟩;obtain⟨g,rfl⟩:=zj g0;refine⟨_,rfl,by omega,by omega,λd hd=>?_⟩;have et:((g:Nat):Int).toNat=g:=by omega
  rw[et];have gm:g<=m:=by omega
  have hdb:d≠b:=by
   obtain⟨ys,e⟩:=B8.lst;exact (Zd e hd).symm
  have h18:=S8 _ _ h1 nlb;have hdl:l1≠d:=Zd h18 hd;have x8:=(Ext.bag S8 B7).trans (Ext.new (o:=.lst []) hd);refine⟨g,λi ys H'=>(H' l1=some (.lst v1)/\Paired (λv o=>OffAt K H' c o v) v1 os1)/\WOpt K H' c mw ve/\BagAt H' b (n+510+(4*c+10)*i)/\∃ os:List Offr,Paired (λv o=>OffAt K H' c o v) ys os/\os.length=i/\∀ o∈os,OffN (mw+36) c o,Zq (by omega),⟨⟨by rw[Ze hdl];exact h18,Zz p1 x8⟩,We7.ext x8,(B8.upd (XJ hdb)).mono (by omega),[],.nil,rfl,(λ_ h=>nomatch h)⟩,?_,?_⟩
  ·rintro i ys H9 hi ⟨⟨h19,p19⟩,Re9,B9,os,P9,l9,ok9⟩ hd9;refine⟨hi,?_⟩;rintro x H9' ⟨rfl,rfl⟩;refine Yh ?_;have bnd:=lim (g:=i) (by omega);refine⟨_,rfl,_,rfl,_,rfl,b,ve,c,_,mw,rfl,B9,by omega,Re9,by omega,by omega,by omega,λv H10 o B10 S10 O10 ok10=>?_⟩;have hd10:H10 d=some (.lst ys):=S10 _ _ hd9 hdb;have xu:=(Ext.bag S10 B9).trans (Ext.upd (o:=.lst (ys++[v])) hd10);exact⟨hd10,⟨by rw[Ze hdl];exact S10 _ _ h19 nlb,Zz p19 xu⟩,Re9.ext xu,(B10.upd (XJ hdb)).mono (by rw[Y0G];omega),os++[o],zR (Zz P9 xu) (O10.ext (Ext.upd hd10)),by rw[YS,l9];rfl,λo' ho=>(JF.mp ho).elim (ok9 o') λz=>by rw[JQ.mp z];exact ok10⟩
  rintro ys H9 ⟨⟨h19,p19⟩,Re9,B9,os,P9,l9,ok9⟩ hd9;have bnd:=lim gm;have os6:os.length<=m:=by omega
  exact⟨YD _,d,os,rfl,B9.mono (by omega),⟨v1,h19,p19⟩,⟨ys,hd9,P9⟩,hdb,(BookE.of os6 m6 ok9).mono hNm (YD _),os6⟩
 rintro σ H8 ⟨l2,os2,rfl,B8,O1,O2,nlb2,bk2,few2⟩;clear B7 h1 p1 We7;have cat:∀ {H H':Hp} {n':Nat} {l l':Addr} {os os':UD} {vs':TY} {t:Addr},OffsAt K H l c os->BagAt H b n'->SameX b H H'->l≠b->H' l'=some (.lst vs')->Paired (λv o=>OffAt K H' c o v) vs' os'->os'.length=2->os.length<=m->∃ vs,H' l=some (.lst vs)/\vs.length+vs'.length<=1000/\∀ t,H' t=none->OffsAt K (upd H' t (.lst (vs++vs'))) t c (os++os'):=λO B S ne h' P' l2 lm=>by
  obtain⟨vs,e,p⟩:=O.x B S ne;have:=XG p;have:=XG P';exact⟨vs,e,by omega,λt ht=>⟨_,Zb,Paired.appP (Zz p (Ext.new ht)) (Zz P' (Ext.new ht))⟩⟩
 refine⟨λσ H'=>∃ (l:Addr) (os:UD),σ=[some (.ref b),some (.int c),some (.int m),some (.int y),some (.ref aw),some ve,some (.ref l1),some (.ref l)]/\BagAt H' b (n+1100)/\OffsAt K H' l1 c os1/\OffsAt K H' l c os/\l≠b/\BookE c N s os/\(y=3->BookE c N (2*m) os/\os.length<=m),?_,?_⟩
 ·refine⟨_,rfl,rfl,_,rfl,?_⟩;refine X6 (λh=>?_) (λh=>⟨l2,os2,rfl,B8.mono (by omega),O1,O2,nlb2,bk2.mono (YD _) hs,λ_=>⟨bk2,few2⟩⟩);have y2:=Rj h;refine⟨_,rfl,b,_,_,rfl,B8,by omega,by decide,by decide +kernel,λz H9 z0 z1 B9 S9=>⟨rfl,_,rfl,?_⟩⟩;refine X6 (λ_=>?_) (λ_=>⟨l2,os2,rfl,B9.mono (by omega),O1.x B8 S9 nlb,O2.x B8 S9 nlb2,nlb2,bk2.mono (YD _) hs,λ_=>⟨bk2,few2⟩⟩);refine Sd ⟨_,rfl,_,rfl,_,rfl,b,c,_,rfl,B9,by omega,by omega,by omega,λl6 H10 vs6 os6 B10 S10 h6 P6 len6 ok6 sd6=>?_⟩;obtain⟨vs,e,few,mk⟩:=cat (O2.x B8 S9 nlb2) B9 S10 nlb2 h6 P6 len6 few2 (t:=b);refine⟨l2,l6,vs,vs6,rfl,rfl,e,h6,Zq few,λp hp=>?_⟩;have npb:p≠b:=by
   obtain⟨ys,e⟩:=B10.lst;exact (Zd e hp).symm
  have T:=Same.new (o:=.lst (vs++vs6)) hp;exact⟨p,os2++os6,rfl,(B10.same T).mono (by omega),((O1.x B8 S9 nlb).x B9 S10 nlb).same T,mk p hp,npb,(bk2.app (BookE.mono ⟨by omega,ok6,sd6⟩ hN (YD 2)) (by omega)).mono (YD _) (s3 (by omega)),λz=>by omega⟩
 rintro σ H9 ⟨l3,os3,rfl,B9,O19,O3,nlb3,bk3,bk33⟩;refine⟨λσ H'=>∃ (l l':Addr) (os os':UD),σ=[some (.ref b),some (.int c),some (.int m),some (.int y),some (.ref aw),some ve,some (.ref l),some (.ref l')]/\BagAt H' b (n+1300)/\OffsAt K H' l c os/\OffsAt K H' l' c os'/\l≠b/\l'≠b/\BookE c N s os/\BookE c N s os',?_,?_⟩
 ·refine⟨_,rfl,rfl,_,rfl,?_⟩;refine X6 (λh=>?_) (λh=>⟨l1,l3,os1,os3,rfl,B9.mono (by omega),O19,O3,nlb,nlb3,bk1.mono (YD _) hs,bk3⟩);have y3:=Rj h;obtain⟨bk3',few3⟩:=bk33 y3;refine⟨_,rfl,b,_,_,rfl,B9,by omega,by decide,by decide +kernel,λz H10 z0 z1 B10 S10=>⟨rfl,_,rfl,?_⟩⟩;have O1a:=O19.x B9 S10 nlb;have O3a:=O3.x B9 S10 nlb3;refine X6 (λ_=>?_) (λ_=>⟨l1,l3,os1,os3,rfl,B10.mono (by omega),O1a,O3a,nlb,nlb3,bk1.mono (YD _) hs,bk3⟩);refine Sd ⟨_,rfl,_,rfl,_,rfl,b,c,_,rfl,B10,by omega,by omega,by omega,λl6 H11 vs6 os6 B11 S11 h6 P6 len6 ok6 sd6=>?_⟩;obtain⟨vs,e,few,mk⟩:=cat O1a B10 S11 nlb h6 P6 len6 few1 (t:=b);refine⟨l1,l6,vs,vs6,rfl,rfl,e,h6,Zq few,λp hp=>?_⟩;have npb:p≠b:=by
   obtain⟨ys,e⟩:=B11.lst;exact (Zd e hp).symm
  have T:=Same.new (o:=.lst (vs++vs6)) hp;have Oa:=mk p hp;have Ob:=(O3a.x B10 S11 nlb3).same T;have B12:=B11.same T;generalize upd H11 p (.lst (vs++vs6))=H12 at *
  have ba:BookE c N s (os1++os6):=(bk1.app (BookE.mono ⟨by omega,ok6,sd6⟩ hN (YD 2)) (by omega)).mono (YD _) (s3 (by omega));refine Sd ⟨_,rfl,_,rfl,_,rfl,b,c,_,rfl,B12,by omega,by omega,by omega,λl7 H13 vs7 os7 B13 S13 h7 P7 len7 ok7 sd7=>?_⟩;obtain⟨vs',e',few',mk'⟩:=cat Ob B12 S13 nlb3 h7 P7 len7 few3 (t:=b);refine⟨l3,l7,vs',vs7,rfl,rfl,e',h7,Zq few',λp' hp'=>?_⟩;have npb':p'≠b:=by
   obtain⟨ys,e⟩:=B13.lst;exact (Zd e hp').symm
  have T':=Same.new (o:=.lst (vs'++vs7)) hp';exact⟨p,p',_,_,rfl,(B13.same T').mono (by omega),(Oa.x B12 S13 npb).same T',mk' p' hp',npb,npb',ba,(bk3'.app (BookE.mono ⟨by omega,ok7,sd7⟩ hN (YD 2)) (by omega)).mono (YD _) (s3 (by omega))⟩
 rintro σ H10 ⟨la,lb,oa,ob,rfl,B10,Oa,Ob,na,nb,ka,kb⟩;refine⟨_,rfl,b,_,_,rfl,B10,by omega,by decide,by decide +kernel,λz H11 z0 z1 B11 S11=>⟨rfl,_,rfl,?_⟩⟩;replace Oa:=Oa.x B10 S11 na;replace Ob:=Ob.x B10 S11 nb;refine X6 (λ_=>?_) (λ_=>?_)
 ·refine⟨_,rfl,_,rfl,sz2,λt ht=>?_⟩;have T:=Same.new (o:=.tup [.ref la,.ref lb]) ht;exact k t la lb _ N s oa ob (SqT.of Zb) (Oa.same T) (Ob.same T) ka kb sE
 refine⟨_,rfl,_,rfl,sz2,λt ht=>?_⟩;have T:=Same.new (o:=.tup [.ref lb,.ref la]) ht;exact k t lb la _ N s ob oa (SqT.of Zb) (Ob.same T) (Oa.same T) kb ka sE
theorem Gx (D:Def K mg "_law_gains" jL ["_law_offers"])(eF:Z4 P w K mg base)(T:Blt mg)(eL:Has P w K mg base 1 "_law_inside" VG (spInside K)):Has P w K mg base 4 "_law_gains" ["_law_offers"] (spGainsP K):=by
 refine D.h9 (N:=["_law_offers","_law_rows","_law_row_here","_law_ask","_law_bid","_law_event_here"]) fsc λH Q hr h nd=>?_;obtain⟨l,c,n,os,rfl,⟨vs,hl,hO⟩,hlen,hc,hn,g,k⟩:=h;have nd1:(["_law_part","_law_ask"]:List Str).Nodup:=by decide +kernel
 have nd2:(["_law_part","_law_bid"]:List Str).Nodup:=by decide +kernel
 refine⟨_,(Z9 (Zi (i:=1) nd rfl (Or.inl rfl) (X4 Z8))
  (Z9 (Xm XY rfl (Xk (pv 0)) (W9 (n:=4) rfl (Y3 (Zk (i:=2) nd rfl (Or.inl rfl)) (Y3 (Zk (i:=3) nd rfl (Or.inr rfl)) (Y3 (Zk (i:=4) nd rfl (Or.inr rfl)) (Y3 (Zk (i:=5) nd rfl (Or.inl rfl)) Xl)))))
   (Z9 (Yk (Y4 (Zl Tf (pv 3) Yj (Zo _))
    (Zc (X7 (Wu XE XT XU Yn (pv 1) (Z0 (Zf eL hr (Z0 (Zw Zy rfl T.tuple YZ (Z0 (Ym (N:=["_law_part","_law_ask"]) (k:=1) (fv:=[3]) rfl (V5 (pv 2))
  (λ_ _ _ _ _=>Zk (i:=0) nd1 rfl (Or.inl rfl)) (λ_ _ _ _ _=>Ya) (λ_ _ _ _ _=>(Zf eF hr (Z0 (pv 0) (Z0 (pv 1) Z8)))) Y0) Z8)) (Z0 (pv 5) Z8))) Z8))))
    Zp))
   (Zc (Y4 (Zl Tf (pv 4) Yj (Zo _))
    (Zc (X7 (Wu XE XT XU Yn (pv 1) (Z0 (Zf eL hr (Z0 (Zw Zy rfl T.tuple YZ (Z0 (Ym (N:=["_law_part","_law_bid"]) (k:=1) (fv:=[4]) rfl (V5 (pv 2))
  (λ_ _ _ _ _=>Zk (i:=0) nd2 rfl (Or.inl rfl)) (λ_ _ _ _ _=>Ya) (λ_ _ _ _ _=>(Zf eF hr (Z0 (pv 1) (Z0 (pv 0) Z8)))) Y0) Z8)) (Z0 (pv 5) Z8))) Z8))))
    Zp))))
  (Zc (Zh (pv 1))))),?_⟩
 have lo:=XG hO;refine⟨sz0,λd hd=>?_⟩;have S0:Same H (upd H d (.lst [])):=Same.new hd;have up:∀ (zs:TY) (H1:Hp),Same H H1->Same H (upd H1 d (.lst zs)):=λzs H1 S1 q o e=>by
  rw[Ze (Zd e hd)];exact S1 _ _ e
 have glen:∀ i,i<=os.length->(gainsP os i).length<=2*i:=λi _=>by rw[<-Ua,YC];exact Vn os i
 refine⟨_,rfl,l,rfl,⟨_,SqL.of (S0 _ _ hl)⟩,Ub (K:=K) (a:=l) (xs:=vs) (λi σ H'=>Same H H'/\∃ (as:TJ) (x1 x2 x3 x4:TZ),σ=[some (.ref l),some (.ref d),x1,x2,x3,x4]/\H' d=some (.lst (as.map V.ref))/\Paired (RowAt K H') as (gainsP os i)) ⟨S0,[],none,none,none,none,rfl,Zb,.nil⟩ (λi σ H' _ h=>SqL.of (h.1 _ _ hl)) ?_ ?_⟩
 ·rintro i v σ H1 hi ⟨S1,as,x1,x2,x3,x4,rfl,hd1,P1⟩;have hiv:i<vs.length:=(YE.mp hi).1;have hio:i<os.length:=by omega
  have eo:os[i]?=some (os.getD i offD):=by simp[List.getD,hio]
  have hv:=(Paired.getB hO hi eo).same S1;have go:=g _ (YG eo);have gl:=glen i (by omega);have ga:=Sx os i;generalize os.getD i offD=o at *
  obtain⟨p,ar,va,vb,ve,rfl,hp,hR,hrl,hA,hB,hE⟩:=hv;have la1:=XG P1;refine⟨p,_,rfl,hp,rfl,_,_,rfl,_,_,rfl,_,_,rfl,_,_,rfl,rfl,?_⟩;obtain⟨xs,hxs,hrs⟩:=hR;have lx:=hrs.len;refine⟨λσ H'=>SameX d H1 H'/\Same H H'/\∃ as':List Addr,σ=[some (.ref l),some (.ref d),some (.ref ar),some va,some vb,some ve]/\H' d=some (.lst (as'.map V.ref))/\Paired (RowAt K H') as' (gainsP os i++(if o.ask.isSome then [gainR o true] else [])),?_,?_⟩
  ·refine⟨_,rfl,rfl,_,rfl,?_⟩
   cases e:o.ask with
   | none =>
    rw[e] at hA;have z:va=V.non:=hA;subst z;exact X9 ⟨SameX.refl _ _,S1,as,rfl,hd1,by simpa using P1⟩
   | some r =>
    rw[e] at hA;obtain⟨ab,rfl,hab⟩:=hA;refine Pl (λz=>nomatch z) ?_;refine⟨_,rfl,.inl ⟨rfl,_,SqL.of hd1⟩,_,rfl,ar,rfl,⟨_,hxs⟩,λdd hdd=>?_⟩;refine⟨o.row.length,λj ys H2=>Same H1 H2/\Rs K H2 ((o.row.map λx=>subR x r).take j) ys,Zq (by omega),⟨Same.new hdd,.nil⟩,?_,?_⟩
    ·rintro j ys H2 hj ⟨S2,R2⟩ hd2;refine⟨⟨xs,xs[j]'(by omega),Zt S2 hxs,by simp⟩,?_⟩;rintro x H3 ⟨rfl,fx⟩;obtain⟨x0,er,ix⟩:=hrs.back (fx xs (Zt S2 hxs));obtain⟨a1,rfl,sq1⟩:=ix.ext (Ext.same S2);refine Yh ?_;refine⟨_,rfl,_,rfl,a1,ab,x0,r,n,rfl,sq1,Zt S2 hab,go.row x0 (YG er),go.ask r e,hn,λc4 H4 f4 S4 e4=>?_⟩;have hd4:=S4 _ _ hd2;refine⟨hd4,λq o' e=>?_,?_⟩
     ·rw[Ze (Zd e hdd)];exact S4 _ _ (S2 _ _ e)
     rw[Xy _ er];exact (R2.ext ((Ext.same S4).trans (Ext.upd hd4))).snoc ⟨c4,rfl,(Ext.upd hd4).sq (SqT.of e4)⟩
    rintro ys H2 ⟨S2,R2⟩ hd2;rw[YM (by rw[YC];omega)] at R2;refine⟨⟨xs,Zt S2 hxs,by omega⟩,dd,ys,rfl,.inl ⟨SqL.of hd2,λlt hlt=>?_⟩⟩;have S2t:=S2.trans (Same.new (o:=.tup ys) hlt);have Rt:RowAt K (upd H2 lt (.tup ys)) lt _:=⟨ys,SqT.of Zb,R2.ext (Ext.new hlt)⟩;generalize upd H2 lt (.tup ys)=H2t at *
    refine⟨_,rfl,lt,ve,_,o.ev,rfl,Rt,by rw[YC,hrl];exact hE.same S2t,by rw[YC];omega,λp' H' S' R'=>?_⟩;have S1':=S2t.trans S';have hd':=S1' _ _ hd1;refine⟨d,_,_,rfl,rfl,hd',Xo (by rw[YC];omega),(SameX.of S1').trans (SameX.upd d H' _),up _ _ (S1.trans S1'),as++[p'],rfl,by rw[Zb,XR];rfl,?_⟩;have hg:cutR o.ev (o.row.map λx=>subR x r)=gainR o true:=by unfold gainR;rw[e];rfl
    rw[hg] at R';simp only [Y0W,jn];exact zR (Yw P1 ((Ext.same S1').trans (Ext.upd hd'))) (R'.ext (Ext.upd hd'))
  rintro σ H2 ⟨SX,S2,as',rfl,hd2,P2⟩;have x2:Ext H1 H2:=Ext.x SX hd1;replace hxs:=x2.sq hxs;replace hrs:=hrs.ext x2;replace hE:=hE.ext x2;replace hB:=hB.ext x2;have la2:=XG P2;have la3:(gainsP os i++(if o.ask.isSome then [gainR o true] else [])).length<=2*i+1:=by
   rw[YS];have:(if o.ask.isSome then [gainR o true] else []).length<=1:=by split <;> simp
   omega
  refine⟨_,rfl,rfl,_,rfl,?_⟩
  cases e:o.bid with
  | none =>
   rw[e] at hB;have z:vb=V.non:=hB;subst z;refine X9 ⟨S2,as',_,_,_,_,rfl,hd2,?_⟩;rw[ga];unfold wordsO;rw[e]
   cases ea:o.ask with
   | none=>rw[ea] at P2;simpa using P2
   | some r=>rw[ea] at P2;simpa using P2
  | some r =>
   rw[e] at hB;obtain⟨ab,rfl,hab⟩:=hB;refine Pl (λz=>nomatch z) ?_;refine⟨_,rfl,.inl ⟨rfl,_,SqL.of hd2⟩,_,rfl,ar,rfl,⟨_,hxs⟩,λdd hdd=>?_⟩;refine⟨o.row.length,λj ys H3=>Same H2 H3/\Rs K H3 ((o.row.map λx=>subR r x).take j) ys,Zq (by omega),⟨Same.new hdd,.nil⟩,?_,?_⟩
   ·rintro j ys H3 hj ⟨S3,R3⟩ hd3;refine⟨⟨xs,xs[j]'(by omega),Zt S3 hxs,by simp⟩,?_⟩;rintro x H4 ⟨rfl,fx⟩;obtain⟨x0,er,ix⟩:=hrs.back (fx xs (Zt S3 hxs));obtain⟨a1,rfl,sq1⟩:=ix.ext (Ext.same S3);refine Yh ?_;refine⟨_,rfl,_,rfl,ab,a1,r,x0,n,rfl,Zt S3 hab,sq1,go.bid r e,go.row x0 (YG er),hn,λc4 H5 f4 S4 e4=>?_⟩;have hd4:=S4 _ _ hd3;refine⟨hd4,λq o' e=>?_,?_⟩
    ·rw[Ze (Zd e hdd)];exact S4 _ _ (S3 _ _ e)
    rw[Xy _ er];exact (R3.ext ((Ext.same S4).trans (Ext.upd hd4))).snoc ⟨c4,rfl,(Ext.upd hd4).sq (SqT.of e4)⟩
   rintro ys H3 ⟨S3,R3⟩ hd3;rw[YM (by rw[YC];omega)] at R3;refine⟨⟨xs,Zt S3 hxs,by omega⟩,dd,ys,rfl,.inl ⟨SqL.of hd3,λlt hlt=>?_⟩⟩;have S3t:=S3.trans (Same.new (o:=.tup ys) hlt);have Rt:RowAt K (upd H3 lt (.tup ys)) lt _:=⟨ys,SqT.of Zb,R3.ext (Ext.new hlt)⟩;generalize upd H3 lt (.tup ys)=H3t at *
   refine⟨_,rfl,lt,ve,_,o.ev,rfl,Rt,by rw[YC,hrl];exact hE.same S3t,by rw[YC];omega,λp' H' S' R'=>?_⟩;have S2':=S3t.trans S';have hd':=S2' _ _ hd2;refine⟨d,_,_,rfl,rfl,hd',Xo (by rw[YC];omega),up _ _ (S2.trans S2'),as'++[p'],_,_,_,_,rfl,by rw[Zb,XR];rfl,?_⟩;have hg:cutR o.ev (o.row.map λx=>subR r x)=gainR o false:=by unfold gainR;rw[e];rfl
   rw[hg] at R';have P3:=zR (Yw P2 ((Ext.same S2').trans (Ext.upd (o:=.lst (as'.map V.ref++[.ref p'])) hd'))) (R'.ext (Ext.upd hd'));rw[ga];unfold wordsO;rw[e]
   cases ea:o.ask with
   | none=>rw[ea] at P3;simpa using P3
   | some r=>rw[ea] at P3;simpa using P3
 rintro σ H1 ⟨S1,as,x1,x2,x3,x4,rfl,hd1,P1⟩;rw[lo] at P1;exact⟨_,rfl,k d H1 hd S1 ⟨as,hd1,P1⟩⟩
end
theorem Wts.okW {c:Nat}{ls:UA}(w:Wts c rss ls)(as:UA):∃ N,LoadsOk c rss none as N ls (sumR (List.zipWith mulR' ls (cutR none as))):=by
 obtain⟨N,D,L,r⟩:=w.rep;exact⟨N,w.len,⟨D,L,r⟩,w.nn,w.fit,w.lie,rfl⟩
theorem Wts.total {c:Nat}{rss:UB}{ls:UA}(w:Wts c rss ls):sumR ls=(1,1):=(w.okW ls).elim λ_ h=>h.total
section
variable {P:TR}{w:World}{K:TQ}{mg:TB}{base:Heap}
theorem Z26 (D:Def K mg "_law_whole" jR VQ)(T:Blt mg):Has P w K mg base 1 "_law_whole" VQ spWhole:=by
 refine D.h9 (N:=VQ) fsc λH Q hr h nd=>?_;obtain⟨i,rfl,q⟩:=h;refine⟨_,(Zc (Zh (Uo (Zx W6 rfl T.isinstance XF (Z0 (pv 0) (Z0 (Td T.int Y0B) Z8))) (Um (Cr (Zx W6 rfl T.isinstance XF (Z0 (pv 0) (Z0 (Td T.bool Y0y) Z8)))))))),?_⟩;refine⟨_,rfl,_,_,_,_,rfl,TyOf.int i,Ve,_,rfl,Vf ?_⟩;exact⟨_,rfl,_,_,_,_,rfl,TyOf.int i,Tk,_,rfl,q⟩
inductive spIsB (K:TQ) (vs:TY) (H:Hp) (Q:VK) (_z3:XK):Prop
 | i (a:Addr) (r:Rat) (_:vs=[.ref a,.ref a]) (_:SqT K H a [.int r.1,.int r.2]) (_:Q (.bl true) H)
theorem Z5m (D:Def K mg "_law_is" sIs VR)(T:Blt mg)(eS:Has P w K mg base 1 "_law_whole" VQ spWhole):Has P w K mg base 2 "_law_is" VR (spIsB K):=by
 refine D.h9 (N:=VR) fsc λH Q hr h nd=>?_;obtain⟨a,r,rfl,hA,q⟩:=h;have hU:=zq (Z0d hr);refine⟨_,(Z9 (Y4 (PW.pt (Wf (Yz (Yr (Zx Vy rfl T.isinstance XF (Z0 (pv 0) (Z0 (Td T.tuple YZ) Z8))))) (Wf (Zl Pg (Zx Y2 rfl T.len qp (Z0 (pv 0) Z8)) Za (Zo _)) (Wf (Yz (Yr (Zf eS hr (Z0 (Zj Xt (pv 0) Za (λ_ _=>rfl)) Z8)))) (W8 (Yz (Yr (Zf eS hr (Z0 (Zj Xe (pv 0) Za (λ_ _=>rfl)) Z8)))))))))
   (Zc (Zh Wh))
   Zp)
  (Zc (Zh (Xb (Ng (K:=K) hU) (pv 0) (pv 1) (Zo _))))),?_⟩
 refine⟨_,rfl,_,_,_,_,rfl,hA,Ve,_,rfl,X9 ?_⟩;refine⟨_,rfl,a,_,rfl,.inr hA,rfl,_,rfl,Pm rfl ?_⟩;refine⟨_,rfl,_,_,_,rfl,rfl,hA,_,rfl,_,rfl,X9 ?_⟩;refine⟨_,rfl,_,_,_,rfl,rfl,hA,_,rfl,_,rfl,X9 ?_⟩;refine⟨_,rfl,_,rfl,a,a,[r.1,r.2],[r.1,r.2],rfl,rfl,hA,hA,?_⟩;rw[XQ rfl];exact q
inductive spWFit (K:TQ) (vs:TY) (H:Hp) (Q:VK) (_z3:XK):Prop
 | i (a l:Addr) (c n N:Nat) (us:UA) (rss:UB) (_:vs=[.ref a,.ref l]) (_:RowAt K H a us) (_:RowsAt K H l rss) (_:us.length=c) (_:(∃ D Us,RepL N D Us us)) (_:Wts c rss us) (_:(∀ rs∈rss,rs.length=c/\∃ D Zs,RepL n D Zs rs)) (_:n+N+10<=4000) (_:c<=100) (_:∀ (H':Hp),Same H H'->Q (.bl true) H')
theorem Z4h (D:Def K mg "_law_weights_fit" iK VS)(T:Blt mg)(fH:Has P w K mg base 2 "_law_is" VR (spIsB K))(eH:Z3 P w K mg base)(fD:Has P w K mg base 4 "_law_mean" VB (spMeanP K)):Has P w K mg base 5 "_law_weights_fit" VS (spWFit K):=by
 refine D.h9 (N:=["_law_weights_here","_law_rows","_law_some","_law_one","_law_row_here"]) fsc λH Q hr h nd=>?_;obtain⟨a,l,c,n,N,us,rss,rfl,hA,⟨ads,hl,hP⟩,lu,⟨D1,Us,rU⟩,wt,hrs,hN,hc,k⟩:=h;obtain⟨xs,hxs,hus⟩:=hA;have hU:=zq (Z0d hr);refine⟨_,(Z9 (Zi (i:=2) nd rfl (Or.inl rfl) (Yc (Z0 Za (Z0 Za Z8))))
  (Z9 (Xm XY rfl (V5 (pv 0)) (Zk (i:=3) nd rfl (Or.inl rfl))
   (Z9 (Y4 (PW.pt (Wf (Yz (Yr (Zf fH hr (Z0 (pv 3) (Z0 (pv 3) Z8))))) (W8 (Zl Ss (Zj Xt (pv 3) Za (λ_ _=>rfl)) Za (Zo _)))))
    (Zc (Zh Wh))
    Zp)
   (Zc (Zi (i:=2) nd rfl (Or.inl rfl) (Zf eH hr (Z0 (pv 2) (Z0 (pv 3) Z8)))))))
  (Z9 (Xm XY rfl (Xk (pv 1)) (Zk (i:=4) nd rfl (Or.inl rfl))
   (Zc (Y4 (Zl Q5 (Zj Xt (Zf fD hr (Z0 (pv 0) (Z0 (pv 4) Z8))) Za (λ_ _=>rfl)) Za (Zo _))
    (Zc (Zh Wh))
    Zp)))
  (Zc (Zh (Xb (Ng (K:=K) hU) (pv 2) (Yc (Z0 Za (Z0 Za Z8))) (Zo _))))))),?_⟩
 have lp:=XG hP;have lx:=hus.len;refine⟨sz2,λp hp=>?_⟩;have S0:Same H (upd H p (.tup [.int 0,.int 1])):=Same.new hp;refine⟨_,rfl,a,rfl,⟨_,Zt S0 hxs⟩,Rk (K:=K) (a:=a) (xs:=xs) (λi σ H'=>Same H H'/\∃ (p:Addr) (x:TZ),σ=[some (.ref a),some (.ref l),some (.ref p),x,none]/\SqT K H' p [.int (sumR (us.take i)).1,.int (sumR (us.take i)).2]) ⟨S0,p,none,rfl,SqT.of Zb⟩ (λi σ H' _ h=>Zt h.1 hxs) ?_ ?_⟩
 ·rintro i x σ H2 hix ⟨S2,p2,x1,rfl,sqp⟩;obtain⟨r,er,b,rfl,hb⟩:=(hus.ext (Ext.same S2)).back hix;have hm:=YG er;have g:=rU.good r hm;have nn:=wt.nn r hm;refine⟨_,rfl,_,rfl,b,r,rfl,hb,_,rfl,X9 ?_⟩;refine⟨_,rfl,b,_,_,rfl,rfl,hb,_,_,rfl,rfl,_,rfl,?_⟩;have e0:decide (r.1<0)=false:=JD (by omega);rw[e0];refine X9 ?_;have gs:=(rU.take i).sumGood (k:=10) (by rw[JU];omega);replace gs:Good (N+10) (sumR (us.take i)):=gs;refine⟨_,rfl,_,rfl,p2,b,_,r,N+10,rfl,sqp,hb,gs,g.mono (by omega),by omega,λp3 H3 f3 S3 e3=>?_⟩;refine⟨S2.trans S3,p3,_,rfl,?_⟩;rw[Pc er];exact SqT.of e3
 rintro σ H2 ⟨S2,p2,x1,rfl,sqp⟩;rw[YM (by omega),wt.total] at sqp;refine⟨_,rfl,l,rfl,⟨_,SqL.of (S2 _ _ hl)⟩,Ub (K:=K) (a:=l) (xs:=ads.map V.ref) (λi σ H'=>Same H2 H'/\∃ (x:TZ),σ=[some (.ref a),some (.ref l),some (.ref p2),x1,x]) ⟨Same.refl _,none,rfl⟩ (λi σ H' _ h=>SqL.of (h.1 _ _ (S2 _ _ hl))) ?_ ?_⟩
 ·rintro i x σ H3 hix ⟨S3,x3,rfl⟩;rw[YF] at hix
  cases ea:ads[i]? with
  | none=>rw[ea] at hix;cases hix
  | some ar =>
   rw[ea] at hix
   cases hix;have hia:i<ads.length:=(YE.mp ea).1;have hir:i<rss.length:=by omega
   have er:rss[i]?=some rss[i]:=by simp[hir]
   have S03:=S2.trans S3;obtain⟨zs,hzs,hrz⟩:=(Paired.getB hP ea er).same S03;have hm:=XB hir;obtain⟨lr,D2,Zs,rz⟩:=hrs _ hm;refine⟨_,rfl,_,rfl,a,ar,xs,zs,us,rss[i],N,n,D1,D2,Us,Zs,rfl,.inr (Zt S03 hxs),hus.ext (Ext.same S03),.inr hzs,hrz,by omega,by omega,rU,rz,by omega,λcm H4 S4 e4=>?_⟩;refine⟨cm,_,_,rfl,rfl,e4,_,_,rfl,rfl,_,rfl,?_⟩;have ft:=wt.fit _ hm;refine X6 (λh=>absurd (XH h) (by omega)) (λh=>?_);exact⟨S3.trans S4,_,rfl⟩
 rintro σ H3 ⟨S3,x3,rfl⟩;refine⟨_,rfl,sz2,λp3 hp3=>?_⟩;have S4:Same H3 (upd H3 p3 (.tup [.int 1,.int 1])):=Same.new hp3;refine⟨p2,p3,[1,1],[1,1],rfl,rfl,Zt (S3.trans S4) sqp,SqT.of Zb,?_⟩;rw[XQ rfl];exact k _ ((S2.trans S3).trans S4)
inductive spComeA (K:TQ) (vs:TY) (H:Hp) (Q:VK) (_z3:XK):Prop
 | i (l q:Addr) (c n N:Nat) (rss:UB) (ms:UA) (D:Int) (E:Nat->Nat->Int) (_:vs=[.int (c:Int),.ref l,.ref q]) (_:RowsAt K H l rss) (_:LstAt K H q ms) (_:ComeR c n N rss ms D E) (_:n<=4000) (_:N<=3900) (_:c<=100) (_:rss.length<=100) (_:∀ (d:Addr) (cs:UA) (H':Hp),Same H H'->RowAt K H' d cs->RepL (N+10) D (comeE c rss.length E) cs->Q (.ref d) H')
theorem Z2q (D:Def K mg "_law_come" kK VT)(T:Blt mg)(eH:Z3 P w K mg base)(eK:Z7 P w K mg base):Has P w K mg base 4 "_law_come" VT (spComeA K):=by
 refine D.h9 (N:=["_law_count","_law_rows","_law_multiples","_law_some","_law_k"]) fsc λH Q hr h nd=>?_;obtain⟨l,q,c,n,N,rss,ms,D,En,rfl,⟨ads,hl,hP⟩,⟨xs,hq,hms⟩,cr,hn,hN,hc,hg,k⟩:=h;have nd1:(["_law_world"]:TF).Nodup:=by decide +kernel
 have nd2:(VU:List Str).Nodup:=by decide +kernel
 refine⟨_,(Z9 (Zi (i:=3) nd rfl (Or.inr rfl) (Zw Zy rfl T.tuple YZ (Z0 (Ym (N:=["_law_world"]) (k:=1) (fv:=[]) rfl (Yl rfl T.range (Z0 (pv 0) Z8))
  (λ_ _ _ _ _=>Zk (i:=0) nd1 rfl (Or.inl rfl)) (λ_ _ _ _ _=>Ya) (λ_ _ _ _ _=>(Yc (Z0 Za (Z0 Za Z8)))) Y0) Z8)))
  (Z9 (Xm XY rfl (Yl rfl T.range (Z0 (Zx Y2 rfl T.len qp (Z0 (pv 1) Z8)) Z8)) (Zk (i:=4) nd rfl (Or.inr rfl))
   (Zc (Zi (i:=3) nd rfl (Or.inr rfl) (Zw Zy rfl T.tuple YZ (Z0 (Ym (N:=VU) (k:=1) (fv:=[1,2,3,4]) rfl (Yl rfl T.range (Z0 (pv 0) Z8))
  (λ_ _ _ _ _=>Zk (i:=0) nd2 rfl (Or.inl rfl)) (λ_ _ _ _ _=>Ya) (λ_ _ _ _ _=>(Zf eH hr (Z0 (Zj (Mw (K:=K)) (pv 3) (pv 0) (λ_ _=>rfl)) (Z0 (Zf eK hr (Z0 (Zj (Mw (K:=K)) (Zj (Jf (K:=K)) (pv 1) (pv 4) (λ_ _=>rfl)) (pv 0) (λ_ _=>rfl)) (Z0 (Zj (Jf (K:=K)) (pv 2) (pv 4) (λ_ _=>rfl)) Z8))) Z8)))) Y0) Z8)))))
  (Zc (Zh (pv 3))))),?_⟩
 have lp:=XG hP;have lx:=hms.len;have lm:=cr.lm;have et:(c:Int).toNat=c:=by omega
 refine⟨_,rfl,(c:Int),rfl,(by omega),(by omega),λd hd=>?_⟩;rw[et];refine⟨c,λi ys H'=>Same H H'/\Rs K H' (List.replicate i (0,1)) ys,Zq (by omega),⟨Same.new hd,.nil⟩,?_,?_⟩
 ·rintro i ys H10 hi ⟨S10,R10⟩ hd10;refine⟨hi,?_⟩;rintro x' H3 ⟨rfl,rfl⟩;refine Yh ?_;refine⟨sz2,λp hp=>?_⟩;have S11:Same H3 (upd H3 p (.tup [.int 0,.int 1])):=Same.new hp;have hd11:=S11 _ _ hd10;refine⟨hd11,λq o' e=>?_,?_⟩
  ·rw[Ze (Zd e hd)];exact S11 _ _ (S10 _ _ e)
  rw[Y0I];exact (R10.ext ((Ext.same S11).trans (Ext.upd hd11))).snoc ⟨p,rfl,(Ext.upd hd11).sq (SqT.of Zb)⟩
 rintro ys0 H0 ⟨S0,R0⟩ hd0;refine⟨YD _,d,ys0,rfl,.inl ⟨SqL.of hd0,λlt0 hlt0=>?_⟩⟩;have S00:Same H0 (upd H0 lt0 (.tup ys0)):=Same.new hlt0;have e00:upd H0 lt0 (.tup ys0) lt0=some (.tup ys0):=Zb;generalize upd H0 lt0 (.tup ys0)=H00 at *
 replace S0:=S0.trans S00;replace R0:=R0.ext (Ext.same S00);refine⟨_,rfl,l,_,rfl,.inl (SqL.of (S0 _ _ hl)),((ads.map V.ref).length:Int),rfl,(by rw[YC];omega),(by rw[YC];omega),?_⟩;have et2:(((ads.map V.ref).length:Nat):Int).toNat=rss.length:=by rw[YC];omega
 rw[et2];refine Uh (lo:=0) (n:=rss.length) (λi σ H'=>Same H H'/\∃ (dc:Addr) (cs:UA) (x:TZ),σ=[some (.int (c:Int)),some (.ref l),some (.ref q),some (.ref dc),x]/\RowAt K H' dc cs/\RepL (N+10) D (comeE c i En) cs) ⟨S0,lt0,_,none,rfl,⟨ys0,SqT.of e00,R0⟩,Z5x cr.pos cr.bD⟩ ?_ ?_
 ·rintro i σ H1 hi ⟨S1,dc,cs,x,rfl,⟨ys,hdc,Rc⟩,rep⟩;have e0:(0+(i:Int))=((i:Nat):Int):=by omega
  rw[e0];have ea:ads[i]?=some (ads[i]'(by omega)):=by simp
  have er:rss[i]?=some rss[i]:=by simp[hi]
  have em:ms[i]?=some (ms[i]'(by omega)):=by simp
  obtain⟨us,hus,hrs⟩:=(Paired.getB hP ea er).same S1;obtain⟨xm,exm,ixm⟩:=hms.at em;obtain⟨am,rfl,sqm⟩:=ixm.ext (Ext.same S1);have hm:=XB hi;have lr:=cr.len _ hm;have gm:=cr.gm _ (YG em);have lcs:cs.length=c:=by rw[<-rep.len];unfold comeE;simp
  have lys:=Rc.len;have lus:=hrs.len;refine⟨_,rfl,(c:Int),rfl,(by omega),(by omega),λd2 hd2=>?_⟩;rw[et];refine⟨c,λj zs H'=>Same H1 H'/\∃ ns,Rs K H' ns zs/\ns.length=j/\∀ (k:Nat) (r x:Rat),k<j->cs[k]?=some x->rss[i][k]?=some r->ns[k]?=some (addR x (mulR' r (ms[i]'(by omega)))),Zq (by omega),⟨Same.new hd2,[],.nil,rfl,λk r x h=>by omega⟩,?_,?_⟩
  ·rintro j zs H3 hj ⟨S3,ns,R3,l3,h3⟩ hd3;refine⟨hj,?_⟩;rintro x' H4 ⟨rfl,rfl⟩;have e1:(0+(j:Int))=((j:Nat):Int):=by omega
   rw[e1];refine Yh ?_;have hjc:j<cs.length:=by omega
   have hjr:j<rss[i].length:=by omega
   obtain⟨yv,ey,iy⟩:=Rc.at (i:=j) (r:=cs[j]) (by simp[hjc]);obtain⟨rv,ev,iv⟩:=hrs.at (i:=j) (r:=rss[i][j]) (by simp[hjr]);obtain⟨ay,rfl,sqy⟩:=iy.ext (Ext.same S3);obtain⟨av,rfl,sqv⟩:=iv.ext (Ext.same S3);have gc:=rep.good cs[j] (XB hjc);have gr:=cr.gr _ hm rss[i][j] (XB hjr);have S13:=S1.trans S3;refine⟨_,rfl,_,rfl,dc,_,_,_,rfl,rfl,Zt S3 hdc,Zg ey,?_⟩;refine⟨_,rfl,_,rfl,l,_,_,_,rfl,rfl,SqL.of (S13 _ _ hl),Zg (by rw[YF,ea];rfl),_,rfl,_,_,_,_,rfl,rfl,Zt S3 hus,Zg ev,?_⟩;refine⟨_,rfl,_,rfl,q,_,_,_,rfl,rfl,SqL.of (S13 _ _ hq),Zg exm,?_⟩;refine⟨av,am,rss[i][j],ms[i]'(by omega),n,rfl,sqv,Zt S3 sqm,gr,gm,by omega,λp5 H5 f5 S5 e5=>?_⟩;obtain⟨ce1,ce2⟩:=cr.at_ i j _ _ _ er (show rss[i][j]?=some rss[i][j] by simp[hjr]) em;have lp':=Wk gr.low gm.low;have gp:Good N (mulR' rss[i][j] (ms[i]'(by omega))):=U9 cr.pos lp'.pos lp'.cop ce1 cr.bD ce2;have bnd:N<=4000:=by omega
   refine⟨ay,p5,cs[j],mulR' rss[i][j] (ms[i]'(by omega)),4000,rfl,Zt S5 sqy,SqT.of e5,gc.mono (by omega),gp.mono bnd,by decide,λp6 H6 f6 S6 e6=>?_⟩;have hd6:=S6 _ _ (S5 _ _ hd3);refine⟨hd6,λq' o' e=>?_,ns++[addR cs[j] (mulR' rss[i][j] (ms[i]'(by omega)))],(R3.ext ((Ext.same (S5.trans S6)).trans (Ext.upd hd6))).snoc ⟨p6,rfl,(Ext.upd hd6).sq (SqT.of e6)⟩,by rw[YS,l3];rfl,λkk r x hk ex ek=>?_⟩
   ·rw[Ze (Zd e hd2)];exact S6 _ _ (S5 _ _ (S3 _ _ e))
   by_cases qq:kk<ns.length
   ·rw[JA qq];exact h3 kk r x (by omega) ex ek
   have hkj:kk=j:=by omega
   subst hkj;rw[XW (by omega),l3,Nat.sub_self];rw[JK hjc] at ex;rw[JK hjr] at ek
   cases ex
   cases ek;rfl
  rintro zs H3 ⟨S3,ns,R3,l3,h3⟩ hd3;refine⟨YD _,d2,zs,rfl,.inl ⟨SqL.of hd3,λlt hlt=>?_⟩⟩;refine⟨(S1.trans S3).trans (Same.new hlt),lt,ns,_,rfl,⟨zs,SqT.of Zb,R3.ext (Ext.new hlt)⟩,Fu cr hi (by omega) er em rep l3 λk r x ex ek=>?_⟩;exact h3 k r x (by have:=(YE.mp ek).1;omega) ex ek
 rintro σ H1 ⟨S1,dc,cs,x,rfl,Rc,rep⟩;exact⟨_,rfl,k dc cs H1 S1 Rc rep⟩
inductive spBeatsN (K:TQ) (vs:TY) (H:Hp) (Q:VK) (_z3:XK):Prop
 | i (l q:Addr) (c N X:Nat) (os:UD) (ns:TU) (_:vs=[.int (c:Int),.ref l,.ref q]) (_:OffsAt K H l c os) (_:(∀ o∈os,GoodO 114 o)) (_:os.length<=100) (_:(∀ rs∈gainsP os os.length,rs.length=c/\∃ D Z,RepL 114 D Z rs)) (_:H q=some (.lst (ns.map V.int))) (_:BeatN c (gainsP os os.length) N ns) (_:(∀ z∈ns,Bd X z)) (_:114<=X) (_:X<=4000) (_:N<=3000) (_:c<=100) (_:(gainsP os os.length).length<=100) (_:∀ H',Same H H'->Q (.bl true) H')
theorem Bp (D:Def K mg "_law_beats" j8 VV)(T:Blt mg)(eT:Has P w K mg base 4 "_law_gains" ["_law_offers"] (spGainsP K))(eS:Has P w K mg base 1 "_law_whole" VQ spWhole)(gM:Has P w K mg base 4 "_law_come" VT (spComeA K)):Has P w K mg base 5 "_law_beats" VV (spBeatsN K):=by
 refine D.h9 (N:=["_law_count","_law_offers","_law_multiples","_law_rows","_law_one","_law_part"]) fsc λH Q hr h nd=>?_;obtain⟨l,q,c,N,X,os,ns,rfl,hO,good,few,rep,hq,bt,bX,X1,X2,hN,hc,hg,k⟩:=h;obtain⟨D,En,cr,hpos⟩:=bt.come rep bX X1 (by omega);have nd1:(["_law_one"]:TF).Nodup:=by decide +kernel
 refine⟨_,(Z9 (Zi (i:=3) nd rfl (Or.inl rfl) (Zf eT hr (Z0 (pv 1) Z8)))
  (Z9 (Y4 (PW.pt (Wf (Yz (Yr (Zx W6 rfl T.isinstance XF (Z0 (pv 2) (Z0 (Td T.list XA) Z8))))) (W8 (Zl Pg (Zx Y2 rfl T.len qp (Z0 (pv 2) Z8)) (Zx Y2 rfl T.len qp (Z0 (pv 3) Z8)) (Zo _)))))
   (Zc (Zh Wh))
   Zp)
  (Z9 (Xm XY rfl (Xk (pv 2)) (Zk (i:=4) nd rfl (Or.inl rfl))
   (Zc (Y4 (PW.pt (Wf (Yz (Yr (Zf eS hr (Z0 (pv 4) Z8)))) (W8 (Zl Ss (pv 4) Za (Zo _)))))
    (Zc (Zh Wh))
    Zp)))
  (Z9 (Xm XY rfl (V5 (Zf gM hr (Z0 (pv 0) (Z0 (pv 3) (Z0 (Ym (N:=["_law_one"]) (k:=1) (fv:=[]) rfl (Xk (pv 2))
  (λ_ _ _ _ _=>Zk (i:=0) nd1 rfl (Or.inl rfl)) (λ_ _ _ _ _=>Ya) (λ_ _ _ _ _=>(Yc (Z0 (pv 0) (Z0 Za Z8)))) Y0) Z8))))) (Zk (i:=5) nd rfl (Or.inl rfl))
   (Zc (Y4 (Zl Cw (Zj Xt (pv 5) Za (λ_ _=>rfl)) Za (Zo _))
    (Zc (Zh Wh))
    Zp)))
  (Zc (Zh Wh)))))),?_⟩
 refine⟨_,rfl,l,c,114,os,rfl,hO,few,by omega,by decide,good,λdr H0 fd0 S0 ⟨ads,hl,hP⟩=>?_⟩;have lns:=bt.len;have nn:=bt.nn;generalize gainsP os os.length=rss at *
 replace hq:=S0 _ _ hq;have lp:=XG hP;refine⟨_,rfl,_,_,_,_,rfl,TyOf.lst hq,Ve,_,rfl,X9 ?_⟩;refine⟨_,rfl,q,_,rfl,.inl (SqL.of hq),_,rfl,dr,_,rfl,.inl (SqL.of hl),rfl,_,rfl,Pm (by rw[YC,YC,lns,lp]) ?_⟩;refine⟨_,rfl,q,rfl,⟨_,SqL.of hq⟩,Ub (K:=K) (a:=q) (xs:=ns.map V.int) (λi σ H'=>H0=H'/\∃ (x:TZ),σ=[some (.int (c:Int)),some (.ref l),some (.ref q),some (.ref dr),x,none]) ⟨rfl,none,rfl⟩ (λi σ H' _ h=>by rw[<-h.1];exact SqL.of hq) ?_ ?_⟩
 ·rintro i x σ _ hix ⟨rfl,x1,rfl⟩;rw[YF] at hix
  cases ea:ns[i]? with
  | none=>rw[ea] at hix;cases hix
  | some z =>
   rw[ea] at hix
   cases hix;have nz:0<=z:=by
    have:=nn i (by have:=(YE.mp ea).1;omega);rw[Yu ea] at this;exact this
   refine⟨_,rfl,z,rfl,_,rfl,X9 ?_⟩;refine⟨_,rfl,_,_,rfl,rfl,_,rfl,?_⟩;have e9:decide (z<0)=false:=JD (by omega);rw[e9];exact X9 ⟨rfl,_,rfl⟩
 rintro σ _ ⟨rfl,x1,rfl⟩;refine⟨_,rfl,_,rfl,_,rfl,q,rfl,⟨_,SqL.of hq⟩,λd hd=>?_⟩;refine⟨ns.length,λi ys H'=>Same H0 H'/\Rs K H' ((intR ns).take i) ys,Zq (by omega),⟨Same.new hd,.nil⟩,?_,?_⟩
 ·rintro i ys H2 hi ⟨S2,R2⟩ hd2;have en:ns[i]?=some ns[i]:=by simp[hi]
  refine⟨⟨_,V.int ns[i],SqL.of (S2 _ _ hq),by simp[hi]⟩,?_⟩;rintro x' H3 ⟨rfl,fx⟩;have ex:x'=V.int ns[i]:=by
   have:=fx _ (SqL.of (S2 _ _ hq));rw[YF,en] at this;exact (YK this).symm
  subst ex;refine Yh ?_;refine⟨_,rfl,sz2,λp hp=>?_⟩;have S3:Same H3 (upd H3 p (.tup [.int ns[i],.int 1])):=Same.new hp;have hd3:=S3 _ _ hd2;refine⟨hd3,λq' o' e=>?_,?_⟩
  ·rw[Ze (Zd e hd)];exact S3 _ _ (S2 _ _ e)
  unfold intR;rw[Xy _ en];exact (R2.ext ((Ext.same S3).trans (Ext.upd hd3))).snoc ⟨p,rfl,(Ext.upd hd3).sq (SqT.of Zb)⟩
 rintro ys H2 ⟨S2,R2⟩ hd2;rw[YM (by unfold intR;rw[YC];omega)] at R2;refine⟨⟨_,SqL.of (S2 _ _ hq),by rw[YC];omega⟩,?_⟩;refine⟨dr,d,c,X,N+114,rss,_,D,En,rfl,⟨ads,S2 _ _ hl,Yw hP (Ext.same S2)⟩,⟨ys,hd2,R2⟩,cr,X2,by omega,hc,hg,λdc cs H3 S3 ⟨zs,hzs,rzs⟩ rep=>?_⟩;refine⟨dc,rfl,⟨_,hzs⟩,Rk (K:=K) (a:=dc) (xs:=zs) (λi σ H'=>H3=H'/\∃ (x:TZ),σ=[some (.int (c:Int)),some (.ref l),some (.ref q),some (.ref dr),x1,x]) ⟨rfl,_,rfl⟩ (λi σ H' _ h=>by rw[<-h.1];exact hzs) ?_ ?_⟩
 ·rintro i x σ _ hix ⟨rfl,x2,rfl⟩;obtain⟨r,er,b,rfl,hb⟩:=rzs.back hix;have lcs:cs.length=c:=by rw[<-rep.len];unfold comeE;simp
  have hi:i<c:=by have:=(YE.mp er).1;omega
  obtain⟨e1,_,lo⟩:=rep.at_ i _ r (Tp hi) er;have p:=hpos i hi;have rp:0<r.1:=by
   apply YR;intro z;have:=((Tv cr.pos lo.pos e1).2.1).mp (by omega);omega
  refine⟨_,rfl,b,_,_,rfl,rfl,hb,_,_,rfl,rfl,_,rfl,?_⟩;have e9:decide (r.1<=0)=false:=JD (by omega);rw[e9];exact X9 ⟨rfl,_,rfl⟩
 rintro σ _ ⟨rfl,x2,rfl⟩;exact k _ ((S0.trans S2).trans S3)
inductive spRowLike (K:TQ) (vs:TY) (H:Hp) (Q:VK) (_z3:XK):Prop
 | i (a:Addr) (c:Nat) (rs:UA) (_:vs=[.ref a,.int (c:Int)]) (_:RowAt K H a rs) (_:rs.length=c) (_:Q (.bl true) H)
theorem Gs (D:Def K mg "_law_row_like" iY VW)(T:Blt mg)(fH:Has P w K mg base 2 "_law_is" VR (spIsB K)):Has P w K mg base 3 "_law_row_like" VW (spRowLike K):=by
 refine D.h9 (N:=["_law_row_here","_law_count","_law_part"]) fsc λH Q hr h nd=>?_;obtain⟨a,c,rs,rfl,⟨xs,hxs,hrs⟩,lr,k⟩:=h;refine⟨_,(Z9 (Y4 (PW.pt (Wf (Yz (Yr (Zx Vy rfl T.isinstance XF (Z0 (pv 0) (Z0 (Td T.tuple YZ) Z8))))) (W8 (Zl Pg (Zx Y2 rfl T.len qp (Z0 (pv 0) Z8)) (pv 1) (Zo _)))))
   (Zc (Zh Wh))
   Zp)
  (Z9 (Xm XY rfl (V5 (pv 0)) (Zk (i:=2) nd rfl (Or.inl rfl))
   (Zc (Y4 (Yz (Yr (Zf fH hr (Z0 (pv 2) (Z0 (pv 2) Z8)))))
    (Zc (Zh Wh))
    Zp)))
  (Zc (Zh Wh)))),?_⟩
 have lx:=hrs.len;refine⟨_,rfl,_,_,_,_,rfl,hxs,Ve,_,rfl,X9 ?_⟩;refine⟨_,rfl,a,_,rfl,.inr hxs,_,rfl,rfl,_,rfl,Pm (by rw[<-lr,lx]) ?_⟩;refine⟨_,rfl,a,rfl,⟨_,hxs⟩,Rk (K:=K) (a:=a) (xs:=xs) (λi σ H'=>H=H'/\∃ (x:TZ),σ=[some (.ref a),some (.int (c:Int)),x]) ⟨rfl,none,rfl⟩ (λi σ H' _ h=>by rw[<-h.1];exact hxs) ?_ ?_⟩
 ·rintro i x σ _ hix ⟨rfl,x1,rfl⟩;obtain⟨r,er,b,rfl,hb⟩:=hrs.back hix;exact⟨_,rfl,_,rfl,b,r,rfl,hb,_,rfl,X9 ⟨rfl,_,rfl⟩⟩
 rintro σ _ ⟨rfl,x1,rfl⟩;exact k
end
theorem V1:LandsD X (λ_ _ _ _=>False):=by
 intro pins σ H s e s' I hx;obtain⟨a,cls,dd,H',B,rfl,os,bare,fl,un,hok,hB,q⟩:=hx;exact q.elim
section
variable {P:TR}{w:World}{K:TQ}{mg:TB}{base:Heap}{C:Addr}
def FoundAt (K:TQ)(H:Hp)(c M N:Nat)(g1 g2:UB)(vf:V):Prop:=(vf=.non/\∃ W,WtsQ c (g1++g2) W) \/ ∃ (t ar ah al:Addr) (R:UA) (v u:Rat),vf=.ref t/\SqT K H t [.ref ar,.ref ah,.ref al]/\RowAt K H ar R/\PartR c g1 g2 R/\(∃ D U,RepL M D U R)/\MostV c g1 R v/\LeastV c g2 R u/\Good N v/\Good N u/\SqT K H ah [.int v.1,.int v.2]/\SqT K H al [.int u.1,.int u.2]
abbrev bP (c n s:Nat):Nat:=(n+5)*min c (2*s+2)+1
abbrev bN (c n s:Nat):Nat:=(n+5)*s+((n+5)*min c (2*s+2)+1+119)+12
inductive spGood9 (K:TQ) (vs:TY) (H:Hp) (Q:VK) (_z3:XK):Prop
 | i (l1 l2:Addr) (vf:V) (c n s:Nat) (os1 os2:UD) (_:vs=[.int (c:Int),.ref l1,.ref l2,vf]) (_:OffsAt K H l1 c os1) (_:OffsAt K H l2 c os2) (_:BookE c n s os1) (_:BookE c n s os2) (_:SizeE c n s) (_:2<=c) (_:c<=100) (_:(∃ W,WtsQ c (gainsP os1 os1.length) W)) (_:(∃ W,WtsQ c (gainsP os2 os2.length) W)) (_:FoundAt K H c (bP c n s+119) (bN c n s+(bP c n s+119)) (gainsP os1 os1.length) (gainsP os2 os2.length) vf) (_:∀ H',Same H H'->Q (.bl true) H')
theorem Z2k (D:Def K mg "_law_good" kI VX)(T:Blt mg)(eP:Z6 P w K mg base)(fT:Has P w K mg base 1 "joined" UH (spJoined K))(fL:Has P w K mg base 5 "_law_weights_fit" VS (spWFit K))(eT:Has P w K mg base 4 "_law_gains" ["_law_offers"] (spGainsP K))(fV:Has P w K mg base 3 "_law_row_like" VW (spRowLike K))(fH:Has P w K mg base 2 "_law_is" VR (spIsB K))(eF:Z4 P w K mg base)(fK:HasD P w K mg base 6 "upper" VM (spUpperX K C))(f7:HasD P w K mg base 7 "lower" VM (spLowerX K C)):Has P w K mg base 8 "_law_good" VX (spGood9 K) true:=by
 refine D.h9 (N:=["_law_count","_law_one","_law_other","_law_found","_law_told","_law_row_here","_law_high","_law_low"]) fsc λH Q hr h nd=>?_;obtain⟨l1,l2,vf,c,n,s',os1,os2,rfl,O1,O2,k1,k2,sz,c2,hc,⟨W1,w1⟩,⟨W2,w2⟩,hf,k⟩:=h;have hU:=zq (Z0d hr);refine⟨_,(Z9 (Y4 (Zl Uq (pv 3) Yj (Zo _))
   (Z9 (Zi (i:=4) nd rfl (Or.inl rfl) (Zf eP hr (Z0 (pv 0) (Z0 (Zf fT hr (Z0 (Zw Y9 rfl T.list XA (Z0 (pv 1) Z8)) (Z0 (Zw Y9 rfl T.list XA (Z0 (pv 2) Z8)) Z8))) Z8))))
   (Zc (Zh (Uo (Xb Yy (Zj Yd (pv 4) Za (λ_ _=>rfl)) Xr (Zo _)) (Um (Zf fL hr (Z0 (Zj Yd (pv 4) Za (λ_ _=>rfl)) (Z0 (Zm Tu (Zf eT hr (Z0 (pv 1) Z8)) (Zf eT hr (Z0 (pv 2) Z8))) Z8))))))))
   Zp)
  (Z9 (Y4 (PW.pt (Wf (Yz (Yr (Zx Vy rfl T.isinstance XF (Z0 (pv 3) (Z0 (Td T.tuple YZ) Z8))))) (Wf (Zl Pg (Zx Y2 rfl T.len qp (Z0 (pv 3) Z8)) Za (Zo _)) (W8 (Yz (Yr (Zf fV hr (Z0 (Zj Yd (pv 3) Za (λ_ _=>rfl)) (Z0 (pv 0) Z8)))))))))
   (Zc (Zh Wh))
   Zp)
  (Z9 (Vq (pv 3) (W9 (n:=3) rfl (Y3 (Zk (i:=5) nd rfl (Or.inl rfl)) (Y3 (Zk (i:=6) nd rfl (Or.inl rfl)) (Y3 (Zk (i:=7) nd rfl (Or.inl rfl)) Xl)))))
  (Z9 (Y4 (PW.pt (Wf (Yz (Yr (Zf fH hr (Z0 (pv 6) (Z0 (pv 6) Z8))))) (Wf (Yz (Yr (Zf fH hr (Z0 (pv 7) (Z0 (pv 7) Z8))))) (W8 (Zl Cw (Zj Xt (Zf eF hr (Z0 (pv 7) (Z0 (pv 6) Z8))) Za (λ_ _=>rfl)) Za (Zo _))))))
   (Zc (Zh Wh))
   Zp)
  (Zc (Zh (Uo (Xb (Ng (K:=K) hU) (Zj Yd (V0 fK (hr.mono (by decide)) rfl V1 (Z0 (pv 0) (Z0 (Zw Y9 rfl T.list XA (Z0 (pv 1) Z8)) (Z0 (pv 5) Z8)))) Za (λ_ _=>rfl)) (pv 6) (Zo _)) (Um (Xb (Ng (K:=K) hU) (Zj Yd (V0 f7 (hr.mono (by decide)) rfl V1 (Z0 (pv 0) (Z0 (Zw Y9 rfl T.list XA (Z0 (pv 2) Z8)) (Z0 (pv 5) Z8)))) Za (λ_ _=>rfl)) (pv 7) (Zo _)))))))))),?_⟩
 have rep1:=k1.rep114 sz;have rep2:=k2.rep114 sz;have rows1:∀ rs∈gainsP os1 os1.length,RowR c rs:=λrs hr=>RowR.of (rep1 rs hr).1 (rep1 rs hr).2;have rows2:∀ rs∈gainsP os2 os2.length,RowR c rs:=λrs hr=>RowR.of (rep2 rs hr).1 (rep2 rs hr).2;have f1:=k1.few;have f2:=k2.few;have d1:=k1.sides;have d2:=k2.sides;have s14:=sz.s14;have bp:=k1.p k2 sz;have nN:=bp.nN;have b1:=k1.m sz;have b2:=k2.m sz;have nM:=b1.nN;have good1:∀ o∈os1,GoodO 114 o:=λo h=>(k1.off o h).good.mono9 sz.n114;have good2:∀ o∈os2,GoodO 114 o:=λo h=>(k2.off o h).good.mono9 sz.n114;obtain⟨v1,h1,p1⟩:=id O1;obtain⟨v2,h2,p2⟩:=id O2;have list1:∀ {H1:Hp} {a:Addr},Same H H1->H1 a=none->OffsAt K (upd H1 a (.lst v1)) a c os1:=λS ha=>⟨v1,Zb,Zz p1 ((Ext.same S).trans (Ext.new ha))⟩;have list2:∀ {H1:Hp} {a:Addr},Same H H1->H1 a=none->OffsAt K (upd H1 a (.lst v2)) a c os2:=λS ha=>⟨v2,Zb,Zz p2 ((Ext.same S).trans (Ext.new ha))⟩;rcases hf with ⟨rfl,W,wW⟩ | ⟨t,ar,ah,al,R,v,u,rfl,ht,hR,part,⟨DR,UR,rR⟩,mv,lv,gv,gu,sv,su⟩
 ·refine⟨_,rfl,rfl,_,rfl,Vf ?_⟩;refine⟨_,rfl,_,rfl,l1,_,rfl,.inl (SqL.of h1),λa1 ha1=>?_⟩;have T1:=Same.new (o:=.lst v1) ha1;have La:=list1 (Same.refl _) ha1;generalize upd H a1 (.lst v1)=H1 at *
  refine⟨_,rfl,l2,_,rfl,.inl (SqL.of (T1 _ _ h2)),λa2 ha2=>?_⟩;have T2:=Same.new (o:=.lst v2) ha2;have Lb:=list2 T1 ha2;generalize upd H1 a2 (.lst v2)=H2 at *
  refine⟨a1,a2,c,os1,os2,rfl,La.same T2,Lb,by omega,λlj H3 S3 hj=>?_⟩;have eg:=Vh (os1:=os1) (os2:=os2);have S03:=(T1.trans T2).trans S3;refine⟨lj,c,_,os1++os2,rfl,hj,bp,c2,hc,λt q ns H4 S4 hq ht beat _=>?_,λt lo ls H4 S4 ht rl hw ⟨DL,UL,rL⟩=>?_⟩
  ·rw[eg] at beat;exact (beat.no (λrs h=>(JF.mp h).elim (rows1 rs) (rows2 rs)) wW).elim
  have S04:=S03.trans S4;refine⟨_,rfl,t,_,_,_,rfl,rfl,ht,Zg (j:=0) rfl,rfl,_,rfl,Vf ?_⟩;refine⟨_,rfl,t,_,_,_,rfl,rfl,ht,Zg (j:=1) rfl,?_⟩;refine⟨_,rfl,l1,c,114,os1,rfl,O1.same S04,by omega,by omega,by decide,good1,λe1 H5 fe1 S5 ⟨ad1,hd1,hA1⟩=>?_⟩;refine⟨_,rfl,l2,c,114,os2,rfl,O2.same (S04.trans S5),by omega,by omega,by decide,good2,λe2 H6 fe2 S6 ⟨ad2,hd2,hA2⟩=>?_⟩;have la1:=XG hA1;have la2:=XG hA2;refine⟨e1,e2,_,_,rfl,rfl,S6 _ _ hd1,hd2,Zq (by rw[YC,YC];omega),λl3 hl3=>?_⟩;have T3:=Same.new (o:=.lst (ad1.map V.ref++ad2.map V.ref)) hl3;have hrows:RowsAt K (upd H6 l3 (.lst (ad1.map V.ref++ad2.map V.ref))) l3 (gainsP os1 os1.length++gainsP os2 os2.length):=⟨ad1++ad2,by rw[XR];exact Zb,Paired.appP (Yw hA1 (Ext.same (S6.trans T3))) (Yw hA2 (Ext.same T3))⟩;generalize upd H6 l3 (.lst (ad1.map V.ref++ad2.map V.ref))=H7 at *
  have S47:=(S5.trans S6).trans T3;rw[eg] at hw;exact⟨lo,l3,c,114,_,ls,_,rfl,rl.same S47,hrows,hw.len,⟨_,_,rL⟩,hw,λrs h=>(JF.mp h).elim (rep1 rs) (rep2 rs),by omega,hc,λH8 S8=>k _ ((S04.trans S47).trans S8)⟩
 refine⟨_,rfl,rfl,_,rfl,X9 ?_⟩;refine⟨_,rfl,_,_,_,_,rfl,ht,Ve,_,rfl,X9 ?_⟩;refine⟨_,rfl,t,_,rfl,.inr ht,rfl,_,rfl,Pm rfl ?_⟩;refine⟨_,rfl,t,_,_,_,rfl,rfl,ht,Zg (j:=0) rfl,_,rfl,ar,c,R,rfl,hR,part.len,_,rfl,X9 ?_⟩;refine⟨_,rfl,t,_,rfl,ht,rfl,_,_,rfl,_,_,rfl,_,_,rfl,rfl,?_⟩;refine⟨_,rfl,_,rfl,ah,v,rfl,sv,_,rfl,X9 ?_⟩;refine⟨_,rfl,_,rfl,al,u,rfl,su,_,rfl,X9 ?_⟩;have nM9:bN c n s'+(bP c n s'+119)<=3900:=nM;refine⟨_,rfl,_,rfl,al,ah,u,v,_,rfl,su,sv,gu,gv,by omega,λam H1 fm S1 em=>?_⟩;have ap:=part.apart rows1 rows2 mv lv;refine⟨am,_,_,rfl,rfl,SqT.of em,_,_,rfl,rfl,_,rfl,?_⟩;refine X6 (λh=>absurd (XH h) (by omega)) (λ_=>?_);refine⟨_,rfl,_,rfl,l1,_,rfl,.inl (SqL.of (S1 _ _ h1)),λa1 ha1=>?_⟩;have T1:=Same.new (o:=.lst v1) ha1;have La:=list1 S1 ha1;generalize upd H1 a1 (.lst v1)=H2 at *
 have S02:=S1.trans T1;refine⟨_,rfl,a1,ar,c,114,_,_,os1,R,_,_,rfl,La,b1,hR.same S02,part.len,rR,c2,hc,λt3 q3 va3 lo3 v' H3 S3 mv' gv' sv' ht3=>?_,λd q ns H' S' fq e1 e2 bt _=>(bt.no rows1 w1).elim⟩;have S03:=S02.trans S3;obtain rfl:=mv.uniq mv' rows1 part.low;refine⟨t3,_,_,_,rfl,rfl,ht3,Zg (j:=0) rfl,_,rfl,va3,ah,[v.1,v.2],[v.1,v.2],rfl,rfl,sv',Zt S03 sv,?_⟩;rw[XQ rfl];refine⟨_,rfl,Vf ?_⟩;refine⟨_,rfl,_,rfl,l2,_,rfl,.inl (SqL.of (S03 _ _ h2)),λa2 ha2=>?_⟩;have T2:=Same.new (o:=.lst v2) ha2;have Lb:=list2 S03 ha2;generalize upd H3 a2 (.lst v2)=H4 at *
 have S04:=S03.trans T2;refine⟨_,rfl,a2,ar,c,114,_,_,os2,R,_,_,rfl,Lb,b2,hR.same S04,part.len,rR,c2,hc,λt5 q5 va5 lo5 u' H5 S5 lv' gu' su' ht5=>?_,λd q ns H' S' fq e1 e2 bt _=>(bt.no rows2 w2).elim⟩;have S05:=S04.trans S5;obtain rfl:=lv.uniq lv';refine⟨t5,_,_,_,rfl,rfl,ht5,Zg (j:=0) rfl,_,rfl,va5,al,[u.1,u.2],[u.1,u.2],rfl,rfl,su',Zt S05 su,?_⟩;rw[XQ rfl];exact k _ S05
end
theorem Db {i:Nat}{tb:(L2.St->XK)->TS}{ts:TS}{Ds:Ends}{σ:L2.St}(R:XK)(h1:∀ EX:L2.St->XK,(∀ cls dd H',R cls dd H'->EX σ cls dd H')->tb EX Ds σ H)
  (h2:∀ cls dd H',R cls dd H'->cls=.ref C/\∀ a,H' a=none->ts (unN i Ds) (σ.set i (some (.ref a))) (upd H' a (excC a C dd))):tTryDAs C i tb ts Ds σ H:=h1 _ h2
structure Kinds (K:TQ)(mg:TB)(C c1 c2 c3 c4 c5:Addr):Prop where
 m1:mg "NoChance"=some (.ref c1)
 m2:mg "NoName"=some (.ref c2)
 m3:mg "NoRatio"=some (.ref c3)
 m4:mg "NoRow"=some (.ref c4)
 m5:mg "NoText"=some (.ref c5)
 m0:mg "NoFair"=some (.ref C)
 mv:mg "ValueError"=none
 ka:W.kitAny K (.ref C) [.ref c1,.ref c2,.ref c3,.ref c4,.ref c5]=some false
 k0:W.kitOne K (.ref C) (.ref C)=some true
 kv:W.kitOne K (.ref C) (.type "ValueError")=some true
def KindsHere (K:TQ)(mg:TB):Prop:=∃ C c1 c2 c3 c4 c5,Kinds K mg C c1 c2 c3 c4 c5
theorem Z08 {c1 c2 c3 c4 c5:Addr}(X:K.In h)(G:h.Ns mainGlobals mg)(a0:W.nsIn K mainGlobals "NoFair"=some (some (.ref C)))(a1:W.nsIn K mainGlobals "NoChance"=some (some (.ref c1)))(a2:W.nsIn K mainGlobals "NoName"=some (some (.ref c2)))(a3:W.nsIn K mainGlobals "NoRatio"=some (some (.ref c3)))
  (a4:W.nsIn K mainGlobals "NoRow"=some (some (.ref c4))) (a5:W.nsIn K mainGlobals "NoText"=some (some (.ref c5))) (av:W.nsIn K mainGlobals "ValueError"=some none) (ka:W.kitAny K (.ref C) [.ref c1,.ref c2,.ref c3,.ref c4,.ref c5]=some false) (k0:W.kitOne K (.ref C) (.ref C)=some true) (kv:W.kitOne K (.ref C) (.type "ValueError")=some true):KindsHere K mg :=
 ⟨C,c1,c2,c3,c4,c5,zu X G a1,zu X G a2,zu X G a3,zu X G a4,zu X G a5,zu X G a0,W.mg_none_of X G av,ka,k0,kv⟩
section
variable {P:TR}{w:World}{K:TQ}{mg:TB}{base:Heap}
def BeatsA (c N:Nat)(g1 g2:UB)(ns:TU):Prop:=BeatN c g1 N ns \/ ((∃ W,WtsQ c g1 W)/\BeatN c g2 N ns)
inductive spRefusal9 (K:TQ) (C:Addr) (vs:TY) (H:Hp) (Q:VK) (_z3:XK):Prop
 | i (l1 l2:Addr) (c n s:Nat) (os1 os2:UD) (_:vs=[.int (c:Int),.ref l1,.ref l2]) (_:OffsAt K H l1 c os1) (_:OffsAt K H l2 c os2) (_:BookE c n s os1) (_:BookE c n s os2) (_:SizeE c n s) (_:2<=c) (_:c<=100) (_:¬ ((∃ W,WtsQ c (gainsP os1 os1.length) W)/\∃ W,WtsQ c (gainsP os2 os2.length) W)) (_:∀ (a d q:Addr) (ns:TU) (H':Hp),Same H H'->H q=none->H' a=some (excC a C (some d))->H' d=some (.xd [("multiples",.ref q)])->H' q=some (.lst (ns.map V.int))->BeatsA c (bN c n s) (gainsP os1 os1.length) (gainsP os2 os2.length) ns->(∀ z∈ns,Bd (bN c n s+(bP c n s+119)) z)->Q (.ref a) H')
theorem Ke {c_NoFair D0:Addr}(D:Def K mg "_law_refusal" i9 VY)(k_SureError:CatchBy K c_NoFair D0)(m_SureError:mg "SureError"=some (.ref D0))(eX:HasD P w K mg base 8 "parting" VN (spPartX K c_NoFair)):Has P w K mg base 9 "_law_refusal" VY (spRefusal9 K c_NoFair) true:=by
 refine D.h9 (N:=["_law_count","_law_one","_law_other","e"]) fsc λH Q hr h nd=>?_;obtain⟨l1,l2,c,n,s',os1,os2,rfl,O1,O2,k1,k2,sz,c2,hc,un,k⟩:=h;refine⟨_,(Z9 (Gi (i:=3) nd rfl rfl rfl rfl rfl k_SureError m_SureError rfl (λ_ _ _ hL=>(Zc (X7 (V0 eX (hr.mono (by decide)) rfl hL (Z0 (pv 0) (Z0 (pv 1) (Z0 (pv 2) Z8))))))) (λ_ _ _=>(Zc (Zh (pv 3)))))
  (Zc (Zh Yj))),?_⟩
 have rep1:=k1.rep114 sz;have rep2:=k2.rep114 sz;have rows1:∀ rs∈gainsP os1 os1.length,RowR c rs:=λrs hr=>RowR.of (rep1 rs hr).1 (rep1 rs hr).2;have rows2:∀ rs∈gainsP os2 os2.length,RowR c rs:=λrs hr=>RowR.of (rep2 rs hr).1 (rep2 rs hr).2;have f1:=k1.few;have f2:=k2.few;have d1:=k1.sides;have s14:=sz.s14;refine Db (λcls dd H'=>∃ (d q:Addr) (ns:TU),cls=.ref c_NoFair/\dd=some d/\Same H H'/\H q=none/\H' d=some (.xd [("multiples",.ref q)])/\H' q=some (.lst (ns.map V.int))/\BeatsA c (bN c n s') (gainsP os1 os1.length) (gainsP os2 os2.length) ns/\∀ z∈ns,Bd (bN c n s'+(bP c n s'+119)) z) (λEX hEX=>?_) ?_
 ·refine⟨_,rfl,_,rfl,_,rfl,l1,l2,c,_,_,os1,os2,rfl,O1,O2,k1.p k2 sz,k1.m sz,k2.m sz,by omega,by omega,Vh,rep1,c2,hc,λH' S ⟨W,w⟩=>?_,λt ar ah al R v u H' S ht hR part rR mv lv gv gu sv su=>?_,λd q ns H' S fq e1 e2 bt bd=>hEX _ _ _ ⟨d,q,ns,rfl,rfl,S,fq,e1,e2,.inl bt,bd⟩,λw1 d q ns H' S fq e1 e2 bt bd=>hEX _ _ _ ⟨d,q,ns,rfl,rfl,S,fq,e1,e2,.inr ⟨w1,bt⟩,bd⟩⟩
  ·exact (un ⟨⟨W,w.len,w.low,w.nn,λrs h=>w.fit rs (YL _ h),w.lie⟩,⟨W,w.len,w.low,w.nn,λrs h=>w.fit rs (XC _ h),w.lie⟩⟩).elim
  obtain⟨W,w,_⟩:=mv.hit;obtain⟨W',w',_⟩:=lv.hit;exact (un ⟨⟨W,w.toQ rows1⟩,⟨W',w'.toQ rows2⟩⟩).elim
 rintro cls dd H' ⟨d,q,ns,rfl,rfl,S1,fq,e1,e2,bt,bd⟩;refine⟨rfl,λa ha=>?_⟩;have S2:Same H' (upd H' a (excC a c_NoFair (some d))):=Same.new ha;exact⟨_,rfl,k a d q ns _ (S1.trans S2) fq Zb (S2 _ _ e1) (S2 _ _ e2) bt bd⟩
inductive spRefused9 (K:TQ) (C:Addr) (vs:TY) (H:Hp) (Q:VK) (_z3:XK):Prop
 | i (a bl l1 l2 d q:Addr) (c n s:Nat) (os1 os2:UD) (ns:TU) (H0:Hp) (_:vs=[.int (c:Int),.ref a,.ref bl]) (_:Same H0 H) (_:H0 q=none) (_:OffsAt K H0 l1 c os1) (_:OffsAt K H0 l2 c os2) (_:H bl=some (.lst [.ref l1,.ref l2])) (_:H a=some (excC a C (some d))) (_:H d=some (.xd [("multiples",.ref q)])) (_:H q=some (.lst (ns.map V.int))) (_:BeatsA c (bN c n s) (gainsP os1 os1.length) (gainsP os2 os2.length) ns) (_:(∀ z∈ns,Bd (bN c n s+(bP c n s+119)) z)) (_:BookE c n s os1) (_:BookE c n s os2) (_:SizeE c n s) (_:2<=c) (_:c<=100) (_:¬ ((∃ W,WtsQ c (gainsP os1 os1.length) W)/\∃ W,WtsQ c (gainsP os2 os2.length) W)) (_:∀ H',Q (.bl true) H')
theorem Kd {c_NoFair c_NoChance c_NoName c_NoRatio c_NoRow c_NoText fI:Addr}(D:Def K mg "_law_refused" iZ VZ)(T:Blt mg)(ks:Kinds K mg c_NoFair c_NoChance c_NoName c_NoRatio c_NoRow c_NoText)(O:ExcI K mg "NoFair" c_NoFair fI)(R:ExcRead K c_NoFair)(S0:StoI K c_NoFair "multiples")(eP:Z6 P w K mg base)(fQ:Has P w K mg base 5 "_law_beats" VV (spBeatsN K))(eR:Has P w K mg base 9 "_law_refusal" VY (spRefusal9 K c_NoFair) true):Has P w K mg base 10 "_law_refused" VZ (spRefused9 K c_NoFair) true:=by
 refine D.h9 (N:=["_law_count","_law_some","_law_books","_law_first"]) fsc λH Q hr h nd=>?_;obtain⟨a,bl,l1,l2,d,q,c,n,s',os1,os2,ns,H0,rfl,S00,fq,O1,O2,hbl,ha,hd,hq,bt,bX,k1,k2,sz,c2,hc,un,k⟩:=h;have m_NoChance:=ks.m1;have m_NoName:=ks.m2;have m_NoRatio:=ks.m3;have m_NoRow:=ks.m4;have m_NoText:=ks.m5;have m_NoFair:=ks.m0;have n_ValueError:=ks.mv;refine⟨_,(Z9 (Y4 (PW.pt (Wf (Yz (Yr (Zx (Wn (K:=K)) rfl T.isinstance XF (Z0 (pv 1) (Z0 (Yq (v:=.ref c_NoFair) rfl m_NoFair rfl) Z8))))) (W8 (Yz (Yr (Zx (Wn (K:=K)) rfl T.isinstance XF (Z0 (pv 1) (Z0 (Td n_ValueError PyProof.Rows.Boot.«ValueError») Z8))))))))
   (Zc (Zh Wh))
   Zp)
  (Z9 (Y4 (Yr (Zx (Wn (K:=K)) rfl T.isinstance XF (Z0 (pv 1) (Z0 (Yc (Z0 (Yq (v:=.ref c_NoChance) rfl m_NoChance rfl) (Z0 (Yq (v:=.ref c_NoName) rfl m_NoName rfl) (Z0 (Yq (v:=.ref c_NoRatio) rfl m_NoRatio rfl) (Z0 (Yq (v:=.ref c_NoRow) rfl m_NoRow rfl) (Z0 (Yq (v:=.ref c_NoText) rfl m_NoText rfl) Z8)))))) Z8))))
   (Zc (Zh Wh))
   Zp)
  (Z9 (Zi (i:=3) nd rfl (Or.inl rfl) (Zj Zv (pv 2) Za (λ_ _=>rfl)))
  (Z9 (Yk (Y4 (Zl Yy (Zj Yd (Zf eP hr (Z0 (pv 0) (Z0 (Zw Y9 rfl T.list XA (Z0 (Zj Zv (pv 2) Za (λ_ _=>rfl)) Z8)) Z8))) Za (λ_ _=>rfl)) Xr (Zo _))
   (Zc (Zi (i:=3) nd rfl (Or.inl rfl) (Zj Zv (pv 2) Za (λ_ _=>rfl))))
   Zp))
  (Z9 (Y4 (Yz (Yr (Zf fQ hr (Z0 (pv 0) (Z0 (pv 3) (Z0 (Rh (K:=K) (mg:=mg) (pv 1) rfl) Z8))))))
   (Zc (Zh Wh))
   Zp)
  (Z9 (X7 (Wu XE XT XU Yn (Rh (K:=K) (mg:=mg) (pv 1) rfl) (Z0 Yj Z8)))
  (Z9 (Vq (U4 Wt Za) (Tt (Rh (K:=K) (mg:=mg) (pv 1) rfl) Za V9))
  (Z9 (Zi (i:=1) nd rfl (Or.inl rfl) (Tc eR (hr.mono (by decide)) rfl (Z0 (pv 0) (Z0 (Zw Y9 rfl T.list XA (Z0 (Zj Zv (pv 2) Za (λ_ _=>rfl)) Z8)) (Z0 (Zw Y9 rfl T.list XA (Z0 (Zj Zv (pv 2) Za (λ_ _=>rfl)) Z8)) Z8)))))
  (Zc (Zh (Uo (Zx (Wn (K:=K)) rfl T.isinstance XF (Z0 (pv 1) (Z0 (Yq (v:=.ref c_NoFair) rfl m_NoFair rfl) Z8))) (Um (Zf fQ hr (Z0 (pv 0) (Z0 (pv 3) (Z0 (Rh (K:=K) (mg:=mg) (pv 1) rfl) Z8)))))))))))))))),?_⟩
 have rep1:=k1.rep114 sz;have rep2:=k2.rep114 sz;have rows1:∀ rs∈gainsP os1 os1.length,RowR c rs:=λrs hr=>RowR.of (rep1 rs hr).1 (rep1 rs hr).2;have bq:BookP c (bP c n s') os1:=by
  have e:BookE c n s' []:=⟨JH _,(λ_ h=>nomatch h),by rw[Xn];exact JH _⟩;have:=k1.p e sz
  rwa [GS] at this
 refine⟨_,rfl,a,c_NoFair,some d,.ref c_NoFair,true,rfl,ha,R,.inl ⟨.ref c_NoFair,λu z=>z,ks.k0⟩,_,rfl,X9 ?_⟩;refine⟨_,rfl,a,c_NoFair,some d,.ty "ValueError",true,rfl,ha,R,.inl ⟨.type "ValueError",λu z=>z,ks.kv⟩,_,rfl,X9 ?_⟩;refine⟨_,rfl,sz5,λt ht=>?_⟩;have S1:=Same.new (o:=.tup [.ref c_NoChance,.ref c_NoName,.ref c_NoRatio,.ref c_NoRow,.ref c_NoText]) ht;have et:upd H t (.tup [.ref c_NoChance,.ref c_NoName,.ref c_NoRatio,.ref c_NoRow,.ref c_NoText]) t=some (.tup [.ref c_NoChance,.ref c_NoName,.ref c_NoRatio,.ref c_NoRow,.ref c_NoText]):=Zb;generalize upd H t (.tup [.ref c_NoChance,.ref c_NoName,.ref c_NoRatio,.ref c_NoRow,.ref c_NoText])=H1 at *
 refine⟨a,c_NoFair,some d,.ref t,false,rfl,S1 _ _ ha,R,.inr ⟨t,[c_NoChance,c_NoName,c_NoRatio,c_NoRow,c_NoText],rfl,SqT.of et,ks.ka⟩,_,rfl,X9 ?_⟩;replace S00:=S00.trans S1;replace ha:=S1 _ _ ha;replace hd:=S1 _ _ hd;replace hq:=S1 _ _ hq;replace hbl:=S1 _ _ hbl;clear S1 et ht;obtain⟨v1,h1,p1⟩:=id O1;obtain⟨v2,h2,p2⟩:=id O2;refine⟨_,rfl,bl,_,_,_,rfl,rfl,SqL.of hbl,Zg (j:=0) rfl,?_⟩;refine⟨λσ H'=>∃ (lF:Addr) (oF:UD),σ=[some (.int c),some (.ref a),some (.ref bl),some (.ref lF)]/\Same H1 H'/\OffsAt K H0 lF c oF/\BookE c n s' oF/\∀ ms,BeatsA c (bN c n s') (gainsP os1 os1.length) (gainsP os2 os2.length) ms->BeatN c (gainsP oF oF.length) (bN c n s') ms,?_,?_⟩
 ·refine⟨_,rfl,_,rfl,bl,_,_,_,rfl,rfl,SqL.of hbl,Zg (j:=0) rfl,l1,v1,rfl,.inl (SqL.of (S00 _ _ h1)),λa1 ha1=>?_⟩;have T1:=Same.new (o:=.lst v1) ha1;have La:OffsAt K (upd H1 a1 (.lst v1)) a1 c os1:=⟨v1,Zb,Zz p1 ((Ext.same S00).trans (Ext.new ha1))⟩;generalize upd H1 a1 (.lst v1)=H2 at *
  refine⟨a1,c,_,os1,rfl,La,bq,c2,hc,λt2 q2 ms H3 S3 hq2 ht2 beat _=>?_,λt2 lo ls H3 S3 ht2 rl hw _=>?_⟩
  ·refine⟨t2,_,_,_,rfl,rfl,ht2,Zg (j:=0) rfl,rfl,_,rfl,X9 ?_⟩;exact⟨l1,os1,rfl,T1.trans S3,O1,k1,λms z=>z.elim (λb=>b) λ⟨⟨W,w⟩,_⟩=>(beat.no rows1 w).elim⟩
  refine⟨t2,_,_,_,rfl,rfl,ht2,Zg (j:=0) rfl,rfl,_,rfl,Vf ?_⟩;refine⟨_,rfl,bl,_,_,_,rfl,rfl,SqL.of ((T1.trans S3) _ _ hbl),Zg (j:=1) rfl,?_⟩;exact⟨l2,os2,rfl,T1.trans S3,O2,k2,λms z=>z.elim (λb=>(b.no rows1 (hw.toQ rows1)).elim) λ⟨_,b⟩=>b⟩
 rintro σ H2 ⟨lF,oF,rfl,S2,OF,kF,hF⟩;replace S00:=S00.trans S2;replace ha:=S2 _ _ ha;replace hd:=S2 _ _ hd;replace hq:=S2 _ _ hq;replace hbl:=S2 _ _ hbl;clear S2;have repF:=kF.rep114 sz;have goodF:∀ o∈oF,GoodO 114 o:=λo h=>(kF.off o h).good.mono9 sz.n114;have fewF:=kF.few;have dF:=kF.sides;have s14:=sz.s14;have nM:=(k1.m sz).nN;have nM9:bN c n s'+(bP c n s'+119)<=3900:=nM;have bN9:bN c n s'<=3000:=by have:=sz.e;show (n+5)*s'+((n+5)*min c (2*s'+2)+1+119)+12<=3000;omega
 have x114:114<=bN c n s'+(bP c n s'+119):=by omega
 refine⟨_,rfl,_,rfl,_,rfl,a,c_NoFair,fI,d,"NoFair",_,.ref q,rfl,ha,hd,rfl,R,O,S0.na,?_⟩;refine⟨lF,q,c,_,_,oF,ns,rfl,OF.same S00,goodF,by omega,repF,hq,hF ns bt,bX,x114,by omega,bN9,hc,by omega,λH3 S3=>⟨_,rfl,X9 ?_⟩⟩;replace S00:=S00.trans S3;replace ha:=S3 _ _ ha;replace hd:=S3 _ _ hd;replace hq:=S3 _ _ hq;replace hbl:=S3 _ _ hbl;clear S3;have lns:=(hF ns bt).len;have lx:(ns.map V.int).length<=100:=by rw[YC];omega
 have nbq:bl≠q:=λz=>by
  rw[z,hq] at hbl;have e:=HO.lst.inj (YK hbl)
  cases ns with
  | nil=>cases e
  | cons x t=>cases e
 have naq:a≠q:=λz=>by rw[z,hq] at ha;cases ha
 have ndq:d≠q:=λz=>by rw[z,hq] at hd;cases hd
 refine⟨_,rfl,a,c_NoFair,fI,d,"NoFair",_,.ref q,rfl,ha,hd,rfl,R,O,S0.na,.inl ⟨rfl,_,SqL.of hq⟩,q,_,_,rfl,rfl,hq,Xo (by omega),?_⟩;have S3:Same H0 (upd H3 q (.lst (ns.map V.int++[.non]))):=λp o e=>by rw[Ze (Zd e fq)];exact S00 _ _ e
 have hq4:upd H3 q (.lst (ns.map V.int++[.non])) q=some (.lst (ns.map V.int++[.non])):=Zb;replace ha:upd H3 q (.lst (ns.map V.int++[.non])) a=_:=(Ze naq).trans ha;replace hd:upd H3 q (.lst (ns.map V.int++[.non])) d=_:=(Ze ndq).trans hd;replace hbl:upd H3 q (.lst (ns.map V.int++[.non])) bl=_:=(Ze nbq).trans hbl;generalize upd H3 q (.lst (ns.map V.int++[.non]))=H4 at *
 clear S00 hq;refine⟨7,rfl,_,rfl,a,c_NoFair,fI,d,"NoFair",_,.ref q,rfl,ha,hd,rfl,R,O,S0.na,q,_,_,0,rfl,rfl,hq4,Km (by decide) (by rw[YS];show (0:Int)<(((ns.map V.int).length+1:Nat):Int);omega),?_⟩;generalize HO.lst ((List.map V.int ns++[V.non]).set 0 ((λi=>V.int (-i)) (7:Int)))=hz;have S4:Same H0 (upd H4 q hz):=λp o e=>by rw[Ze (Zd e fq)];exact S3 _ _ e
 replace hbl:upd H4 q hz bl=_:=(Ze nbq).trans hbl;generalize upd H4 q hz=H5 at *
 clear S3 hq4 ha hd;refine⟨_,rfl,_,rfl,bl,_,_,_,rfl,rfl,SqL.of hbl,Zg (j:=0) rfl,l1,v1,rfl,.inl (SqL.of (S4 _ _ h1)),λa1 ha1=>?_⟩;have T1:=Same.new (o:=.lst v1) ha1;have La:OffsAt K (upd H5 a1 (.lst v1)) a1 c os1:=⟨v1,Zb,Zz p1 ((Ext.same S4).trans (Ext.new ha1))⟩;generalize upd H5 a1 (.lst v1)=H6 at *
 have S6:=S4.trans T1;refine⟨_,rfl,bl,_,_,_,rfl,rfl,SqL.of (T1 _ _ hbl),Zg (j:=1) rfl,l2,v2,rfl,.inl (SqL.of (S6 _ _ h2)),λa2 ha2=>?_⟩;have T2:=Same.new (o:=.lst v2) ha2;have Lb:OffsAt K (upd H6 a2 (.lst v2)) a2 c os2:=⟨v2,Zb,Zz p2 ((Ext.same S6).trans (Ext.new ha2))⟩;generalize upd H6 a2 (.lst v2)=H7 at *
 refine⟨a1,a2,c,n,s',os1,os2,rfl,La.same T2,Lb,k1,k2,sz,c2,hc,un,λa8 d8 q8 ms H8 S8 fq8 ea ed eq bt8 bX8=>?_⟩;have S08:=(S6.trans T2).trans S8;refine⟨_,rfl,a8,c_NoFair,some d8,.ref c_NoFair,true,rfl,ea,R,.inl ⟨.ref c_NoFair,λu z=>z,ks.k0⟩,_,rfl,Vf ?_⟩;refine⟨_,rfl,_,rfl,_,rfl,a8,c_NoFair,fI,d8,"NoFair",_,.ref q8,rfl,ea,ed,rfl,R,O,S0.na,?_⟩;exact⟨lF,q8,c,_,_,oF,ms,rfl,OF.same S08,goodF,by omega,repF,eq,hF ms bt8,bX8,x114,by omega,bN9,hc,by omega,λH9 S9=>k _⟩
end
inductive spSize (K:TQ) (vs:TY) (H:Hp) (Q:VK) (_z3:XK):Prop
 | i (b:Addr) (n:Nat) (_:vs=[.ref b]) (_:BagAt H b n) (_:n<=1000) (_:∀ (t:Addr) (H':Hp) (c m:Nat),BagAt H' b (n+2)->SameX b H H'->SqT K H' t [.int (c:Int),.int (m:Int)]->2<=c->c<=12->m<=6/\2*m+min c (4*m+2)<=14->Q (.ref t) H')
theorem Ka {f:Expr}{as:TK}{ks:List PySem.Keyword}:PlainIx (.Call f as ks pos):=λ_ _=>rfl
theorem Di {a b:Expr}:starEach (.Subscript a b pos::es) env=(false,eval (.Subscript a b pos) env)::starEach es env:=rfl
theorem Xg {c:Const}{k:Nat}:starEach (.Constant c k pos::es) env=(false,eval (.Constant c k pos) env)::starEach es env:=rfl
theorem Dj {x:Str}:starEach (.Name x pos::es) env=(false,eval (.Name x pos) env)::starEach es env:=rfl
theorem Z1y {a b:Expr}{c:Const}{x1 k:Nat}{pos1 pos2:Pos}{te2:TE}(ha:PE X (.Subscript a b pos1) te)(h2:PE X (.Constant c k pos2) te2):PE X (.Tuple [.Subscript a b pos1,.Constant c k pos2] x1 pos) (tTup (tCons te (tCons te2 tNil))):=Yc (Z0 ha (Z0 h2 Z8 Xg) Di)
theorem Z5j {i1 i2 i3 i4 i5 i6 i7 i8:Int}{k1 k2 k3 k4 k5 k6 k7 k8:Nat}{p1 p2 p3 p4 p5 p6 p7 p8:Pos}:PE X (.List [.Constant (.int i1) k1 p1,.Constant (.int i2) k2 p2,.Constant (.int i3) k3 p3,.Constant (.int i4) k4 p4,.Constant (.int i5) k5 p5,.Constant (.int i6) k6 p6,.Constant (.int i7) k7 p7,.Constant (.int i8) k8 p8] pos) (tLst (tCons (tC (.int i1)) (tCons (tC (.int i2)) (tCons (tC (.int i3)) (tCons (tC (.int i4)) (tCons (tC (.int i5)) (tCons (tC (.int i6)) (tCons (tC (.int i7)) (tCons (tC (.int i8)) tNil))))))))):=X4 (Z0 Za (Z0 Za (Z0 Za (Z0 Za (Z0 Za (Z0 Za (Z0 Za (Z0 Za Z8 Xg) Xg) Xg) Xg) Xg) Xg) Xg) Xg)
section
variable {P:TR}{w:World}{K:TQ}{mg:TB}{base:Heap}
theorem Z4k (D:Def K mg "_law_size" kC VD)(eC:Z1 P w K mg base):Has P w K mg base 2 "_law_size" VD (spSize K):=by
 refine D.h9 (N:=["_law_bag_here","_law_way"]) fsc λH Q hr h nd=>?_;obtain⟨b,n,rfl,hB,hn,k⟩:=h;refine⟨_,(Z9 (Zi (i:=1) nd rfl (Or.inl rfl) (Zf eC hr (Z0 (pv 0) (Z0 Za Z8))))
  (Z9 (Y4 (Zl Yy (pv 1) Za (Zo _))
   (Zc (Zh (Yc (Z0 Za (Z0 Za Z8)))))
   Zp)
  (Z9 (Y4 (Zl Yy (pv 1) Za (Zo _))
   (Zc (Zh (Yc (Z0 (Zm Yx Za (Zf eC hr (Z0 (pv 0) (Z0 Za Z8)))) (Z0 Za Z8)))))
   Zp)
  (Z9 (Y4 (Zl Yy (pv 1) Za (Zo _))
   (Zc (Zh (Yc (Z0 Za (Z0 Za Z8)))))
   Zp)
  (Zc (Zh (Z1y (Zj Zv Z5j (Zf eC hr (Z0 (pv 0) (Z0 Za Z8 Xg) Dj)) Ka) Za))))))),?_⟩
 refine⟨_,rfl,b,_,n,rfl,hB,by omega,by decide,by decide +kernel,λr1 H1 r10 r11 B1 S1=>?_⟩;have fin:∀ (H2:Hp) (c m:Nat),BagAt H2 b (n+2)->SameX b H H2->2<=c->c<=12->m<=6/\2*m+min c (4*m+2)<=14->∀ t,H2 t=none->Q (.ref t) (upd H2 t (.tup [.int (c:Int),.int (m:Int)])):=λH2 c m B2 S2 h1 h2 h3 t ht=>k t _ c m (B2.same (Same.new ht)) (S2.trans (SameX.of (Same.new ht))) (SqT.of Zb) h1 h2 h3;refine⟨_,rfl,rfl,_,rfl,?_⟩;refine X6 (λ_=>?_) (λ_=>?_)
 ·exact⟨sz2,λt ht=>fin H1 12 2 (B1.mono (by omega)) S1 (by decide) (by decide) (by decide) t ht⟩
 refine⟨_,rfl,rfl,_,rfl,?_⟩;refine X6 (λ_=>?_) (λ_=>?_)
 ·refine⟨_,rfl,b,_,_,rfl,B1,by omega,by decide,by decide +kernel,λr2 H2 r20 r21 B2 S2=>⟨_,_,rfl,rfl,sz2,λt ht=>?_⟩⟩;obtain⟨g,rfl⟩:=zj r20;have fi:=fin H2 (6+g) 2 B2 (S1.trans S2) (by omega) (by omega) (by omega) t ht;have e:((6+g:Nat):Int)=6+((g:Nat):Int):=by omega
  rw[e] at fi;exact fi
 refine⟨_,rfl,rfl,_,rfl,?_⟩;refine X6 (λ_=>?_) (λ_=>?_)
 ·exact⟨sz2,λt ht=>fin H1 2 6 (B1.mono (by omega)) S1 (by decide) (by decide) (by decide) t ht⟩
 refine⟨sz8,λl0 hl0=>?_⟩;have S2:Same H1 (upd H1 l0 (.lst [.int 2,.int 3,.int 3,.int 4,.int 2,.int 3,.int 4,.int 5])):=Same.new hl0;have e2:upd H1 l0 (.lst [.int 2,.int 3,.int 3,.int 4,.int 2,.int 3,.int 4,.int 5]) l0=some (.lst [.int 2,.int 3,.int 3,.int 4,.int 2,.int 3,.int 4,.int 5]):=Zb;generalize upd H1 l0 (.lst [.int 2,.int 3,.int 3,.int 4,.int 2,.int 3,.int 4,.int 5])=H2 at *
 have hlb:l0≠b:=by
  obtain⟨ys,e⟩:=B1.lst;exact (Zd e hl0).symm
 refine⟨_,rfl,b,_,_,rfl,B1.same S2,by omega,by decide,by decide +kernel,λr3 H3 r30 r31 B3 S3=>?_⟩;obtain⟨c0,ec,c2,c5⟩:∃ c:Nat,atI [V.int 2,.int 3,.int 3,.int 4,.int 2,.int 3,.int 4,.int 5] r3=some (.int c)/\2<=c/\c<=5:=by
  have h:r3=0 \/ r3=1 \/ r3=2 \/ r3=3 \/ r3=4 \/ r3=5 \/ r3=6 \/ r3=7:=by omega
  rcases h with rfl | rfl | rfl | rfl | rfl | rfl | rfl | rfl
  ·exact⟨2,Zg (j:=0) rfl,by decide,by decide⟩
  ·exact⟨3,Zg (j:=1) rfl,by decide,by decide⟩
  ·exact⟨3,Zg (j:=2) rfl,by decide,by decide⟩
  ·exact⟨4,Zg (j:=3) rfl,by decide,by decide⟩
  ·exact⟨2,Zg (j:=4) rfl,by decide,by decide⟩
  ·exact⟨3,Zg (j:=5) rfl,by decide,by decide⟩
  ·exact⟨4,Zg (j:=6) rfl,by decide,by decide⟩
  exact⟨5,Zg (j:=7) rfl,by decide,by decide⟩
 refine⟨l0,_,_,_,rfl,rfl,SqL.of (S3 _ _ e2 hlb),ec,sz2,λt ht=>?_⟩;exact fin H3 c0 3 B3 ((S1.trans (SameX.of S2)).trans S3) c2 (by omega) (by omega) t ht
end
end Sb
namespace Sb
open PySem PySem.Spec PyProof.Rows L2
section
variable {X:Cx}{K:TQ}
theorem Z4d (hu:X.A.units+64<cLine)(hK:X.K=K:=by rfl):OpR X (compareOp .Eq) (rAlike K true):=by
 subst hK;intro pins s σ H x y v u Q I rx ry h;obtain⟨n,a,b,xs,ys,rfl,rfl,hn,h,p,q⟩:=h
 cases rx
 cases ry;have lp:=XG p;rcases h with ⟨h1,h2⟩ | ⟨h1,h2⟩
 ·obtain⟨i1,r1,p1,_⟩:=I.list h1;obtain⟨i2,r2,p2,_⟩:=I.list h2;have l1:=r1.length;have l2:=r2.length;refine SeqAt.RcAt.lists (A:=X.A) (e:=λ_=>true) p1.isList p2.isList (by simp;omega) (by omega) (λj h1 h2=>V3 I (by show X.A.units+1+n<cLine;omega) p r1 r2 j h1 h2) _ _ _ _ ?_;rw[Vl];exact⟨.bl true,H,I,rfl,q⟩
 obtain⟨i1,r1,p1,_⟩:=I.tuple h1;obtain⟨i2,r2,p2,_⟩:=I.tuple h2;have l1:=r1.length;have l2:=r2.length;refine SeqAt.RcAt.tuples (A:=X.A) (e:=λ_=>true) p1 p2 (by omega) (λj h1 h2=>V3 I (by show X.A.units+1+n<cLine;omega) p r1 r2 j h1 h2) _ _ _ _ ?_;have e:(i1.toArray.size == i2.toArray.size)=true:=by simp;omega
 rw[Vl,e];exact⟨.bl true,H,I,rfl,q⟩
end
theorem Uy {K:TQ}{H:Hp}{c:Nat}:∀ {vs:TY} {os:UD},Paired (λv o=>OffAt K H c o v) vs os->Paired (EqU K H 0) vs vs
 | _,_,.nil=>.nil
 | _,_,.cons h t=>.cons (by obtain⟨p,_,_,_,_,e,_⟩:=h;rw[e];exact EqU.flat rfl) (Uy t)
end Sb
namespace Sb
open PySem L2
section
variable {P:TR}{w:World}{K:TQ}{mg:TB}{base:Heap}
inductive spLaw (K:TQ) (vs:TY) (H:Hp) (Q:VK) (_z3:XK):Prop
 | i (a:Addr) (ns:TU) (_:vs=[.ref a]) (_:SqL K H a (ns.map V.int)) (_:∀ H',Q (.bl true) H')
theorem Z3e:FnScope ["_law_script","_law_bag_here","_law_count","_law_most","_law_one","_law_other","_law_handed","_law_offers","_law_found","_law_back"] ["_law_script"] (defScope kQ):=fsc
theorem Z5l {fd:FuncData}(F:Fun K "law" "law" kQ f fd)(T:Blt mg)(gN:Has P w K mg base 1 "_law_cell" UF (spCell K))(gW:Has P w K mg base 1 "_law_bag" UG spBag)(gK:Has P w K mg base 2 "_law_size" VD (spSize K))(gU:Has P w K mg base 6 "_law_two" VO (spTwoB K))(eP:Z6 P w K mg base)(eR:Has P w K mg base 9 "_law_refusal" VY (spRefusal9 K C) true)(fW:Has P w K mg base 10 "_law_refused" VZ (spRefused9 K C) true)(eX:HasD P w K mg base 8 "parting" VN (spPartX K C))(fX:Has P w K mg base 8 "_law_good" VX (spGood9 K) true):FnOk P w K mg base CX0 11 f fd ["_law_script"] (spLaw K) true:=by
 refine F.ok Z3e (λvs H Q E h=>?_) (λcdv A outer s H vs Q E hr h=>?_)
 ·obtain⟨a,ns,rfl,_⟩:=h;rfl
 obtain⟨a,ns,rfl,hS,k⟩:=h;have hU64:=hr.units;have sc:=Z3e;refine⟨_,(Z9 (Zi (i:=1) sc.nd rfl (Or.inl rfl) (Zf gW hr (Z0 (Zf gN hr (Z0 (pv 0) (Z0 Za Z8))) Z8)))
  (Z9 (Vq (Zf gK hr (Z0 (pv 1) Z8)) (W9 (n:=2) rfl (Y3 (Zk (i:=2) sc.nd rfl (Or.inl rfl)) (Y3 (Zk (i:=3) sc.nd rfl (Or.inl rfl)) Xl))))
  (Z9 (Vq (Zf gU hr (Z0 (pv 1) (Z0 (pv 2) (Z0 (pv 3) Z8)))) (W9 (n:=2) rfl (Y3 (Zk (i:=4) sc.nd rfl (Or.inl rfl)) (Y3 (Zk (i:=5) sc.nd rfl (Or.inl rfl)) Xl))))
  (Z9 (Yk (Zi (i:=6) sc.nd rfl (Or.inl rfl) (X4 (Z0 (Zw Y9 rfl T.list XA (Z0 (pv 4) Z8)) (Z0 (Zw Y9 rfl T.list XA (Z0 (pv 5) Z8)) Z8)))))
  (Z9 (Xm XY rfl (Xk (X4 (Z0 (pv 4) (Z0 (pv 5) Z8)))) (Zk (i:=7) sc.nd rfl (Or.inl rfl))
   (Zc (Y4 (Zl Yy (Zj Yd (Zf eP hr (Z0 (pv 2) (Z0 (Zw Y9 rfl T.list XA (Z0 (pv 7) Z8)) Z8))) Za (λ_ _=>rfl)) Xr (Zo _))
    (Zc (Zh (Tc fW (hr.mono (by decide)) rfl (Z0 (pv 2) (Z0 (Tc eR (hr.mono (by decide)) rfl (Z0 (pv 2) (Z0 (Zj Zv (pv 6) Za (λ_ _=>rfl)) (Z0 (Zj Zv (pv 6) Za (λ_ _=>rfl)) Z8)))) (Z0 (X4 (Z0 (pv 4) (Z0 (pv 5) Z8))) Z8))))))
    Zp)))
  (Z9 (Yk (Zi (i:=8) sc.nd rfl (Or.inl rfl) (V0 eX (hr.mono (by decide)) rfl V1 (Z0 (pv 2) (Z0 (Zj Zv (pv 6) Za (λ_ _=>rfl)) (Z0 (Zj Zv (pv 6) Za (λ_ _=>rfl)) Z8))))))
  (Z9 (Y4 (PW.pt (Wf (Yz (Yr (Tc fX (hr.mono (by decide)) rfl (Z0 (pv 2) (Z0 (pv 4) (Z0 (pv 5) (Z0 (pv 8) Z8))))))) (W8 (Zl (Z4c (K:=K) hU64) (pv 6) (X4 (Z0 (pv 4) (Z0 (pv 5) Z8))) (Zo _)))))
   (Zc (Zh Wh))
   Zp)
  (Z9 (Yk (Zi (i:=9) sc.nd rfl (Or.inl rfl) (V0 eX (hr.mono (by decide)) rfl V1 (Z0 (pv 2) (Z0 (Zj Zv (pv 6) Za (λ_ _=>rfl)) (Z0 (Zj Zv (pv 6) Za (λ_ _=>rfl)) Z8))))))
  (Zc (Zh (Uo (Xb Yy (Xb Uq (pv 9) Yj (Zo _)) (Xb Uq (pv 8) Yj (Zo _)) (Zo _)) (Uo (Tc fX (hr.mono (by decide)) rfl (Z0 (pv 2) (Z0 (pv 5) (Z0 (pv 4) (Z0 (pv 9) Z8))))) (Um (Xb (Z4d (K:=K) hU64) (pv 6) (X4 (Z0 (pv 4) (Z0 (pv 5) Z8))) (Zo _))))))))))))))),?_⟩
 refine⟨_,rfl,a,0,ns,rfl,hS,by decide,by decide,λz=>?_⟩;refine⟨_,rfl,λb H1 fb1 S1 B1=>?_⟩;refine⟨_,rfl,b,1,rfl,B1,by decide,λt H2 c m B2 S2 ht c2 c12 hm=>?_⟩;refine⟨t,_,rfl,ht,rfl,_,_,rfl,_,_,rfl,rfl,?_⟩;refine⟨_,rfl,_,rfl,_,rfl,b,c,m,_,rfl,B2,by decide,c2,c12,hm.1,hm.2,λt2 l1 l2 H3 n s' os1 os2 ht2 O1 O2 k1 k2 sz=>?_⟩;refine⟨t2,_,rfl,ht2,rfl,_,_,rfl,_,_,rfl,rfl,?_⟩;clear B1 B2 S1 S2 ht ht2;obtain⟨v1,h1,p1⟩:=O1;obtain⟨v2,h2,p2⟩:=O2;have hc:c<=100:=by omega
 refine⟨λσ H'=>∃ (hl e1 e2:Addr),σ=[some (.ref a),some (.ref b),some (.int c),some (.int m),some (.ref l1),some (.ref l2),some (.ref hl),none,none,none]/\Same H3 H'/\H' hl=some (.lst [.ref e1,.ref e2])/\H' e1=some (.lst v1)/\H' e2=some (.lst v2),?_,?_⟩
 ·refine⟨_,rfl,l1,v1,rfl,.inl (SqL.of h1),λe1 he1=>?_⟩;have T1:=Same.new (o:=.lst v1) he1;have f1:upd H3 e1 (.lst v1) e1=some (.lst v1):=Zb;generalize upd H3 e1 (.lst v1)=H4 at *
  refine⟨_,rfl,l2,v2,rfl,.inl (SqL.of (T1 _ _ h2)),λe2 he2=>?_⟩;have T2:=Same.new (o:=.lst v2) he2;have f2:upd H4 e2 (.lst v2) e2=some (.lst v2):=Zb;generalize upd H4 e2 (.lst v2)=H5 at *
  refine⟨sz2,λhl hhl=>?_⟩;have T3:=Same.new (o:=.lst [.ref e1,.ref e2]) hhl;exact⟨hl,e1,e2,rfl,(T1.trans T2).trans T3,Zb,T3 _ _ (T2 _ _ f1),T3 _ _ f2⟩
 rintro σ H4 ⟨hl,e1,e2,rfl,S34,hhl,f1,f2⟩;replace h1:=S34 _ _ h1;replace h2:=S34 _ _ h2;replace p1:=Zz p1 (Ext.same S34);replace p2:=Zz p2 (Ext.same S34);clear S34;have rep1:=k1.rep114 sz;have rep2:=k2.rep114 sz;have rows1:∀ rs∈gainsP os1 os1.length,RowR c rs:=λrs hr=>RowR.of (rep1 rs hr).1 (rep1 rs hr).2;have rows2:∀ rs∈gainsP os2 os2.length,RowR c rs:=λrs hr=>RowR.of (rep2 rs hr).1 (rep2 rs hr).2;have fe1:=k1.few;have fe2:=k2.few;have d1:=k1.sides;have d2:=k2.sides;have s14:=sz.s14;have bq:∀ {os:UD},BookE c n s' os->BookP c (bP c n s') os:=λ{os} h=>by
  have e:BookE c n s' []:=⟨JH _,(λ_ h=>nomatch h),by rw[Xn];exact JH _⟩;have:=h.p e sz
  rwa [GS] at this
 have O1:∀ {H:Hp},Same H4 H->OffsAt K H l1 c os1:=λS=>⟨v1,S _ _ h1,Zz p1 (Ext.same S)⟩;have O2:∀ {H:Hp},Same H4 H->OffsAt K H l2 c os2:=λS=>⟨v2,S _ _ h2,Zz p2 (Ext.same S)⟩;have P1:∀ {H:Hp},Same H4 H->OffsAt K H e1 c os1:=λS=>⟨v1,S _ _ f1,Zz p1 (Ext.same S)⟩;have P2:∀ {H:Hp},Same H4 H->OffsAt K H e2 c os2:=λS=>⟨v2,S _ _ f2,Zz p2 (Ext.same S)⟩;refine⟨_,rfl,_,rfl,sz2,λlz hlz=>?_⟩;have T5:=Same.new (o:=.lst [.ref l1,.ref l2]) hlz;have f5:upd H4 lz (.lst [.ref l1,.ref l2]) lz=some (.lst [.ref l1,.ref l2]):=Zb;generalize upd H4 lz (.lst [.ref l1,.ref l2])=H5 at *
 refine⟨lz,rfl,⟨_,SqL.of f5⟩,Ub (K:=K) (a:=lz) (xs:=[.ref l1,.ref l2]) (λi σ H'=>Same H5 H'/\(1<=i->∃ W,WtsQ c (gainsP os1 os1.length) W)/\(2<=i->∃ W,WtsQ c (gainsP os2 os2.length) W)/\∃ (x:TZ),σ=[some (.ref a),some (.ref b),some (.int c),some (.int m),some (.ref l1),some (.ref l2),some (.ref hl),x,none,none]) ⟨Same.refl _,λh=>absurd h (by decide),λh=>absurd h (by decide),none,rfl⟩ (λi σ H' _ h=>SqL.of (h.1 _ _ f5)) ?_ ?_⟩
 ·rintro i x σ H6 hix ⟨S6,wi1,wi2,x0,rfl⟩;have S46:=T5.trans S6;obtain⟨l,os,vs,rfl,hl6,po,ko,rw0,yes,no⟩:∃ (l:Addr) (os:UD) (vs:TY),x=.ref l/\H6 l=some (.lst vs)/\Paired (λv o=>OffAt K H6 c o v) vs os/\BookE c n s' os/\(∀ rs∈gainsP os os.length,RowR c rs)/\((∃ W,WtsQ c (gainsP os os.length) W)->(1<=i+1->∃ W,WtsQ c (gainsP os1 os1.length) W)/\(2<=i+1->∃ W,WtsQ c (gainsP os2 os2.length) W))/\((¬ ∃ W,WtsQ c (gainsP os os.length) W)->¬ ((∃ W,WtsQ c (gainsP os1 os1.length) W)/\∃ W,WtsQ c (gainsP os2 os2.length) W)):=by
   have i2:i<2:=(YE.mp hix).1;rcases (show i=0 \/ i=1 by omega) with rfl | rfl
   ·cases hix;exact⟨l1,os1,v1,rfl,S46 _ _ h1,Zz p1 (Ext.same S46),k1,rows1,λw=>⟨λ_=>w,λh=>absurd h (by decide)⟩,λu z=>u z.1⟩
   cases hix;exact⟨l2,os2,v2,rfl,S46 _ _ h2,Zz p2 (Ext.same S46),k2,rows2,λw=>⟨λ_=>wi1 (by decide),λ_=>w⟩,λu z=>u z.2⟩
  refine⟨_,rfl,_,rfl,l,vs,rfl,.inl (SqL.of hl6),λa1 ha1=>?_⟩;have T1:=Same.new (o:=.lst vs) ha1;have La:OffsAt K (upd H6 a1 (.lst vs)) a1 c os:=⟨vs,Zb,Zz po (Ext.new ha1)⟩;generalize upd H6 a1 (.lst vs)=H7 at *
  refine⟨a1,c,_,os,rfl,La,bq ko,c2,hc,λt2 q2 ms H8 S8 hq2 ht2 beat _=>?_,λt2 lo ls H8 S8 ht2 rl hw _=>?_⟩
  ·refine⟨t2,_,_,_,rfl,rfl,ht2,Zg (j:=0) rfl,rfl,_,rfl,Vf ?_⟩;have S48:=(S46.trans T1).trans S8;have hh:=S48 _ _ hhl;have un:=no λ⟨W,w⟩=>beat.no rw0 w;refine⟨_,rfl,_,rfl,_,rfl,hl,_,_,_,rfl,rfl,SqL.of hh,Zg (j:=0) rfl,_,rfl,hl,_,_,_,rfl,rfl,SqL.of hh,Zg (j:=1) rfl,?_⟩;refine⟨e1,e2,c,n,s',os1,os2,rfl,P1 S48,P2 S48,k1,k2,sz,c2,hc,un,λa9 d9 q9 ns9 H9 S9 fq9 ea ed eq bt bX=>?_⟩;refine⟨_,rfl,_,rfl,sz2,λbl hbl=>?_⟩;have T9:=Same.new (o:=.lst [.ref l1,.ref l2]) hbl;exact⟨a9,bl,l1,l2,d9,q9,c,n,s',os1,os2,ns9,H8,rfl,S9.trans T9,fq9,O1 S48,O2 S48,Zb,T9 _ _ ea,T9 _ _ ed,T9 _ _ eq,bt,bX,k1,k2,sz,c2,hc,un,λH'=>k _⟩
  refine⟨t2,_,_,_,rfl,rfl,ht2,Zg (j:=0) rfl,rfl,_,rfl,X9 ?_⟩;obtain⟨y1,y2⟩:=yes ⟨_,hw.toQ rw0⟩;exact⟨(S6.trans T1).trans S8,y1,y2,_,rfl⟩
 rintro σ H6 ⟨S6,wi1,wi2,x0,rfl⟩;replace S6:=T5.trans S6;have w1:=wi1 (by simp);have w2:=wi2 (by simp);clear wi1 wi2 T5 f5;have part:∀ {H:Hp} {Qv:VK} {ea eb:Addr} {oa ob:UD},OffsAt K H ea c oa->OffsAt K H eb c ob->BookE c n s' oa->BookE c n s' ob->(∃ W,WtsQ c (gainsP oa oa.length) W)->(∃ W,WtsQ c (gainsP ob ob.length) W)->(∀ (vf:V) (H':Hp),Same H H'->FoundAt K H' c (bP c n s'+119) (bN c n s'+(bP c n s'+119)) (gainsP oa oa.length) (gainsP ob ob.length) vf->Qv vf H')->spPartX K C [.int (c:Int),.ref ea,.ref eb] H Qv (λ_ _ _=>False):=λ{H Qv ea eb oa ob} Oa Ob ka kb ⟨Wa,wa⟩ ⟨Wb,wb⟩ kk=>by
  have ra:=ka.rep114 sz;have rb:=kb.rep114 sz;have rwa:∀ rs∈gainsP oa oa.length,RowR c rs:=λrs hr=>RowR.of (ra rs hr).1 (ra rs hr).2;have rwb:∀ rs∈gainsP ob ob.length,RowR c rs:=λrs hr=>RowR.of (rb rs hr).1 (rb rs hr).2;have:=ka.few;have:=kb.few;have:=ka.sides;exact⟨ea,eb,c,_,_,oa,ob,rfl,Oa,Ob,ka.p kb sz,ka.m sz,kb.m sz,by omega,by omega,Vh,ra,c2,hc,λH' S w=>kk _ H' S (.inl ⟨rfl,w⟩),λt ar ah al R v u H' S ht hR part rR mv lv gv gu sv su=>kk _ H' S (.inr ⟨t,ar,ah,al,R,v,u,rfl,ht,hR,part,rR,mv,lv,gv,gu,sv,su⟩),λd q ns H' S fq e1 e2 bt _=>bt.no rwa wa,λ_ d q ns H' S fq e1 e2 bt _=>bt.no rwb wb⟩
 refine⟨λσ H'=>∃ (vf:V),σ=[some (.ref a),some (.ref b),some (.int c),some (.int m),some (.ref l1),some (.ref l2),some (.ref hl),x0,some vf,none]/\Same H4 H'/\FoundAt K H' c (bP c n s'+119) (bN c n s'+(bP c n s'+119)) (gainsP os1 os1.length) (gainsP os2 os2.length) vf,?_,?_⟩
 ·have hh:=S6 _ _ hhl;refine⟨_,rfl,_,rfl,hl,_,_,_,rfl,rfl,SqL.of hh,Zg (j:=0) rfl,_,rfl,hl,_,_,_,rfl,rfl,SqL.of hh,Zg (j:=1) rfl,?_⟩;delta tNil;exact part (P1 S6) (P2 S6) k1 k2 w1 w2 λvf H' S f=>⟨vf,rfl,S6.trans S,f⟩
 rintro σ H7 ⟨vf,rfl,S7,F7⟩;have alike:∀ {H:Hp} {lq:Addr},Same H4 H->H lq=some (.lst [.ref l1,.ref l2])->((SqL K H hl [.ref e1,.ref e2]/\SqL K H lq [.ref l1,.ref l2]) \/ (SqT K H hl [.ref e1,.ref e2]/\SqT K H lq [.ref l1,.ref l2]))/\Paired (EqU K H 1) [.ref e1,.ref e2] [.ref l1,.ref l2]:=λS hq=>⟨.inl ⟨SqL.of (S _ _ hhl),SqL.of hq⟩,.cons (.inr ⟨e1,l1,v1,v1,rfl,rfl,.inl ⟨SqL.of (S _ _ f1),SqL.of (S _ _ h1)⟩,Uy (Zz p1 (Ext.same S))⟩) (.cons (.inr ⟨e2,l2,v2,v2,rfl,rfl,.inl ⟨SqL.of (S _ _ f2),SqL.of (S _ _ h2)⟩,Uy (Zz p2 (Ext.same S))⟩) .nil)⟩;refine⟨_,rfl,_,rfl,_,rfl,_,rfl,l1,l2,vf,c,n,s',os1,os2,rfl,O1 S7,O2 S7,k1,k2,sz,c2,hc,w1,w2,F7,λH8 S8=>⟨_,rfl,X9 ?_⟩⟩;have S48:=S7.trans S8;refine⟨_,rfl,_,rfl,_,rfl,sz2,λlq hlq=>?_⟩;have T9:=Same.new (o:=.lst [.ref l1,.ref l2]) hlq;have f9:upd H8 lq (.lst [.ref l1,.ref l2]) lq=some (.lst [.ref l1,.ref l2]):=Zb;generalize upd H8 lq (.lst [.ref l1,.ref l2])=H9 at *
 have S49:=S48.trans T9;obtain⟨al1,al2⟩:=alike S49 f9;refine⟨1,hl,lq,_,_,rfl,rfl,by decide,al1,al2,_,rfl,X9 ?_⟩;clear al1 al2;refine⟨λσ H'=>∃ (vb:V),σ=[some (.ref a),some (.ref b),some (.int c),some (.int m),some (.ref l1),some (.ref l2),some (.ref hl),x0,some vf,some vb]/\Same H4 H'/\FoundAt K H' c (bP c n s'+119) (bN c n s'+(bP c n s'+119)) (gainsP os2 os2.length) (gainsP os1 os1.length) vb,?_,?_⟩
 ·have hh:=S49 _ _ hhl;refine⟨_,rfl,_,rfl,hl,_,_,_,rfl,rfl,SqL.of hh,Zg (j:=1) rfl,_,rfl,hl,_,_,_,rfl,rfl,SqL.of hh,Zg (j:=0) rfl,?_⟩;delta tNil;exact part (P2 S49) (P1 S49) k2 k1 w2 w1 λvb H' S f=>⟨vb,rfl,S49.trans S,f⟩
 rintro σ H10 ⟨vb,rfl,S10,F10⟩;have same:decide (vb=.non)=decide (vf=.non):=by
  rcases F7 with ⟨rfl,W,wW⟩ | ⟨t,ar,ah,al,R,v,u,rfl,_,_,pr,_⟩
  ·rcases F10 with ⟨rfl,_⟩ | ⟨t,ar,ah,al,R,v,u,rfl,_,_,pr,_⟩
   ·rfl
   have h1:=pr.one W ⟨wW.len,wW.low,wW.nn,λrs h=>wW.fit rs (XC _ h),wW.lie⟩;have h2:=pr.two W ⟨wW.len,wW.low,wW.nn,λrs h=>wW.fit rs (YL _ h),wW.lie⟩;exact absurd h2 (by grind)
  rcases F10 with ⟨rfl,W,wW⟩ | ⟨t',ar',ah',al',R',v',u',rfl,_⟩
  ·have h1:=pr.one W ⟨wW.len,wW.low,wW.nn,λrs h=>wW.fit rs (XC _ h),wW.lie⟩;have h2:=pr.two W ⟨wW.len,wW.low,wW.nn,λrs h=>wW.fit rs (YL _ h),wW.lie⟩;exact absurd h2 (by grind)
  rw[JD (λz=>nomatch z),JD (λz=>nomatch z)]
 refine⟨_,rfl,rfl,_,rfl,rfl,rfl,_,rfl,?_⟩;rw[same,XQ rfl];refine Vf ?_;refine⟨_,rfl,_,rfl,_,rfl,_,rfl,l2,l1,vb,c,n,s',os2,os1,rfl,O2 S10,O1 S10,k2,k1,sz,c2,hc,w2,w1,F10,λH11 S11=>⟨_,rfl,Vf ?_⟩⟩;have S411:=S10.trans S11;refine⟨_,rfl,_,rfl,_,rfl,sz2,λlr hlr=>?_⟩;have T12:=Same.new (o:=.lst [.ref l1,.ref l2]) hlr;obtain⟨al1,al2⟩:=alike (S411.trans T12) Zb;exact⟨1,hl,lr,_,_,rfl,rfl,by decide,al1,al2,k _⟩
end
end Sb
theorem Sb.len0 {us:List PySem.Value}(h:us.length=0):us=[]:=jq h
theorem Sb.len1 {us:List PySem.Value}(h:us.length=1):∃ a0,us=[a0]:=by
 cases us with
 | nil=>cases h
 | cons a0 t =>
  obtain rfl:=Sb.len0 (jc h);exact⟨a0,rfl⟩
theorem Sb.len2 {us:List PySem.Value}(h:us.length=2):∃ a0 a1,us=[a0,a1]:=by
 cases us with
 | nil=>cases h
 | cons a0 t =>
  obtain⟨a1,rfl⟩:=Sb.len1 (jc h);exact⟨a0,a1,rfl⟩
theorem Sb.len3 {us:List PySem.Value}(h:us.length=3):∃ a0 a1 a2,us=[a0,a1,a2]:=by
 cases us with
 | nil=>cases h
 | cons a0 t =>
  obtain⟨a1,a2,rfl⟩:=Sb.len2 (jc h);exact⟨a0,a1,a2,rfl⟩
theorem Sb.len4 {us:List PySem.Value}(h:us.length=4):∃ a0 a1 a2 a3,us=[a0,a1,a2,a3]:=by
 cases us with
 | nil=>cases h
 | cons a0 t =>
  obtain⟨a1,a2,a3,rfl⟩:=Sb.len3 (jc h);exact⟨a0,a1,a2,a3,rfl⟩
theorem Sb.len5 {us:List PySem.Value}(h:us.length=5):∃ a0 a1 a2 a3 a4,us=[a0,a1,a2,a3,a4]:=by
 cases us with
 | nil=>cases h
 | cons a0 t =>
  obtain⟨a1,a2,a3,a4,rfl⟩:=Sb.len4 (jc h);exact⟨a0,a1,a2,a3,a4,rfl⟩
theorem Sb.len6 {us:List PySem.Value}(h:us.length=6):∃ a0 a1 a2 a3 a4 a5,us=[a0,a1,a2,a3,a4,a5]:=by
 cases us with
 | nil=>cases h
 | cons a0 t =>
  obtain⟨a1,a2,a3,a4,a5,rfl⟩:=Sb.len5 (jc h);exact⟨a0,a1,a2,a3,a4,a5,rfl⟩
namespace PySem.W.Fast
abbrev Q:=True
theorem q:Q:=⟨⟩
theorem tw3663587671374244259:Q:=q
theorem te14547038471209438042:Q:=q
theorem tw14547038471209438042:Q:=q
theorem tw9878798897883639644:Q:=q
theorem tw7298980832962564677:Q:=q
theorem tw14498237537139135197:Q:=q
theorem tw3620769446005759487:Q:=q
theorem tw16164656119424898146:Q:=q
theorem tw17984990424254334469:Q:=q
theorem tw5558809959322281910:Q:=q
theorem tw3884123927683317305:Q:=q
theorem tw16713404749424567929:Q:=q
theorem tw8916048818922523208:Q:=q
theorem tw9776071487166658214:Q:=q
theorem tw6370468449258159152:Q:=q
theorem tw17258806958721792994:Q:=q
theorem tw15761626958370928978:Q:=q
theorem tw175132347163924509:Q:=q
theorem tw7687723579102563702:Q:=q
theorem tw7688467332767414956:Q:=q
theorem tw8537342701463140483:Q:=q
theorem tw5577184193960889079:Q:=q
theorem tw10211652994036908191:Q:=q
theorem tw723344348091354370:Q:=q
theorem tw15449441317813193105:Q:=q
theorem tw148844546414423428:Q:=q
theorem tw13620183038558041453:Q:=q
theorem tw18159810650021711421:Q:=q
theorem tw14910810383278913095:Q:=q
theorem tw8221420998777599365:Q:=q
theorem tw18105235851986858818:Q:=q
theorem tw17166517843665716507:Q:=q
theorem tw17367503823338327260:Q:=q
theorem tw9544626237645079942:Q:=q
theorem tw13331792697947957368:Q:=q
theorem tw13855865772235558199:Q:=q
theorem tw18442252120108129141:Q:=q
theorem tw15552882634280240619:Q:=q
theorem tw8684248593932208213:Q:=q
theorem tw18403096661650473111:Q:=q
theorem tw8301144361170849397:Q:=q
theorem tw4905169183374668502:Q:=q
theorem tw5847584000639211509:Q:=q
theorem tw17794894639878081122:Q:=q
theorem tw10682379739515945387:Q:=q
theorem tw16081956310366894482:Q:=q
theorem tw11284587841230125608:Q:=q
theorem tw1299930575770179947:Q:=q
theorem tw6593868123471943892:Q:=q
theorem tw17720694586461236209:Q:=q
theorem tw5618250897528305036:Q:=q
theorem tw9724913374558438304:Q:=q
theorem tw15187595139447463940:Q:=q
theorem tw12116339366399513652:Q:=q
theorem tw6454069365330048148:Q:=q
theorem tw17561161574445589407:Q:=q
theorem tw17233384191452306724:Q:=q
theorem tw10497040215402141081:Q:=q
theorem tw12122101417617451490:Q:=q
theorem tw6519279095016534364:Q:=q
theorem tw15266748355321799040:Q:=q
theorem tw16665732709872278471:Q:=q
theorem tw11665096770359169270:Q:=q
theorem tw3864577683518675091:Q:=q
theorem tw17404308837839299632:Q:=q
theorem tw14524644096858981928:Q:=q
theorem tw4223928415358232028:Q:=q
theorem tw1140081368920477452:Q:=q
theorem tw8697657084321438522:Q:=q
theorem tw15428839382017327826:Q:=q
theorem tw9600864401650054545:Q:=q
theorem tw8122454545035427166:Q:=q
theorem tw15610560638447201793:Q:=q
theorem tw798151753566827434:Q:=q
theorem tw17296094365049303136:Q:=q
theorem tw9770983764775247567:Q:=q
theorem tw17353533834978885678:Q:=q
theorem tw1887001790333094949:Q:=q
theorem tw10912510942037188871:Q:=q
theorem tw5326530204133631711:Q:=q
theorem tw17239205283577604903:Q:=q
theorem tw6761529720680790502:Q:=q
theorem tw15053054380784159974:Q:=q
theorem tw2625941158638289835:Q:=q
theorem tw18273008367161736425:Q:=q
theorem tw6142619863814292687:Q:=q
theorem tw14886404024968792515:Q:=q
theorem tw12930201337422500168:Q:=q
theorem tw16122025706919303548:Q:=q
theorem tw79250834004241874:Q:=q
theorem tw1245573528251513658:Q:=q
theorem tw12403778612994086845:Q:=q
theorem tw15775379295120760559:Q:=q
theorem tw11393844956836896713:Q:=q
theorem tw463528013930204650:Q:=q
theorem tw2917706096933955192:Q:=q
theorem tw13472732348918313325:Q:=q
theorem tw18410584482926049573:Q:=q
theorem tw11906612653150040564:Q:=q
theorem tw3036608570246831036:Q:=q
theorem tw7094781957534875964:Q:=q
theorem tw12187325273013464377:Q:=q
theorem tw2910561013346694765:Q:=q
theorem tw2878961255886496980:Q:=q
theorem tw3237101005084815595:Q:=q
theorem tw12832430484086720480:Q:=q
theorem tw18391113872972711939:Q:=q
theorem tw12321529513264676446:Q:=q
theorem tw12792966745739040468:Q:=q
theorem tw10417118812985715946:Q:=q
theorem tw15087126989023399267:Q:=q
theorem tw6723043188297395180:Q:=q
theorem tw3563262539795683274:Q:=q
theorem tw12433156354092385771:Q:=q
theorem tw12461558834441268489:Q:=q
theorem tw1388170315516566756:Q:=q
theorem tw2194590556311452970:Q:=q
theorem tw7814524659413018595:Q:=q
theorem tw11325039743046202191:Q:=q
theorem tw10376237463873823199:Q:=q
theorem tw6277432328173714222:Q:=q
theorem tw7690852210549415329:Q:=q
theorem tw339902841006637728:Q:=q
theorem tw16746989697704402390:Q:=q
theorem tw14163349273764722569:Q:=q
theorem tw15217547230951923136:Q:=q
theorem tw2514579970432843447:Q:=q
theorem tw14889990989591295473:Q:=q
theorem tw13246650534980131827:Q:=q
theorem tw14376302497254143033:Q:=q
theorem tw11646386193032504705:Q:=q
theorem tw12443030787639043223:Q:=q
theorem tw3783839212290187240:Q:=q
theorem tw3983148938635159305:Q:=q
theorem tw16561784754974962657:Q:=q
theorem tw13498810161351368908:Q:=q
theorem tw13832779103859695066:Q:=q
theorem tw219349431488451813:Q:=q
theorem tw3233986323744500984:Q:=q
theorem tw17144489744317164052:Q:=q
theorem tw7495749308242001219:Q:=q
theorem tw11265848067102301205:Q:=q
theorem tw11534952717702951390:Q:=q
theorem tw15716132311973920457:Q:=q
theorem tw3890647316007881191:Q:=q
theorem tw12617377711018760277:Q:=q
theorem tw8689371535133863079:Q:=q
theorem tw14388522029988308018:Q:=q
theorem tw661782522599807966:Q:=q
theorem tw273679195484202293:Q:=q
theorem tw15252208321407440476:Q:=q
theorem tw15933891471007266485:Q:=q
theorem tw11960763646138924522:Q:=q
theorem tw13163709188366675322:Q:=q
theorem tw10122098558302742981:Q:=q
theorem tw1777262942957168773:Q:=q
theorem tw12562231835103726081:Q:=q
theorem tw12122033005758835594:Q:=q
theorem tw8859647038138045764:Q:=q
theorem tw5199831990711975098:Q:=q
theorem tw7168193252896393166:Q:=q
theorem tw5602990061955314571:Q:=q
theorem tw6450949467172437469:Q:=q
theorem tw2919737267539874282:Q:=q
theorem tw2936682545348422105:Q:=q
theorem tw11807781829013324700:Q:=q
theorem tw12100338399353776981:Q:=q
theorem tw1277757031085486419:Q:=q
theorem tw16697555937769597402:Q:=q
theorem tw17432703505624513552:Q:=q
theorem tw15657263206242221920:Q:=q
theorem tw2932506840474382045:Q:=q
theorem tw11058680803448478086:Q:=q
theorem tw11411856076162608566:Q:=q
theorem tw18264036842175204042:Q:=q
theorem tw17674952696809329406:Q:=q
theorem tw525595929604647924:Q:=q
theorem tw10820185391252261086:Q:=q
theorem tw2907926508685803294:Q:=q
theorem tw16437714874757838834:Q:=q
theorem tw5779742557766719227:Q:=q
theorem tw12036924024846911237:Q:=q
theorem tw8233276562478976631:Q:=q
theorem tw12720019148872390838:Q:=q
theorem tw1750469868686540430:Q:=q
theorem tw13631594678814621309:Q:=q
theorem tw6959351125189838974:Q:=q
theorem tw13973129499682183404:Q:=q
theorem tw7473317472283956543:Q:=q
theorem tw1923069071150893292:Q:=q
theorem tw10100775206714667025:Q:=q
theorem tw7088175367004775998:Q:=q
theorem tw13711201468569232233:Q:=q
theorem tw13854162837576555402:Q:=q
theorem tw16142960700196097016:Q:=q
theorem tw11320660123925831746:Q:=q
theorem tw11677470098018015974:Q:=q
theorem tw6608613543669843704:Q:=q
theorem tw9876108116291533816:Q:=q
theorem tw15606070282727014798:Q:=q
theorem tw15728195837756200749:Q:=q
theorem tw3953428941245002711:Q:=q
theorem tw5866056155977062702:Q:=q
theorem tw12998067098146228487:Q:=q
theorem tw3351359226206471671:Q:=q
theorem tw10539391462277901685:Q:=q
theorem tw1685846375256389391:Q:=q
theorem tw1184080073626016668:Q:=q
theorem tw10041922220054232640:Q:=q
theorem tw8092318848171688056:Q:=q
theorem tw1215503234824348466:Q:=q
theorem tw16696443393146727464:Q:=q
theorem tw15613364929534892169:Q:=q
theorem tw12667831818090655143:Q:=q
theorem tw2116492229037014681:Q:=q
theorem tw700640130706355416:Q:=q
theorem tw3120147665315775097:Q:=q
theorem tw15761205999961562258:Q:=q
theorem tw6833165314353234322:Q:=q
theorem tw12675769417858392433:Q:=q
theorem tw1998112158761069410:Q:=q
theorem tw13122628996607104918:Q:=q
theorem tw5887210753680842333:Q:=q
theorem tw10357546076251597403:Q:=q
theorem tw1093662997093287667:Q:=q
theorem tw7962235038700497823:Q:=q
theorem tw9621059614481088206:Q:=q
theorem tw7978586127011666178:Q:=q
theorem tw15465672994833900076:Q:=q
theorem tw16716204840735586265:Q:=q
theorem tw12774867191918676751:Q:=q
theorem tw2975054193685789419:Q:=q
theorem tw14304671576728964942:Q:=q
theorem tw971755580419483152:Q:=q
theorem tw7483984664442840392:Q:=q
theorem tw11926823384220302698:Q:=q
theorem tw2033301603667093329:Q:=q
theorem tw5438299501440342374:Q:=q
theorem tw11430926749786313917:Q:=q
theorem tw5699951873996721256:Q:=q
theorem tw10859462948282937923:Q:=q
theorem tw1787806754558141207:Q:=q
theorem tw3657315029091496090:Q:=q
theorem tw10855991913531932360:Q:=q
theorem tw14643817958334333592:Q:=q
theorem tw2734596018118634118:Q:=q
theorem tw14304410443555561010:Q:=q
theorem tw7856088527573956490:Q:=q
theorem tw8323502041742169391:Q:=q
theorem tw13889618724626069534:Q:=q
theorem tw10493374073944554489:Q:=q
theorem tw5499353725634901292:Q:=q
theorem tw16586755836519626573:Q:=q
theorem tw12306240504838597657:Q:=q
theorem tw7149593592355976472:Q:=q
theorem tw11024401071288343299:Q:=q
theorem tw6800606243879524251:Q:=q
theorem tw11659118260112230106:Q:=q
theorem tw15975862998619505641:Q:=q
theorem tw3251700089816113863:Q:=q
theorem tw12028631205248353027:Q:=q
theorem tw11597499307025513969:Q:=q
theorem tw14498753682003708948:Q:=q
theorem tw13252179529396990024:Q:=q
theorem tw16870032007967523109:Q:=q
theorem tw2105865622340508765:Q:=q
theorem tw10831344273510893127:Q:=q
theorem tw16190418062149328189:Q:=q
theorem tw12299046091340294199:Q:=q
theorem tw14878932758378916698:Q:=q
theorem tw9232578652846326113:Q:=q
theorem tw9035747696262246787:Q:=q
theorem tw836339730054448206:Q:=q
theorem tw45745220825951261:Q:=q
theorem tw2583226084518723767:Q:=q
theorem tw11663775058447268249:Q:=q
theorem tw2141973181100893280:Q:=q
theorem tw14068353357595164442:Q:=q
theorem tw15749834399243022632:Q:=q
theorem tw921952463182580636:Q:=q
theorem tw1338963559487816671:Q:=q
theorem tw854879543119144393:Q:=q
theorem tw12013144160984859888:Q:=q
theorem tw4807941758186150589:Q:=q
theorem tw9939185061309932909:Q:=q
theorem tw10627515619049659770:Q:=q
theorem tw15281347737577329138:Q:=q
theorem tw1832697133437816403:Q:=q
theorem tw16820705807742055883:Q:=q
theorem tw2404904959340725229:Q:=q
theorem tw9887894944068192121:Q:=q
theorem tw8387433143071576563:Q:=q
theorem tw17805896106401410969:Q:=q
theorem tw10420136273325937060:Q:=q
theorem tw15666561863252558352:Q:=q
theorem tw7272600239265088170:Q:=q
theorem tw15233965391487551497:Q:=q
theorem tw16795939412728690767:Q:=q
theorem tw12975000070848663931:Q:=q
theorem tw14502611013020300931:Q:=q
theorem tw4288592138790953079:Q:=q
theorem tw629360384115664157:Q:=q
theorem tw8138689635321004729:Q:=q
theorem tw5019091349541136632:Q:=q
theorem tw5142750155670371740:Q:=q
theorem tw2630482587124075417:Q:=q
theorem tw9775527040510685413:Q:=q
theorem tw12539352354675078583:Q:=q
theorem tw16886508232872619140:Q:=q
theorem tw13975070236237751131:Q:=q
theorem tw8380659591332005880:Q:=q
theorem tw682851498675961199:Q:=q
theorem tw3606365304654273279:Q:=q
theorem tw3153245846791690109:Q:=q
theorem tw3770383874186680508:Q:=q
theorem tw15412160811490482718:Q:=q
theorem tw208382290723341115:Q:=q
theorem tw18187243656415885300:Q:=q
theorem tw1461271550991701979:Q:=q
theorem tw11013655751369706013:Q:=q
theorem tw1487140279118845443:Q:=q
theorem tw17706957481294285103:Q:=q
theorem tw7620782836502981885:Q:=q
theorem tw3508924395016289263:Q:=q
theorem tw506325060702279933:Q:=q
theorem tw11793975566963803632:Q:=q
theorem tw17926022101273894797:Q:=q
theorem tw1388843755649612071:Q:=q
theorem tw11026070935509547789:Q:=q
theorem tw4586983429432861655:Q:=q
theorem tw9518362398533533508:Q:=q
theorem tw16367989760342525627:Q:=q
theorem tw15994335805217843867:Q:=q
theorem tw575728143822100207:Q:=q
theorem tw5375251531614030314:Q:=q
theorem tw17515324319697052718:Q:=q
theorem tw18329029552828215232:Q:=q
theorem tw12566927987596892792:Q:=q
theorem tw14454218559652815950:Q:=q
theorem tw968882529980882441:Q:=q
theorem tw14451640383052345255:Q:=q
theorem tw858456750382119297:Q:=q
theorem tw2096332762975737240:Q:=q
theorem tw4278818253259798752:Q:=q
theorem tw4494806272607365232:Q:=q
theorem tw16633737634746981234:Q:=q
theorem tw4855150812844022698:Q:=q
theorem tw9428984990680794144:Q:=q
theorem tw18396986117569041170:Q:=q
theorem tw2902430753313340890:Q:=q
theorem tw9046042900782782810:Q:=q
theorem tw18266496299700556013:Q:=q
theorem tw13166516028447138070:Q:=q
theorem tw8034051302483191689:Q:=q
theorem tw4278105505113198998:Q:=q
theorem tw2039038695372649390:Q:=q
theorem tw9643710279210463689:Q:=q
theorem tw1586586018954137859:Q:=q
theorem tw11308687437699832284:Q:=q
theorem tw4681973108711989301:Q:=q
theorem tw2061810433646957965:Q:=q
theorem tw13475341575060611134:Q:=q
theorem tw18060660783547350938:Q:=q
theorem tw11947340443469710240:Q:=q
theorem tw7794938417705137543:Q:=q
theorem tw979715201491813574:Q:=q
theorem tw6522265077891408047:Q:=q
theorem tw3788965178357269144:Q:=q
theorem tw683768086326404248:Q:=q
theorem tw951043820165700362:Q:=q
theorem tw12395018712153284964:Q:=q
end PySem.W.Fast
abbrev Sb.pk:PySem.Program:=PySem.Challenge.rw_surebook_k39_parted.prog
theorem Sb.bn1 {C:List PySem.Value->Prop}{us:List PySem.Value}(h:us.length=1)(k:∀ a0,C [a0]):C us:=by
 obtain⟨a0,rfl⟩:=Sb.len1 h;exact k _
theorem Sb.bn2 {C:List PySem.Value->Prop}{us:List PySem.Value}(h:us.length=2)(k:∀ a0 a1,C [a0,a1]):C us:=by
 obtain⟨a0,a1,rfl⟩:=Sb.len2 h;exact k _ _
theorem Sb.bn3 {C:List PySem.Value->Prop}{us:List PySem.Value}(h:us.length=3)(k:∀ a0 a1 a2,C [a0,a1,a2]):C us:=by
 obtain⟨a0,a1,a2,rfl⟩:=Sb.len3 h;exact k _ _ _
theorem Sb.bn4 {C:List PySem.Value->Prop}{us:List PySem.Value}(h:us.length=4)(k:∀ a0 a1 a2 a3,C [a0,a1,a2,a3]):C us:=by
 obtain⟨a0,a1,a2,a3,rfl⟩:=Sb.len4 h;exact k _ _ _ _
theorem Sb.bn5 {C:List PySem.Value->Prop}{us:List PySem.Value}(h:us.length=5)(k:∀ a0 a1 a2 a3 a4,C [a0,a1,a2,a3,a4]):C us:=by
 obtain⟨a0,a1,a2,a3,a4,rfl⟩:=Sb.len5 h;exact k _ _ _ _ _
open PySem PySem.W PyProof.Rows
set_option maxRecDepth 100000 in
set_option maxHeartbeats 0 in
theorem PySem.Challenge.cw_surebook_k39_parted_holds : PySem.Challenge.rw_surebook_k39_parted.Holds := by
 w_on; o_law; k_head; (case hw=>w_witness2)
 k_fill
 refine L2.D5 (l:=PySem.Challenge.rw_surebook_k39_parted) (n:=63) (k:=11) (x:="_law_script") (CX:=L2.CX0) (sp:=Sb.spLaw) (sr:=true) rfl (by decide) rfl ⟨λ_=>rfl,by decide,by decide⟩ (λw h Y=>PySem.W.kIn_of Y) ?F (λK H a ns hl hO hS=>⟨a,ns,rfl,hS,λ_=>rfl⟩) (λ_ _ _ _ z=>z)
 case F =>
  intro w mg fa h KX G hmg;have n_len:mg "len"=none:=by
   refine' JG KX G ?z
   (case z=>k_is)
  have n_abs:mg "abs"=none:=by
   refine' JG KX G ?z
   (case z=>k_is)
  have n_isinstance:mg "isinstance"=none:=by
   refine' JG KX G ?z
   (case z=>k_is)
  have n_int:mg "int"=none:=by
   refine' JG KX G ?z
   (case z=>k_is)
  have n_bool:mg "bool"=none:=by
   refine' JG KX G ?z
   (case z=>k_is)
  have n_tuple:mg "tuple"=none:=by
   refine' JG KX G ?z
   (case z=>k_is)
  have n_range:mg "range"=none:=by
   refine' JG KX G ?z
   (case z=>k_is)
  have n_zip:mg "zip"=none:=by
   refine' JG KX G ?z
   (case z=>k_is)
  have n_enumerate:mg "enumerate"=none:=by
   refine' JG KX G ?z
   (case z=>k_is)
  have n_any:mg "any"=none:=by
   refine' JG KX G ?z
   (case z=>k_is)
  have n_sum:mg "sum"=none:=by
   refine' JG KX G ?z
   (case z=>k_is)
  have n_list:mg "list"=none:=by
   refine' JG KX G ?z
   (case z=>k_is)
  have n_min:mg "min"=none:=by
   refine' JG KX G ?z
   (case z=>k_is)
  have T:Sb.Blt mg:=⟨n_len,n_abs,n_isinstance,n_int,n_bool,n_tuple,n_range,n_zip,n_enumerate,n_any,n_sum,n_list,n_min⟩;have⟨m7,lC,nY,oR,oS,oN,lD,mX,lR,nX,pR,oV⟩:Sb.Def (L2.KOf KX) mg "is_whole" Sb.jC ["value"]/\Sb.Def (L2.KOf KX) mg "common_divisor" Sb.iI UH/\Sb.Def (L2.KOf KX) mg "lowest" Sb.jH UI/\Sb.Def (L2.KOf KX) mg "ratio" Sb.jG UI/\Sb.Def (L2.KOf KX) mg "minus" Sb.j0 UH/\Sb.Def (L2.KOf KX) mg "times" Sb.jT UH/\Sb.Def (L2.KOf KX) mg "common_bottom" Sb.iJ ["several"]/\Sb.Def (L2.KOf KX) mg "whole_by" Sb.iW UX/\Sb.Def (L2.KOf KX) mg "multiplied" Sb.iM ["row","by"]/\Sb.Def (L2.KOf KX) mg "turned" Sb.jF ["row"]/\Sb.Def (L2.KOf KX) mg "mean" Sb.kG ["weights","row"]/\Sb.Def (L2.KOf KX) mg "is_in" Sb.kH UU:=by
   dsimp only [L2.KOf];refine'⟨Sb.Zn KX G ?a0 ?l0 ?c0 ?k0 (λ_ _ _ _ _ _ _ h=>by obtain⟨a0,rfl⟩:=Sb.len1 h;rfl),Sb.Zn KX G ?a1 ?l1 ?c1 ?k1 (λ_ _ _ _ _ _ _ h=>by obtain⟨a0,a1,rfl⟩:=Sb.len2 h;rfl),Sb.Zn KX G ?a2 ?l2 ?c2 ?k2 (λ_ _ _ _ _ _ _ h=>by obtain⟨a0,a1,rfl⟩:=Sb.len2 h;rfl),Sb.Zn KX G ?a3 ?l3 ?c3 ?k3 (λ_ _ _ _ _ _ _ h=>by obtain⟨a0,a1,rfl⟩:=Sb.len2 h;rfl),Sb.Zn KX G ?a4 ?l4 ?c4 ?k4 (λ_ _ _ _ _ _ _ h=>by obtain⟨a0,a1,rfl⟩:=Sb.len2 h;rfl),Sb.Zn KX G ?a5 ?l5 ?c5 ?k5 (λ_ _ _ _ _ _ _ h=>by obtain⟨a0,a1,rfl⟩:=Sb.len2 h;rfl),Sb.Zn KX G ?a6 ?l6 ?c6 ?k6 (λ_ _ _ _ _ _ _ h=>by obtain⟨a0,rfl⟩:=Sb.len1 h;rfl),Sb.Zn KX G ?a7 ?l7 ?c7 ?k7 (λ_ _ _ _ _ _ _ h=>by obtain⟨a0,a1,rfl⟩:=Sb.len2 h;rfl),Sb.Zn KX G ?a8 ?l8 ?c8 ?k8 (λ_ _ _ _ _ _ _ h=>by obtain⟨a0,a1,rfl⟩:=Sb.len2 h;rfl),Sb.Zn KX G ?a9 ?l9 ?c9 ?k9 (λ_ _ _ _ _ _ _ h=>by obtain⟨a0,rfl⟩:=Sb.len1 h;rfl),Sb.Zn KX G ?a10 ?l10 ?c10 ?k10 (λ_ _ _ _ _ _ _ h=>by obtain⟨a0,a1,rfl⟩:=Sb.len2 h;rfl),Sb.Zn KX G ?a11 ?l11 ?c11 ?k11 (λ_ _ _ _ _ _ _ h=>by obtain⟨a0,a1,rfl⟩:=Sb.len2 h;rfl)⟩
   case a0|l0|c0|k0|a1|l1|c1|k1|a2|l2|c2|k2|a3|l3|c3|k3|a4|l4|c4|k4|a5|l5|c5|k5|a6|l6|c6|k6|a7|l7|c7|k7|a8|l8|c8|k8|a9|l9|c9|k9|a10|l10|c10|k10|a11|l11|c11|k11=>k_is
  have⟨qM,mZ,pT,mW,oQ,oW,m8,nR,lM,nP,n6,mG⟩:Sb.Def (L2.KOf KX) mg "cut" Sb.kR UV/\Sb.Def (L2.KOf KX) mg "paper_of" Sb.jB UW/\Sb.Def (L2.KOf KX) mg "gain" Sb.kJ ["offer","word"]/\Sb.Def (L2.KOf KX) mg "words_of" Sb.iV ["offer"]/\Sb.Def (L2.KOf KX) mg "sides" Sb.jX VC/\Sb.Def (L2.KOf KX) mg "gains" Sb.j4 VC/\Sb.Def (L2.KOf KX) mg "as_ratio" Sb.jE VJ/\Sb.Def (L2.KOf KX) mg "come_to" Sb.jQ VL/\Sb.Def (L2.KOf KX) mg "first_table" Sb.iN ["lines"]/\Sb.Def (L2.KOf KX) mg "line_of" Sb.jI UK/\Sb.Def (L2.KOf KX) mg "end_of" Sb.j7 UM/\Sb.Def (L2.KOf KX) mg "number_at" Sb.iT UN:=by
   dsimp only [L2.KOf];refine'⟨Sb.Zn KX G ?a0 ?l0 ?c0 ?k0 (λ_ _ _ _ _ _ _ h=>by obtain⟨a0,a1,rfl⟩:=Sb.len2 h;rfl),Sb.Zn KX G ?a1 ?l1 ?c1 ?k1 (λ_ _ _ _ _ _ _ h=>by obtain⟨a0,a1,rfl⟩:=Sb.len2 h;rfl),Sb.Zn KX G ?a2 ?l2 ?c2 ?k2 (λ_ _ _ _ _ _ _ h=>by obtain⟨a0,a1,rfl⟩:=Sb.len2 h;rfl),Sb.Zn KX G ?a3 ?l3 ?c3 ?k3 (λ_ _ _ _ _ _ _ h=>by obtain⟨a0,rfl⟩:=Sb.len1 h;rfl),Sb.Zn KX G ?a4 ?l4 ?c4 ?k4 (λ_ _ _ _ _ _ _ h=>by obtain⟨a0,rfl⟩:=Sb.len1 h;rfl),Sb.Zn KX G ?a5 ?l5 ?c5 ?k5 (λ_ _ _ _ _ _ _ h=>by obtain⟨a0,rfl⟩:=Sb.len1 h;rfl),Sb.Zn KX G ?a6 ?l6 ?c6 ?k6 (λ_ _ _ _ _ _ _ h=>by obtain⟨a0,rfl⟩:=Sb.len1 h;rfl),Sb.Zn KX G ?a7 ?l7 ?c7 ?k7 (λ_ _ _ _ _ _ _ h=>by obtain⟨a0,a1,a2,rfl⟩:=Sb.len3 h;rfl),Sb.Zn KX G ?a8 ?l8 ?c8 ?k8 (λ_ _ _ _ _ _ _ h=>by obtain⟨a0,rfl⟩:=Sb.len1 h;rfl),Sb.Zn KX G ?a9 ?l9 ?c9 ?k9 (λ_ _ _ _ _ _ _ h=>by obtain⟨a0,a1,rfl⟩:=Sb.len2 h;rfl),Sb.Zn KX G ?a10 ?l10 ?c10 ?k10 (λ_ _ _ _ _ _ _ h=>by obtain⟨a0,a1,rfl⟩:=Sb.len2 h;rfl),Sb.Zn KX G ?a11 ?l11 ?c11 ?k11 (λ_ _ _ _ _ _ _ h=>by obtain⟨a0,a1,a2,rfl⟩:=Sb.len3 h;rfl)⟩
   case a0|l0|c0|k0|a1|l1|c1|k1|a2|l2|c2|k2|a3|l3|c3|k3|a4|l4|c4|k4|a5|l5|c5|k5|a6|l6|c6|k6|a7|l7|c7|k7|a8|l8|c8|k8|a9|l9|c9|k9|a10|l10|c10|k10|a11|l11|c11|k11=>k_is
  have⟨nQ,lT,mH,mY,oX,mI,n8,lQ,oO,kX,oP,lS⟩:Sb.Def (L2.KOf KX) mg "helping" Sb.jD UK/\Sb.Def (L2.KOf KX) mg "goes_ahead" Sb.iQ UO/\Sb.Def (L2.KOf KX) mg "going_out" Sb.iU ["table","column"]/\Sb.Def (L2.KOf KX) mg "replaced" Sb.iS UP/\Sb.Def (L2.KOf KX) mg "freed" Sb.j5 UQ/\Sb.Def (L2.KOf KX) mg "exchanged" Sb.iR UT/\Sb.Def (L2.KOf KX) mg "driven" Sb.jP UK/\Sb.Def (L2.KOf KX) mg "whole_line" Sb.iO ["row","end"]/\Sb.Def (L2.KOf KX) mg "start" Sb.jU UY/\Sb.Def (L2.KOf KX) mg "shown_multiples" Sb.iH UZ/\Sb.Def (L2.KOf KX) mg "solve" Sb.jV VA/\Sb.Def (L2.KOf KX) mg "made_whole" Sb.iP ["multiples"]:=by
   dsimp only [L2.KOf];refine'⟨Sb.Zn KX G ?a0 ?l0 ?c0 ?k0 (λ_ _ _ _ _ _ _ h=>by obtain⟨a0,a1,rfl⟩:=Sb.len2 h;rfl),Sb.Zn KX G ?a1 ?l1 ?c1 ?k1 (λ_ _ _ _ _ _ _ h=>by obtain⟨a0,a1,a2,a3,rfl⟩:=Sb.len4 h;rfl),Sb.Zn KX G ?a2 ?l2 ?c2 ?k2 (λ_ _ _ _ _ _ _ h=>by obtain⟨a0,a1,rfl⟩:=Sb.len2 h;rfl),Sb.Zn KX G ?a3 ?l3 ?c3 ?k3 (λ_ _ _ _ _ _ _ h=>by obtain⟨a0,a1,a2,rfl⟩:=Sb.len3 h;rfl),Sb.Zn KX G ?a4 ?l4 ?c4 ?k4 (λ_ _ _ _ _ _ _ h=>by obtain⟨a0,a1,a2,a3,rfl⟩:=Sb.len4 h;rfl),Sb.Zn KX G ?a5 ?l5 ?c5 ?k5 (λ_ _ _ _ _ _ _ h=>by obtain⟨a0,a1,a2,rfl⟩:=Sb.len3 h;rfl),Sb.Zn KX G ?a6 ?l6 ?c6 ?k6 (λ_ _ _ _ _ _ _ h=>by obtain⟨a0,a1,rfl⟩:=Sb.len2 h;rfl),Sb.Zn KX G ?a7 ?l7 ?c7 ?k7 (λ_ _ _ _ _ _ _ h=>by obtain⟨a0,a1,rfl⟩:=Sb.len2 h;rfl),Sb.Zn KX G ?a8 ?l8 ?c8 ?k8 (λ_ _ _ _ _ _ _ h=>by obtain⟨a0,a1,a2,a3,rfl⟩:=Sb.len4 h;rfl),Sb.Zn KX G ?a9 ?l9 ?c9 ?k9 (λ_ _ _ _ _ _ _ h=>by obtain⟨a0,a1,a2,a3,a4,rfl⟩:=Sb.len5 h;rfl),Sb.Zn KX G ?a10 ?l10 ?c10 ?k10 (λ_ _ _ _ _ _ _ h=>by obtain⟨a0,a1,a2,a3,rfl⟩:=Sb.len4 h;rfl),Sb.Zn KX G ?a11 ?l11 ?c11 ?k11 (λ_ _ _ _ _ _ _ h=>by obtain⟨a0,rfl⟩:=Sb.len1 h;rfl)⟩
   case a0|l0|c0|k0|a1|l1|c1|k1|a2|l2|c2|k2|a3|l3|c3|k3|a4|l4|c4|k4|a5|l5|c5|k5|a6|l6|c6|k6|a7|l7|c7|k7|a8|l8|c8|k8|a9|l9|c9|k9|a10|l10|c10|k10|a11|l11|c11|k11=>k_is
  have⟨nZ,oM,oU,n5,nJ,mS,lU,lX,mM,lZ,lV,nS⟩:Sb.Def (L2.KOf KX) mg "judged" Sb.jM ["count","offers"]/\Sb.Def (L2.KOf KX) mg "upper" Sb.jS VM/\Sb.Def (L2.KOf KX) mg "lower" Sb.j1 VM/\Sb.Def (L2.KOf KX) mg "joined" Sb.jN UH/\Sb.Def (L2.KOf KX) mg "parting" Sb.jA VN/\Sb.Def (L2.KOf KX) mg "_law_cell" Sb.kL UF/\Sb.Def (L2.KOf KX) mg "_law_whole" Sb.jR VQ/\Sb.Def (L2.KOf KX) mg "_law_ratio" Sb.jY ["_law_top","_law_bottom"]/\Sb.Def (L2.KOf KX) mg "_law_plus" Sb.j2 UJ/\Sb.Def (L2.KOf KX) mg "_law_minus" Sb.jK UJ/\Sb.Def (L2.KOf KX) mg "_law_times" Sb.jJ UJ/\Sb.Def (L2.KOf KX) mg "_law_is" Sb.sIs VR:=by
   dsimp only [L2.KOf];refine'⟨Sb.Zn KX G ?a0 ?l0 ?c0 ?k0 (λ_ _ _ _ _ _ _ h=>by obtain⟨a0,a1,rfl⟩:=Sb.len2 h;rfl),Sb.Zn KX G ?a1 ?l1 ?c1 ?k1 (λ_ _ _ _ _ _ _ h=>by obtain⟨a0,a1,a2,rfl⟩:=Sb.len3 h;rfl),Sb.Zn KX G ?a2 ?l2 ?c2 ?k2 (λ_ _ _ _ _ _ _ h=>by obtain⟨a0,a1,a2,rfl⟩:=Sb.len3 h;rfl),Sb.Zn KX G ?a3 ?l3 ?c3 ?k3 (λ_ _ _ _ _ _ _ h=>by obtain⟨a0,a1,rfl⟩:=Sb.len2 h;rfl),Sb.Zn KX G ?a4 ?l4 ?c4 ?k4 (λ_ _ _ _ _ _ _ h=>by obtain⟨a0,a1,a2,rfl⟩:=Sb.len3 h;rfl),Sb.Zn KX G ?a5 ?l5 ?c5 ?k5 (λ_ _ _ _ _ _ _ h=>by obtain⟨a0,a1,rfl⟩:=Sb.len2 h;rfl),Sb.Zn KX G ?a6 ?l6 ?c6 ?k6 (λ_ _ _ _ _ _ _ h=>by obtain⟨a0,rfl⟩:=Sb.len1 h;rfl),Sb.Zn KX G ?a7 ?l7 ?c7 ?k7 (λ_ _ _ _ _ _ _ h=>by obtain⟨a0,a1,rfl⟩:=Sb.len2 h;rfl),Sb.Zn KX G ?a8 ?l8 ?c8 ?k8 (λ_ _ _ _ _ _ _ h=>by obtain⟨a0,a1,rfl⟩:=Sb.len2 h;rfl),Sb.Zn KX G ?a9 ?l9 ?c9 ?k9 (λ_ _ _ _ _ _ _ h=>by obtain⟨a0,a1,rfl⟩:=Sb.len2 h;rfl),Sb.Zn KX G ?a10 ?l10 ?c10 ?k10 (λ_ _ _ _ _ _ _ h=>by obtain⟨a0,a1,rfl⟩:=Sb.len2 h;rfl),Sb.Zn KX G ?a11 ?l11 ?c11 ?k11 (λ_ _ _ _ _ _ _ h=>by obtain⟨a0,a1,rfl⟩:=Sb.len2 h;rfl)⟩
   case a0|l0|c0|k0|a1|l1|c1|k1|a2|l2|c2|k2|a3|l3|c3|k3|a4|l4|c4|k4|a5|l5|c5|k5|a6|l6|c6|k6|a7|l7|c7|k7|a8|l8|c8|k8|a9|l9|c9|k9|a10|l10|c10|k10|a11|l11|c11|k11=>k_is
  have⟨nC,mJ,mL,lW,nA,lH,mP,mB,lN,lY,mK,mO⟩:Sb.Def (L2.KOf KX) mg "_law_bag" Sb.kS UG/\Sb.Def (L2.KOf KX) mg "_law_take" Sb.j9 ["_law_bag_here","_law_many"]/\Sb.Def (L2.KOf KX) mg "_law_size" Sb.kC VD/\Sb.Def (L2.KOf KX) mg "_law_small" Sb.jW VD/\Sb.Def (L2.KOf KX) mg "_law_row" Sb.kP VE/\Sb.Def (L2.KOf KX) mg "_law_weights" Sb.iX VE/\Sb.Def (L2.KOf KX) mg "_law_mean" Sb.j3 VB/\Sb.Def (L2.KOf KX) mg "_law_event" Sb.j6 VE/\Sb.Def (L2.KOf KX) mg "_law_inside" Sb.jO VG/\Sb.Def (L2.KOf KX) mg "_law_offer" Sb.jZ VH/\Sb.Def (L2.KOf KX) mg "_law_sure" Sb.kA VE/\Sb.Def (L2.KOf KX) mg "_law_near" Sb.kD VI:=by
   dsimp only [L2.KOf];refine'⟨Sb.Zn KX G ?a0 ?l0 ?c0 ?k0 (λ_ _ _ _ _ _ _ h=>by obtain⟨a0,rfl⟩:=Sb.len1 h;rfl),Sb.Zn KX G ?a1 ?l1 ?c1 ?k1 (λ_ _ _ _ _ _ _ h=>by obtain⟨a0,a1,rfl⟩:=Sb.len2 h;rfl),Sb.Zn KX G ?a2 ?l2 ?c2 ?k2 (λ_ _ _ _ _ _ _ h=>by obtain⟨a0,rfl⟩:=Sb.len1 h;rfl),Sb.Zn KX G ?a3 ?l3 ?c3 ?k3 (λ_ _ _ _ _ _ _ h=>by obtain⟨a0,rfl⟩:=Sb.len1 h;rfl),Sb.Zn KX G ?a4 ?l4 ?c4 ?k4 (λ_ _ _ _ _ _ _ h=>by obtain⟨a0,a1,rfl⟩:=Sb.len2 h;rfl),Sb.Zn KX G ?a5 ?l5 ?c5 ?k5 (λ_ _ _ _ _ _ _ h=>by obtain⟨a0,a1,rfl⟩:=Sb.len2 h;rfl),Sb.Zn KX G ?a6 ?l6 ?c6 ?k6 (λ_ _ _ _ _ _ _ h=>by obtain⟨a0,a1,rfl⟩:=Sb.len2 h;rfl),Sb.Zn KX G ?a7 ?l7 ?c7 ?k7 (λ_ _ _ _ _ _ _ h=>by obtain⟨a0,a1,rfl⟩:=Sb.len2 h;rfl),Sb.Zn KX G ?a8 ?l8 ?c8 ?k8 (λ_ _ _ _ _ _ _ h=>by obtain⟨a0,a1,rfl⟩:=Sb.len2 h;rfl),Sb.Zn KX G ?a9 ?l9 ?c9 ?k9 (λ_ _ _ _ _ _ _ h=>by obtain⟨a0,a1,a2,rfl⟩:=Sb.len3 h;rfl),Sb.Zn KX G ?a10 ?l10 ?c10 ?k10 (λ_ _ _ _ _ _ _ h=>by obtain⟨a0,a1,rfl⟩:=Sb.len2 h;rfl),Sb.Zn KX G ?a11 ?l11 ?c11 ?k11 (λ_ _ _ _ _ _ _ h=>by obtain⟨a0,a1,rfl⟩:=Sb.len2 h;rfl)⟩
   case a0|l0|c0|k0|a1|l1|c1|k1|a2|l2|c2|k2|a3|l3|c3|k3|a4|l4|c4|k4|a5|l5|c5|k5|a6|l6|c6|k6|a7|l7|c7|k7|a8|l8|c8|k8|a9|l9|c9|k9|a10|l10|c10|k10|a11|l11|c11|k11=>k_is
  have⟨l5,mR,kU,m9,mC,lJ,lI,lE,mQ⟩:Sb.Def (L2.KOf KX) mg "_law_gains" Sb.jL ["_law_offers"]/\Sb.Def (L2.KOf KX) mg "_law_come" Sb.kK VT/\Sb.Def (L2.KOf KX) mg "_law_weights_fit" Sb.iK VS/\Sb.Def (L2.KOf KX) mg "_law_two" Sb.kO VO/\Sb.Def (L2.KOf KX) mg "_law_beats" Sb.j8 VV/\Sb.Def (L2.KOf KX) mg "_law_refusal" Sb.i9 VY/\Sb.Def (L2.KOf KX) mg "_law_refused" Sb.iZ VZ/\Sb.Def (L2.KOf KX) mg "_law_row_like" Sb.iY VW/\Sb.Def (L2.KOf KX) mg "_law_good" Sb.kI VX:=by
   dsimp only [L2.KOf];refine'⟨Sb.Zn KX G ?a0 ?l0 ?c0 ?k0 (λ_ _ _ _ _ _ _ h=>by obtain⟨a0,rfl⟩:=Sb.len1 h;rfl),Sb.Zn KX G ?a1 ?l1 ?c1 ?k1 (λ_ _ _ _ _ _ _ h=>by obtain⟨a0,a1,a2,rfl⟩:=Sb.len3 h;rfl),Sb.Zn KX G ?a2 ?l2 ?c2 ?k2 (λ_ _ _ _ _ _ _ h=>by obtain⟨a0,a1,rfl⟩:=Sb.len2 h;rfl),Sb.Zn KX G ?a3 ?l3 ?c3 ?k3 (λ_ _ _ _ _ _ _ h=>by obtain⟨a0,a1,a2,rfl⟩:=Sb.len3 h;rfl),Sb.Zn KX G ?a4 ?l4 ?c4 ?k4 (λ_ _ _ _ _ _ _ h=>by obtain⟨a0,a1,a2,rfl⟩:=Sb.len3 h;rfl),Sb.Zn KX G ?a5 ?l5 ?c5 ?k5 (λ_ _ _ _ _ _ _ h=>by obtain⟨a0,a1,a2,rfl⟩:=Sb.len3 h;rfl),Sb.Zn KX G ?a6 ?l6 ?c6 ?k6 (λ_ _ _ _ _ _ _ h=>by obtain⟨a0,a1,a2,rfl⟩:=Sb.len3 h;rfl),Sb.Zn KX G ?a7 ?l7 ?c7 ?k7 (λ_ _ _ _ _ _ _ h=>by obtain⟨a0,a1,rfl⟩:=Sb.len2 h;rfl),Sb.Zn KX G ?a8 ?l8 ?c8 ?k8 (λ_ _ _ _ _ _ _ h=>by obtain⟨a0,a1,a2,a3,rfl⟩:=Sb.len4 h;rfl)⟩
   case a0|l0|c0|k0|a1|l1|c1|k1|a2|l2|c2|k2|a3|l3|c3|k3|a4|l4|c4|k4|a5|l5|c5|k5|a6|l6|c6|k6|a7|l7|c7|k7|a8|l8|c8|k8=>k_is
  have lG:Sb.Con (L2.KOf KX) mg "NOUGHT" (0,1):=by
   dsimp only [L2.KOf];refine' Sb.Z0x KX G ?a ?l
   case a|l=>k_is
  have qL:Sb.Con (L2.KOf KX) mg "ONE" (1,1):=by
   dsimp only [L2.KOf];refine' Sb.Z0x KX G ?a ?l
   case a|l=>k_is
  have qK:Sb.ConI mg "ROW" 0:=by
   refine' Sb.Rn KX G ?a
   (case a=>k_is)
  have pM:Sb.ConI mg "ASK" 1:=by
   refine' Sb.Rn KX G ?a
   (case a=>k_is)
  have pL:Sb.ConI mg "BID" 2:=by
   refine' Sb.Rn KX G ?a
   (case a=>k_is)
  have oK:Sb.ConI mg "EVENT" 3:=by
   refine' Sb.Rn KX G ?a
   (case a=>k_is)
  have y_Table:Sb.TabHere (L2.KOf KX) mg:=by
   dsimp only [L2.KOf];refine' Sb.Z3n KX G ?xaC ?xa1 ?xi1 ?xl1 ?xc1 ?xk1 ?xpg ?xhd ?xpo ?xsa ?xmk ?xkc ?xnL ?xnO ?xnH ?xnB ?xnK
   case xaC|xa1|xi1|xl1|xc1|xk1|xpg|xhd|xpo|xsa|xmk|xkc|xnL|xnO|xnH|xnB|xnK=>k_is
  obtain ⟨C_T,f_T,fd_T,tc,mk_T,F_T,b_T⟩:=y_Table;have y_NF:Sb.ErrHere (L2.KOf KX) mg "NoFair" "NoFair.__init__" Sb.iL:=by
   dsimp only [L2.KOf];refine' Sb.Z53 KX G ?zNFeC ?zNFe1 ?zNFei ?zNFel ?zNFec ?zNFek ?zNFes ?zNFen ?zNFeg ?zNFeh ?zNFex ?zNFet ?zNFeu ?zNFem ?zNFeb ?zNFeo ?zNFebd
   case zNFeC|zNFe1|zNFei|zNFel|zNFec|zNFek|zNFes|zNFen|zNFeg|zNFeh|zNFex|zNFet|zNFeu|zNFem|zNFeb=>k_is
   (case zNFeo=>kernel_rfl); (case zNFebd=>exact λus hl=>by obtain ⟨a0,a1,rfl⟩:=Sb.len2 hl; rfl)
  obtain ⟨C_NF,f_NF,fd_NF,x_NF,F_NF,b_NF,s_NF,r_NF⟩:=y_NF;have y_base:Sb.BaseHere (L2.KOf KX) mg "SureError":=by
   dsimp only [L2.KOf];refine' Sb.Z3b KX G ?ba ?br ?bt ?bf
   case ba|br|bt|bf=>k_is
  obtain ⟨D_SE,B_SE⟩:=y_base;have y_cSE:Sb.CatchHere (L2.KOf KX) mg "NoFair" "SureError":=by
   dsimp only [L2.KOf];refine' Sb.Z10 KX G ?xcSEa ?xcSEb ?xcSEn ?xcSEe ?xcSEi ?xcSEk
   (case xcSEa=>k_is); (case xcSEb=>k_is); (case xcSEn=>k_is); (case xcSEe=>k_is); (case xcSEi=>kit_is); (case xcSEk=>k_is)
  obtain ⟨Cq_cSE,D_cSE,k_cSE,m_cSE,n_cSE⟩:=y_cSE;obtain rfl:=Sb.Z01 m_cSE x_NF.bd;have y_ks:Sb.KindsHere (L2.KOf KX) mg:=by
   dsimp only [L2.KOf];refine' Sb.Z08 KX G ?ka0 ?ka1 ?ka2 ?ka3 ?ka4 ?ka5 ?kav ?kka ?kk0 ?kkv
   (case ka0=>k_is); (case ka1=>k_is); (case ka2=>k_is); (case ka3=>k_is); (case ka4=>k_is); (case ka5=>k_is); (case kav=>k_is); (case kka=>kit_is); (case kk0=>kit_is); (case kkv=>kit_is)
  obtain ⟨Ck,ck1,ck2,ck3,ck4,ck5,ks⟩:=y_ks;obtain rfl:=Sb.Z01 ks.m0 x_NF.bd;refine' Sb.Z4u (st:=Sb.kQ) KX G hmg ?a ?l ?c ?k ?b ?ok
  case a|l|c|k=>k_is
  (case b=>exact λs v=>.of_eq rfl)
  case ok =>
   intro fd base F;have pQ:=Sb.Z5n (P:=Sb.pk) (w:=w) (base:=base) lC T;have oC:=Sb.Be nY pQ;have pP:=Sb.Gv (P:=Sb.pk) (w:=w) (base:=base) m7 T;have oB:=Sb.Bb oR pP oC;have oJ:=Sb.Bo lD pQ;have pV:=Sb.Gr (P:=Sb.pk) (w:=w) (base:=base) mX;have p0:=Sb.Z4n (P:=Sb.pk) (w:=w) (base:=base) oV;have oG:=Sb.Z5o qM T p0 lG;have qP:=Sb.Z2f mZ oG qL;have c_T:Sb.HasT _ w (L2.KOf KX) mg base C_T:=⟨f_T,fd_T,mk_T,Sb.Z28 (P:=Sb.pk) (w:=w) (base:=base) F_T tc,b_T⟩;have pH:=Sb.Z2n lM T tc c_T;have lL:=Sb.Bg (P:=Sb.pk) (w:=w) (base:=base) nP tc;have pJ:=Sb.Z2p n6 tc lL;have pC:=Sb.Z2g mG tc lL;have qC:=Sb.Gw nQ T tc lL;have qE:=Sb.Z4o (P:=Sb.pk) (w:=w) (base:=base) lT tc;have pF:=Sb.Z2l mH T tc qE;have oA:=Sb.Kc (P:=Sb.pk) (w:=w) (base:=base) mY T;have pG:=Sb.Z2m oX T oA;have qG:=Sb.Z4q mI tc c_T pG oA;have oE:=Sb.Bn n8 tc qC qG pF;have qT:=Sb.Mi lQ oJ pV;have o0:=Sb.Z2a oO qT qP pH;have pA:=Sb.Z2c kX T tc pC oJ oB;have nE:=Sb.B6 oP T tc oG o0 oE pA oJ oB pJ;have nF:=Sb.Z2h oS oC;have qF:=Sb.Z4p pT T nF oG qK pM pL oK;have oY:=Sb.Z25 (P:=Sb.pk) (w:=w) (base:=base) mW pM pL;have o7:=Sb.Z2b oQ T oY;have mF:=Sb.Bm oW o7 qF;have oZ:=Sb.Z27 oN oC;have qJ:=Sb.Z4r (P:=Sb.pk) (w:=w) (base:=base) mS T;have kT:=Sb.Z2d (P:=Sb.pk) (w:=w) (base:=base) lX T;have qR:=Sb.Z5p (P:=Sb.pk) (w:=w) (base:=base) nC;have kW:=Sb.Z4j (P:=Sb.pk) (w:=w) (base:=base) mJ;have kY:=Sb.Z2j mM kT;have kZ:=Sb.Bi lZ kT;have lK:=Sb.Bh lV kT;have nD:=Sb.Z26 (P:=Sb.pk) (w:=w) (base:=base) lU T;have p9:=Sb.Z5m nS T nD;have mE:=Sb.Ba lW kW kT;have pO:=Sb.Z4l nA T mE;have nU:=Sb.Kb lH T kW kT;have nI:=Sb.Bj mP T kY lK;have pI:=Sb.Z2o mB T kW;have mV:=Sb.Bl (P:=Sb.pk) (w:=w) (base:=base) lN T;have mT:=Sb.Gx l5 kZ T mV;have pU:=Sb.Z4h kU T p9 kY nI;have pZ:=Sb.Ni lR T oZ;have n9:=Sb.B0 nX pZ;have pX:=Sb.Z4k mL kW;have pY:=Sb.Z4m mO T lK kY;have pD:=Sb.Z2i pR T oJ pV oB;have qS:=Sb.Z4s m8 pP;have oH:=Sb.Gy nR T qS pD;have qQ:=Sb.Mj lS oJ pV;have mU:=Sb.Bk (P:=Sb.pk) (w:=w) (base:=base) n5 T;have qH:=Sb.Z2q mR T kY lK;have pB:=Sb.Bc lY T kW kT mE pO pI mV nI kY kZ;have pW:=Sb.Z29 mK T kW kT mE pO kZ;have qN:=Sb.Z4i m9 T kW nU pY pB pW;have k9:=Sb.Gu nZ nE mF qQ lG;have pE:=Sb.Nh (P:=Sb.pk) (w:=w) (base:=base) F_NF T x_NF B_SE s_NF;have mD:=Sb.Cz oM x_NF pE b_NF nE mF qQ;have nG:=Sb.Bf oU mD n9 nF lG;have lP:=Sb.Z2e nJ T k9 mU mF oH mD nG;have pK:=Sb.Bp mC T mT nD qH;have nV:=Sb.Gs lE T p9;have qD:=Sb.Z2k mQ T k9 mU pU mT nV p9 kZ mD nG;have lO:=Sb.Ke lJ k_cSE n_cSE lP;have nW:=Sb.Kd lI T ks x_NF r_NF s_NF k9 pK lO;exact Sb.Z5l F T qJ qR pX qN k9 lO nW lP qD
#print axioms PySem.Challenge.cw_surebook_k39_parted_holds
