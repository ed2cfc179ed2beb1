import PyProof.Rows.All
import Wide.All
import OpenK.AllK
import Wide.FinOn
import Lean
import PyProof.EqAt
import PyProof.EqKinds
import PyProof.TupleCall
import PySem.Challenge.RW_surebook_k44_whole_corners_price
set_option Elab.async false
set_option linter.all false
set_option compiler.extract_closed false
set_option maxRecDepth 100000
set_option maxHeartbeats 3200000
abbrev TB:=PySem.Str->Option PySem.Value
abbrev TC:=PySem.Value->PySem.Shared->Prop
abbrev TD:=List (PySem.Addr × PySem.Obj)
abbrev TF:=List PySem.Str
abbrev TH:=List PySem.Value
abbrev TJ:=List PySem.Addr
abbrev TL:=List PySem.Expr
abbrev TM:=List PySem.Stmt
abbrev TN:=List PySem.Env
abbrev TQ:=Option PySem.Addr
abbrev TR:=PySem.W.Frag
abbrev TU:=PySem.Program
abbrev TV:=List Int
abbrev TW:=Option (Nat->Bool)
abbrev TX:=Nat->Nat
abbrev TY:=Nat->Int
abbrev UE:List PySem.Str:=["self","multiples"]
abbrev UF:List PySem.Str:=["_law_script","_law_k"]
abbrev UG:List PySem.Str:=["_law_script","_law_at"]
abbrev UH:List PySem.Str:=["one","other"]
abbrev UI:List PySem.Str:=["top","bottom"]
abbrev UJ:List PySem.Str:=["_law_one","_law_other"]
abbrev UK:List PySem.Str:=["_law_found"]
abbrev UL:List PySem.Str:=["table","owner"]
abbrev UM:List PySem.Str:=["table","thing"]
abbrev UN:List PySem.Str:=["table","owner","thing"]
abbrev UO:List PySem.Str:=["_law_bag_here","_law_count"]
abbrev UP:List PySem.Str:=["_law_k","_law_bag_here"]
abbrev UQ:List PySem.Str:=["table","column","one","other"]
abbrev UR:List PySem.Str:=["numbers","place","number"]
abbrev US:List PySem.Str:=["line","key_line","column","bottom"]
abbrev UT:List PySem.Str:=["self","lines","owners","heads","bottom","lack"]
abbrev UU:List PySem.Str:=["table","place","column"]
abbrev UV:List PySem.Str:=["world","event"]
abbrev UW:List PySem.Str:=["row","event"]
abbrev UX:List PySem.Str:=["_law_row_here","_law_event_here"]
abbrev UY:List PySem.Str:=["count","event"]
abbrev UZ:List PySem.Str:=["several","bottom"]
abbrev VA:List PySem.Str:=["count","rows","event","goal"]
abbrev VB:List PySem.Str:=["count","rows","table","owner","bottom"]
abbrev VC:List PySem.Str:=["count","rows","event","aim"]
abbrev VD:List PySem.Str:=["_law_weights_here","_law_row_here"]
abbrev VE:List PySem.Str:=["offers"]
abbrev VF:List PySem.Str:=["row","by"]
abbrev VG:List PySem.Str:=["_law_weights_here","_law_row_here","_law_event_here"]
abbrev VH:List PySem.Str:=["_law_bag_here","_law_weights_here","_law_loose"]
abbrev VI:List PySem.Str:=["_law_script","_law_count"]
abbrev VJ:List PySem.Str:=["count","offers"]
abbrev VL:List PySem.Str:=["count","offers","event","row"]
abbrev VM:List PySem.Str:=["count","offers","row"]
abbrev VN:List PySem.Str:=["count","offers","event"]
abbrev VO:List PySem.Str:=["weights","row"]
abbrev VP:List PySem.Str:=["edges","corner"]
abbrev VQ:List PySem.Str:=["one","other","row"]
abbrev VR:List PySem.Str:=["touching","one","other"]
abbrev VS:List PySem.Str:=["found","edges","row"]
abbrev VT:List PySem.Str:=["_law_found","_law_count"]
abbrev YA:=@PySem.wpAny_bind
abbrev YB:=@PySem.Heap.get?_push_of_some
abbrev YC:=@List.length_map
abbrev YD:=@if_neg
abbrev YE:=@List.mem_of_getElem?
abbrev YF:=@Classical.byContradiction
abbrev YG:=@if_pos
abbrev YH:=@List.getElem?_eq_some_iff
abbrev YI:=@List.getElem?_map
abbrev YJ:=@Nat.le_refl
abbrev YK:=@PySem.wpAny_pure
abbrev YL:=@PySem.Heap.lt_size
abbrev YM:=@Nat.le_trans
abbrev YN:=@PySem.Heap.get?_push_size
abbrev YO:=@Bool.false_ne_true
abbrev YQ:=@Nat.lt_of_lt_of_le
abbrev YR:=@Option.some.inj
abbrev YS:=@List.size_toArray
abbrev YT:=@List.mem_map
abbrev YU:=@List.mem_cons
abbrev YV:=@List.mem_cons_of_mem
abbrev YW:=@List.take_of_length_le
abbrev YX:=@List.mem_append_right
abbrev YY:=@PySem.Paired.length
abbrev YZ:=@List.getD_eq_getElem?_getD
abbrev XA:=@List.mem_filter
abbrev XB:=@Nat.ne_of_lt
abbrev XC:=@List.mem_cons_self
abbrev XD:=@List.length_append
abbrev XE:=@decide_eq_true
abbrev XF:=@List.map_append
abbrev XG:=@Int.mul_pos
abbrev XH:=@List.mem_singleton
abbrev XI:=@of_decide_eq_true
abbrev XJ:=@List.mem_append_left
abbrev XL:=@List.getElem?_of_mem
abbrev XM:=@Bool.false_eq_true
abbrev XN:=@decide_eq_false
abbrev XO:=@List.mem_range
abbrev XQ:=@Ne.symm
abbrev XR:=@List.getElem_mem
abbrev XS:=@List.mem_append
abbrev XT:=@List.getElem?_eq_getElem
abbrev XU:=@List.nodup_iff_pairwise_ne
abbrev XV:=@PySem.W.mg_none_of
abbrev XW:=@List.length_cons
abbrev XX:=@List.lookup_cons
abbrev XY:=@PyProof.Rows.boot_tuple
abbrev XZ:=@PySem.F.plainAttrs_list
abbrev JA:=@Nat.lt_irrefl
abbrev JB:=@PySem.Heap.get?_update_other
abbrev JC:=@Nat.le_of_lt
abbrev JD:=@Int.mul_comm
abbrev JE:=@PySem.wpAny_field
abbrev JF:=@Nat.zero_le
abbrev JG:=@PySem.Heap.SameBut.update
abbrev JH:=@beq_eq_false_iff_ne
abbrev JI:=@List.getElem?_set_self
abbrev JJ:=@PySem.Heap.get?_update_self
abbrev JK:=@Nat.lt_of_le_of_lt
abbrev JL:=@PySem.PassesOwn.never
abbrev JM:=@PyProof.Rows.callWith_type1
abbrev JN:=@PyProof.Rows.boot_list
abbrev JO:=@PySem.wpAny_holding
abbrev JP:=@PySem.Heap.size_push
abbrev JQ:=@List.getElem?_append_right
abbrev JR:=@PySem.wpAny_callSpecial?_slot
abbrev JS:=@List.getElem?_append_left
abbrev JT:=@List.append_nil
abbrev JU:=@PyProof.Rows.boot_isinstance
abbrev JV:=@List.length_zipWith
abbrev JW:=@PySem.wpAny_call_entry
abbrev JX:=@List.length_take
abbrev JY:=@Bool.and_eq_true
abbrev JZ:=@Int.mul_le_mul_of_nonneg_right
abbrev GA:=@List.take_length
abbrev GB:=@Int.eq_of_mul_eq_mul_left
abbrev GC:=@Nat.ne_of_gt
abbrev GD:=@List.filter_append
abbrev GE:=@PySem.wpAny_seqItems
abbrev GF:=@Bool.eq_iff_iff
abbrev GG:=@Int.natAbs_mul
abbrev GH:=@List.not_mem_nil
abbrev GI:=@PySem.F.store_ValueError
abbrev GJ:=@Nat.le_add_right
abbrev GK:=@PySem.F.slot_list_append
abbrev GL:=@PySem.F.type_list_append
abbrev GM:=@List.getElem?_zipWith
abbrev GN:=@List.length_filter_le
abbrev GO:=@PySem.wpAny_mono
abbrev GP:=@Nat.pow_le_pow_right
abbrev GQ:=@decide_eq_true_iff
abbrev GR:=@List.map_cons
abbrev GS:=@Int.mul_assoc
abbrev GT:=@Int.mul_zero
abbrev GU:=@Array.length_toList
abbrev GV:=@beq_iff_eq
abbrev GW:=@List.take_add_one
abbrev GX:=@List.pairwise_map
abbrev GY:=@List.length_replicate
abbrev GZ:=@PySem.wpAny_setField
abbrev qd:=@PySem.wpAny_loadPart'
abbrev qh:=@List.map_map
abbrev qi:=@PySem.F.slot_dict_keyiterator_next
abbrev qj:=@PySem.Obj.data_mapFields
abbrev qk:=@PySem.wpAny_Call_Name_kw
abbrev ql:=@Int.mul_nonpos_of_nonpos_of_nonneg
abbrev qo:=@if_false
abbrev qq:=@PySem.sizeLine_eq
abbrev qu:=@List.getElem?_set_ne
abbrev qx:=@Nat.mul_le_mul_right
abbrev qy:=@PySem.wpAny_truthy_bool
abbrev qz:=@Array.getElem?_eq_some_iff
abbrev qX:=@PySem.wpAny_loadPart_at
abbrev qY:=@PySem.F.excBase_ValueError
abbrev qZ:=@PySem.mem_of_lookup
abbrev zc:=@Nat.mul_le_mul_left
abbrev zd:=@Int.natAbs_dvd_natAbs
abbrev ze:=@PySem.wpAny_isInstance
abbrev zf:=@beq_self_eq_true
abbrev zg:=@Option.isSome_iff_exists
abbrev zh:=@List.eq_of_mem_replicate
abbrev zj:=@Nat.le_succ
abbrev zl:=@PySem.wpAny_typeNameOfWhole_keyiter
abbrev zm:=@PySem.boot_len
abbrev zo:=@Int.toNat_natCast
abbrev zq:=@List.nodup_cons
abbrev zt:=@List.replicate_succ
abbrev zu:=@Int.one_mul
abbrev zv:=@Int.mul_one
abbrev zw:=@List.mem_flatMap
abbrev zx:=@List.filter_cons
abbrev zy:=@PySem.wpAny_rule
abbrev zz:=@PySem.F.slot_tuple_iterator_next
abbrev zA:=@PySem.SeqAt.EqAt.int_int
abbrev zB:=@PySem.Obj.isFreed_of_fields
abbrev zC:=@Array.getElem?_eq_getElem
abbrev zD:=@Int.lt_of_mul_lt_mul_left
abbrev zE:=@PySem.wpAny_passesOwn
abbrev zF:=@List.length_set
abbrev zG:=@PySem.SeqAt.EqAt.same
abbrev zH:=@List.range_succ
abbrev zI:=@Nat.two_pow_pos
abbrev zJ:=@PySem.wpAny_newObj_type
abbrev zK:=@Nat.lt_succ_of_lt
abbrev zL:=@PySem.wpAny_pyIter_list
abbrev zM:=@Nat.mul_comm
abbrev zN:=@decide_eq_true_eq
abbrev zO:=@Int.ne_of_gt
abbrev zP:=@PySem.wpAny_attempt
abbrev zQ:=@Bool.not_true
abbrev zR:=@Nat.add_assoc
abbrev zS:=@PySem.wpAny_typeNameOf_keyiter
abbrev zT:=@List.filter_sublist
abbrev zU:=@PySem.W.kia_one
abbrev zV:=@Nat.mul_le_mul
abbrev zW:=@Int.mul_nonneg
abbrev zX:=@List.eq_nil_of_length_eq_zero
abbrev zY:=@PySem.wpAny_setField_rec
abbrev zZ:=@Int.zero_mul
abbrev ja:=@Array.forIn_toList
abbrev jb:=@List.forIn_cons
abbrev jc:=@PySem.wpAny_standAt
abbrev jd:=@List.sum_cons
abbrev je:=@List.getElem?_eq_none
abbrev jf:=@Nat.lt_of_succ_lt
abbrev jg:=@Int.mul_lt_mul_of_pos_right
abbrev jh:=@Int.eq_of_mul_eq_mul_right
abbrev ji:=@Nat.lt_succ_self
abbrev jj:=@PySem.codeAny_mono
abbrev jk:=@List.all_eq_true
abbrev jm:=@decide_eq_decide
abbrev jn:=@List.length_pos_iff
abbrev jo:=@List.getElem?_range
abbrev jp:=@List.flatMap_append
abbrev jq:=@PySem.F.slot_list_getattribute
abbrev jr:=@PySem.wpAny_specialOf
abbrev js:=@PySem.wpAny_execs_nil
abbrev jt:=@Option.map_some
abbrev ju:=@List.length_nil
abbrev jv:=@Int.emod_nonneg
abbrev jw:=@List.filter_nil
abbrev jx:=@PySem.slot_listiter_next
abbrev jy:=@PySem.wpAny_pyIter_tuple
abbrev jz:=@PySem.call_meets
abbrev Y00:=@Int.emod_lt_of_pos
abbrev Y01:=@Nat.pow_add
abbrev Y02:=@Nat.le_mul_of_pos_right
abbrev Y03:=@PySem.F.slot_list_index
abbrev Y04:=@PySem.F.type_list_index
abbrev Y05:=@Nat.add_sub_cancel_left
abbrev Y06:=@PySem.Obj.cls_mapFields
abbrev Y07:=@PySem.isSubtype_stop
abbrev Y08:=@Nat.le_of_eq
abbrev Y09:=@PyProof.Rows.subscriptTail_builtinR
abbrev Y0a:=@List.flatten_cons
abbrev Y0b:=@List.append_assoc
abbrev Y0c:=@Nat.succ_mul
abbrev Y0d:=@Int.gcd_dvd_right
abbrev Y0e:=@List.forIn_nil
abbrev Y0f:=@or_false
abbrev Y0g:=@PySem.SeqAt.RcAt.tuples
abbrev Y0h:=@PySem.F.slot_tuple_hash
abbrev Y0i:=@List.map_set
abbrev Y0j:=@Nat.succ.inj
abbrev Y0k:=@PySem.plainObj_wpAny_Assign_Attribute
abbrev Y0l:=@PySem.isSubtype_tuple_tuple
abbrev Y0m:=@PyProof.Rows.boot_sum
abbrev Y0n:=@Classical.choose_spec
abbrev Y0o:=@PySem.wpAny_call
abbrev Y0p:=@PyProof.Rows.callWith_builtin1
abbrev Y0q:=@Nat.not_lt
abbrev Y0r:=@PySem.F.slot_tuple_mul
abbrev Y0s:=@PySem.wpAny_forIn_list
abbrev Y0t:=@PySem.F.args_dict_keyiterator_next_1
abbrev Y0u:=@List.getElem?_mapIdx
abbrev Y0v:=@PySem.F.entry_dict_keyiterator_next
abbrev Y0w:=@Nat.pow_lt_pow_right
abbrev Y0x:=@PySem.F.args_tuple_iterator_next_1
abbrev Y0y:=@List.of_mem_zip
abbrev Y0z:=@PySem.F.slot_zip_next
abbrev Y0A:=@PySem.wpAny_ite_false
abbrev Y0B:=@PySem.F.slot_int_rmul
abbrev Y0C:=@PySem.F.slot_tuple_eq
abbrev Y0D:=@List.filterMap_cons
abbrev Y0E:=@Int.mul_fdiv_cancel
abbrev Y0F:=@PySem.wpAny_isSubtype_exc
abbrev Y0G:=@PySem.Heap.get?_update_ne
abbrev Y0H:=@PySem.F.entry_tuple_iterator_next
abbrev Y0I:=@Int.gcd_comm
abbrev Y0J:=@PySem.W.mg_of
abbrev Y0K:=@Int.gcd_pos_of_ne_zero_left
abbrev Y0L:=@PySem.F.slot_range_iterator_next
abbrev Y0M:=@PySem.Calls.Name_function_global
abbrev Y0N:=@List.mem_filterMap
abbrev Y0O:=@PySem.W.looks_findIn
abbrev Y0P:=@PySem.Calls.spliced_cons
abbrev Y0Q:=@Nat.eq_of_mul_eq_mul_right
abbrev Y0R:=@PySem.SeqAt.EqAt.of_refs
abbrev Y0S:=@List.zip_cons_cons
abbrev Y0T:=@PySem.wpAny_tupleItemsOf
abbrev Y0U:=@Int.gcd_sub_mul_left_left
abbrev Y0V:=@PySem.wpAny_binaryOp_repeat_ref
abbrev Y0W:=@Int.le_of_mul_le_mul_left
abbrev Y0X:=@List.drop_eq_getElem_cons
abbrev Y0Y:=@PySem.wpAny_letGo
abbrev Y0Z:=@PySem.Calls.spliced_nil
abbrev Y10:=@if_true
abbrev Y11:=@List.length_range
abbrev Y12:=@Bool.not_eq_true'
abbrev Y13:=@PySem.wpAny_dictEntries
abbrev Y14:=@Function.comp_def
abbrev Y15:=@List.ext_getElem?
abbrev Y16:=@Int.neg_mul
abbrev Y17:=@List.flatMap_cons
abbrev Y18:=@PySem.plainId_quiet
abbrev Y19:=@PySem.W.hideAll_get
abbrev Y1a:=@List.getElem?_take_of_lt
abbrev Y1b:=@List.all_cons
abbrev Y1c:=@PySem.wpAny_comprehension_free
abbrev Y1d:=@PySem.AutoSeq1.sub_tuple_tuple
abbrev Y1e:=@PyProof.Rows.listUpdate_at
abbrev Y1f:=@PySem.F.slot_list_extend
abbrev Y1g:=@PySem.F.type_list_extend
abbrev Y1h:=@List.length_erase_of_mem
abbrev Y1i:=@List.getElem?_replicate
abbrev Y1j:=@Int.gcd_dvd_left
abbrev Y1k:=@List.filter_cons_of_pos
abbrev Y1l:=@List.filter_cons_of_neg
abbrev Y1m:=@List.ext_getElem
abbrev Y1n:=@Int.eq_ofNat_of_zero_le
abbrev Y1o:=@decide_eq_false_iff_not
abbrev Y1p:=@PySem.wpAny_typeOf
abbrev Y1q:=@PySem.typeIs_int
abbrev Y1r:=@Nat.pow_succ
abbrev Y1s:=@Int.fmod_nonneg_of_pos
abbrev Y1t:=@Array.getElem?_eq_none
abbrev Y1u:=@PyProof.Rows.boot_bool
abbrev Y1v:=@List.filter_eq_nil_iff
abbrev Y1w:=@PySem.codeAny_builtin
abbrev Y1x:=@PySem.wpAny_updateSeq
abbrev Y1y:=@PySem.wpAny_dictEpoch
abbrev Y1z:=@Int.mul_ne_zero
abbrev Y1A:=@PyProof.Rows.boot_abs
abbrev Y1B:=@PyProof.Rows.boot_int
abbrev Y1C:=@List.mem_of_mem_erase
abbrev Y1D:=@Nat.log2_lt
abbrev Y1E:=@PySem.Paired.snoc
abbrev Y1F:=@Int.le_refl
abbrev Y1G:=@Int.natAbs_neg
abbrev Y1H:=@List.mem_of_mem_take
abbrev Y1I:=@List.take_zero
abbrev Y1J:=@List.replicate_succ'
abbrev Y1K:=@List.zipWith_append
abbrev Y1L:=@Nat.pow_le_pow_left
abbrev Y1M:=@Nat.lt_two_pow_self
abbrev Y1N:=@List.getElem_of_mem
abbrev Y1O:=@List.any_cons
abbrev Y1P:=@PySem.wpAny_onRaise
abbrev Y1Q:=@Nat.mul_assoc
abbrev Y1R:=@Int.dvd_trans
abbrev Y1S:=@List.cons.inj
abbrev Y1T:=@Option.isSome_none
abbrev Y1U:=@Array.append_assoc
abbrev Y1V:=@Array.find?_toList
abbrev Y1W:=@Nat.eq_zero_or_pos
abbrev Y1X:=@Int.fmod_lt_of_pos
abbrev Y1Y:=@List.getElem?_take
abbrev Y1Z:=@List.contains_cons
abbrev Y20:=@of_decide_eq_false
abbrev Y21:=@Option.toList_some
abbrev Y22:=@Nat.add_sub_cancel
abbrev Y23:=@List.ne_nil_of_mem
abbrev Y24:=@Nat.add_comm
abbrev Y25:=@List.all_map
abbrev Y26:=@Nat.mul_succ
abbrev Y27:=@Int.mul_add
abbrev Y28:=@Nat.one_mul
abbrev Y29:=@Nat.pow_pos
abbrev Y2a:=@Prod.ext
abbrev Y2b:=@not_or
def _b.sz0:0<=PySem.sizeLine:=by decide
def _b.sz1:1<=PySem.sizeLine:=by decide
def _b.sz2:2<=PySem.sizeLine:=by decide
def _b.sz3:3<=PySem.sizeLine:=by decide
def _b.sz4:4<=PySem.sizeLine:=by decide
def _b.sz8:8<=PySem.sizeLine:=by decide
variable {A:PySem.Around}{C cc e f it:PySem.Addr}{D:Int}{E:TC}{K:TR}{Ws Zs:TV}{an dd od:TQ}{as:TJ}{cd ct dc oc pm u:PySem.Value}{fd:PySem.FuncData}{h h':PySem.Heap}{i j:Nat}{its:TH}{mg:TB}{oe:PySem.Obj}{pins qs:TD}{pos pos':PySem.Pos}{prog:TU}{ps:TF}{qual:PySem.Str}{s:PySem.Shared}{scope:PySem.Scope}{sr:Bool}{st:PySem.Stmt}{tg:PySem.Expr}{tt:TT}{w:PySem.World}
def J5{p:Prop}(h:p:=by omega):p:=h
def J6{p:Prop}(h:p:=by decide):p:=h
def J7{p:Prop}(h:p:=by simp):p:=h
def J8{p:Prop}(h:p:=by decide +kernel):p:=h
def ZJ{p:Prop}(h:p:=by grind):p:=h
def xj{α:Type}{a:α}{b:Prop}:a=a\/b:=.inl rfl
namespace _b
open PySem PySem.Spec PyProof.Rows
def NoCtx (o:Obj):Prop:=∃ vs,o.data=.fields vs/\vs[2]?=some .none
def Qt (A:Around)(h:Heap):Prop:=A.handled=none \/ ∃ a o,A.handled=some (.ref a)/\h.get? a=some o/\NoCtx o
def QtP (A:Around)(pn:TD):Prop:=A.handled=none \/ ∃ p∈pn,A.handled=some (.ref p.1)/\NoCtx p.2
def QtP.at {pn:TD}(q:QtP A pn)(k:∀ p∈pn,h.get? p.1=some p.2):Qt A h :=
 q.imp id λ⟨p,hp,e,n⟩=>⟨p.1,p.2,e,k p hp,n⟩
def QtP.sub {pn pm:TD}(q:QtP A pn)(k:∀ p∈pn,p∈pm):QtP A pm:=q.imp id λ⟨p,hp,e,n⟩=>⟨p,k p hp,e,n⟩
def Qt.keeps (q:Qt A h)(k:∀ b o,h.get? b=some o->NoCtx o->h'.get? b=some o):Qt A h':=q.imp id λ⟨a,o,e,g,n⟩=>⟨a,o,e,k a o g n,n⟩
def Qt.but {a:Addr}{o:Obj}{f:Obj->Obj}(q:Qt A h)(ha:h.get? a=some o)(n:¬ NoCtx o):Qt A (h.update a f) :=
 q.imp id λ⟨b,u,e,g,m⟩=>⟨b,u,e,(JG ..).extBut b u (λz=>n (by rw[z,ha] at g;cases g;exact m)) g,m⟩
def Pq:entryFor table "proto.unchain"=some Builtin.«proto.unchain»:=entryFor_of_tree (by kernel_rfl)
section
def Jc {α:Type}{e:Addr}{oe:Obj}{vs:Array Value}{Q:α->Shared->Prop}(hq:Qt A s.heap)(b:s.heap.get? e=some oe)(hd:oe.data=.fields vs)(hz:2<vs.size)(hn:∀ a,A.handled=some (.ref a)->a≠e)
  (h:∀ h':Heap,Heap.SameBut e s.heap h'->(∃ o',h'.get? e=some o'/\o'.cls=oe.cls)->E (.ref e) { s with heap:=h' }):wpAny (model prog w) A (raiseNew (.ref e):Sem α) Q E s:=by
 unfold raiseNew;refine YA (wpAny_handled ?_);rcases hq with c | ⟨a,o,c,ha,xs,hx,h2⟩
 ·rw[c]
  first
   | exact wpAny_throw (h s.heap (Heap.SameBut.refl ..) ⟨_,b,rfl⟩)
   | exact YA (YK (wpAny_throw (h s.heap (Heap.SameBut.refl ..) ⟨_,b,rfl⟩)))
 have ne:=hn a c;rw[c];dsimp only;have nb:(Value.ref a != Value.ref e)=true:=by simpa using ne
 rw[YG nb];refine YA (JO (wpAny_runValue (Y1w Pq ?_)));show wpAny _ _ (field (.ref a) 2 >>= _) _ _ s;refine YA (JE ha hx (x:=.none) h2 ?_);refine YK ?_;simp only [updateField];refine YA (YA (wpAny_load b ?_));rw[hd];show wpAny _ _ (if 2<vs.size then _ else _) _ _ _;rw[YG hz];refine wpAny_update b ?_;refine wpAny_throw (h _ (JG ..) ⟨_,JJ _ b ?_,?_⟩)
 ·exact zB (qj hd _)
 exact Y06 ..
def Se {α:Type}{Q:α->Shared->Prop}(hq:Qt A s.heap)
  (h:∀ (h':Heap) (e:Addr),(∀ b o,s.heap.get? b=some o->h'.get? b=some o)->(∃ o,h'.get? e=some o/\o.cls=.type "StopIteration")->E (.ref e) { s with heap:=h' }) :
  wpAny (model prog w) A (newExc (.type "StopIteration") [] >>= λe=>(raiseNew e:Sem α)) Q E s:=by
 refine YA ?_;simp only [newExc,newTuple];refine YA (zJ ?_ (by size_fits));refine YA (m:=firstArgMember _ _) (wpAny_of_eq (a:=Value.none) (by first | rfl | (simp only [firstArgMember];rfl)) ?_);refine zJ ?_ (by size_fits);have d:∀ (o:Obj),(s.heap.push o).objs.size=s.heap.objs.size+1:=λo=>JP ..;refine Jc (hq.keeps λb o c _=>YB _ (YB _ c)) (YN _ rfl) rfl (by simp[ownMembersOf]) (λa ha z=>?_) λh' f ho=>?_
 ·rcases hq with q | ⟨b,o,q,c,_⟩
  ·rw[q] at ha;cases ha
  rw[q] at ha
  cases ha;have:=YL c;rw[z,d] at this;exact JA _ (jf this)
 refine h h' _ (λb o c=>?_) ho;refine f.extBut b o (λz=>?_) (YB _ (YB _ c));have:=YL c;rw[z,d] at this;exact JA _ (jf this)
def Qp {l:Addr}{items}{Q:Option Value->Shared->Prop}(hq:Qt A s.heap)
  (hit:s.heap.IsListIter it l i) (hl:s.heap.IsList l items) (hx:items[i]?=none)
  (f:∀ h',Heap.ExtBut it s.heap h'->Q none { s with heap:=h' }):wpAny (model prog w) A (pyNext (.ref it)) Q E s:=by
 obtain⟨o,ho,hc,hd⟩:=id hit;obtain⟨h,c,_,nl,a⟩:=hl;unfold pyNext;refine YA (zP (JR (name:=Str.ofString "__next__") hit.typeIs jx
  (JW jx hit.typeIs entry_listiter_next ?_ (args_listiter_next _))))
 show wpAny _ _ (field (.ref it) 0 >>= _) _ _ s;refine YA (JE ho hd (x:=.ref l) rfl ?_);show wpAny _ _ (if (Value.ref l == Value.none)=true then _ else _) _ _ s;rw[YD (show ¬ ((Value.ref l == Value.none)=true) from YO)];show wpAny _ _ (field (.ref it) 1 >>= _) _ _ s;refine YA (JE ho hd (x:=.int i 0) rfl ?_);show wpAny _ _ (seqItems? (.ref l) >>= _) _ _ s;refine YA (GE c a ?_);simp only [zo,hx];refine YA (zy (YA (GZ ho hd J7 ?_)));refine Se (hq:=(hq.but ho λn=>?_)) λh' e k d=>?_
 ·obtain⟨vs,e1,e2⟩:=n;rw[hd] at e1
  cases e1;simp at e2
 obtain⟨oe,h1,h2⟩:=d;refine YA (ze (T:="StopIteration") (b:=true) ⟨_,h1,h2⟩ Y07 ?_);exact YK (f _ λb o g e=>k b o ((JG ..).extBut b o g e))
def R0 {t:Addr}{items}{Q:Option Value->Shared->Prop}(hq:Qt A s.heap)
  (hit:s.heap.IsTupleIter it t i) (f:s.heap.IsTuple t items) (hx:items[i]?=none)
  (g:∀ h',Heap.ExtBut it s.heap h'->Q none { s with heap:=h' }):wpAny (model prog w) A (pyNext (.ref it)) Q E s:=by
 obtain⟨o,ho,hc,hd⟩:=id hit;obtain⟨j,c,_,nl,a⟩:=f;unfold pyNext;refine YA (zP (JR (name:=Str.ofString "__next__") hit.typeIs zz
  (JW zz hit.typeIs Y0H ?_ (Y0x _))))
 show wpAny _ _ (field (.ref it) 0 >>= _) _ _ s;refine YA (JE ho hd (x:=.ref t) rfl ?_);show wpAny _ _ (if (Value.ref t == Value.none)=true then _ else _) _ _ s;rw[YD (show ¬ ((Value.ref t == Value.none)=true) from YO)];show wpAny _ _ (field (.ref it) 1 >>= _) _ _ s;refine YA (JE ho hd (x:=.int i 0) rfl ?_);show wpAny _ _ (seqItems? (.ref t) >>= _) _ _ s;refine YA (GE c a ?_);simp only [zo,hx];refine YA (zy (YA (GZ ho hd J7 ?_)));refine Se (hq:=(hq.but ho λn=>?_)) λh' e k d=>?_
 ·obtain⟨vs,e1,e2⟩:=n;rw[hd] at e1
  cases e1;simp at e2
 obtain⟨oe,h1,h2⟩:=d;refine YA (ze (T:="StopIteration") (b:=true) ⟨_,h1,h2⟩ Y07 ?_);exact YK (g _ λb o h e=>k b o ((JG ..).extBut b o h e))
def Rc {x a step:Int}{Q:Option Value->Shared->Prop}(hq:Qt A s.heap)(hit:IsRangeIter s.heap it x a step)(c:a<=0)
  (g:∀ h',Heap.ExtBut it s.heap h'->Q none { s with heap:=h' }):wpAny (model prog w) A (pyNext (.ref it)) Q E s:=by
 have d:s.TypeIs (.ref it) "range_iterator":=⟨_,hit,rfl⟩;unfold pyNext;refine YA (zP (JR (name:=Str.ofString "__next__") d Y0L
  (JW Y0L d F.entry_range_iterator_next ?_ (F.args_range_iterator_next_1 _))))
 show wpAny _ _ (field (.ref it) 0 >>= _) _ _ s;refine YA (JE hit rfl (x:=rawInt x) rfl ?_);show wpAny _ _ (field (.ref it) 1 >>= _) _ _ s;refine YA (JE hit rfl (x:=rawInt a) rfl ?_);show wpAny _ _ (field (.ref it) 2 >>= _) _ _ s;refine YA (JE hit rfl (x:=rawInt step) rfl ?_);show wpAny _ _ (if a<=0 then _ else _) _ _ s;rw[YG c];refine YA (zy ?_);refine YA ?_;refine Se (hq:=hq) λh' e k f=>?_;obtain⟨oe,h1,h2⟩:=f;refine YA (ze (T:="StopIteration") (b:=true) ⟨_,h1,h2⟩ Y07 ?_);exact YK (g _ λb o h e=>k b o e)
def Pn {t:Addr}{items:Array Value}{Q:List Value->Shared->Prop}(hq:Qt A s.heap)(j:IsTup s.heap t items)
  (l:∀ h',Heap.ExtBut s.heap.objs.size s.heap h'->Q items.toList { s with heap:=h' }):wpAny (model prog w) A (unpackItems (.ref t) items.size none) Q E s:=by
 have i:t≠s.heap.objs.size:=by obtain⟨o,ho,_⟩:=j;exact XB (YL ho)
 unfold unpackItems;refine YA ?_;unfold notIterableAtAll;refine YA (jr j.typeIs slot_tuple_iter.lookup ?_);refine YK ?_;simp only [XM,qo];refine YA (JO (iter_tuple j ?_));refine YA (JO (draw_tuple i items.size 0 _ _ ⟨_,YN _ rfl,rfl,rfl⟩ (j.push _) J5 λd c a=>?_));have h:List.take items.size (List.drop 0 items.toList)=items.toList:=by
  rw[List.drop_zero];exact YW J7
 rw[h];rw[YD J7];have g:IsTup d t items:=(j.push _).extBut a.extBut i;have kp:∀ b o,s.heap.get? b=some o->d.get? b=some o:=λb o e=>a.extBut b o (λz=>by have:=YL e;rw[z] at this;exact JA _ this) (YB _ e);refine YA (JO (R0 (hq.keeps λb o e _=>kp b o e) c g J7 λk f=>?_));simp only [Y1T,XM,qo];refine YK (l k λb o m e=>f b o m (kp b o e))
def Pl {env:Env}{a:TL}{x1}{pos:Pos}{t:Addr}{items:Array Value}{Q:Unit->Shared->Prop}(hq:Qt A s.heap)(c:IsTup s.heap t items)
  (hn:(assignEach a env).length=items.size) (b:(assignEach a env).findIdx? (·.1)=none)
  (h:∀ h',Heap.ExtBut s.heap.objs.size s.heap h'->wpAny (model prog w) A (assignInOrder ((assignEach a env).map (·.2)) items.toList) Q E { s with heap:=h' }) :
  wpAny (model prog w) A (assign (.Tuple a x1 pos) env (.ref t)) Q E s:=by
 rw[assign_Tuple];refine YA (jc ?_);unfold unpack;rw[hn,b];exact YA (JO (Pn hq c h))
end
def Walks.listQ (hq:QtP A qs)(I d:Addr)(k:d≠I)(j:∀ p∈qs,p.1≠I)(items:Array Value) :
  Walks prog w A I (I::d::qs.map Prod.fst) [I] items.size (λi v=>items[i]?=some v) (λi h=>h.IsListIter I d i/\h.IsList d items/\∀ p∈qs,h.get? p.1=some p.2) where
 sub:=λb c=>by simp at c;simp[c]
 frame:=λ_ _ _ st hk=>⟨st.1.at λo e=>hk I J7 o e,st.2.1.at λo e=>hk d J7 o e,λp hp=>hk p.1 (by simp;exact .inr (.inr ⟨p.2,hp⟩)) p.2 (st.2.2 p hp)⟩
 item:=λi s Q E hi st g=>by
  refine wpAny_pyNext_list_item st.1 st.2.1 (x:=items[i]) (by simp[hi]) λh' f a=>?_;exact g _ h' s.toks (by simp[hi]) ⟨f,st.2.1.extBut a.extBut k,λp hp=>a.extBut p.1 p.2 (j p hp) (st.2.2 p hp)⟩ λb o c e=>a.extBut b o (λh=>c (by simp[h])) e
 done:=λs Q E st g=>Qp (hq.at st.2.2) st.1 st.2.1 J7 λh' l=>g h' s.toks λb o c e=>l b o (λh=>c (by simp[h])) e
 self:=λ_ _ _ _ st g=>wpAny_pyIter_listiter st.1 g
def Qa {prog:TU}{w:World}{A:Around}{I:Addr}{a c:Int}{n:Nat}(i:Nat)(s:Shared)(Q:Option Value->Shared->Prop)(E:TC)(hi:i<n)(st:IsRangeIter s.heap I (a+(i:Nat)*c) ((n:Int) - (i:Nat)) c)
  (g:∀ v h' tk,(∃ t,v=Value.int (a+i*c) t)->IsRangeIter h' I (a+((i+1:Nat):Int)*c) ((n:Int) - ((i+1:Nat):Int)) c->(∀ b o,b ∉ [I]->s.heap.get? b=some o->h'.get? b=some o)->Q (some v) { s with heap:=h',toks:=tk }) :
  wpAny (model prog w) A (pyNext (.ref I)) Q E s:=by
 refine wpAny_pyNext_range_item st J5 λh' d f=>?_;refine g _ h' _ ⟨_,rfl⟩ ?_ λb o j e=>f.extBut b o (λh=>j (by simp[h])) e;have e1:a+((i+1:Nat):Int)*c=a+(i:Int)*c+c:=by push_cast;rw[Int.add_mul,zu,Int.add_assoc]
 have e2:(n:Int) - ((i+1:Nat):Int)=(n:Int) - (i:Int) - 1:=by push_cast;omega
 rw[e1,e2];exact d
def QtE (A:Around)(h:Heap)(H:Addr->Option α)(fs:TJ):Prop:=A.handled=none \/ ∃ a o,A.handled=some (.ref a)/\h.get? a=some o/\NoCtx o/\H a=none/\a ∉ fs/\∀ v,o.data≠.cell v
def qpin (A:Around)(h:Heap):List (Addr × Obj):=match A.handled with
 | some (.ref a)=>match h.get? a with
  | some o=>[(a,o)]
  | none=>[]
 | _=>[]
def QtE.pin {H:Addr->Option α}{fs:TJ}(q:QtE A h H fs):QtP A (qpin A h):=by
 rcases q with q | ⟨a,o,e,g,n,_⟩
 ·exact .inl q
 refine .inr ⟨(a,o),?_,e,n⟩;unfold qpin;rw[e];dsimp only;rw[g];simp
def QtE.mem {H:Addr->Option α}{fs:TJ}(q:QtE A h H fs)(p:Addr × Obj)(hp:p∈qpin A h):h.get? p.1=some p.2/\H p.1=none/\p.1 ∉ fs/\∀ v,p.2.data≠.cell v:=by
 rcases q with q | ⟨a,o,e,g,n,h1,h2,b⟩
 ·unfold qpin at hp;rw[q] at hp
  cases hp
 unfold qpin at hp;rw[e] at hp;dsimp only at hp;rw[g] at hp;obtain rfl:p=(a,o):=by simpa using hp
 exact⟨g,h1,h2,b⟩
section
def Tm {l:Addr}{items}{Q:TC}(hq:Qt A s.heap)
  (hit:s.heap.IsListIter it l i) (hl:s.heap.IsList l items) (hx:items[i]?=none)
  (d:∀ h' e,Heap.ExtBut it s.heap h'->(∃ o,h'.get? e=some o/\o.cls=.type "StopIteration")->E (.ref e) { s with heap:=h' }) :
  wpAny (model prog w) A (Builtin.SmallTypes.nextOf (.ref it)) Q E s:=by
 obtain⟨o,ho,hc,hd⟩:=id hit;obtain⟨h,c,_,nl,a⟩:=hl;unfold Builtin.SmallTypes.nextOf;refine YA (JR (name:=Str.ofString "__next__") hit.typeIs jx
  (JW jx hit.typeIs entry_listiter_next ?_ (args_listiter_next _)))
 show wpAny _ _ (field (.ref it) 0 >>= _) _ _ s;refine YA (JE ho hd (x:=.ref l) rfl ?_);show wpAny _ _ (if (Value.ref l == Value.none)=true then _ else _) _ _ s;rw[YD (show ¬ ((Value.ref l == Value.none)=true) from YO)];show wpAny _ _ (field (.ref it) 1 >>= _) _ _ s;refine YA (JE ho hd (x:=.int i 0) rfl ?_);show wpAny _ _ (seqItems? (.ref l) >>= _) _ _ s;refine YA (GE c a ?_);simp only [zo,hx];refine YA (zy (YA (GZ ho hd J7 ?_)));refine Se (hq:=(hq.but ho λn=>?_)) λh' e k f=>?_
 ·obtain⟨vs,e1,e2⟩:=n;rw[hd] at e1
  cases e1;simp at e2
 exact d _ _ (λb o g e=>k b o ((JG ..).extBut b o g e)) f
end
def Draws.listQ (hq:QtP A qs)(it l:Addr)(d:l≠it)(c:∀ p∈qs,p.1≠it)(items:Array Value) :
  Draws prog w A it (it::l::qs.map Prod.fst) items.size (λi v=>items[i]?=some v) (λi h=>h.IsListIter it l i/\h.IsList l items/\∀ p∈qs,h.get? p.1=some p.2) where
 live:=λ_ _ st=>let ⟨o,ho,_⟩:=st.1;⟨o,ho⟩
 frame:=λ_ _ _ st hk=>⟨st.1.at λo e=>hk it J7 o e,st.2.1.at λo e=>hk l J7 o e,λp hp=>hk p.1 (by simp;exact .inr (.inr ⟨p.2,hp⟩)) p.2 (st.2.2 p hp)⟩
 item:=λi s Q E hi st g=>by
  refine wpAny_nextOf_list_item st.1 st.2.1 (x:=items[i]) (by simp[hi]) λh' b a=>?_;exact g _ h' s.toks (by simp[hi]) ⟨b,st.2.1.extBut a.extBut d,λp hp=>a.extBut p.1 p.2 (c p hp) (st.2.2 p hp)⟩ a
 done:=λs Q E st f=>Tm (hq.at st.2.2) st.1 st.2.1 J7 f
section
variable {l:Addr}{xs:Array (Int × Tok)}
theorem Z25 {Q:TC}(hp:∀ p∈qs,s.heap.get? p.1=some p.2)(hl:s.heap.IsList l (intItems xs))
  (h:∀ a:Shared,a={ s with heap:=s.heap.push { cls:=.type "list_iterator",data:=.fields #[.ref l,.int 0 0] } } →
   (a.heap.IsListIter s.heap.objs.size l 0/\a.heap.IsList l (intItems xs)/\∀ p∈qs,a.heap.get? p.1=some p.2)->(∀ b∈s.heap.objs.size::l::qs.map Prod.fst,b<a.heap.objs.size)->l≠s.heap.objs.size->(∀ p∈qs,p.1≠s.heap.objs.size)->Q (.ref s.heap.objs.size) a) :
  wpAny (model prog w) A (pyIter (.ref l)) Q E s:=by
 refine iter_intList hl λa e st d c=>h a e ⟨st.1,st.2,λp q=>?_⟩ (λb m=>?_) c λp q=>XB (YL (hp p q))
 ·rw[e];exact YB _ (hp p q)
 rcases YU.mp m with m | m
 ·exact d b (by simp[m])
 rcases YU.mp m with m | m
 ·exact d b (by simp[m])
 obtain⟨p,q,rfl⟩:=YT.mp m;rw[e];show _<(s.heap.push _).objs.size;rw[JP];exact zK (YL (hp p q))
def Z90 {Q:TC}(hq:QtP A qs)(hp:∀ p∈qs,s.heap.get? p.1=some p.2)(hl:s.heap.IsList l (intItems xs))(c:0<xs.size)
  (h:∀ v h' tk,(intItems xs)[argBest (λi j=>decide (numAt xs i<numAt xs j)) (xs.size - 1)]?=some v->(∀ b o,s.heap.get? b=some o->h'.get? b=some o)->Q v { s with heap:=h',toks:=tk }) :
  wpAny (model prog w) A (call (.builtin "min") [.ref l]) Q E s:=by
 refine call_min_walk (Z25 hp hl λg e st d f a=>?_);subst e;refine⟨_,_,_,_,_,_,_,rfl,Walks.listQ (A:=A.in1) hq _ l f a (intItems xs),st,d,by simpa [intItems] using c,CmpOf.ints_lt (numAt xs) (λ_ _=>intItems_at),λv h' tk k hk=>?_⟩;exact h v h' tk (by simpa [intItems] using k) (old_kept hk)
def Z8b {Q:TC}(hq:QtP A qs)(hp:∀ p∈qs,s.heap.get? p.1=some p.2)(hl:s.heap.IsList l (intItems xs))
  (h:∀ h' tk t',(∀ b o,s.heap.get? b=some o->h'.get? b=some o)->Q (.int (preSum (numAt xs) xs.size) t') { s with heap:=h',toks:=tk }) :
  wpAny (model prog w) A (call (.builtin "sum") [.ref l]) Q E s:=by
 refine call_sum_walkG (Z25 hp hl λf e st d c a=>?_);subst e;refine⟨_,_,_,_,_,_,numAt xs,rfl,Walks.listQ (A:=A.in1) hq _ l c a (intItems xs),st,d,(λ_ _=>intItems_at),λh' tk t' hk=>?_⟩;have:=h h' tk t' (old_kept hk)
 simpa [intItems] using this
end
def Walks.rangeQ (hq:QtP A qs)(I:Addr)(g:∀ p∈qs,p.1≠I)(a c:Int)(n:Nat) :
  Walks prog w A I (I::qs.map Prod.fst) [I] n (λi v=>∃ t,v=.int (a+i*c) t) (λi h=>IsRangeIter h I (a+(i:Nat)*c) ((n:Int) - (i:Nat)) c/\∀ p∈qs,h.get? p.1=some p.2) where
 sub:=λb d=>by simp at d;simp[d]
 frame:=λ_ _ _ st hk=>⟨hk I J7 _ st.1,λp hp=>hk p.1 (by simp;exact .inr ⟨p.2,hp⟩) p.2 (st.2 p hp)⟩
 item:=λi s Q E hi st f=>by
  refine Qa i s _ _ hi st.1 λv h' tk l k hk=>f v h' tk l ⟨k,λp hp=>hk p.1 p.2 (by simp[g p hp]) (st.2 p hp)⟩ λb o d e=>hk b o d e
 done:=λs Q E st f=>Rc (hq.at st.2) st.1 J5 λh' j=>f h' s.toks λb o d e=>j b o (λh=>d (by simp[h])) e
 self:=λ_ _ _ _ st f=>wpAny_pyIter_rangeiter st.1 f
section
def Pa {R:Result->Shared->Prop}{r:Addr}{a b c:Int}{t u v:Tok}{n:Nat}(hq:QtP A qs)(hp:∀ p∈qs,s.heap.get? p.1=some p.2)(hr:IsRange s.heap r a b c t u v)(x:Builtin.Range.small a b c=true)
  (hn:Builtin.Range.rangeSize a b c=n) (D:n<=2 ^ 24) (S:Addr) (res:Value) (y:Nat) (hS:s.heap.get? S=some { cls:=.type "list",data:=.seq #[] y }) (G:∀ p∈qs,p.1≠S)
  (N:∀ h' tk j c',(∀ b o,b≠S->s.heap.get? b=some o->h'.get? b=some o)->h'.get? S=some { cls:=.type "list",dict:=none,data:=.seq j c',slots:=#[] } →
   ItemsOf (λi v=>∃ t,v=.int (a+i*c) t) j n->R (.ok (.ret res)) { s with heap:=h',toks:=tk }) :
  wpAny (model prog w) A.in1 (Builtin.List.listExtendWith (.ref S) (.ref r) res)
   (λJ s'=>match J with | .done f=>R (.ok f) s' | .again c'=>c'.quiet=true/\codeAny (model prog w) A c' R s') (λe s'=>R (.error e) s') s:=by
 have L:S≠r:=λe=>by rw[e,hr] at hS;simp at hS
 have C:S<s.heap.objs.size:=YL hS;have z:S≠s.heap.objs.size:=XB C;have K:S ∉ s.heap.objs.size::qs.map Prod.fst:=λhm=>(YU.mp hm).elim z λhm=>by
  obtain⟨p,q,e⟩:=YT.mp hm;exact G p q e
 have W:=(Walks.rangeQ (prog:=prog) (w:=w) (A:=A.in1) hq s.heap.objs.size (λp q=>XB (YL (hp p q))) a c n).toS;have key:∀ (h:Heap) (l tk:Nat),IsRangeIter h s.heap.objs.size (a+((0:Nat):Int)*c) ((n:Int) - ((0:Nat):Int)) c->(∀ b o,b≠S->s.heap.get? b=some o->h.get? b=some o) →
   h.get? S=some { cls:=.type "list",data:=.seq #[] l }->codeAny (model prog w) A (.builtin "list.extend.loop" ⟨[.ref S,.ref s.heap.objs.size,res],[]⟩) R { s with heap:=h,toks:=tk }:=by
  intro h l tk hit hk d;refine codeAny_extend_loopS W (by rw[qq];omega) S K res n 0 _ #[] l rfl (JF _) ⟨hit,λp q=>hk p.1 p.2 (G p q) (hp p q)⟩ d (ItemsOf.nil _) λs' j c' hm I H=>?_;rw[Moved.eq_with hm];refine N s'.heap s'.toks j c' (λb o E e=>hm.heap b o (λk=>?_) (hk b o E e)) I H;rcases YU.mp k with e' | k
  ·exact E e'
  exact absurd (YL e) (by rw[XH.mp k];exact JA _)
 unfold Builtin.List.listExtendWith;refine YA (Y1p (T:="range") ⟨_,hr,rfl⟩ ?_);have h1:Builtin.List.listSameRef (.ref S) (.ref r)=false:=by simp[Builtin.List.listSameRef,L]
 have h2:(Value.type "range" == Value.type "list")=false:=J6
 have M:(Value.type "range" == Value.type "tuple")=false:=J6
 simp only [h1,h2,M,Bool.or_false,XM,qo];refine YA (wpAny_pyIter_range hr x ?_);refine YA (JO (wpAny_hint_range (n:=n) (YB _ hr) hn D ?_));have g:IsRangeIter (s.heap.push { cls:=.type "range_iterator",data:=.fields #[rawInt a,rawInt (Builtin.Range.rangeSize a b c),rawInt c] }) s.heap.objs.size (a+((0:Nat):Int)*c) ((n:Int) - ((0:Nat):Int)) c:=by
  show IsRangeIter _ _ _ _ _;rw[hn];simpa using YN _ rfl
 have d:=YB { cls:=.type "range_iterator",data:=.fields #[rawInt a,rawInt (Builtin.Range.rangeSize a b c),rawInt c] } hS;refine wpAny_ite_split (λ_=>?_) (λ_=>YK ⟨Y18 F.plain_extend_loop _,key _ y _ g (λb o _ e=>YB _ e) d⟩);refine YA (zy ?_);refine YA ?_;show wpAny _ _ (updateSeq S (·.push .none) >>= λ_=>updateSeq S (·.pop)) _ _ _;refine YA (Y1x d rfl ?_);have m:=JJ (Obj.mapSeq (·.push Value.none)) d rfl;refine Y1x (hz:=by seq_fits) m rfl ?_;have B:=JJ (Obj.mapSeq (·.pop)) m rfl;refine YK ⟨Y18 F.plain_extend_loop _,key _ _ _ ?_ (λb o E e=>?_) B⟩
 ·exact (JB _ _ z).trans ((JB _ _ z).trans g)
 exact (JB _ _ (XQ E)).trans ((JB _ _ (XQ E)).trans (YB _ e))
def Tt {R:Result->Shared->Prop}{r:Addr}{a b c:Int}{t u v:Tok}{n:Nat}(hq:QtP A qs)(hp:∀ p∈qs,s.heap.get? p.1=some p.2)(hr:IsRange s.heap r a b c t u v)(g:Builtin.Range.small a b c=true)
  (hn:Builtin.Range.rangeSize a b c=n) (k:n<=2 ^ 24) (S:Addr) (hS:s.heap.get? S=some { cls:=.type "list",data:=.seq #[] }) (l:∀ p∈qs,p.1≠S)
  (D:∀ h' tk d c',(∀ b o,b≠S->s.heap.get? b=some o->h'.get? b=some o)->h'.get? S=some { cls:=.type "list",dict:=none,data:=.seq d c',slots:=#[] } →
   ItemsOf (λi v=>∃ t,v=.int (a+i*c) t) d n->R (.ok (.ret .none)) { s with heap:=h',toks:=tk }) :
  wpAny (model prog w) A.in1 (Builtin.«list.__init__» ⟨[.ref S,.ref r],[]⟩)
   (λz s'=>match z with | .done f=>R (.ok f) s' | .again c'=>c'.quiet=true/\codeAny (model prog w) A c' R s') (λe s'=>R (.error e) s') s:=by
 have C:S≠r:=λe=>by rw[e,hr] at hS;simp at hS
 show wpAny _ _ (do let B <-Builtin.List.listItems (.ref S);Builtin.List.listUpdate (.ref S) (λ_=>#[]);letGo B.toList.reverse;Builtin.List.listExtendWith (.ref S) (.ref r) .none) _ _ s;refine YA ?_;unfold Builtin.List.listItems;refine YA (GE hS rfl (YK ?_));show wpAny _ _ (updateSeq S (λ_=>#[]) >>= λ_=>letGo (#[]:Array Value).toList.reverse >>= λ_=>Builtin.List.listExtendWith (.ref S) (.ref r) .none) _ _ s;refine YA (Y1x hS rfl ?_);have h:=JJ (Obj.mapSeq (λ_=>(#[]:Array Value))) hS rfl;have j:∀ b o,b≠S->s.heap.get? b=some o->(s.heap.update S (Obj.mapSeq (λ_=>(#[]:Array Value)))).get? b=some o :=
  λb o x e=>(JB _ _ (XQ x)).trans e
 refine YA (Y0Y ?_);refine Pa hq (λp q=>j p.1 p.2 (l p q) (hp p q)) (j r _ (XQ C) hr) g hn k S .none _ h l λh' tk d c' hk y m=>?_;exact D h' tk d c' (λb o x e=>hk b o x (j b o x e)) y m
end
section
def Mi {Q:TC}{r:Addr}{a b c:Int}{t u v:Tok}{n:Nat}(hq:QtP A qs)(hp:∀ p∈qs,s.heap.get? p.1=some p.2)(hr:IsRange s.heap r a b c t u v)(f:Builtin.Range.small a b c=true)
  (hn:Builtin.Range.rangeSize a b c=n) (h:n<=2 ^ 24)
  (m:∀ h' tk d c',(∀ b o,s.heap.get? b=some o->h'.get? b=some o) →
   h'.get? s.heap.objs.size=some { cls:=.type "list",dict:=none,data:=.seq d c',slots:=#[] }->ItemsOf (λi v=>∃ t,v=.int (a+i*c) t) d n->Q (.ref s.heap.objs.size) { s with heap:=h',toks:=tk }) :
  wpAny (model prog w) A (call (.type "list") [.ref r]) Q E s:=by
 refine callType_codes (Q₁:=λobj g=>obj=.ref s.heap.objs.size/\g={ s with heap:=s.heap.push { cls:=.type "list",data:=.seq #[] } }) F.called_list (F.typeCall_list_1 _) F.entry_list_init
  (code_list_new _ ⟨rfl,rfl⟩) λobj g j=>?_
 obtain⟨rfl,rfl⟩:=j;have hS:(s.heap.push { cls:=.type "list",data:=.seq #[] }).get? s.heap.objs.size=some { cls:=.type "list",data:=.seq #[] }:=YN _ rfl;refine⟨⟨_,hS,rfl⟩,F.args_list_init_2 _ _,Tt (A:=A.in1) hq (λp q=>YB _ (hp p q)) (YB _ hr) f hn h _ hS (λp q=>XB (YL (hp p q))) λh' tk d c' hk l k=>?_⟩;exact⟨rfl,m h' tk d c' (λb o e=>hk b o (XB (YL e)) (YB _ e)) l k⟩
end
end _b
namespace _L
open PySem PySem.Spec PyProof.Rows
abbrev Key:=Sum Int Str
def keyIs:Key->Value->Bool
 | .inl k,v=>Value.isInt k v
 | .inr x,v=>Value.isStrOf x v
def keyH (w:World):Key->Int
 | .inl k=>hashInt k
 | .inr x=>hashStr w x
theorem Ys:∀ {k:Key} {v:Value},keyIs k v=true->(∃ i t,k=Sum.inl i/\v=Value.int i t) \/ (∃ x t,k=Sum.inr x/\v=Value.str x t)
 | .inl i,v,h=>by
  obtain⟨t,e⟩:=Value.isInt_shape (k:=i) (v:=v) h;exact .inl ⟨i,t,rfl,e⟩
 | .inr x,v,h=>by
  obtain⟨t,e⟩:=Value.isStrOf_shape (x:=x) (v:=v) h;exact .inr ⟨x,t,rfl,e⟩
def Z7u (a b:Int):decide ((Sum.inl a:Key)=Sum.inl b)=(a == b):=by
 by_cases e:a=b
 ·subst e;simp
 have h:¬ (Sum.inl a:Key)=Sum.inl b:=λq=>e (Sum.inl.inj q);rw[XN h];exact (JH.mpr e).symm
def Z7r (a b:Str):decide ((Sum.inr a:Key)=Sum.inr b)=decide (a=b):=by
 by_cases e:a=b
 ·subst e;simp
 have h:¬ (Sum.inr a:Key)=Sum.inr b:=λq=>e (Sum.inr.inj q);rw[XN h,XN e]
def Z7t (a:Int)(b:Str):decide ((Sum.inl a:Key)=Sum.inr b)=false:=XN (λq=>nomatch q)
def Z7s (a:Str)(b:Int):decide ((Sum.inr a:Key)=Sum.inl b)=false:=XN (λq=>nomatch q)
def mixKind (prog:TU)(w:World):PySem.KeyKind prog w Key where
 is:=keyIs
 hash:=keyH w
 inj:=λv a b ha d=>by
  rcases Ys ha with ⟨i,t,rfl,rfl⟩ | ⟨x,t,rfl,rfl⟩
  ·rcases Ys d with ⟨j,u,rfl,e⟩ | ⟨y,u,rfl,e⟩
   ·injection e with e1 _;rw[e1]
   exact nomatch e
  rcases Ys d with ⟨j,u,rfl,e⟩ | ⟨y,u,rfl,e⟩
  ·exact nomatch e
  injection e with e1 _;rw[e1]
 byValue:=λk v h=>by
  rcases Ys h with ⟨i,t,rfl,rfl⟩ | ⟨x,t,rfl,rfl⟩ <;> rfl
 pyHash:=λc h=>by
  rcases Ys c with ⟨i,t,rfl,rfl⟩ | ⟨x,t,rfl,rfl⟩
  ·exact wpAny_pyHash_int h
  exact wpAny_pyHash_str h
 eqBool:=λhu c h=>by
  rcases Ys hu with ⟨i,t,rfl,rfl⟩ | ⟨x,t,rfl,rfl⟩
  ·rcases Ys c with ⟨j,u,rfl,rfl⟩ | ⟨y,u,rfl,rfl⟩
   ·rw[Z7u] at h;exact wpAny_eqBool_int h
   rw[Z7t] at h;exact SeqAt.EqAt.int_str i t y u _ _ _ _ h
  rcases Ys c with ⟨j,u,rfl,rfl⟩ | ⟨y,u,rfl,rfl⟩
  ·rw[Z7s] at h;exact SeqAt.EqAt.str_int x t j u _ _ _ _ h
  rw[Z7r] at h;exact wpAny_eqBool_str h
 «strs»:=λk x t v h=>by
  rcases Ys h with ⟨i,u,rfl,e⟩ | ⟨y,u,rfl,e⟩
  ·exact nomatch e
  injection e with e1 _
  subst e1
  cases v <;> rfl
inductive V where
 | non | bl (b:Bool) | int (i:Int) | str (x:Str) | byt (b:Array UInt8) | flt (b:UInt64) | ref (a:Addr) | ty (n:String)
 deriving DecidableEq
abbrev _root_.TZ:=List V
def RelV:V->Value->Prop
 | .non,u=>u=Value.none
 | .bl b,u=>u=Value.bool b
 | .int i,u=>∃ t,u=Value.int i t
 | .str x,u=>∃ t,u=Value.str x t
 | .byt b,u=>∃ t,u=Value.bytes b t
 | .flt b,u=>∃ t,u=Value.float b t
 | .ref a,u=>u=Value.ref a
 | .ty n,u=>u=Value.type n
abbrev Vals:List V->List Value->Prop:=Paired RelV
theorem Vals.length {xs:TZ}{us:TH}(r:Vals xs us):xs.length=us.length:=YY r
theorem Vals.get:∀ {xs:TZ} {us:TH} {i:Nat} {x:V},Vals xs us->xs[i]?=some x->∃ u,us[i]?=some u/\RelV x u
 | _,_,_,_,.nil,e=>by simp at e
 | _,_,0,_,.cons r _,e=>by simp at e;subst e;exact⟨_,rfl,r⟩
 | _,_,i+1,x,.cons _ t,e=>by
  obtain⟨u,h1,h2⟩:=Vals.get (i:=i) (x:=x) t (by simpa using e);exact⟨u,by simpa using h1,h2⟩
theorem Vals.set {x:V}{u:Value}(r:RelV x u):∀ {xs:TZ} {us:TH} (i:Nat),Vals xs us->Vals (xs.set i x) (us.set i u)
 | _,_,_,.nil=>.nil
 | _,_,0,.cons _ t=>.cons r t
 | _,_,i+1,.cons q t=>.cons q (Vals.set r i t)
theorem Vals.append:∀ {xs ys:TZ} {us ws:TH},Vals xs us->Vals ys ws->Vals (xs++ys) (us++ws)
 | _,_,_,_,.nil,s=>s
 | _,_,_,_,.cons r t,s=>.cons r (Vals.append t s)
def RelO:Option V->Option Value->Prop
 | some v,some u=>RelV v u
 | none,none=>True
 | _,_=>False
def KV {κ:Type}:List (κ × V)->List (κ × Value)->Prop:=Paired λ(p:κ × V) (q:κ × Value)=>p.1=q.1/\RelV p.2 q.2
def kV:Key->V
 | .inl i=>.int i
 | .inr x=>.str x
inductive HO where
 | lst (xs:TZ)
 | tup (xs:TZ)
 | dK (kvs:List (Key × V)) | dT (kvs:List (List Key × V))
 | set (S:Int->Bool) (n:Nat)
 | ins (C dx:Addr) (fs:List (Str × V))
 | own (x:Addr)
 | xd (fs:List (Str × V))
 | met (f x:Addr)
 | rng (lo hi:Int)
 | frz (o:Obj) (u:HO)
 | tbl (ps:Array Value)
 | ext (φ:Heap->Prop)
abbrev Hp:=Addr->Option HO
def upd (H:Hp)(a:Addr)(o:HO):Hp:=λb=>if b=a then some o else H b
def Za {H:Hp}{a:Addr}{o:HO}:upd H a o a=some o:=by unfold upd;rw[YG rfl]
def Zc {H:Hp}{a b:Addr}{o:HO}(h:b≠a):upd H a o b=H b:=by unfold upd;rw[YD h]
def Z6a {H:Hp}{a b:Addr}{o u:HO}(h:H a=some o)(h':H b=some u)(d:o≠u):a≠b:=by
 intro e;subst e;rw[h] at h';exact d (YR h')
def Zd {H:Hp}{a b:Addr}{o:HO}(h:H a=some o)(h':H b=none):a≠b:=by
 intro e;subst e;rw[h] at h';cases h'
section
variable (P:TU)(w:World)
def ObjOk (H:Hp)(h:Heap)(a:Addr):HO->Prop
 | .lst xs=>xs.length<=sizeLine/\∃ (its:TH) (n:Nat),Vals xs its/\h.get? a=some { cls:=.type "list",data:=.seq its.toArray n }
 | .tup xs=>xs.length<=sizeLine/\∃ its:List Value,Vals xs its/\IsTup h a its.toArray
 | .dK kvs=>kvs.length<=sizeLine/\(a == sysModules)=false/\∃ vs,KV kvs vs/\h.DictOf (mixKind P w) a vs
 | .dT kvs=>kvs.length<=sizeLine/\(a == sysModules)=false/\∃ xs:List (List Key × Addr × Value),
   Paired (λ(p:List Key × V) (q:List Key × Addr × Value)=>p.1=q.1/\H q.2.1=some (.tup (p.1.map kV))/\RelV p.2 q.2.2) kvs xs ∧
   ∃ o es ep,h.get? a=some o/\o.ExactDict/\o.data=.dict es ep/\es.toList=xs.map (entryOfKey (tupleKind (mixKind P w)))/\(xs.map (·.1)).Nodup
 | .set S n=>h.SetOf (intKind P w) a S n
 | .ins C dx fs=>H dx=some (.own a)/\fs.length<=1000/\dx≠a/\h.get? a=some (W.instObj C dx) ∧
   ∃ mA,h.Ns1 dx mA/\(∀ f,RelO (fs.lookup f) (mA f))/\PySem.Within mA (fs.map (·.1))
 | .own _=>∃ o,h.get? a=some o
 | .xd fs=>∃ mA,h.Ns1 a mA/\∀ f,RelO (fs.lookup f) (mA f)
 | .rng lo hi=>∃ t u v,h.get? a=some { cls:=.type "range",data:=.fields #[.int lo t,.int hi u,.int 1 v] }
 | .frz o u=>h.get? a=some o/\ObjOk H h a u
 | .tbl ps=>h.get? a=some { cls:=.none,data:=.fields ps }
 | .met f x=>h.get? a=some (W.methodObj (.ref f) (.ref x))
 | .ext φ=>φ h/\(∃ o,h.get? a=some o)/\∀ h1 h2:Heap,φ h1->(∀ o,h1.get? a=some o->h2.get? a=some o)->φ h2
def HOk (H:Hp)(h:Heap):Prop:=∀ a o,H a=some o->ObjOk P w H h a o
end
section
variable {P:TU}{H H':Hp}{a:Addr}{o:HO}
theorem ObjOk.lt (x:ObjOk P w H h a o):a<h.objs.size:=by
 cases o with
 | lst xs=>obtain⟨_,_,_,_,e⟩:=x;exact YL e
 | tup xs=>obtain⟨_,_,_,p⟩:=x;exact p.lt
 | dK kvs=>obtain⟨_,_,_,_,o,_,_,e,_⟩:=x;exact YL e
 | dT kvs=>obtain⟨_,_,_,_,o,_,_,e,_⟩:=x;exact YL e
 | set S n=>obtain⟨o,_,_,_,e,_⟩:=x;exact YL e
 | ins C dx fs=>obtain⟨_,_,_,e,_⟩:=x;exact YL e
 | own y=>obtain⟨_,e⟩:=x;exact YL e
 | xd fs=>obtain⟨_,⟨_,_,_,e,_⟩,_⟩:=x;exact YL e
 | rng lo hi=>obtain⟨_,_,_,e⟩:=x;exact YL e
 | frz ob u=>obtain⟨e,_⟩:=x;exact YL e
 | tbl ps=>exact YL (show h.get? a=some _ from x)
 | met f y=>exact YL (show h.get? a=some _ from x)
 | ext φ=>obtain⟨_,⟨_,e⟩,_⟩:=x;exact YL e
theorem Paired.mapP {α β:Type}{F G:α->β->Prop}:∀ {l₁:List α} {l₂:List β},Paired F l₁ l₂->(∀ a b,F a b->G a b)->Paired G l₁ l₂
 | _,_,.nil,_=>.nil
 | _,_,.cons r t,f=>.cons (f _ _ r) (Paired.mapP t f)
def ObjOk.stay (x:ObjOk P w H h a o)(k:∀ b u,(b=a \/ H b=some (.own a))->h.get? b=some u->h'.get? b=some u)
  (ho:∀ b,H b=some (.own a)->H' b=some (.own a)) (g:∀ b xs,H b=some (.tup xs)->H' b=some (.tup xs)):ObjOk P w H' h' a o:=by
 induction o with
 | lst xs=>obtain⟨z,its,n,r,e⟩:=x;exact⟨z,its,n,r,k _ _ (.inl rfl) e⟩
 | tup xs=>obtain⟨z,its,r,ob,e,c⟩:=x;exact⟨z,its,r,ob,k _ _ (.inl rfl) e,c⟩
 | dK kvs=>obtain⟨z,y,vs,r,ob,es,ep,e,c⟩:=x;exact⟨z,y,vs,r,ob,es,ep,k _ _ (.inl rfl) e,c⟩
 | dT kvs =>
  obtain⟨z,y,xs,r,ob,es,ep,e,c⟩:=x;exact⟨z,y,xs,Paired.mapP r λp q z=>⟨z.1,g _ _ z.2.1,z.2.2⟩,ob,es,ep,k _ _ (.inl rfl) e,c⟩
 | set S n=>obtain⟨ob,es,ep,t,e,c⟩:=x;exact⟨ob,es,ep,t,k _ _ (.inl rfl) e,c⟩
 | ins C dx fs =>
  obtain⟨d,z,ne,e,mA,⟨od,es,ep,e2,c⟩,r⟩:=x;exact⟨ho _ d,z,ne,k _ _ (.inl rfl) e,mA,⟨od,es,ep,k _ _ (.inr d) e2,c⟩,r⟩
 | own y=>obtain⟨ob,e⟩:=x;exact⟨ob,k _ _ (.inl rfl) e⟩
 | xd fs=>obtain⟨mA,⟨od,es,ep,e,c⟩,r⟩:=x;exact⟨mA,⟨od,es,ep,k _ _ (.inl rfl) e,c⟩,r⟩
 | rng lo hi=>obtain⟨t,u,v,e⟩:=x;exact⟨t,u,v,k _ _ (.inl rfl) e⟩
 | frz ob u i=>obtain⟨e,q⟩:=x;exact⟨k _ _ (.inl rfl) e,i q⟩
 | tbl ps =>
  have e:h.get? a=some { cls:=.none,data:=.fields ps }:=x;show h'.get? a=some { cls:=.none,data:=.fields ps };exact k a _ (.inl rfl) e
 | met f y =>
  have e:h.get? a=some (W.methodObj (.ref f) (.ref y)):=x;show h'.get? a=some (W.methodObj (.ref f) (.ref y));exact k a _ (.inl rfl) e
 | ext φ=>obtain⟨p,⟨o,e⟩,st⟩:=x;exact⟨st _ _ p λo q=>k _ _ (.inl rfl) q,⟨o,k _ _ (.inl rfl) e⟩,st⟩
theorem HOk.lt (x:HOk P w H h)(e:H a=some o):a<h.objs.size:=(x a o e).lt
def HOk.fresh (x:HOk P w H h)(e:h.objs.size<=a):H a=none:=by
 cases q:H a with
 | none=>rfl
 | some u=>exact absurd (YQ (x.lt q) e) (JA _)
theorem HOk.kept (x:HOk P w H h)(k:∀ b u,h.get? b=some u->h'.get? b=some u):HOk P w H h':=λa o e =>
 (x a o e).stay (λb u _ q=>k b u q) (λ_ q=>q) λ_ _ q=>q
def HOk.laid (x:HOk P w H h)(k:∀ b u,h.get? b=some u->h'.get? b=some u)(hp:h.objs.size<=a)(d:ObjOk P w (upd H a o) h' a o):HOk P w (upd H a o) h':=λb u e=>by
 have hn:=x.fresh hp;by_cases f:b=a
 ·subst f;rw[Za] at e;cases e;exact d
 rw[Zc f] at e;exact (x b u e).stay (λc v _ q=>k c v q) (λc q=>by rw[Zc (Zd q hn)];exact q) λc xs q=>by rw[Zc (Zd q hn)];exact q
end
def Rd (H:Hp)(a:Addr)(u:HO):Prop:=H a=some u \/ ∃ o,H a=some (.frz o u)
def Rd.ok {P:TU}{H:Hp}{a:Addr}{u:HO}(r:Rd H a u)(x:HOk P w H h):ObjOk P w H h a u:=by
 rcases r with r | ⟨o,r⟩
 ·exact x a u r
 obtain⟨_,q⟩:=x a _ r;exact q
def Mut:Option HO->Prop
 | some (.lst _)=>True
 | some (.dK _)=>True
 | some (.dT _)=>True
 | some (.set _ _)=>True
 | some (.ins _ _ _)=>True
 | some (.ext _)=>True
 | _=>False
section
variable {P:TU}{H:Hp}{x:Addr}{o':HO}
def HOk.write (ok:HOk P w H h)(mu:Mut (H x))(l:e=x \/ H e=some (.own x))(k:∀ b u,b≠e->h.get? b=some u->h'.get? b=some u)(j:∃ u,h'.get? e=some u)
  (i:ObjOk P w (upd H x o') h' x o'):HOk P w (upd H x o') h':=λb u q=>by
 have d:∀ c y,H c=some (.own y)->c≠x:=λc y r z=>by subst z;rw[r] at mu;exact mu
 have f:∀ c xs,H c=some (.tup xs)->c≠x:=λc xs r z=>by subst z;rw[r] at mu;exact mu
 by_cases g:b=x
 ·subst g;rw[Za] at q;cases q;exact i
 rw[Zc g] at q;by_cases a:b=e
 ·have m:H b=some (.own x):=by
   rcases l with z | z
   ·exact absurd (a.trans z) g
   rw[a];exact z
  rw[q] at m;cases m;obtain⟨v,n⟩:=j;exact⟨v,by rw[a];exact n⟩
 refine (ok b u q).stay (λc v hc r=>k c v ?_ r) (λc r=>by rw[Zc (d c b r)];exact r) λc xs r=>by rw[Zc (f c xs r)];exact r
 rcases hc with rfl | hc
 ·exact a
 rintro rfl;rcases l with z | z
 ·exact d c b hc z
 rw[hc] at z;cases z;exact g rfl
end
structure Un (fs ex:TJ)(H H':Hp)(h h':Heap):Prop where
 keep:∀ b o,h.get? b=some o->H b=none->b ∉ fs->b ∉ ex->h'.get? b=some o
 slot:∀ b o,h.get? b=some o->H b=none->b∈fs->b ∉ ex->∃ sl,h'.get? b=some { o with slots:=sl }
 free:∀ b o,h.get? b=some o->H b=none->b ∉ ex->H' b=none
 there:∀ b o,h.get? b=some o->b ∉ ex->∃ o',h'.get? b=some o'
 tups:∀ b xs,H b=some (.tup xs)->H' b=some (.tup xs)
 frzs:∀ b o u,H b=some (.frz o u)->H' b=some (.frz o u)
 tbls:∀ b ps,H b=some (.tbl ps)->∃ more,H' b=some (.tbl (ps++more))
section
variable {fs ex:TJ}{H H1:Hp}{h1:Heap}{a x:Addr}{o:HO}
def Un.any (u:Un fs ex H H1 h h1){b:Addr}{ob:Obj}(q:h.get? b=some ob)(n:H b=none)(hx:b ∉ ex):∃ sl,h1.get? b=some { ob with slots:=sl }:=by
 by_cases a:b∈fs
 ·exact u.slot b ob q n a hx
 exact⟨ob.slots,u.keep b ob q n a hx⟩
def Un.kept (k:∀ b u,h.get? b=some u->h'.get? b=some u):Un fs ex H H h h' :=
 ⟨λb ob q _ _ _=>k b ob q,λb ob q _ _ _=>⟨ob.slots,k b ob q⟩,λ_ _ _ n _=>n,λb ob q _=>⟨ob,k b ob q⟩,λ_ _ q=>q,λ_ _ _ q=>q,λ_ ps q=>⟨#[],by rw[q];simp⟩⟩
def Un.refl:Un fs ex H H h h:=Un.kept λ_ _ q=>q
def Un.laid (k:∀ b u,h.get? b=some u->h'.get? b=some u)(hp:h.objs.size<=a)(hn:H a=none):Un fs ex H (upd H a o) h h' where
 keep:=λb u q _ _ _=>k b u q
 slot:=λb u q _ _ _=>⟨u.slots,k b u q⟩
 free:=λb u q n _=>by rw[Zc (XB (YQ (YL q) hp))];exact n
 there:=λb u q _=>⟨u,k b u q⟩
 tups:=λb xs q=>by rw[Zc (Zd q hn)];exact q
 frzs:=λb u xs q=>by rw[Zc (Zd q hn)];exact q
 tbls:=λb ps q=>⟨#[],by rw[Zc (Zd q hn),q];simp⟩
def Un.write (mu:Mut (H x))(f:e=x \/ H e=some (.own x))(k:∀ b u,b≠e->h.get? b=some u->h'.get? b=some u)(c:∃ u,h'.get? e=some u):Un fs ex H (upd H x o) h h':=by
 have hx:∀ b,H b=none->b≠x:=λb n z=>by subst z;rw[n] at mu;exact mu
 have d:∀ b,H b=none->b≠e:=λb n z=>by
  subst z;rcases f with r | r
  ·exact hx b n r
  rw[n] at r;cases r
 have hm:∀ b u,H b=some u->¬ Mut (some u)->b≠x:=λb u q nm z=>by subst z;rw[q] at mu;exact nm mu
 refine⟨λb u q n _ _=>k b u (d b n) q,λb u q n _ _=>⟨u.slots,k b u (d b n) q⟩,λb u q n _=>by rw[Zc (hx b n)];exact n,λb u q _=>?_,
  λb xs q=>by rw[Zc (hm b _ q λz=>z)];exact q,λb u xs q=>by rw[Zc (hm b _ q λz=>z)];exact q,λb ps q=>⟨#[],by rw[Zc (hm b _ q λz=>z),q];simp⟩⟩
 by_cases a:b=e
 ·subst a;exact c
 exact⟨u,k b u a q⟩
end
def trk (h:Heap)(H:Hp):List Addr:=(List.range h.objs.size).filter λa=>(H a).isSome
def hidT (h:Heap)(H:Hp):Heap:=W.hideAll h (trk h H)
def Cj (h:Heap)(H:Hp):(hidT h H).objs.size=h.objs.size:=W.hideAll_size _ _
def Z2b {H:Hp}{b:Addr}{o:Obj}(e:h.get? b=some o)(n:H b=none):(hidT h H).get? b=some o :=
 Y19 _ e λhm=>by
  have q:(H b).isSome=true:=(XA.mp hm).2;rw[n] at q;simp at q
def Z4w {h:Heap}{H:Hp}{b:Addr}{o:Obj}(e:(hidT h H).get? b=some o):h.get? b=some o/\H b=none:=by
 have e':h.get? b=some o:=W.of_hideAll (trk h H) e;refine⟨e',?_⟩
 cases q:H b with
 | none=>rfl
 | some x =>
  have hm:b∈trk h H:=XA.mpr ⟨XO.mpr (YL e'),by simp[q]⟩;have z:(hidT h H).get? b=none:=W.hideAll_none (trk h H) hm;rw[z] at e;cases e
def allNews (g h:Heap)(L:Addr):List (Addr × Obj):=(List.range h.objs.size).filterMap λa=>if a=L \/ (g.get? a).isSome=true then none else (h.get? a).map λo=>(a,o)
def rest (g h:Heap)(L d:Addr):List (Addr × Obj):=(allNews g h L).filter λp=>decide (p.1≠d)
end _L
variable {H H' H1 H2:_L.Hp}{v:_L.V}{xs ys:TZ}
namespace _b
open PySem PySem.Spec PyProof.Rows
def Seen (P:TU)(l:TN):Prop:=P.given.tree=none/\∃ e r,l=e::r/\e.scope.isGenerator=false/\e.scope.isCoroutine=false/\e.builtins=builtinsNs/\e.globals=mainGlobals
end _b
namespace _L
open PySem PySem.Spec PyProof.Rows
structure Mod (K:TR)(mg:TB)(base:Heap):Prop where
 kin:K.In base
 glob:base.Ns mainGlobals mg
 blt:∃ mb,base.Ns builtinsNs mb/\∀ x:Str,x≠"__name__"->mb x=bootBuiltins x
 nolimit:base.NoLimit
 seer:base.NoSeer
structure Cx where
 prog:Program
 w:World
 K:W.Frag
 mg:Str->Option Value
 base:Heap
 A:Around
 N:List Str
 s₀:Shared
 H₀:Hp
 env:Env
 outer:List Env
 stack:List Env
 ex:List Addr
 fn:Str->Bool
 calm:Bool
 pn:List (Addr × Obj)
 xe:Value->Shared->Prop
abbrev wX(X:Cx){α:Type}(c:PySem.Sem α):(α->PySem.Shared->Prop)->(PySem.Value->PySem.Shared->Prop)->PySem.Shared->Prop:=PySem.wpAny (PySem.model X.prog X.w) X.A c
def frs (l:TN):List Addr:=l.filterMap (·.frame)
abbrev Cx.fs (X:Cx):List Addr:=frs X.outer
def Vis (sc:Scope)(x:Str):Prop:=sc.names.lookup x=some .local \/ sc.names.lookup x=some .cell \/ sc.names.lookup x=some .free
def Loc (sc:Scope)(x:Str):Prop:=sc.names.lookup x=some .local \/ sc.names.lookup x=some .cell
def Look (env:Env)(h:Heap)(m:TB)(x:Str)(u:Value):Prop :=
 (env.kindOf x=some .local/\m x=some u) \/ ((env.kindOf x=some .cell \/ env.kindOf x=some .free)/\∃ c,env.cells.lookup x=some c/\h.IsCell c (some u))
structure Cx.Ok (X:Cx):Prop where
 mod:Mod X.K X.mg X.base
 kind:X.env.scope.kind=.function
 glob:X.env.globals=mainGlobals
 blt:X.env.builtins=builtinsNs
 above:X.s₀.heap.objs.size<=X.env.locals
 inj:∀ x y c,X.env.cells.lookup x=some c->X.env.cells.lookup y=some c->x=y
 has:∀ x,(X.env.kindOf x=some .cell \/ X.env.kindOf x=some .free)->∃ c,X.env.cells.lookup x=some c
 cab:∀ x c,X.fn x=true->X.env.cells.lookup x=some c->X.s₀.heap.objs.size<=c
 hd:X.calm=true->_b.QtP X.A X.pn
 frames:X.A.frames=some X.stack
 stk:X.stack=X.outer \/ (X.stack=X.env::X.outer/\X.env.frame=some X.env.locals)
 exf:∀ b∈X.ex,b≠X.env.locals/\∀ x c,X.env.cells.lookup x=some c->c≠b
 bs:∀ b o,X.base.get? b=some o->X.s₀.heap.get? b=some o/\X.H₀ b=none
 bsz:X.base.objs.size<=X.s₀.heap.objs.size
 noex:∀ b o,X.base.get? b=some o->b ∉ X.ex
 exfs:∀ b∈X.ex,b ∉ X.fs
 funs:X.s₀.heap.FunFrames X.base X.outer
 frf:∀ b∈X.fs,X.H₀ b=none
 seen:_b.Seen X.prog X.stack
 dpt:X.A.depth+100<recursionLimit
structure Inv (X:Cx)(pins:TD)(σ:List (Option V))(H:Hp)(s:Shared):Prop where
 ok:X.Ok
 os:s.os=X.s₀.os
 bare:AllBare s.gens
 base:Un X.fs X.ex X.H₀ H X.s₀.heap s.heap
 loc:∃ m,s.heap.Ns X.env.locals m/\∀ (i:Nat) (x:Str) (v:V),X.N[i]?=some x->σ[i]?=some (some v)->Vis X.env.scope x->∃ u,RelV v u/\Look X.env s.heap m x u
 cell:∀ x c,X.env.cells.lookup x=some c->∃ v,s.heap.IsCell c v
 free:H X.env.locals=none
 freeC:∀ x c,X.env.cells.lookup x=some c->H c=none
 pin:∀ p∈X.pn++pins,s.heap.get? p.1=some p.2/\H p.1=none/\p.1≠X.env.locals/\p.1 ∉ X.fs/\∀ v,p.2.data≠.cell v
 hok:HOk X.prog X.w H s.heap
 len:σ.length=X.N.length
def Inv.qt {X:Cx}{σ:List (Option V)}(I:Inv X pins σ H s)(hc:X.calm=true):_b.Qt X.A s.heap:=(I.ok.hd hc).at λp hp=>(I.pin p (XJ _ hp)).1
section
variable {X:Cx}{σ:List (Option V)}{H H':Hp}
def Cx.Ok.nofr (ok:X.Ok){b:Addr}{o:Obj}(e:X.base.get? b=some o):b ∉ X.fs:=λa=>by
 have:=(ok.funs.mem a).1;rw[e] at this;cases this
theorem Inv.bs (I:Inv X pins σ H s):∀ b o,X.base.get? b=some o->s.heap.get? b=some o/\H b=none:=λb o e =>
 ⟨I.base.keep b o (I.ok.bs b o e).1 (I.ok.bs b o e).2 (I.ok.nofr e) (I.ok.noex b o e),I.base.free b o (I.ok.bs b o e).1 (I.ok.bs b o e).2 (I.ok.noex b o e)⟩
def Inv.bk (I:Inv X pins σ H s):∀ b o,X.base.get? b=some o->s.heap.get? b=some o:=λb o e=>(I.bs b o e).1
theorem Inv.mod (I:Inv X pins σ H s):Mod X.K X.mg X.base:=I.ok.mod
def Inv.kIn (I:Inv X pins σ H s):X.K.In s.heap:=I.ok.mod.kin.keeps I.bk
theorem Inv.nolimit (I:Inv X pins σ H s):s.heap.NoLimit:=I.ok.mod.nolimit.keeps I.bk
def Inv.pylong (I:Inv X pins σ H s):PySem.PylongRoom (model X.prog X.w) X.A s:=by
 obtain⟨c,e,l,hs,h1,h2,a,b⟩:=I.ok.seen;exact PySem.PylongRoom.of I.nolimit I.ok.dpt (PySem.SeerAt.of (I.ok.mod.seer.keeps I.bk) c (by rw[I.ok.frames,hs]) h1 h2 a b)
theorem Inv.lt (I:Inv X pins σ H s):X.env.locals<s.heap.objs.size:=let ⟨_,hn,_⟩:=I.loc;hn.lt
def Inv.sz (I:Inv X pins σ H s):X.s₀.heap.objs.size<=s.heap.objs.size:=YM I.ok.above (JC I.lt)
def Inv.nofs (I:Inv X pins σ H s){a:Addr}(h:s.heap.objs.size<=a):a ∉ X.fs:=λb=>by
 obtain⟨_,o,ho,_⟩:=I.ok.funs.mem b;exact absurd (YQ (YL ho) (YM I.sz h)) (JA _)
theorem Inv.cne (I:Inv X pins σ H s):∀ x c,X.env.cells.lookup x=some c->c≠X.env.locals:=λx c e z=>by
 obtain⟨v,o,ho,hd⟩:=I.cell x c e;obtain⟨m,⟨o',es,ep,a,b,_⟩,_⟩:=I.loc;rw[z,a] at ho;cases ho;rw[b] at hd;cases hd
theorem Inv.funs (I:Inv X pins σ H s):s.heap.FunFrames X.base X.outer:=by
 have all:∀ (l:TN),(∀ b∈frs l,b∈X.fs)->X.s₀.heap.FunFrames X.base l->s.heap.FunFrames X.base l:=by
  intro l
  induction l with
  | nil=>intro _ _;trivial
  | cons env r d =>
   intro hs hl;obtain⟨hk,⟨L,o,hf,hn,ho,hd⟩,hr⟩:=hl;have a:L∈X.fs:=hs L (by unfold frs;rw[Y0D,hf];exact XC);obtain⟨sl,e⟩:=I.base.slot L o ho (I.ok.frf L a) a λz=>I.ok.exfs L z a;exact⟨hk,⟨L,_,hf,hn,e,hd⟩,d (λb c=>hs b (by unfold frs;rw[Y0D,hf];exact YV _ c)) hr⟩
 exact all X.outer (λ_ c=>c) I.ok.funs
theorem Inv.stack (I:Inv X pins σ H s):s.heap.FunFrames X.base X.stack:=by
 rcases I.ok.stk with e | ⟨e,hf⟩
 ·rw[e];exact I.funs
 rw[e];obtain⟨m,hn,_⟩:=I.loc;refine .cons (by rw[I.ok.kind];decide) hf hn ?_ I.funs;exact Heap.get?_none_of_le (YM I.ok.bsz I.ok.above)
def Inv.stkSub (I:Inv X pins σ H s):∀ b∈frs X.stack,b∈X.env.locals::X.fs:=λb a=>by
 rcases I.ok.stk with e | ⟨e,hf⟩
 ·rw[e] at a;exact YV _ a
 rw[e] at a;unfold frs at a;rw[Y0D,hf] at a;exact a
def Inv.stkFree (I:Inv X pins σ H s):∀ b∈frs X.stack,H b=none:=λb a=>by
 rcases YU.mp (I.stkSub b a) with e | a
 ·rw[e];exact I.free
 obtain⟨_,o,ho,_⟩:=I.ok.funs.mem a;exact I.base.free b o ho (I.ok.frf b a) λz=>I.ok.exfs b z a
theorem Inv.step {g':Array GenState}{t':Nat}{d':Drawn}{ch:TJ}(I:Inv X pins σ H s)
  (g:∀ b∈ch,(b∈X.ex \/ X.s₀.heap.objs.size<=b)/\b≠X.env.locals/\(∀ x c,X.env.cells.lookup x=some c->c≠b)/\∀ p∈X.pn++pins,p.1≠b)
  (keep:∀ b o,b≠X.env.locals->b ∉ X.fs->b ∉ ch->s.heap.get? b=some o->H b=none->h'.get? b=some o)
  (slot:∀ b o,b≠X.env.locals->b∈X.fs->b ∉ ch->s.heap.get? b=some o->H b=none->∃ sl,h'.get? b=some { o with slots:=sl }) (free:∀ b o,b ∉ ch->s.heap.get? b=some o->H b=none->H' b=none)
  (there:∀ b o,b ∉ ch->s.heap.get? b=some o->∃ o',h'.get? b=some o')
  (tups:∀ b xs,H b=some (.tup xs)->H' b=some (.tup xs)) (frzs:∀ b o u,H b=some (.frz o u)->H' b=some (.frz o u)) (tbls:∀ b ps,H b=some (.tbl ps)->∃ more,H' b=some (.tbl (ps++more)))
  (ns:∀ m,s.heap.Ns X.env.locals m->h'.Ns X.env.locals m) (hok:HOk X.prog X.w H' h') (hg:AllBare g') :
  Inv X pins σ H' { s with heap:=h',gens:=g',drawn:=d',toks:=t' }:=by
 have t:∀ b o,X.s₀.heap.get? b=some o->b≠X.env.locals:=λb o e=>XB (YQ (YL e) I.ok.above);have h:∀ b o,X.s₀.heap.get? b=some o->b ∉ X.ex->b ∉ ch:=λb o e hx j=>by
  rcases (g b j).1 with z | z
  ·exact hx z
  exact absurd (YQ (YL e) z) (JA _)
 have f:∀ x c,X.env.cells.lookup x=some c->∀ v,s.heap.IsCell c v->h'.IsCell c v:=λx c e v ⟨o,ho,hd⟩=>by
  have a:c ∉ ch:=λz=>(g c z).2.2.1 x c e rfl;by_cases hc:c∈X.fs
  ·obtain⟨sl,q⟩:=slot c o (I.cne x c e) hc a ho (I.freeC x c e);exact⟨_,q,hd⟩
  exact⟨o,keep c o (I.cne x c e) hc a ho (I.freeC x c e),hd⟩
 refine⟨I.ok,I.os,hg,⟨λb o e n j hx=>?_,λb o e n j hx=>?_,λb o e n hx=>?_,λb o e hx=>?_,λb xs e=>tups b xs (I.base.tups b xs e),λb o xs e=>frzs b o xs (I.base.frzs b o xs e),λb ps e=>?_⟩,?_,λx c e=>?_,?_,λx c e=>?_,λp hp=>?_,hok,I.len⟩
 ·exact keep b o (t b o e) j (h b o e hx) (I.base.keep b o e n j hx) (I.base.free b o e n hx)
 ·obtain⟨sl,e1⟩:=I.base.slot b o e n j hx;obtain⟨y,e2⟩:=slot b _ (t b o e) j (h b o e hx) e1 (I.base.free b o e n hx);exact⟨y,e2⟩
 ·obtain⟨o',e1⟩:=I.base.there b o e hx;exact free b o' (h b o e hx) e1 (I.base.free b o e n hx)
 ·obtain⟨o',e1⟩:=I.base.there b o e hx;exact there b o' (h b o e hx) e1
 ·obtain⟨m1,e1⟩:=I.base.tbls b ps e;obtain⟨B,e2⟩:=tbls b _ e1;exact⟨m1++B,by rw[e2,Y1U]⟩
 ·obtain⟨m,hn,hl⟩:=I.loc;refine⟨m,ns m hn,λi x v e1 e2 e3=>?_⟩;obtain⟨u,r,l⟩:=hl i x v e1 e2 e3;refine⟨u,r,?_⟩;rcases l with l | ⟨k,c,e,z⟩
  ·exact .inl l
  exact .inr ⟨k,c,e,f x c e _ z⟩
 ·obtain⟨v,z⟩:=I.cell x c e;exact⟨v,f x c e v z⟩
 ·obtain⟨m,⟨o,_,_,ho,_⟩,_⟩:=I.loc;exact free _ o (λz=>(g _ z).2.1 rfl) ho I.free
 ·obtain⟨v,o,ho,hd⟩:=I.cell x c e;exact free c o (λz=>(g c z).2.2.1 x c e rfl) ho (I.freeC x c e)
 obtain⟨e,n,ne,A,d⟩:=I.pin p hp;have a:p.1 ∉ ch:=λz=>(g p.1 z).2.2.2 p hp rfl;exact⟨keep p.1 p.2 ne A a e n,free p.1 p.2 a e n,ne,A,d⟩
def Inv.un {t':Nat}(I:Inv X pins σ H s)(u:Un X.fs [] H H' s.heap h')(hok:HOk X.prog X.w H' h'):Inv X pins σ H' { s with heap:=h',toks:=t' }:=by
 obtain⟨m,⟨o,es,ep,ho,r⟩,_⟩:=id I.loc;obtain⟨sl,g⟩:=u.any ho I.free J7;exact I.step (g':=s.gens) (d':=s.drawn) (ch:=[]) (λ_ z=>nomatch z) (λb o _ f _ e n=>u.keep b o e n f J7) (λb o _ f _ e n=>u.slot b o e n f J7) (λb o _ e n=>u.free b o e n J7) (λb o _ e=>u.there b o e J7) u.tups u.frzs u.tbls (λh hm=>by
  obtain⟨o',c,d,a,r'⟩:=hm;rw[ho] at a;cases a;exact⟨_,c,d,g,r'⟩) hok I.bare
def Inv.call {g':Array GenState}{t':Nat}{d':Drawn}{ch:TJ}(I:Inv X pins σ H s)(u:Un (frs X.stack) ch H H' s.heap h')(hok:HOk X.prog X.w H' h')(hg:AllBare g')
  (a:∀ b∈ch,(b∈X.ex \/ X.s₀.heap.objs.size<=b)/\b≠X.env.locals/\(∀ x c,X.env.cells.lookup x=some c->c≠b)/\∀ p∈X.pn++pins,p.1≠b) :
  Inv X pins σ H' { s with heap:=h',gens:=g',drawn:=d',toks:=t' }:=by
 obtain⟨m,⟨o,es,ep,ho,r⟩,_⟩:=id I.loc;obtain⟨sl,h⟩:=u.any ho I.free λz=>(a _ z).2.1 rfl;exact I.step (ch:=ch) a (λb o h i hc e n=>u.keep b o e n (λz=>(YU.mp (I.stkSub b z)).elim h i) hc) (λb o _ _ hc e n=>u.any e n hc) (λb o hc e n=>u.free b o e n hc) (λb o hc e=>u.there b o e hc) u.tups u.frzs u.tbls (λj hm=>by
  obtain⟨o',f,g,d,r'⟩:=hm;rw[ho] at d;cases d;exact⟨_,f,g,h,r'⟩) hok hg
theorem Inv.turned {t':Nat}(I:Inv X pins σ H s)(k:∀ b o,b≠it->s.heap.get? b=some o->h'.get? b=some o)(hn:H it=none)(d:it≠X.env.locals)
  (h1:it∈X.ex \/ X.s₀.heap.objs.size<=it) (h2:∀ x c,X.env.cells.lookup x=some c->c≠it) (f:∀ p∈X.pn++pins,p.1≠it):Inv X pins σ H { s with heap:=h',toks:=t' }:=by
 have a:∀ b u,H b=some u->b≠it:=λb u e z=>by rw[z,hn] at e;cases e
 refine I.step (g':=s.gens) (d':=s.drawn) (ch:=[it]) (λb g=>?_) (λb o _ _ hc e _=>k b o (λz=>hc (by simp[z])) e) (λb o _ _ hc e _=>⟨o.slots,k b o (λz=>hc (by simp[z])) e⟩) (λ_ _ _ _ n=>n)
  (λb o hc e=>⟨o,k b o (λz=>hc (by simp[z])) e⟩) (λ_ _ e=>e) (λ_ _ _ e=>e) (λb ps e=>⟨#[],by rw[e];simp⟩) (λm hm=>?_) (λb u e=>?_) I.bare
 ·have e:b=it:=by simpa using g
  subst e;exact⟨h1,d,h2,f⟩
 ·obtain⟨o,es,ep,ho,r⟩:=hm;exact⟨o,es,ep,k _ o (XQ d) ho,r⟩
 refine (I.hok b u e).stay (λc v hc q=>k c v ?_ q) (λ_ q=>q) λ_ _ q=>q;rcases hc with z | z
 ·rw[z];exact a b u e
 exact a c _ z
theorem Inv.tok (I:Inv X pins σ H s)(t:Nat):Inv X pins σ H { s with toks:=t }:=I.un (h':=s.heap) (t':=t) Un.refl I.hok
theorem Inv.kept {t':Nat}(I:Inv X pins σ H s)(k:∀ b u,s.heap.get? b=some u->h'.get? b=some u):Inv X pins σ H { s with heap:=h',toks:=t' }:=I.un (Un.kept k) (I.hok.kept k)
theorem Inv.laid {a:Addr}{o:HO}{t':Nat}(I:Inv X pins σ H s)(k:∀ b u,s.heap.get? b=some u->h'.get? b=some u)(hp:s.heap.objs.size<=a)(c:ObjOk X.prog X.w (upd H a o) h' a o) :
  Inv X pins σ (upd H a o) { s with heap:=h',toks:=t' }:=I.un (Un.laid k hp (I.hok.fresh hp)) (I.hok.laid k hp c)
theorem Inv.write {x e:Addr}{o:HO}{t':Nat}(I:Inv X pins σ H s)(mu:Mut (H x))(d:e=x \/ H e=some (.own x))(k:∀ b u,b≠e->s.heap.get? b=some u->h'.get? b=some u)(a:∃ u,h'.get? e=some u)
  (c:ObjOk X.prog X.w (upd H x o) h' x o):Inv X pins σ (upd H x o) { s with heap:=h',toks:=t' }:=I.un (Un.write mu d k a) (I.hok.write mu d k a c)
def Inv.weak {σ':List (Option V)}(I:Inv X pins σ H s)(hl:σ'.length=σ.length)(w:∀ (i:Nat) v,σ'[i]?=some (some v)->σ[i]?=some (some v)):Inv X pins σ' H s :=
 ⟨I.ok,I.os,I.bare,I.base,let ⟨m,hn,hl'⟩:=I.loc;⟨m,hn,λi x v e1 e2 e3=>hl' i x v e1 (w i v e2) e3⟩,I.cell,I.free,I.freeC,I.pin,I.hok,hl.trans I.len⟩
def Inv.pins_of {pins':TD}(I:Inv X pins σ H s)(h:∀ p∈pins',s.heap.get? p.1=some p.2/\H p.1=none/\p.1≠X.env.locals/\p.1 ∉ X.fs/\∀ v,p.2.data≠.cell v):Inv X pins' σ H s :=
 ⟨I.ok,I.os,I.bare,I.base,I.loc,I.cell,I.free,I.freeC,λp hp=>(XS.mp hp).elim (λz=>I.pin p (XJ _ z)) (h p),I.hok,I.len⟩
def Lw {N:TF}(hN:N.Nodup){i j:Nat}{x:Str}(a:N[i]?=some x)(b:N[j]?=some x):i=j:=by
 obtain⟨h1,e1⟩:=YH.mp a;obtain⟨h2,e2⟩:=YH.mp b;exact (List.getElem_inj hN).mp (e1.trans e2.symm)
theorem Px {M:Model}{A:Around}{E:TC}{x:Str}{Q:Unit->Shared->Prop}(I:Inv X pins σ H s)(hN:X.N.Nodup)(hi:X.N[i]?=some x)(hx:Loc X.env.scope x)(r:RelV v u)
  (h:∀ s',Inv X pins (σ.set i (some v)) H s'->(∃ a,Heap.SameBut a s.heap s'.heap/\(a=X.env.locals \/ X.env.cells.lookup x=some a))->Q () s') (hf:X.fn x=true \/ X.env.scope.names.lookup x=some .local:=by first | exact .inl rfl | exact .inr rfl | assumption):wpAny M A (storeName X.env x u) Q E s:=by
 obtain⟨m,hn,hl⟩:=id I.loc;have J:(X.env.scope.kind == .class || (X.env.scope.kind == .module && X.env.locals != X.env.globals))=false:=by rw[I.ok.kind];rfl
 have l:i<σ.length:=by rw[I.len];exact (YH.mp hi).1
 have t:=I.cne;have f:∀ {a:Addr} {h':Heap},(∃ o,s.heap.get? a=some o/\H a=none)->Heap.SameBut a s.heap h'->HOk X.prog X.w H h':=λ{a h'} ha hs b ob e=>by
  obtain⟨_,_,g⟩:=ha;refine (I.hok b ob e).stay (λc K hc q=>(hs.2 c ?_).trans q) (λ_ q=>q) λ_ _ q=>q;rintro rfl;rcases hc with rfl | hc
  ·rw[g] at e;cases e
  rw[g] at hc;cases hc
 rcases hx with hk | hk
 ·refine wpAny_storeName_local hk hn (λh' L hs=>?_) J;obtain⟨R,_,_,O,_⟩:=id hn;refine h _ ⟨I.ok,I.os,I.bare,⟨λb o e n C hx=>?_,λb o e n C hx=>?_,I.base.free,λb o e hx=>?_,I.base.tups,I.base.frzs,I.base.tbls⟩,⟨_,L,λj y v' e1 e2 e3=>?_⟩,λy c e=>?_,I.free,I.freeC,λp hp=>?_,f ⟨R,O,I.free⟩ hs,by simpa using I.len⟩ ⟨_,hs,.inl rfl⟩
  ·exact (hs.2 b (XB (YQ (YL e) I.ok.above))).trans (I.base.keep b o e n C hx)
  ·obtain⟨sl,e1⟩:=I.base.slot b o e n C hx;exact⟨sl,(hs.2 b (XB (YQ (YL e) I.ok.above))).trans e1⟩
  ·obtain⟨o',e1⟩:=I.base.there b o e hx;exact⟨o',(hs.2 b (XB (YQ (YL e) I.ok.above))).trans e1⟩
  ·by_cases hj:j=i
   ·subst hj;rw[hi] at e1;cases e1;rw[JI l] at e2
    cases e2;exact⟨u,r,.inl ⟨hk,J7⟩⟩
   rw[qu (XQ hj)] at e2;obtain⟨u',r',q⟩:=hl j y v' e1 e2 e3;refine⟨u',r',?_⟩;rcases q with ⟨k,e⟩ | ⟨k,c,e,z⟩
   ·refine .inl ⟨k,?_⟩;have:y≠x:=λe=>hj (Lw hN e1 (e ▸ hi));simp[this,e]
   exact .inr ⟨k,c,e,z.sameBut hs (t y c e)⟩
  ·obtain⟨K,z⟩:=I.cell y c e;exact⟨K,z.sameBut hs (t y c e)⟩
  obtain⟨e,n,ne,P,d⟩:=I.pin p hp;exact⟨(hs.2 p.1 ne).trans e,n,ne,P,d⟩
 have B:X.fn x=true:=by
  rcases hf with z | z
  ·exact z
  rw[z] at hk;cases hk
 obtain⟨c,hc⟩:=I.ok.has x (.inl hk);obtain⟨K,z⟩:=I.cell x c hc;refine wpAny_storeName_cell I.ok.kind hk hc z (λh' D hs=>?_);obtain⟨oc,G,F⟩:=id z;refine h { s with heap:=h' } ⟨I.ok,I.os,I.bare,⟨λb o e n C hx=>?_,λb o e n C hx=>?_,I.base.free,λb o e hx=>?_,I.base.tups,I.base.frzs,I.base.tbls⟩,⟨m,hn.sameBut hs (XQ (t x c hc)),λj y v' e1 e2 e3=>?_⟩,λy c' e=>?_,I.free,I.freeC,λp hp=>?_,f ⟨oc,G,I.freeC x c hc⟩ hs,by simpa using I.len⟩ ⟨c,hs,.inr hc⟩
 ·exact (hs.2 b (XB (YQ (YL e) (I.ok.cab x c B hc)))).trans (I.base.keep b o e n C hx)
 ·obtain⟨sl,e1⟩:=I.base.slot b o e n C hx;exact⟨sl,(hs.2 b (XB (YQ (YL e) (I.ok.cab x c B hc)))).trans e1⟩
 ·obtain⟨o',e1⟩:=I.base.there b o e hx;exact⟨o',(hs.2 b (XB (YQ (YL e) (I.ok.cab x c B hc)))).trans e1⟩
 ·by_cases hj:j=i
  ·subst hj;rw[hi] at e1;cases e1;rw[JI l] at e2
   cases e2;exact⟨u,r,.inr ⟨.inl hk,c,hc,D⟩⟩
  rw[qu (XQ hj)] at e2;obtain⟨u',r',q⟩:=hl j y v' e1 e2 e3;refine⟨u',r',?_⟩;rcases q with q | ⟨k,c',e,T⟩
  ·exact .inl q
  refine .inr ⟨k,c',e,T.sameBut hs ?_⟩;rintro rfl;exact hj (Lw hN e1 (I.ok.inj _ _ _ e hc ▸ hi))
 ·by_cases hcc:c'=c
  ·subst hcc;exact⟨_,D⟩
  obtain⟨S,z2⟩:=I.cell y c' e;exact⟨S,z2.sameBut hs hcc⟩
 obtain⟨e,n,ne,P,d⟩:=I.pin p hp;refine⟨(hs.2 p.1 ?_).trans e,n,ne,P,d⟩;intro q;rw[q,G] at e;have U:oc=p.2:=YR e;exact d K (by rw[<-U];exact F)
def Lb {M:Model}{A:Around}{E:TC}{x:Str}{Q:Unit->Shared->Prop}(I:Inv X pins σ H s)(hN:X.N.Nodup)(hi:X.N[i]?=some x)(hx:Loc X.env.scope x)(r:RelV v u)
  (h:∀ s',Inv X pins (σ.set i (some v)) H s'->Q () s') (hf:X.fn x=true \/ X.env.scope.names.lookup x=some .local:=by first | exact .inl rfl | exact .inr rfl | assumption):wpAny M A (storeName X.env x u) Q E s :=
 Px I hN hi hx r (λs' a _=>h s' a) hf
theorem Inv.call' {s':Shared}{ch:TJ}(I:Inv X pins σ H s)(ho:s'.os=s.os)(u:Un (frs X.stack) ch H H' s.heap s'.heap)(hok:HOk X.prog X.w H' s'.heap)(hg:AllBare s'.gens)
  (a:∀ b∈ch,(b∈X.ex \/ X.s₀.heap.objs.size<=b)/\b≠X.env.locals/\(∀ x c,X.env.cells.lookup x=some c->c≠b)/\∀ p∈X.pn++pins,p.1≠b):Inv X pins σ H' s':=by
 obtain⟨h',g',d',t',o'⟩:=s';have e:o'=s.os:=ho;subst e;exact I.call (g':=g') (t':=t') (d':=d') u hok hg a
end
abbrev XK:=Value->Option Addr->Hp->Prop
abbrev St:=List (Option V)
abbrev VK:=V->Hp->Prop
abbrev TE:=St->Hp->VK->Prop
abbrev TT:=St->Hp->(Bool->Hp->Prop)->Prop
abbrev TA:=St->Hp->(List V->Hp->Prop)->Prop
structure Ends where
 nx:St->Hp->Prop
 rt:VK
 bk:St->Hp->Prop:=λ_ _=>False
 ct:St->Hp->Prop:=λ_ _=>False
abbrev TS:=Ends->St->Hp->Prop
def EP (X:Cx)(pins:TD)(σ:St)(Q:VK)(u:Value)(s':Shared):Prop:=∃ v H',Inv X pins σ H' s'/\RelV v u/\Q v H'
def TP (X:Cx)(pins:TD)(σ:St)(Q:Bool->Hp->Prop)(b:Bool)(s':Shared):Prop:=∃ H',Inv X pins σ H' s'/\Q b H'
def AP (X:Cx)(pins:TD)(σ:St)(Q:List V->Hp->Prop)(us:TH)(s':Shared):Prop:=∃ vs H',Inv X pins σ H' s'/\Vals vs us/\Q vs H'
def SP (X:Cx)(pins:TD)(D:Ends)(f:Flow)(s':Shared):Prop :=
 match f with
 | .next=>∃ σ' H',Inv X pins σ' H' s'/\D.nx σ' H'
 | .brk=>∃ σ' H',Inv X pins σ' H' s'/\D.bk σ' H'
 | .cont=>∃ σ' H',Inv X pins σ' H' s'/\D.ct σ' H'
 | .ret u=>∃ v σ' H',Inv X pins σ' H' s'/\RelV v u/\D.rt v H'
def PE (X:Cx)(e:Expr)(t:TE):Prop :=
 ∀ (pins:TD) (s:Shared) (σ:St) (H:Hp) (Q:VK),Inv X pins σ H s->t σ H Q->wX X (eval e X.env) (EP X pins σ Q) X.xe s
def PT (X:Cx)(e:Expr)(t:TT):Prop :=
 ∀ (pins:TD) (s:Shared) (σ:St) (H:Hp) (Q:Bool->Hp->Prop),Inv X pins σ H s->t σ H Q->wX X (isTrue e X.env (eval e X.env)) (TP X pins σ Q) X.xe s
def PW (X:Cx)(e:Expr)(t:TT):Prop :=
 ∀ (a:Sem Value) (pins:TD) (s:Shared) (σ:St) (H:Hp) (Q:Bool->Hp->Prop),Inv X pins σ H s->t σ H Q->wX X (isTrue e X.env a) (TP X pins σ Q) X.xe s
def PW.pt {X:Cx}{e:Expr}{t:TT}(h:PW X e t):PT X e t:=h _
def PA (X:Cx)(es:TL)(t:TA):Prop :=
 ∀ (pos:Pos) (pins:TD) (s:Shared) (σ:St) (H:Hp) (Q:List V->Hp->Prop),Inv X pins σ H s->t σ H Q->wX X (spliced (backTo pos (starEach es X.env))) (AP X pins σ Q) X.xe s
def PS (X:Cx)(st:Stmt)(t:TS):Prop :=
 ∀ (pins:TD) (s:Shared) (σ:St) (H:Hp) (D:Ends),Inv X pins σ H s->t D σ H->wX X (exec st X.env) (SP X pins D) X.xe s
def PSs (X:Cx)(st:TM)(t:TS):Prop :=
 ∀ (pins:TD) (s:Shared) (σ:St) (H:Hp) (D:Ends),Inv X pins σ H s->t D σ H->wX X (execs st X.env) (SP X pins D) X.xe s
def thn {α:Type}{t:Sem α}{Q b:α->Shared->Prop}{M:Model}(h:wpAny M A t Q E s)(c:∀ a s,Q a s->b a s):wpAny M A t b E s:=GO h c λ_ _ x=>x
end _L
variable {X:_L.Cx}{tb:_L.TS}{te tl:_L.TE}{σ:_L.St}
namespace _L
open PySem PySem.Spec PyProof.Rows
section
variable {X:Cx}
inductive tVar (i:Nat) (σ:_L.St) (H:Hp) (Q:VK):Prop
 | mk (v:_) (zz0:σ[i]?=some (some v)) (zz1:Q v H)
def tC (v:V):TE:=λ_ H Q=>Q v H
theorem Z77 {x:Str}{pos:Pos}(hN:X.N[i]?=some x)(f:Vis X.env.scope x)(hd:(x == ("__debug__":Str))=false:=by decide)(d:(x == ("__classdict__":Str))=false:=by decide):PE X (.Name x pos) (tVar i):=by
 intro pins s σ H Q I h;obtain⟨v,e,h⟩:=h;obtain⟨m,hn,hl⟩:=I.loc;obtain⟨u,r,l⟩:=hl i x v hN e f;have b:EP X pins σ Q u s:=⟨v,H,I,r,h⟩;rcases l with ⟨hk,hm⟩ | ⟨hk,c,hc,a⟩
 ·exact wpAny_Name (wpAny_loadName_local I.ok.kind hk hn hm b) hd
 rcases hk with hk | hk
 ·exact wpAny_Name (wpAny_loadName_cell I.ok.kind hk hc a b) hd
 exact wpAny_Name (wpAny_loadName_free I.ok.kind hk hc a b d) hd
theorem Z9 {i j pos}:PE X (.Constant (.int i) j pos) (tC (.int i)):=λ_ _ _ H _ I h=>wpAny_Constant_int ⟨.int i,H,I.tok _,⟨_,rfl⟩,h⟩
theorem Uk {b j pos}:PE X (.Constant (.bool b) j pos) (tC (.bl b)):=λ_ _ _ H _ I h=>Constant_bool ⟨.bl b,H,I,rfl,h⟩
theorem Xr {j pos}:PE X (.Constant .none j pos) (tC .non):=λ_ _ _ H _ I h=>Constant_none ⟨.non,H,I,rfl,h⟩
theorem Wj {x j pos}:PE X (.Constant (.str x) j pos) (tC (.str x)):=λ_ _ _ H _ I h=>Calls.Constant_str ⟨.str x,H,I.tok _,⟨_,rfl⟩,h⟩
def Gl (X:Cx)(x:Str):Prop:=X.env.kindOf x=some .globalImplicit
def Vo {E:TC}{x:Str}{pos:Pos}{Q:TC}(I:Inv X pins σ H s)(hg:Gl X x)(hm:X.mg x=some u)(h:Q u s)
  (hd:(x == ("__debug__":Str))=false:=by decide):wX X (eval (.Name x pos) X.env) Q E s :=
 Y0M I.ok.kind hg (Calls.loadGlobal_global (by rw[I.ok.glob];exact I.mod.glob.keeps I.bk) hm h) hd
def Wq {E:TC}{x:Str}{pos:Pos}{Q:TC}(I:Inv X pins σ H s)(hg:Gl X x)(hm:X.mg x=none)(a:bootBuiltins x=some u)(h:Q u s)
  (hn:x≠"__name__":=by decide) (hd:(x == ("__debug__":Str))=false:=by decide):wX X (eval (.Name x pos) X.env) Q E s:=by
 obtain⟨mb,h1,h2⟩:=I.mod.blt;exact Y0M I.ok.kind hg (Calls.loadGlobal_builtin (by rw[I.ok.glob];exact I.mod.glob.keeps I.bk) hm (by rw[I.ok.blt];exact h1.keeps I.bk) ((h2 x hn).trans a) h) hd
theorem Yt {x:Str}{pos:Pos}(hg:Gl X x)(hm:X.mg x=some u)(r:RelV v u)(hd:(x == ("__debug__":Str))=false:=by decide):PE X (.Name x pos) (tC v) :=
 λ_ _ _ H _ I h=>Vo I hg hm ⟨v,H,I,r,h⟩ hd
theorem Z40 {x:Str}{pos:Pos}(hg:Gl X x)(hm:X.mg x=none)(a:bootBuiltins x=some u)(r:RelV v u)(hn:x≠"__name__":=by decide)(hd:(x == ("__debug__":Str))=false:=by decide):PE X (.Name x pos) (tC v) :=
 λ_ _ _ H _ I h=>Wq I hg hm a ⟨v,H,I,r,h⟩ hn hd
variable {a b:Expr}{ta tb:TE}
inductive tB_i (Q:(Bool->Hp->Prop)) (x:V) (H1:Hp):Prop
 | mk (c:_) (zz0:x=.bl c) (zz1:Q c H1)
def tB (t:TE):TT:=λσ H Q=>t σ H (tB_i Q)
theorem Yz {e:Expr}{t:TE}(h:PE X e t)(c:∀ a,isTrue e X.env a=(do let v <-a;standAt e.pos;holding [v] (truthy v)):=by intro _;rfl):PT X e (tB t):=by
 intro pins s σ H Q I hw;refine isTrue_plain (thn (h pins s σ H _ I hw) λv s1 ⟨x,H1,f,r1,b⟩=>?_) (c _);obtain⟨d,rfl,q⟩:=b
 cases r1;exact qy ⟨H1,f,q⟩
variable {tA tB':TT}{rest:TL}
def tAnd (t u:TT):TT:=λσ H Q=>t σ H λc H1=>if c=true then u σ H1 Q else Q false H1
def tOr (t u:TT):TT:=λσ H Q=>t σ H λc H1=>if c=true then Q true H1 else u σ H1 Q
def tNot (t:TT):TT:=λσ H Q=>t σ H λc H1=>Q (!c) H1
theorem Go (ha:PT X a tA):PW X (.BoolOp .And [a] pos) tA:=by
 intro b pins s σ H Q I h;refine isTrue_and (thn (ha pins s σ H Q I h) λc s1 e=>?_)
 cases c with
 | true=>exact isTrue_and_nil e
 | false=>exact e
theorem Uu (ha:PT X a tA):PW X (.BoolOp .Or [a] pos) tA:=by
 intro b pins s σ H Q I h;refine isTrue_or (thn (ha pins s σ H Q I h) λc s1 e=>?_)
 cases c with
 | false=>exact isTrue_or_nil e
 | true=>exact e
theorem Z0r (ha:PT X a tA)(g:PW X (.BoolOp .And (b::rest) pos) tB'):PW X (.BoolOp .And (a::b::rest) pos) (tAnd tA tB'):=by
 intro f pins s σ H Q I h;refine isTrue_and (thn (ha pins s σ H _ I h) λc s1 ⟨H1,d,e⟩=>?_)
 cases c with
 | true=>exact g f pins s1 σ H1 Q d e
 | false=>exact⟨H1,d,e⟩
theorem Re (ha:PT X a tA)(g:PW X (.BoolOp .Or (b::rest) pos) tB'):PW X (.BoolOp .Or (a::b::rest) pos) (tOr tA tB'):=by
 intro f pins s σ H Q I h;refine isTrue_or (thn (ha pins s σ H _ I h) λc s1 ⟨H1,d,e⟩=>?_)
 cases c with
 | true=>exact⟨H1,d,e⟩
 | false=>exact g f pins s1 σ H1 Q d e
theorem Vl (ha:PT X a tA):PT X (.UnaryOp .Not a pos) (tNot tA):=by
 intro pins s σ H Q I h;exact isTrue_not (ha pins s σ H (λc H1=>Q (!c) H1) I h)
inductive tAndV_i (tb:TE) (σ:_L.St) (Q:VK) (x:V) (H1:Hp):Prop
 | mk (c:_) (zz0:x=.bl c) (zz1:if c=true then tb σ H1 Q else Q (.bl false) H1)
def tAndV (ta tb:TE):TE:=λσ H Q=>ta σ H (tAndV_i tb σ Q)
inductive tOrV_i (tb:TE) (σ:_L.St) (Q:VK) (x:V) (H1:Hp):Prop
 | mk (c:_) (zz0:x=.bl c) (zz1:if c=true then Q (.bl true) H1 else tb σ H1 Q)
def tOrV (ta tb:TE):TE:=λσ H Q=>ta σ H (tOrV_i tb σ Q)
inductive tNotV_i (Q:VK) (x:V) (H1:Hp):Prop
 | mk (c:_) (zz0:x=.bl c) (zz1:Q (.bl (!c)) H1)
def tNotV (ta:TE):TE:=λσ H Q=>ta σ H (tNotV_i Q)
theorem M3 {op}{t:TE}(h:PE X a t):PE X (.BoolOp op [a] pos) t:=λpins s σ H Q I hw=>BoolOp_one (h pins s σ H Q I hw)
theorem Jf (ha:PE X a ta)(f:PE X (.BoolOp .And (b::rest) pos) tb):PE X (.BoolOp .And (a::b::rest) pos) (tAndV ta tb):=by
 intro pins s σ H Q I h;refine BoolOp_and (thn (ha pins s σ H _ I h) λv s1 ⟨x,H1,e,r1,d⟩=>?_);obtain⟨c,rfl,d⟩:=d
 cases r1;refine qy ?_
 cases c with
 | true=>exact f pins s1 σ H1 Q e d
 | false=>exact⟨.bl false,H1,e,rfl,d⟩
theorem Z8n (ha:PE X a ta)(f:PE X (.BoolOp .Or (b::rest) pos) tb):PE X (.BoolOp .Or (a::b::rest) pos) (tOrV ta tb):=by
 intro pins s σ H Q I h;refine BoolOp_or (thn (ha pins s σ H _ I h) λv s1 ⟨x,H1,e,r1,d⟩=>?_);obtain⟨c,rfl,d⟩:=d
 cases r1;refine qy ?_
 cases c with
 | false=>exact f pins s1 σ H1 Q e d
 | true=>exact⟨.bl true,H1,e,rfl,d⟩
theorem Z0y (ha:PE X a ta):PE X (.UnaryOp .Not a pos) (tNotV ta):=by
 intro pins s σ H Q I h;refine UnaryOp_ (thn (ha pins s σ H _ I h) λv s1 ⟨x,H1,d,r1,b⟩=>?_);obtain⟨c,rfl,b⟩:=b
 cases r1;exact not_of (qy ⟨.bl (!c),H1,d,rfl,b⟩)
def tIf (t:TT)(ta tb:TE):TE:=λσ H Q=>t σ H λc H1=>if c=true then ta σ H1 Q else tb σ H1 Q
theorem U1 {c:Expr}(hc:PT X c tA)(ha:PE X a ta)(g:PE X b tb):PE X (.IfExp c a b pos) (tIf tA ta tb):=by
 intro pins s σ H Q I h;refine wpAny_IfExp (thn (hc pins s σ H _ I h) λd s1 ⟨H1,e,f⟩=>?_)
 cases d with
 | true=>exact ha pins s1 σ H1 Q e f
 | false=>exact g pins s1 σ H1 Q e f
end
def SqL (K:TR)(H:Hp)(a:Addr)(xs:TZ):Prop :=
 Rd H a (.lst xs) ∨
  ∃ (o:Obj) (its:Array Value) (n:Nat),K.lookup a=some o/\o.cls=.type "list"/\o.dict=none/\o.data=.seq its n/\its.size<=sizeLine/\Vals xs its.toList
def SqT (K:TR)(H:Hp)(a:Addr)(xs:TZ):Prop :=
 Rd H a (.tup xs) ∨
  ∃ (o:Obj) (its:Array Value) (n:Nat),K.lookup a=some o/\o.cls=.type "tuple"/\o.data=.seq its n/\its.size<=sizeLine/\Vals xs its.toList
def absV:Value->Option V
 | .none=>some .non
 | .bool b=>some (.bl b)
 | .int i _=>some (.int i)
 | .str x _=>some (.str x)
 | .bytes b _=>some (.byt b)
 | .float b _=>some (.flt b)
 | .ref a=>some (.ref a)
 | .type n=>some (.ty n)
 | _=>none
def RelV.abs {x:V}{u:Value}(r:RelV x u):absV u=some x:=by
 cases x with
 | non=>cases r;rfl
 | bl _=>cases r;rfl
 | int _=>obtain⟨t,rfl⟩:=r;rfl
 | str _=>obtain⟨t,rfl⟩:=r;rfl
 | byt _=>obtain⟨t,rfl⟩:=r;rfl
 | flt _=>obtain⟨t,rfl⟩:=r;rfl
 | ref _=>cases r;rfl
 | ty _=>cases r;rfl
def RelV.inj {x y:V}(r:RelV x u)(q:RelV y u):x=y:=YR (r.abs.symm.trans q.abs)
theorem Vals.inj:∀ {xs ys:TZ} {us:TH},Vals xs us->Vals ys us->xs=ys
 | _,_,_,.nil,.nil=>rfl
 | _,_,_,.cons r t,.cons r' t'=>by rw[r.inj r',Vals.inj t t']
section
variable {X:Cx}{σ:St}{H:Hp}{a:Addr}{xs ys:TZ}
def SqL.of (h:H a=some (.lst xs)):SqL K H a xs:=.inl (.inl h)
def SqT.of (h:H a=some (.tup xs)):SqT K H a xs:=.inl (.inl h)
def Inv.list (I:Inv X pins σ H s)(h:SqL X.K H a xs):∃ its:List Value,Vals xs its/\PlainL s.heap a its.toArray/\xs.length<=sizeLine:=by
 rcases h with h | ⟨o,its,n,hk,hc,hd,hs,hz,r⟩
 ·obtain⟨z,its,n,r,e⟩:=h.ok I.hok;exact⟨its,r,⟨_,n,e,rfl,rfl,rfl⟩,z⟩
 refine⟨its.toList,r,⟨o,n,I.kIn a o hk,hc,hd,by simpa using hs⟩,?_⟩;have e:=r.length;simp only [GU] at e;omega
def Inv.tuple (I:Inv X pins σ H s)(h:SqT X.K H a xs):∃ its:List Value,Vals xs its/\IsTup s.heap a its.toArray/\xs.length<=sizeLine:=by
 rcases h with h | ⟨o,its,n,hk,hc,hs,hz,r⟩
 ·obtain⟨z,its,r,p⟩:=h.ok I.hok;exact⟨its,r,p,z⟩
 refine⟨its.toList,r,⟨o,I.kIn a o hk,hc,n,by simpa using hs⟩,?_⟩;have e:=r.length;simp only [GU] at e;omega
def Inv.list_inj (I:Inv X pins σ H s)(h:SqL X.K H a xs)(h':SqL X.K H a ys):xs=ys:=by
 obtain⟨its,r,⟨o,n,e,_,_,d⟩,_⟩:=I.list h;obtain⟨its',r',⟨o',n',e',_,_,d'⟩,_⟩:=I.list h';rw[e] at e';cases e';rw[d] at d';injection d' with d1 _
 have:its=its':=by simpa using congrArg Array.toList d1
 subst this;exact r.inj r'
def Inv.tuple_inj (I:Inv X pins σ H s)(h:SqT X.K H a xs)(h':SqT X.K H a ys):xs=ys:=by
 obtain⟨its,r,⟨o,e,_,n,d⟩,_⟩:=I.tuple h;obtain⟨its',r',⟨o',e',_,n',d'⟩,_⟩:=I.tuple h';rw[e] at e';cases e';rw[d] at d';injection d' with d1 _
 have:its=its':=by simpa using congrArg Array.toList d1
 subst this;exact r.inj r'
end
abbrev Cx.wish (X:Cx)(E:TC):Cx:={ X with xe:=E }
abbrev Cx.nox (X:Cx):Cx:=X.wish λ_ _=>False
theorem Cx.Ok.wish {X:Cx}(ok:X.Ok)(E:TC):(X.wish E).Ok :=
 ⟨ok.mod,ok.kind,ok.glob,ok.blt,ok.above,ok.inj,ok.has,ok.cab,ok.hd,ok.frames,ok.stk,ok.exf,ok.bs,ok.bsz,ok.noex,ok.exfs,ok.funs,ok.frf,ok.seen,ok.dpt⟩
def Cx.Ok.unwish (ok:(X.wish E).Ok):X.Ok :=
 ⟨ok.mod,ok.kind,ok.glob,ok.blt,ok.above,ok.inj,ok.has,ok.cab,ok.hd,ok.frames,ok.stk,ok.exf,ok.bs,ok.bsz,ok.noex,ok.exfs,ok.funs,ok.frf,ok.seen,ok.dpt⟩
section
variable {X:Cx}{σ:St}{H:Hp}
theorem Inv.wish (I:Inv X pins σ H s)(E:TC):Inv (X.wish E) pins σ H s:=⟨I.ok.wish E,I.os,I.bare,I.base,I.loc,I.cell,I.free,I.freeC,I.pin,I.hok,I.len⟩
theorem Inv.unwish (I:Inv (X.wish E) pins σ H s):Inv X pins σ H s:=⟨I.ok.unwish,I.os,I.bare,I.base,I.loc,I.cell,I.free,I.freeC,I.pin,I.hok,I.len⟩
theorem SP.unwish {D:Ends}{f:Flow}{s':Shared}(h:SP (X.wish E) pins D f s'):SP X pins D f s':=by
 cases f with
 | next=>obtain⟨σ',H',I,q⟩:=h;exact⟨σ',H',I.unwish,q⟩
 | brk=>obtain⟨σ',H',I,q⟩:=h;exact⟨σ',H',I.unwish,q⟩
 | cont=>obtain⟨σ',H',I,q⟩:=h;exact⟨σ',H',I.unwish,q⟩
 | ret u=>obtain⟨v,σ',H',I,r,q⟩:=h;exact⟨v,σ',H',I.unwish,r,q⟩
theorem PSs.nox {st:TM}{t:TS}(h:PSs X.nox st t):PSs X st t:=λpins s σ H D I hw =>
 GO (h pins s σ H D (I.wish _) hw) (λ_ _ q=>q.unwish) λ_ _ z=>False.elim z
end
section
variable {X:Cx}{rest:TM}{t u:TS}{e:Expr}{te:TE}
def tNext:TS:=λD σ H=>D.nx σ H
def tSeq (t u:TS):TS:=λD σ H=>t { D with nx:=u D } σ H
theorem Zv:PSs X [] tNext:=λ_ _ σ H _ I h=>js ⟨σ,H,I,h⟩
theorem Z8 (h1:PS X st t)(h2:PSs X rest u):PSs X (st::rest) (tSeq t u):=by
 intro pins s σ H D I h;refine wpAny_execs_cons (thn (h1 pins s σ H { D with nx:=u D } I h) λf s1 q=>?_)
 cases f with
 | next =>
  obtain⟨σ',H',a,q⟩:=q;exact h2 pins s1 σ' H' D a q
 | ret v=>exact q
 | brk=>exact q
 | cont=>exact q
theorem Zb (h1:PS X st t):PSs X [st] t:=by
 intro pins s σ H D I h;refine wpAny_execs_cons (thn (h1 pins s σ H D I h) λf s1 q=>?_)
 cases f with
 | next=>exact js q
 | ret v=>exact q
 | brk=>exact q
 | cont=>exact q
def Inv.quiet (I:Inv X pins σ H s):interactive X.env=false:=by simp[interactive,I.ok.kind]
def tDrop (te:TE):TS:=λD σ H=>te σ H λ_ H1=>D.nx σ H1
theorem Xl (a:PE X e te)(hs:swapsWith e none pos.line X.env=pure false:=by rfl):PS X (.Expr e pos) (tDrop te):=by
 intro pins s σ H D I h;exact wpAny_Expr_any (thn (a pins s σ H _ I h) λv s1 ⟨x,H1,b,r1,c⟩=>⟨σ,H1,b,c⟩) I.quiet hs
def tRet (te:TE):TS:=λD σ H=>te σ H D.rt
theorem Zg (a:PE X e te):PS X (.Return (some e) pos) (tRet te):=by
 intro pins s σ H D I h;exact wpAny_Return_some (thn (a pins s σ H _ I h) λv s1 ⟨x,H1,b,r1,c⟩=>⟨x,σ,H1,b,r1,c⟩)
def tIfS (c:TT)(t u:TS):TS:=λD σ H=>c σ H λb H1=>if b=true then t D σ H1 else u D σ H1
theorem Y9 {c:Expr}{a b:TM}{tc:TT}(hc:PT X c tc)(ha:PSs X a t)(g:PSs X b u):PS X (.If c a b pos) (tIfS tc t u):=by
 intro pins s σ H D I h;refine wpAny_If (thn (hc pins s σ H _ I h) λd s1 ⟨H1,f,e⟩=>?_)
 cases d with
 | true=>exact ha pins s1 σ H1 D f e
 | false=>exact g pins s1 σ H1 D f e
def tNever:TS:=λ_ _ _=>False
def V6:PS X st tNever:=λ_ _ _ _ _ _ h=>h.elim
end
abbrev TG:=V->St->Hp->(St->Hp->Prop)->Prop
abbrev TGs:=List V->St->Hp->(St->Hp->Prop)->Prop
def PG (X:Cx)(a:Expr)(t:TG):Prop :=
 ∀ (pins:TD) (s:Shared) (σ:St) (H:Hp) (v:V) (u:Value) (Q:St->Hp->Prop),Inv X pins σ H s->RelV v u->t v σ H Q →
  wX X (assign a X.env u) (λ_ s'=>∃ σ' H',Inv X pins σ' H' s'/\Q σ' H') X.xe s
def PGs (X:Cx)(ts:TL)(t:TGs):Prop :=
 ∀ (pins:TD) (s:Shared) (σ:St) (H:Hp) (vs:TZ) (us:TH) (Q:St->Hp->Prop),Inv X pins σ H s->Vals vs us->t vs σ H Q →
  wX X (assignInOrder ((assignEach ts X.env).map (·.2)) us) (λ_ s'=>∃ σ' H',Inv X pins σ' H' s'/\Q σ' H') X.xe s
abbrev TSet:=V->V->V->Hp->(Hp->Prop)->Prop
def PSet (X:Cx)(t:TSet):Prop :=
 ∀ (pins:TD) (s:Shared) (σ:St) (H:Hp) (o i v:V) (ov iv u:Value) (Q:Hp->Prop),Inv X pins σ H s->RelV o ov->RelV i iv->RelV v u->t o i v H Q →
  wX X (setItem ov iv u) (λ_ s'=>∃ H',Inv X pins σ H' s'/\Q H') X.xe s
section
variable {X:Cx}
def gName (i:Nat):TG:=λv σ H Q=>Q (σ.set i (some v)) H
theorem Zj {x:Str}(hN:X.N.Nodup)(hi:X.N[i]?=some x)(hx:Loc X.env.scope x)(hf:X.fn x=true \/ X.env.scope.names.lookup x=some .local:=by first | exact .inl rfl | exact .inr rfl | assumption):PG X (.Name x pos) (gName i):=by
 intro pins s σ H v u Q I r h;exact wpAny_assign_Name (Lb I hN hi hx r (λs' a=>⟨_,H,a,h⟩) hf)
def gNil:TGs:=λvs σ H Q=>vs=[]/\Q σ H
inductive gCons (t:TG) (u:TGs) (vs:TZ) (σ:_L.St) (H:Hp) (Q:(_L.St->Hp->Prop)):Prop
 | mk (v r:_) (zz0:vs=v::r) (zz1:t v σ H λσ' H'=>u r σ' H' Q)
theorem Xh:PGs X [] gNil:=by
 intro pins s σ H vs us Q I r h;obtain⟨e,h⟩:=h;subst e
 cases r;exact assignInOrder_nil ⟨σ,H,I,h⟩
theorem Y3 {e:Expr}{es:TL}{t:TG}{u:TGs}(h1:PG X e t)(h2:PGs X es u)
  (hs:(assignEach (e::es) X.env).map (·.2)=assign e X.env::(assignEach es X.env).map (·.2):=by rfl):PGs X (e::es) (gCons t u):=by
 intro pins s σ H vs us Q I r h;obtain⟨v,d,e1,h⟩:=h;subst e1
 cases r with
 | cons r rr =>
  rw[hs];refine assignInOrder_cons (thn (h1 pins s σ H _ _ _ I r h) λ_ s1 ⟨a,H1,c,b⟩=>?_);exact h2 pins s1 a H1 _ _ Q c rr b
inductive gTup (K:TR) (n:Nat) (t:TGs) (v:V) (σ:_L.St) (H:Hp) (Q:(_L.St->Hp->Prop)):Prop
 | mk (a xs:_) (zz0:v=.ref a) (zz1:SqT K H a xs) (zz2:xs.length=n) (zz3:t xs σ H Q)
theorem Wb {es:TL}{k:Nat}{t:TGs}{n:Nat}(hc:X.calm=true)(h:PGs X es t)
  (hn:(assignEach es X.env).length=n:=by rfl) (c:(assignEach es X.env).findIdx? (·.1)=none:=by rfl):PG X (.Tuple es k pos) (gTup X.K n t):=by
 intro pins s σ H v u Q I r hw;obtain⟨a,xs,e1,hq,hl,hw⟩:=hw;subst e1
 cases r;obtain⟨its,rv,f,hz⟩:=I.tuple hq;refine _b.Pl (I.qt hc) f (by simp[hn,<-hl,rv.length]) c λh' hx=>?_;have d:Inv X pins σ H { s with heap:=h' }:=I.kept (t':=s.toks) λb o e=>hx b o (XB (YL e)) e;exact h pins _ σ H xs _ Q d (by simpa using rv) hw
def gSub (to b:TE)(t:TSet):TG:=λv σ H Q=>to σ H λo H1=>b σ H1 λi H2=>t o i v H2 λa=>Q σ a
theorem Uv {o i:Expr}{to a:TE}{t:TSet}(ho:PE X o to)(hi:PE X i a)(hs:PSet X t)
  (ha:∀ v,assign (.Subscript o i pos) X.env v=(do
   let ov <-holding [v] (eval o X.env);let iv <-holding [v,ov] (eval i X.env)
   standAt pos
   holding [v,ov,iv] (setItem ov iv v)
   release [v,ov,iv] []):=by intro _;rfl):PG X (.Subscript o i pos) (gSub to a t):=by
 intro pins s σ H v u Q I r h;rw[ha];refine YA (JO (thn (ho pins s σ H _ I h) λov s1 ⟨x,H1,j,r1,f⟩=>?_));refine YA (JO (thn (hi pins s1 σ H1 _ j f) λiv s2 ⟨y,H2,e,r2,c⟩=>?_));refine YA (jc (YA (JO (thn (hs pins s2 σ H2 x y v ov iv u _ e r1 r2 r c) λ_ k ⟨g,b,d⟩=>?_))));exact wpAny_release ⟨σ,g,b,d⟩
def tAsg (te:TE)(g:TG):TS:=λD σ H=>te σ H λx H1=>g x σ H1 D.nx
theorem U0 {e:Expr}{g:TG}(b:PE X e te)(hg:PG X tg g)(hs:swapsWithSole [tg] e pos.line X.env=pure false:=by rfl)(hw:swappedStores [tg] e X.env=pure none:=by rfl)
  (h1:(assignEach [tg] X.env).map (·.2)=[assign tg X.env]:=by rfl):PS X (.Assign [tg] e pos) (tAsg te g):=by
 intro pins s σ H D I h;refine wpAny_Assign_stores (thn (b pins s σ H _ I h) λv s1 ⟨x,H1,c,r1,a⟩=>?_) hs hw;rw[h1];exact thn (hg pins s1 σ H1 x v _ c r1 a) λ_ s2 q=>q
theorem Zi {x:Str}{e:Expr}(hN:X.N.Nodup)(hi:X.N[i]?=some x)(hx:Loc X.env.scope x)(c:PE X e te)(hs:swapsWith e (some (.Name x pos')) pos.line X.env=pure false:=by rfl)(hf:X.fn x=true \/ X.env.scope.names.lookup x=some .local:=by first | exact .inl rfl | exact .inr rfl | assumption) :
  PS X (.Assign [.Name x pos'] e pos) (tAsg te (gName i)):=by
 intro pins s σ H D I h;refine wpAny_Assign_Name (thn (c pins s σ H _ I h) λv s1 ⟨y,H1,d,r1,b⟩=>?_) hs;exact Lb d hN hi hx r1 (λs2 a=>⟨_,H1,a,b⟩) hf
def tWhile (c:TT)(tb:TS):TS:=λD σ H=>∃ W:Nat->St->Hp->Prop,(∃ m,W m σ H)/\∀ m σ H,W m σ H →
 c σ H λb H1=>if b=true then ∃ N:St->Hp->Prop,(∀ σ' H',N σ' H'->∃ a,a<m/\W a σ' H')/\tb { D with nx:=N,ct:=N,bk:=D.nx } σ H1 else D.nx σ H1
theorem Qd {c:Expr}{body:TM}{tc:TT}{tb:TS}(hp:PassesOwn (model X.prog X.w) X.A X.env X.xe)(hc:PT X c tc)(t:PSs X body tb):PS X (.While c body [] pos) (tWhile tc tb):=by
 intro pins s σ H D I h;obtain⟨W,⟨q,u⟩,e⟩:=h;refine wpAny_While (codeAny_whileLoop (λn s'=>∃ σ' H',Inv X pins σ' H' s'/\W n σ' H') ?_ q ⟨σ,H,I,u⟩);rintro n s1 ⟨d,H1,r,x⟩;refine zE hp (thn (hc pins s1 d H1 _ r (e n d H1 x)) λb s2 ⟨H2,p,i⟩=>?_)
 cases b with
 | true =>
  obtain⟨N,hN,i⟩:=i;rw[YG rfl];refine zE hp (thn (t pins s2 d H2 _ p i) λf y j=>?_)
  cases f with
  | next =>
   obtain⟨a,g,k,m⟩:=j;obtain⟨o,hm,l⟩:=hN a g m;exact⟨o,hm,a,g,k,l⟩
  | cont =>
   obtain⟨a,g,k,m⟩:=j;obtain⟨o,hm,l⟩:=hN a g m;exact⟨o,hm,a,g,k,l⟩
  | brk=>exact j
  | ret v=>exact j
 | false =>
  rw[YD YO];exact js ⟨d,H2,p,i⟩
end
structure It where
 go:Nat->Hp->Prop
 yld:Nat->Hp->V->Hp->Prop
 stop:Nat->Hp->Prop
def FpOk (X:Cx)(pins:TD)(H:Hp)(b:Addr):Prop :=
 H b=none/\b≠X.env.locals/\b ∉ X.fs/\(b∈X.ex \/ X.s₀.heap.objs.size<=b)/\(∀ x c,X.env.cells.lookup x=some c->c≠b)/\∀ p∈X.pn++pins,p.1≠b
theorem Inv.fpOk {b:Addr}(I:Inv X pins σ H s)(a:s.heap.objs.size<=b)(hn:H' b=none):FpOk X pins H' b:=by
 refine⟨hn,GC (YQ I.lt a),I.nofs a,.inr (YM I.sz a),λx c e z=>?_,λp hp z=>?_⟩
 ·obtain⟨v,q⟩:=I.cell x c e;exact absurd (YQ q.lt (by rw[z];exact a)) (JA _)
 exact absurd (YQ (YL (I.pin p hp).1) (by rw[z];exact a)) (JA _)
structure Turn (P:TU)(w:World)(K:TR)(tg:Expr)(J:It)(fp:TJ)(it:Addr)(tn:Nat->Heap->Prop):Prop where
 mem:it∈fp
 obj:∀ i h,tn i h->∀ b∈fp,∃ o,h.get? b=some o/\∀ v,o.data≠.cell v
 keep:∀ i h h',tn i h->(∀ b∈fp,∀ o,h.get? b=some o->h'.get? b=some o)->tn i h'
 item:∀ (X:Cx),X.prog=P->X.w=w->X.K=K->X.calm=true->∀ (i:Nat) (pins:TD) (s:Shared) (σ:St) (H:Hp) (E:TC),Inv X pins σ H s->(∀ b∈fp,FpOk X pins H b)->tn i s.heap->J.go i H →
  wpAny (model P w) X.A (pyNext (.ref it)) (λr s1=>∃ u,r=some u ∧
   wpAny (model P w) X.A (letOwnedTupleGo tg (.ref it) u) (λ_ s2=>∃ x H',Inv X pins σ H' s2/\RelV x u/\J.yld i H x H'/\tn (i+1) s2.heap/\∀ b∈fp,H' b=none) E s1) E s
 done:∀ (X:Cx),X.prog=P->X.w=w->X.K=K->X.calm=true->∀ (i:Nat) (pins:TD) (s:Shared) (σ:St) (H:Hp) (E:TC),Inv X pins σ H s->(∀ b∈fp,FpOk X pins H b)->tn i s.heap->J.stop i H →
  wpAny (model P w) X.A (pyNext (.ref it)) (λr s1=>r=none/\Inv X pins σ H s1) E s
 self:∀ (A:Around) (i:Nat) (s:Shared) (Q:TC) (E:TC),tn i s.heap->Q (.ref it) s->wpAny (model P w) A (pyIter (.ref it)) Q E s
abbrev TI:=St->Hp->(It->Hp->Prop)->Prop
def PIE (X:Cx)(pins:TD)(σ:St)(tg:Expr)(R:It->Hp->Prop)(a:Value)(s2:Shared):Prop :=
 ∃ (it:Addr) (fp:TJ) (tn:Nat->Heap->Prop) (J:It) (H':Hp),a=.ref it/\Inv X pins σ H' s2/\Turn X.prog X.w X.K tg J fp it tn/\tn 0 s2.heap/\(∀ b∈fp,FpOk X pins H' b)/\R J H'
def PI (X:Cx)(tg a:Expr)(b:TI):Prop :=
 ∀ (pins:TD) (s:Shared) (σ:St) (H:Hp) (R:It->Hp->Prop),Inv X pins σ H s->b σ H R →
  wX X (eval a X.env) (λv s1=>wX X (pyIter v) (PIE X pins σ tg R) X.xe s1) X.xe s
def Fi {M:Model}{A:Around}{E:TC}{s:Shared}{tg:Expr}{it:Addr}{u:Value}{o:Obj}{n:String}{vs:Array Value}{Q:Unit->Shared->Prop}(ho:s.heap.get? it=some o)(hc:o.cls=.type n)(hd:o.data=.fields vs)
  (hn:["enumerate","zip","dict_itemiterator","dict_reverseitemiterator","odict_iterator","itertools.zip_longest","itertools.pairwise"].contains n=false) (a:Q () s):wpAny M A (letOwnedTupleGo tg (.ref it) u) Q E s:=by
 unfold letOwnedTupleGo
 cases tg <;> first
  | exact YK a
  | (cases u <;> first
    | exact YK a
    | (refine YA (wpAny_load ho ?_)
       rw[hc,hd];show wpAny M A (if (["enumerate","zip","dict_itemiterator","dict_reverseitemiterator","odict_iterator","itertools.zip_longest","itertools.pairwise"].contains n && vs[0]? == some (rawInt _))=true then _ else _) Q E s;rw[YD (by intro h;rw[hn,Bool.false_and] at h;cases h)];exact YK a))
def Itl (K:TR)(a:Addr):It :=
 ⟨λi H=>∃ xs x,SqL K H a xs/\xs[i]?=some x,λi H x H'=>H'=H/\∀ xs,SqL K H a xs->xs[i]?=some x,λi H=>∃ xs,SqL K H a xs/\xs.length<=i⟩
def Itt (K:TR)(a:Addr):It :=
 ⟨λi H=>∃ xs x,SqT K H a xs/\xs[i]?=some x,λi H x H'=>H'=H/\∀ xs,SqT K H a xs->xs[i]?=some x,λi H=>∃ xs,SqT K H a xs/\xs.length<=i⟩
def Itr (lo:Int)(n:Nat):It:=⟨λi _=>i<n,λi H x H'=>H'=H/\x=.int (lo+i),λi _=>n<=i⟩
theorem Sd {P:TU}(a it:Addr):Turn P w K tg (Itl K a) [it] it (λi h=>h.IsListIter it a i) where
 mem:=J7
 obj:=λi h st b f=>by
  have e:b=it:=by simpa using f
  subst e;obtain⟨o,e,c,d⟩:=st;exact⟨o,e,λv z=>by rw[d] at z;cases z⟩
 keep:=λi h h' st k=>st.at λo e=>k it J7 o e
 item:=by
  intro X n hw hK hc i pins s σ H E I hf st hg;subst n hw hK;obtain⟨xs,x,hq,hx⟩:=hg;obtain⟨its,rv,p,hz⟩:=I.list hq;obtain⟨u,hu,ru⟩:=rv.get hx;obtain⟨l,f1,f2,q,m,j⟩:=hf it J7;refine wpAny_pyNext_list_item st p.isList (x:=u) (by simpa using hu) λh' g y=>?_;have A:Inv X pins σ H { s with heap:=h' }:=I.turned (t':=s.toks) (λb o f e=>(y.2 b f).trans e) l f1 q m j;obtain⟨o,e,c,d⟩:=id g;exact⟨u,rfl,Fi (s:={ s with heap:=h' }) e c d J6 ⟨x,H,A,ru,⟨rfl,λys r=>by rw[I.list_inj r hq];exact hx⟩,g,λb f=>(hf b f).1⟩⟩
 done:=by
  intro X n hw hK hc i pins s σ H E I hf st hg;subst n hw hK;obtain⟨xs,hq,hx⟩:=hg;obtain⟨its,rv,p,hz⟩:=I.list hq;obtain⟨l,f1,f2,q,m,j⟩:=hf it J7;have hl:=rv.length;exact _b.Qp (I.qt hc) st p.isList (by simp;omega) λh' t=>⟨rfl,I.turned (t':=s.toks) (λb o f e=>t b o f e) l f1 q m j⟩
 self:=λ_ _ _ _ _ st h=>wpAny_pyIter_listiter st h
theorem Up {P:TU}(a it:Addr):Turn P w K tg (Itt K a) [it] it (λi h=>h.IsTupleIter it a i) where
 mem:=J7
 obj:=λi h st b f=>by
  have e:b=it:=by simpa using f
  subst e;obtain⟨o,e,c,d⟩:=st;exact⟨o,e,λv z=>by rw[d] at z;cases z⟩
 keep:=λi h h' st k=>st.at λo e=>k it J7 o e
 item:=by
  intro X n hw hK hc i pins s σ H E I hf st hg;subst n hw hK;obtain⟨xs,x,hq,hx⟩:=hg;obtain⟨its,rv,p,hz⟩:=I.tuple hq;obtain⟨u,hu,ru⟩:=rv.get hx;obtain⟨l,f1,f2,q,m,j⟩:=hf it J7;refine wpAny_pyNext_tuple_item st (show s.heap.IsTuple a its.toArray from p) (x:=u) (by simpa using hu) λh' g y=>?_;have A:Inv X pins σ H { s with heap:=h' }:=I.turned (t':=s.toks) (λb o f e=>(y.2 b f).trans e) l f1 q m j;obtain⟨o,e,c,d⟩:=id g;exact⟨u,rfl,Fi (s:={ s with heap:=h' }) e c d J6 ⟨x,H,A,ru,⟨rfl,λys r=>by rw[I.tuple_inj r hq];exact hx⟩,g,λb f=>(hf b f).1⟩⟩
 done:=by
  intro X n hw hK hc i pins s σ H E I hf st hg;subst n hw hK;obtain⟨xs,hq,hx⟩:=hg;obtain⟨its,rv,p,hz⟩:=I.tuple hq;obtain⟨l,f1,f2,q,m,j⟩:=hf it J7;have hl:=rv.length;exact _b.R0 (I.qt hc) st (show s.heap.IsTuple a its.toArray from p) (by simp;omega) λh' t=>⟨rfl,I.turned (t':=s.toks) (λb o f e=>t b o f e) l f1 q m j⟩
 self:=λ_ _ _ _ _ st h=>wpAny_pyIter_tupleiter st h
theorem Kr {P:TU}(it:Addr)(lo:Int)(n:Nat):Turn P w K tg (Itr lo n) [it] it (λi h=>IsRangeIter h it (lo+(i:Nat)*1) ((n:Int) - (i:Nat)) 1) where
 mem:=J7
 obj:=λi h st b a=>by
  have e:b=it:=by simpa using a
  subst e;exact⟨_,st,λv z=>by
   have r:Data.fields _=Data.cell v:=z
   cases r⟩
 keep:=λi h h' st k=>k it J7 _ st
 item:=by
  intro X j hw hK hc i pins s σ H E I hf st hg;subst j hw hK;obtain⟨f,f1,f2,l,g,d⟩:=hf it J7;refine _b.Qa i s _ _ hg st λv h' tk p c kk=>?_;obtain⟨t,rfl⟩:=p;have q:Inv X pins σ H { s with heap:=h',toks:=tk }:=I.turned (λb o a e=>kk b o (by simpa using a) e) f f1 l g d;refine⟨_,rfl,Fi (s:={ s with heap:=h',toks:=tk }) (n:="range_iterator") c rfl rfl J6 ⟨.int (lo+i),H,q,⟨t,?_⟩,⟨rfl,rfl⟩,c,λb a=>(hf b a).1⟩⟩;rw[zv]
 done:=by
  intro X j hw hK hc i pins s σ H E I hf st hg;subst j hw hK;obtain⟨f,f1,f2,l,g,d⟩:=hf it J7;exact _b.Rc (I.qt hc) st (by have:n<=i:=hg;omega) λh' m=>⟨rfl,I.turned (t':=s.toks) (λb o a e=>m b o a e) f f1 l g d⟩
 self:=λ_ _ _ _ _ st h=>wpAny_pyIter_rangeiter st h
section
variable {X:Cx}
inductive iList_i (K:TR) (R:(It->Hp->Prop)) (x:V) (H1:Hp):Prop
 | mk (a:_) (zz0:x=.ref a) (zz1:(∃ xs,SqL K H1 a xs)) (zz2:R (Itl K a) H1)
def iList (K:TR)(tl:TE):TI:=λσ H R=>tl σ H (iList_i K R)
inductive iTup_i (K:TR) (R:(It->Hp->Prop)) (x:V) (H1:Hp):Prop
 | mk (a:_) (zz0:x=.ref a) (zz1:(∃ xs,SqT K H1 a xs)) (zz2:R (Itt K a) H1)
def iTup (K:TR)(tl:TE):TI:=λσ H R=>tl σ H (iTup_i K R)
theorem Yk {l:Expr}(hl:PE X l tl):PI X tg l (iList X.K tl):=by
 intro pins s σ H R I h;refine thn (hl pins s σ H _ I h) λv s1 ⟨x,H1,c,r1,d⟩=>?_;obtain⟨a,e,⟨xs,hq⟩,q⟩:=d;subst e
 cases r1;obtain⟨its,rv,p,hz⟩:=c.list hq;refine zL p.isList ?_;refine⟨s1.heap.objs.size,[s1.heap.objs.size],_,_,H1,rfl,c.kept (t':=s1.toks) λb o e=>YB _ e,Sd a _,⟨_,YN _ rfl,rfl,rfl⟩,λb f=>?_,q⟩;have e:b=s1.heap.objs.size:=by simpa using f
 subst e;exact c.fpOk (YJ _) (c.hok.fresh (YJ _))
theorem Qf {l:Expr}(hl:PE X l tl):PI X tg l (iTup X.K tl):=by
 intro pins s σ H R I h;refine thn (hl pins s σ H _ I h) λv s1 ⟨x,H1,c,r1,d⟩=>?_;obtain⟨a,e,⟨xs,hq⟩,q⟩:=d;subst e
 cases r1;obtain⟨its,rv,p,hz⟩:=c.tuple hq;refine jy (show s1.heap.IsTuple a its.toArray from p) ?_;refine⟨s1.heap.objs.size,[s1.heap.objs.size],_,_,H1,rfl,c.kept (t':=s1.toks) λb o e=>YB _ e,Up a _,⟨_,YN _ rfl,rfl,rfl⟩,λb f=>?_,q⟩;have e:b=s1.heap.objs.size:=by simpa using f
 subst e;exact c.fpOk (YJ _) (c.hok.fresh (YJ _))
def Z0l {R:It->Hp->Prop}{lo hi:Int}{t u v:Tok}{tk:Nat}(I:Inv X pins σ H s)(h1:-(2 ^ 62)<=lo)(h2:lo<2 ^ 62)(c:-(2 ^ 62)<=hi)(f:hi<2 ^ 62)
  (q:R (Itr lo (hi - lo).toNat) H):wX X (pyIter (.ref s.heap.objs.size)) (PIE X pins σ tg R) E { s with heap:=s.heap.push { cls:=.type "range",data:=.fields #[.int lo t,.int hi u,.int 1 v] },toks:=tk }:=by
 refine wpAny_pyIter_range (IsRange.new ..) (small_one h1 h2 c f) ?_;have a:Inv X pins σ H { s with heap:=s.heap.push { cls:=.type "range",data:=.fields #[.int lo t,.int hi u,.int 1 v] },toks:=tk }:=I.kept λb o e=>YB _ e;refine⟨(s.heap.push { cls:=.type "range",data:=.fields #[.int lo t,.int hi u,.int 1 v] }).objs.size,[(s.heap.push { cls:=.type "range",data:=.fields #[.int lo t,.int hi u,.int 1 v] }).objs.size],_,_,H,rfl,
  a.kept (t':=tk) λb o e=>YB _ e,Kr _ lo (hi - lo).toNat,?_,λb d=>?_,q⟩
 ·have e1:lo+((0:Nat):Int)*1=lo:=J7
  have e2:(((hi - lo).toNat:Nat):Int) - ((0:Nat):Int)=Builtin.Range.rangeSize lo hi 1:=by rw[rangeSize_one];split <;> omega
  show IsRangeIter _ _ (lo+((0:Nat):Int)*1) ((((hi - lo).toNat:Nat):Int) - ((0:Nat):Int)) 1;rw[e1,e2];exact YN _ rfl
 have e:b=(s.heap.push { cls:=.type "range",data:=.fields #[.int lo t,.int hi u,.int 1 v] }).objs.size:=by simpa using d
 subst e;exact a.fpOk (YJ _) (a.hok.fresh (YJ _))
inductive iRng1_i (R:(It->Hp->Prop)) (vs:TZ) (H1:Hp):Prop
 | mk (j:Int) (zz0:vs=[.int j]) (zz1:-(2 ^ 62)<=j) (zz2:j<2 ^ 62) (zz3:R (Itr 0 j.toNat) H1)
def iRng1 (ta:TA):TI:=λσ H R=>ta σ H (iRng1_i R)
theorem Yy {a:Expr}{ta:TA}{p pos:Pos}(hg:Gl X "range")(hm:X.mg "range"=none)(ha:PA X [a] ta)(hs:starEach [a] X.env=[(false,eval a X.env)]:=by rfl):PI X tg (.Call (.Name "range" p) [a] [] pos) (iRng1 ta):=by
 intro pins s σ H R I h;refine Call_ (Wq I hg hm boot_range (JM (thn (ha pos pins s σ H _ I h) λus s1 ⟨vs,H1,d,r1,b⟩=>?_) hs rfl));obtain⟨j,e,b,c,q⟩:=b;subst e
 cases r1 with
 | cons r rr =>
  cases rr;obtain⟨t,rfl⟩:=r;exact call_range_1 (Z0l d J5 J5 b c (by simpa using q))
def tFor (c:TI)(g:TG)(tb:TS):TS:=λD σ H=>c σ H λJ H1=>∃ W:Nat->Nat->St->Hp->Prop,(∃ m,W 0 m σ H1)/\∀ i m σ H,W i m σ H →
 (J.stop i H/\D.nx σ H) \/ (J.go i H/\∃ N:St->Hp->Prop,(∀ σ' H',N σ' H'->∃ b,b<m/\W (i+1) b σ' H')/\∀ x H',J.yld i H x H'->g x σ H' λa H2=>tb { D with nx:=N,ct:=N,bk:=D.nx } a H2)
def pinsAt (fp:TJ)(h:Heap):List (Addr × Obj):=fp.filterMap λb=>(h.get? b).map λo=>(b,o)
def Vn {fp:TJ}{b:Addr}{o:Obj}(a:b∈fp)(e:h.get? b=some o):(b,o)∈pinsAt fp h:=Y0N.mpr ⟨b,a,by rw[e];rfl⟩
def C0 {fp:TJ}{h:Heap}{p:Addr × Obj}(hp:p∈pinsAt fp h):p.1∈fp/\h.get? p.1=some p.2:=by
 obtain⟨b,a,e⟩:=Y0N.mp hp
 cases q:h.get? b with
 | none=>rw[q] at e;cases e
 | some o =>
  rw[q] at e;have e':(b,o)=p:=YR e;subst e';exact⟨a,q⟩
def Inv.pinned {fp:TJ}(I:Inv X pins σ H s)(hf:∀ b∈fp,FpOk X pins H b)(ho:∀ b∈fp,∃ o,s.heap.get? b=some o/\∀ v,o.data≠.cell v):Inv X (pins++pinsAt fp s.heap) σ H s :=
 I.pins_of λp hp=>(XS.mp hp).elim (λz=>I.pin p (YX _ z)) λz=>by
  obtain⟨a,e⟩:=C0 z;obtain⟨c,f1,f2,_⟩:=hf p.1 a;obtain⟨o,e',d⟩:=ho p.1 a;rw[e] at e';cases e';exact⟨e,c,f1,f2,d⟩
def Inv.unpinned {pl:TD}(I:Inv X (pins++pl) σ H s):Inv X pins σ H s:=I.pins_of λp hp=>I.pin p (YX _ (XJ _ hp))
theorem Xq {t:Expr}{body:TM}{S:TI}{g:TG}{tb:TS}{pos:Pos}(hp:PassesOwn (model X.prog X.w) X.A X.env X.xe)(hc:X.calm=true)(hi:PI X tg t S)(hg:PG X tg g)(q:PSs X body tb)
  (hs:∀ x,foldedSetIterable t X.env x=pure x:=by intro _;rfl):PS X (.For tg t body [] pos) (tFor S g tb):=by
 intro pins s σ H D I h;refine wpAny_For (thn (hi pins s σ H _ I h) λv s1 h1=>thn h1 λa0 s2 h2=>?_) hs;obtain⟨it,fp,tn,J,H2,e,I2,T,K,f2,W,⟨m0,w0⟩,C⟩:=h2;subst e;have l:∀ {H':Hp},(∀ b∈fp,H' b=none)->∀ b∈fp,FpOk X pins H' b:=λhn b q=>⟨hn b q,(f2 b q).2⟩;refine codeAny_forLoop_any (λn s'=>∃ i σ' H',Inv X pins σ' H' s'/\tn i s'.heap/\(∀ b∈fp,H' b=none)/\W i n σ' H') ?_ m0 ⟨0,σ,H2,I2,K,λb q=>(f2 b q).1,w0⟩;rintro n U ⟨i,c,G,Q,F,B,Y⟩;rcases C i n c G Y with ⟨stop,qn⟩ | ⟨go,N,hN,step⟩
 ·refine zE hp (thn (T.done X rfl rfl rfl hc i pins U c G X.xe Q (l B) F stop) λr s4 ⟨hr,I4⟩=>?_);subst hr;exact js ⟨c,G,I4,qn⟩
 refine zE hp (thn (T.item X rfl rfl rfl hc i pins U c G X.xe Q (l B) F go) λr s4 ⟨u,hr,h4⟩=>?_);subst hr;refine zE hp (thn h4 λ_ R ⟨x,H5,I5,V,Z,z,P⟩=>?_);have O:=I5.pinned (l P) (T.obj _ _ z);refine zE hp (thn (hg _ R c H5 x u _ O V (step x H5 Z)) λ_ s6 ⟨M,H6,I6,q6⟩=>?_);refine zE hp (thn (q _ s6 M H6 _ I6 q6) λf L y=>?_);have j:∀ {a:St} {k:Hp},Inv X (pins++pinsAt fp R.heap) a k L->N a k->∃ m,m<n/\∃ i σ' H',Inv X pins σ' H' L/\tn i L.heap/\(∀ b∈fp,H' b=none)/\W i m σ' H':=λ{a k} p E=>by
  obtain⟨m',hm,w7⟩:=hN a k E;refine⟨m',hm,i+1,a,k,p.unpinned,T.keep _ _ _ z λb q o e=>(p.pin (b,o) (YX _ (YX _ (Vn q e)))).1,λb q=>?_,w7⟩;obtain⟨o,e,d⟩:=T.obj _ _ z b q;exact (p.pin (b,o) (YX _ (YX _ (Vn q e)))).2.1
 cases f with
 | next=>obtain⟨a,k,p,E⟩:=y;exact j p E
 | cont=>obtain⟨a,k,p,E⟩:=y;exact j p E
 | brk=>obtain⟨a,k,p,y⟩:=y;exact⟨a,k,p.unpinned,y⟩
 | ret v=>obtain⟨x7,a,k,p,r7,y⟩:=y;exact⟨x7,a,k,p.unpinned,r7,y⟩
end
def U8 {a:Addr}{g:TG}{D:Ends}(b:Nat->St->Hp->Prop)(h0:b 0 σ H)(hl:∀ i σ H,i<=xs.length->b i σ H->SqL K H a xs)
  (hs:∀ i x σ H,xs[i]?=some x->b i σ H->g x σ H λc H2=>tb { D with nx:=b (i+1),ct:=b (i+1),bk:=D.nx } c H2) (hd:∀ σ H,b xs.length σ H->D.nx σ H) :
  ∃ W:Nat->Nat->St->Hp->Prop,(∃ m,W 0 m σ H)/\∀ i m σ H,W i m σ H →
   ((Itl K a).stop i H/\D.nx σ H) \/ ((Itl K a).go i H/\∃ N:St->Hp->Prop,(∀ σ' H',N σ' H'->∃ f,f<m/\W (i+1) f σ' H')/\∀ x H',(Itl K a).yld i H x H'->g x σ H' λc H2=>tb { D with nx:=N,ct:=N,bk:=D.nx } c H2):=by
 refine⟨λi m σ H=>m=xs.length - i/\i<=xs.length/\b i σ H,⟨xs.length,J7,JF _,h0⟩,?_⟩;rintro i m σ H ⟨rfl,hi,p⟩;have q:=hl i σ H hi p;by_cases d:i<xs.length
 ·refine .inr ⟨⟨xs,xs[i],q,by simp[d]⟩,b (i+1),λσ' H' h=>⟨xs.length - (i+1),J5,rfl,d,h⟩,λx H' y=>?_⟩;obtain⟨e,y⟩:=y;subst e;exact hs i x σ _ (y xs q) p
 have e:i=xs.length:=J5
 subst e;exact .inl ⟨⟨xs,q,YJ _⟩,hd σ H p⟩
def Fk {a:Addr}{g:TG}{D:Ends}(b:Nat->St->Hp->Prop)(h0:b 0 σ H)(hl:∀ i σ H,i<=xs.length->b i σ H->SqT K H a xs)
  (hs:∀ i x σ H,xs[i]?=some x->b i σ H->g x σ H λc H2=>tb { D with nx:=b (i+1),ct:=b (i+1),bk:=D.nx } c H2) (hd:∀ σ H,b xs.length σ H->D.nx σ H) :
  ∃ W:Nat->Nat->St->Hp->Prop,(∃ m,W 0 m σ H)/\∀ i m σ H,W i m σ H →
   ((Itt K a).stop i H/\D.nx σ H) \/ ((Itt K a).go i H/\∃ N:St->Hp->Prop,(∀ σ' H',N σ' H'->∃ f,f<m/\W (i+1) f σ' H')/\∀ x H',(Itt K a).yld i H x H'->g x σ H' λc H2=>tb { D with nx:=N,ct:=N,bk:=D.nx } c H2):=by
 refine⟨λi m σ H=>m=xs.length - i/\i<=xs.length/\b i σ H,⟨xs.length,J7,JF _,h0⟩,?_⟩;rintro i m σ H ⟨rfl,hi,p⟩;have q:=hl i σ H hi p;by_cases d:i<xs.length
 ·refine .inr ⟨⟨xs,xs[i],q,by simp[d]⟩,b (i+1),λσ' H' h=>⟨xs.length - (i+1),J5,rfl,d,h⟩,λx H' y=>?_⟩;obtain⟨e,y⟩:=y;subst e;exact hs i x σ _ (y xs q) p
 have e:i=xs.length:=J5
 subst e;exact .inl ⟨⟨xs,q,YJ _⟩,hd σ H p⟩
def So {lo:Int}{n:Nat}{g:TG}{D:Ends}(a:Nat->St->Hp->Prop)(h0:a 0 σ H)
  (hs:∀ i σ H,i<n->a i σ H->g (.int (lo+i)) σ H λc H2=>tb { D with nx:=a (i+1),ct:=a (i+1),bk:=D.nx } c H2) (hd:∀ σ H,a n σ H->D.nx σ H) :
  ∃ W:Nat->Nat->St->Hp->Prop,(∃ m,W 0 m σ H)/\∀ i m σ H,W i m σ H →
   ((Itr lo n).stop i H/\D.nx σ H) \/ ((Itr lo n).go i H/\∃ N:St->Hp->Prop,(∀ σ' H',N σ' H'->∃ d,d<m/\W (i+1) d σ' H')/\∀ x H',(Itr lo n).yld i H x H'->g x σ H' λc H2=>tb { D with nx:=N,ct:=N,bk:=D.nx } c H2):=by
 refine⟨λi m σ H=>m=n - i/\i<=n/\a i σ H,⟨n,J7,JF _,h0⟩,?_⟩;rintro i m σ H ⟨rfl,hi,p⟩;by_cases b:i<n
 ·refine .inr ⟨b,a (i+1),λσ' H' f=>⟨n - (i+1),J5,rfl,b,f⟩,λx H' y=>?_⟩;obtain⟨e,y⟩:=y;subst e y;exact hs i σ _ b p
 have e:i=n:=J5
 subst e;exact .inl ⟨YJ _,hd σ H p⟩
def L7 {c:TT}{tb:TS}{D:Ends}{σ:St}{H:Hp}(a:St->Hp->Prop)(μ:St->Hp->Nat)(h0:a σ H)
  (hs:∀ σ H,a σ H->c σ H λb H1=>if b=true then tb { D with nx:=λσ' H'=>a σ' H'/\μ σ' H'<μ σ H,ct:=λσ' H'=>a σ' H'/\μ σ' H'<μ σ H,bk:=D.nx } σ H1 else D.nx σ H1)
  (d:∀ σ H Q e,(∀ b H1,Q b H1->e b H1)->c σ H Q->c σ H e):tWhile c tb D σ H:=by
 refine⟨λm σ H=>m=μ σ H/\a σ H,⟨_,rfl,h0⟩,?_⟩;rintro m σ H ⟨rfl,p⟩;refine d σ H _ _ (λb H1 q=>?_) (hs σ H p)
 cases b with
 | true=>exact⟨_,λσ' H' ⟨f,l⟩=>⟨_,l,rfl,f⟩,q⟩
 | false=>exact q
abbrev R2:=V->V->Hp->VK->Prop
def OpR (X:Cx)(f:Value->Value->Sem Value)(r:R2):Prop :=
 ∀ (pins:TD) (s:Shared) (σ:St) (H:Hp) (x y:V) (v u:Value) (Q:VK),Inv X pins σ H s->RelV x v->RelV y u->r x y H Q →
  wX X (f v u) (EP X pins σ Q) X.xe s
def UnR (X:Cx)(f:Value->Sem Value)(r:V->Hp->VK->Prop):Prop :=
 ∀ (pins:TD) (s:Shared) (σ:St) (H:Hp) (x:V) (v:Value) (Q:VK),Inv X pins σ H s->RelV x v->r x H Q →
  wX X (f v) (EP X pins σ Q) X.xe s
def CallR (X:Cx)(f:Value)(r:List V->Hp->VK->Prop):Prop :=
 ∀ (pins:TD) (s:Shared) (σ:St) (H:Hp) (xs:TZ) (us:TH) (Q:VK),Inv X pins σ H s->Vals xs us->r xs H Q →
  wX X (call f us) (EP X pins σ Q) X.xe s
def TruR (X:Cx)(r:V->Hp->(Bool->Hp->Prop)->Prop):Prop :=
 ∀ (pins:TD) (s:Shared) (σ:St) (H:Hp) (x:V) (v:Value) (Q:Bool->Hp->Prop),Inv X pins σ H s->RelV x v->r x H Q →
  wX X (truthy v) (TP X pins σ Q) X.xe s
def tOp (r:R2)(ta tb:TE):TE:=λσ H Q=>ta σ H λx H1=>tb σ H1 λy H2=>r x y H2 Q
def tUn (r:V->Hp->VK->Prop)(ta:TE):TE:=λσ H Q=>ta σ H λx H1=>r x H1 Q
inductive rI (C:Int->Int->Prop) (g:Int->Int->V) (x:V) (y:V) (H:Hp) (Q:VK):Prop
 | mk (i j:_) (zz0:x=.int i) (zz1:y=.int j) (zz2:C i j) (zz3:Q (g i j) H)
inductive rI0 (g:Int->Int->V) (x:V) (y:V) (H:Hp) (Q:VK):Prop
 | mk (i j:_) (zz0:x=.int i) (zz1:y=.int j) (zz2:Q (g i j) H)
inductive rU (g:Int->V) (x:V) (H:Hp) (Q:VK):Prop
 | mk (i:_) (zz0:x=.int i) (zz1:Q (g i) H)
section
variable {X:Cx}{a b:Expr}{ta tb:TE}
def Z86 (ha:PE X a ta)(k:PE X b tb){pins:TD}{s:Shared}{σ:St}{H:Hp}{R:V->V->Hp->Prop}(I:Inv X pins σ H s)
  (h:ta σ H λx H1=>tb σ H1 λy H2=>R x y H2) {Q:TC} {f:Value->Value->Sem Value}
  (hf:∀ v u s2 x y H2,Inv X pins σ H2 s2->RelV x v->RelV y u->R x y H2->wX X (f v u) Q X.xe s2) :
  wX X (eval a X.env) (λv d=>wX X (eval b X.env) (λu c=>wX X (f v u) Q X.xe c) X.xe d) X.xe s:=by
 refine thn (ha pins s σ H _ I h) λv s1 ⟨x,H1,j,r1,i⟩=>?_;refine thn (k pins s1 σ H1 _ j i) λu s2 ⟨y,H2,g,r2,e⟩=>?_;exact hf v u s2 x y H2 g r1 r2 e
theorem Zl {op:Operator}{r:R2}(ho:OpR X (binaryOp op) r)(ha:PE X a ta)(e:PE X b tb):PE X (.BinOp a op b pos) (tOp r ta tb):=by
 intro pins s σ H Q I h;exact wpAny_BinOp (Z86 ha e I h λv u s2 x y H2 d f c q=>ho pins s2 σ H2 x y v u Q d f c q)
theorem Vs {op:UnaryOp}{r:V->Hp->VK->Prop}(ho:UnR X (unaryOp op) r)(ha:PE X a ta):PE X (.UnaryOp op a pos) (tUn r ta):=by
 intro pins s σ H Q I h;exact UnaryOp_ (thn (ha pins s σ H _ I h) λv s1 ⟨x,H1,b,r1,c⟩=>ho pins s1 σ H1 x v Q b r1 c)
theorem opI {f:Value->Value->Sem Value}{C:Int->Int->Prop}{g:Int->Int->Int}
  (a:∀ (i j:Int) (t u:Tok) (s:Shared) (Q:TC) (E:TC),C i j->Q (.int (g i j) s.toks) { s with toks:=s.toks+1 }->wX X (f (.int i t) (.int j u)) Q E s) :
  OpR X f (rI C λi j=>.int (g i j)):=by
 intro pins s σ H x y v u Q I c b h;obtain⟨i,j,rfl,rfl,hc,q⟩:=h;obtain⟨t,rfl⟩:=c;obtain⟨t',rfl⟩:=b;exact a i j t t' s _ _ hc ⟨.int (g i j),H,I.tok _,⟨_,rfl⟩,q⟩
theorem Z8p {f:Value->Value->Sem Value}{g:Int->Int->Int}
  (a:∀ (i j:Int) (t u:Tok) (s:Shared) (Q:TC) (E:TC),Q (.int (g i j) s.toks) { s with toks:=s.toks+1 }->wX X (f (.int i t) (.int j u)) Q E s) :
  OpR X f (rI0 λi j=>.int (g i j)):=by
 intro pins s σ H x y v u Q I c b h;obtain⟨i,j,rfl,rfl,q⟩:=h;obtain⟨t,rfl⟩:=c;obtain⟨t',rfl⟩:=b;exact a i j t t' s _ _ ⟨.int (g i j),H,I.tok _,⟨_,rfl⟩,q⟩
theorem Z45 {f:Value->Value->Sem Value}{g:Int->Int->Bool}
  (a:∀ (i j:Int) (t u:Tok) (s:Shared) (Q:TC) (E:TC),Q (.bool (g i j)) s->wX X (f (.int i t) (.int j u)) Q E s) :
  OpR X f (rI0 λi j=>.bl (g i j)):=by
 intro pins s σ H x y v u Q I c b h;obtain⟨i,j,rfl,rfl,q⟩:=h;obtain⟨t,rfl⟩:=c;obtain⟨t',rfl⟩:=b;exact a i j t t' s _ _ ⟨.bl (g i j),H,I,rfl,q⟩
def CPow (i j:Int):Prop:=0<=j/\j<=1000000/\i.natAbs<2 ^ 64
def CMul (i j:Int):Prop:=(-(2 ^ 64)<i/\i<2 ^ 64) \/ (-(2 ^ 64)<j/\j<2 ^ 64)
def X2:OpR X (binaryOp .Add) (rI0 λi j=>.int (i+j)):=Z8p λ_ _ _ _ _ _ _ q=>add_int q
def U3:OpR X (binaryOp .Sub) (rI0 λi j=>.int (i - j)):=Z8p λ_ _ _ _ _ _ _ q=>sub_int q
def Wk:OpR X (binaryOp .Mod) (rI (λ_ j=>0<j) λi j=>.int (i % j)):=opI λi j _ _ _ _ _ hc q=>by
 have h1:(0:Int)<j:=hc;exact mod_int' J5 (by rw[Int.fmod_eq_emod_of_nonneg i J5];exact q)
def Z44:OpR X (binaryOp .Mod) (rI (λ_ j=>j≠0) λi j=>.int (i.fmod j)):=opI λ_ _ _ _ _ _ _ hc q=>mod_int' hc q
def Mc:OpR X (binaryOp .Pow) (rI CPow λi j=>.int (i ^ j.toNat)):=opI λ_ _ _ _ _ _ _ hc q=>pow_int_small hc.1 hc.2.1 hc.2.2 q
theorem unI {f:Value->Sem Value}{g:Int->Int}
  (a:∀ (i:Int) (t:Tok) (s:Shared) (Q:TC) (E:TC),Q (.int (g i) s.toks) { s with toks:=s.toks+1 }->wX X (f (.int i t)) Q E s) :
  UnR X f (rU λi=>.int (g i)):=by
 intro pins s σ H x v Q I b h;obtain⟨i,rfl,q⟩:=h;obtain⟨t,rfl⟩:=b;exact a i t s _ _ ⟨.int (g i),H,I.tok _,⟨_,rfl⟩,q⟩
def W8:UnR X (unaryOp .USub) (rU λi=>.int (-i)):=unI λ_ _ _ _ _ q=>neg_int q
end
def scal:V->V->Bool
 | .non,.non=>true | .non,.int _=>true | .int _,.non=>true | .non,.bl _=>true | .bl _,.non=>true | .non,.str _=>true | .str _,.non=>true
 | .int _,.int _=>true | .bl _,.bl _=>true | .str _,.str _=>true | .byt _,.byt _=>true
 | .int _,.str _=>true | .str _,.int _=>true | .bl _,.str _=>true | .str _,.bl _=>true
 | _,_=>false
def rEq:R2:=λx y H Q=>scal x y=true/\Q (.bl (decide (x=y))) H
def rNe:R2:=λx y H Q=>scal x y=true/\Q (.bl (!decide (x=y))) H
def Fm {i j:Int}:decide (V.int i=V.int j)=(i == j):=by
 rw[GF];simp
def Z2s {i j:Bool}:decide (V.bl i=V.bl j)=(i == j):=by
 rw[GF];simp
def Fl {i j:Str}:decide (V.str i=V.str j)=(i == j):=by
 rw[GF];simp
def Fn {i j:Array UInt8}:decide (V.byt i=V.byt j)=(i.toList == j.toList):=by
 rw[GF]
 cases i
 cases j;simp
section
variable {X:Cx}{a b c:Expr}{ta tb:TE}
def Y7 {Q:VK}{k k':Bool}(I:Inv X pins σ H s)(q:Q (.bl k) H)(e:k=k'):EP X pins σ Q (.bool k') s:=by
 subst e;exact⟨.bl k,H,I,rfl,q⟩
theorem Xm:OpR X (compareOp .Eq) rEq:=by
 intro pins s σ H x y v u Q I b a h;obtain⟨hs,q⟩:=h
 cases x with
 | non =>
  cases b
  cases y with
  | non=>cases a;exact PySem.EqNone.eq_none_none (Y7 I q J7)
  | bl j=>cases a;exact PySem.EqNone.eq_none_bool (Y7 I q J7)
  | int j=>obtain⟨t',rfl⟩:=a;exact PySem.EqNone.eq_none_int (Y7 I q J7)
  | str j=>obtain⟨t',rfl⟩:=a;exact PySem.EqNone.eq_none_str (Y7 I q J7)
  | _=>exact absurd (show false=true from hs) YO
 | bl i =>
  cases b
  cases y with
  | non=>cases a;exact PySem.EqNone.eq_bool_none (Y7 I q J7)
  | bl j=>cases a;exact eq_bool (Y7 I q Z2s)
  | str j=>obtain⟨t',rfl⟩:=a;exact PySem.EqMixed.eq_bool_str (Y7 I q J7)
  | _=>exact absurd (show false=true from hs) YO
 | int i =>
  obtain⟨t,rfl⟩:=b
  cases y with
  | non=>cases a;exact PySem.EqNone.eq_int_none (Y7 I q J7)
  | int j=>obtain⟨t',rfl⟩:=a;exact eq_int (Y7 I q Fm)
  | str j=>obtain⟨t',rfl⟩:=a;exact PySem.EqMixed.eq_int_str (Y7 I q J7)
  | _=>exact absurd (show false=true from hs) YO
 | str i =>
  obtain⟨t,rfl⟩:=b
  cases y with
  | non=>cases a;exact PySem.EqNone.eq_str_none (Y7 I q J7)
  | bl j=>cases a;exact PySem.EqMixed.eq_str_bool (Y7 I q J7)
  | int j=>obtain⟨t',rfl⟩:=a;exact PySem.EqMixed.eq_str_int (Y7 I q J7)
  | str j=>obtain⟨t',rfl⟩:=a;exact eq_str (Y7 I q Fl)
  | _=>exact absurd (show false=true from hs) YO
 | byt i =>
  obtain⟨t,rfl⟩:=b
  cases y with
  | byt j=>obtain⟨t',rfl⟩:=a;exact W.eq_bytes (Y7 I q Fn)
  | _=>exact absurd (show false=true from hs) YO
 | _=>cases y <;> exact absurd (show false=true from hs) YO
theorem Gz:OpR X (compareOp .NotEq) rNe:=by
 intro pins s σ H x y v u Q I b a h;obtain⟨hs,q⟩:=h
 cases x with
 | non =>
  cases b
  cases y with
  | non=>cases a;exact PySem.EqNone.ne_none_none (Y7 I q J7)
  | bl j=>cases a;exact PySem.EqNone.ne_none_bool (Y7 I q J7)
  | int j=>obtain⟨t',rfl⟩:=a;exact PySem.EqNone.ne_none_int (Y7 I q J7)
  | str j=>obtain⟨t',rfl⟩:=a;exact PySem.EqNone.ne_none_str (Y7 I q J7)
  | _=>exact absurd (show false=true from hs) YO
 | bl i =>
  cases b
  cases y with
  | non=>cases a;exact PySem.EqNone.ne_bool_none (Y7 I q J7)
  | bl j=>cases a;exact ne_bool (Y7 I q (congrArg not Z2s))
  | str j=>obtain⟨t',rfl⟩:=a;exact PySem.EqMixed.ne_bool_str (Y7 I q J7)
  | _=>exact absurd (show false=true from hs) YO
 | int i =>
  obtain⟨t,rfl⟩:=b
  cases y with
  | non=>cases a;exact PySem.EqNone.ne_int_none (Y7 I q J7)
  | int j=>obtain⟨t',rfl⟩:=a;exact ne_int (Y7 I q (congrArg not Fm))
  | str j=>obtain⟨t',rfl⟩:=a;exact PySem.EqMixed.ne_int_str (Y7 I q J7)
  | _=>exact absurd (show false=true from hs) YO
 | str i =>
  obtain⟨t,rfl⟩:=b
  cases y with
  | non=>cases a;exact PySem.EqNone.ne_str_none (Y7 I q J7)
  | bl j=>cases a;exact PySem.EqMixed.ne_str_bool (Y7 I q J7)
  | int j=>obtain⟨t',rfl⟩:=a;exact PySem.EqMixed.ne_str_int (Y7 I q J7)
  | str j=>obtain⟨t',rfl⟩:=a;exact ne_str (Y7 I q (congrArg not Fl))
  | _=>exact absurd (show false=true from hs) YO
 | byt i =>
  obtain⟨t,rfl⟩:=b
  cases y with
  | byt j=>obtain⟨t',rfl⟩:=a;exact W.ne_bytes (Y7 I q (congrArg not Fn))
  | _=>exact absurd (show false=true from hs) YO
 | _=>cases y <;> exact absurd (show false=true from hs) YO
def Rf:OpR X (compareOp .Lt) (rI0 λi j=>.bl (decide (i<j))):=Z45 λ_ _ _ _ _ _ _ q=>lt_int q
def Z66:OpR X (compareOp .LtE) (rI0 λi j=>.bl (decide (i<=j))):=Z45 λ_ _ _ _ _ _ _ q=>le_int q
def N4:OpR X (compareOp .Gt) (rI0 λi j=>.bl (decide (j<i))):=Z45 λ_ _ _ _ _ _ _ q=>gt_int q
def Z8o:OpR X (compareOp .GtE) (rI0 λi j=>.bl (decide (j<=i))):=Z45 λ_ _ _ _ _ _ _ q=>ge_int q
theorem Md:OpR X (compareOp .Is) (λx y H Q=>y=.non/\Q (.bl (decide (x=.non))) H):=by
 intro pins s σ H x y v u Q I a b h;obtain⟨rfl,q⟩:=h
 cases b;refine is_none_gen (Y7 I q ?_)
 cases x <;> first
  | (cases a;rfl)
  | (obtain⟨t,rfl⟩:=a;rfl)
theorem Gy:OpR X (compareOp .IsNot) (λx y H Q=>y=.non/\Q (.bl (!decide (x=.non))) H):=by
 intro pins s σ H x y v u Q I a b h;obtain⟨rfl,q⟩:=h
 cases b;refine isnot_none_gen (Y7 I q ?_)
 cases x <;> first
  | (cases a;rfl)
  | (obtain⟨t,rfl⟩:=a;rfl)
def Zq (b:Expr){op:CmpOp}(h:op≠.In:=by decide)(h2:op≠.NotIn:=by decide):behindInMarks op b=false:=by
 have e1:(op == CmpOp.In)=false:=by cases op <;> first | rfl | exact absurd rfl h
 have e2:(op == CmpOp.NotIn)=false:=by cases op <;> first | rfl | exact absurd rfl h2
 cases b <;> simp[behindInMarks,e1,e2]
theorem Xi {op:CmpOp}{r:R2}(ho:OpR X (compareOp op) r)(ha:PE X a ta)(e:PE X b tb)(hm:behindInMarks op b=false):PE X (.Compare a [op] [b] pos) (tOp r ta tb):=by
 intro pins s σ H Q I h;exact wpAny_Compare1 (Z86 ha e I h λv u s2 x y H2 d f c q=>ho pins s2 σ H2 x y v u Q d f c q) hm
def tTest (t:TE):TT:=λσ H Q=>t σ H λx H'=>∃ k,x=.bl k/\Q k H'
theorem Zn {op:CmpOp}{r:R2}(ho:OpR X (compareOp op) r)(ha:PE X a ta)(o:PE X b tb)(hm:behindInMarks op b=false):PT X (.Compare a [op] [b] pos) (tTest (tOp r ta tb)):=by
 intro pins s σ H Q I h;refine wpAny_isTrue_Compare1 (thn (ha pins s σ H _ I h) λv s1 ⟨x,H1,n,r1,j⟩=>thn (o pins s1 σ H1 _ n j) λu s2 ⟨y,H2,i,r2,f⟩ =>
  thn (ho pins s2 σ H2 x y v u _ i r1 r2 f) λc p ⟨z,m,d,l,k,e,g⟩=>?_) hm
 subst e
 cases l;exact qy ⟨m,d,g⟩
def TruV (K:TR)(x:V)(H:Hp)(k:Bool):Prop :=
 match x with
 | .non=>k=false
 | .bl b=>k=b
 | .int i=>k=(i != 0)
 | .str y=>y.length<=sizeLine/\k=((y.length:Int) != 0)
 | .byt y=>y.size<=sizeLine/\k=((y.size:Int) != 0)
 | .ref p=>(∃ xs,SqL K H p xs/\k=!xs.isEmpty) \/ (∃ xs,SqT K H p xs/\k=!xs.isEmpty) \/ ∃ kvs,H p=some (.dK kvs)/\k=!kvs.isEmpty
 | _=>False
def Jz {κ:Type}{kvs:List (κ × V)}{vs:List (κ × Value)}(r:KV kvs vs):(!vs.isEmpty)=!kvs.isEmpty:=by
 cases r <;> rfl
def Qw (r:Vals xs its):(!its.toArray.isEmpty)=!xs.isEmpty:=by
 cases r <;> simp
def Qq:(sizeLine:Nat)<2 ^ 63:=by rw[qq];decide
theorem Z6i:TruR X (λx H Q=>∃ k,TruV X.K x H k/\Q k H):=by
 intro pins s σ H x v Q I c h;obtain⟨k,e,q⟩:=h;have hl:=Qq;have hs:sizeLine=16777216:=qq
 cases x with
 | non =>
  cases c;have e':k=false:=e;subst e';exact truthy_none ⟨H,I,q⟩
 | bl b =>
  cases c;have e':k=b:=e;subst e';exact qy ⟨H,I,q⟩
 | int i =>
  obtain⟨t,rfl⟩:=c;have e':k=(i != 0):=e;subst e';exact PySem.P.truthy_int ⟨H,I,q⟩
 | str y =>
  obtain⟨t,rfl⟩:=c;obtain⟨d,e'⟩:y.length<=sizeLine/\k=((y.length:Int) != 0):=e;subst e';exact PySem.P.truthy_str J5 ⟨H,I.tok _,q⟩
 | byt y =>
  obtain⟨t,rfl⟩:=c;obtain⟨d,e'⟩:y.size<=sizeLine/\k=((y.size:Int) != 0):=e;subst e';exact W.truthy_bytes J5 ⟨H,I.tok _,q⟩
 | ref p =>
  cases c;have e':(∃ xs,SqL X.K H p xs/\k=!xs.isEmpty) \/ (∃ xs,SqT X.K H p xs/\k=!xs.isEmpty) \/ ∃ kvs,H p=some (.dK kvs)/\k=!kvs.isEmpty:=e;rcases e' with ⟨xs,hx,e'⟩ | ⟨xs,hx,e'⟩ | ⟨kvs,hx,e'⟩
  ·subst e';obtain⟨its,r,pl,hz⟩:=I.list hx;have a:=r.length;exact wpAny_truthy_list pl.isList (by simp only [YS];omega) ⟨H,I.tok _,by rw[Qw r];exact q⟩
  ·subst e';obtain⟨its,r,pl,hz⟩:=I.tuple hx;have a:=r.length;exact truthy_tuple pl (by simp only [YS];omega) ⟨H,I.tok _,by rw[Qw r];exact q⟩
  subst e';obtain⟨hz,hS,vs,r,m⟩:kvs.length<=sizeLine/\(p == sysModules)=false/\∃ vs,KV kvs vs/\s.heap.DictOf (mixKind X.prog X.w) p vs:=I.hok p _ hx;have a:kvs.length=vs.length:=YY r;exact wpAny_truthy_dict hS m J5 ⟨H,I.tok _,by rw[Jz r];exact q⟩
 | _=>exact (show False from e).elim
theorem Z0s (ha:PE X a ta)(d:∀ b,isTrue a X.env b=(do let v <-b;standAt a.pos;holding [v] (truthy v))) :
  PT X a (λσ H Q=>ta σ H λx H'=>∃ k,TruV X.K x H' k/\Q k H'):=by
 intro pins s σ H Q I h;exact isTrue_plain (thn (ha pins s σ H _ I h) λv s1 ⟨x,H1,e,r1,c⟩=>Z6i pins s1 σ H1 x v Q e r1 c) (d _)
def Vv {x:V}{us:TH}(r:Vals [x] us):∃ u,us=[u]/\RelV x u:=by
 cases r with
 | cons r1 r2=>cases r2;exact⟨_,rfl,r1⟩
def Gd {x y:V}{us:TH}(r:Vals [x,y] us):∃ u a,us=[u,a]/\RelV x u/\RelV y a:=by
 cases r with
 | cons r1 r2 =>
  cases r2 with
  | cons b c=>cases c;exact⟨_,_,rfl,r1,b⟩
theorem Ko:CallR X (.builtin "abs") (λxs H Q=>∃ i,xs=[.int i]/\Q (.int (if i<0 then -i else i)) H):=by
 intro pins s σ H xs us Q I r h;obtain⟨i,rfl,q⟩:=h;obtain⟨u,rfl,t,rfl⟩:=Vv r;exact call_abs_int λu tk=>⟨.int (if i<0 then -i else i),H,I.tok _,⟨_,rfl⟩,q⟩
end
structure ObjM (h:Heap)(x dx C:Addr)(mA:TB):Prop where
 obj:h.get? x=some (W.instObj C dx)
 ns:h.Ns1 dx mA
 ne:dx≠x
def C8 {dx:Addr}{mA:TB}(n:h.Ns1 dx mA):∃ od,h.get? dx=some od/\∀ name,W.lookIn name od=some (mA name):=by
 obtain⟨o,es,ep,ho,hd,hk,_,hm⟩:=n;refine⟨o,ho,λname=>?_⟩;have e:=hm name;unfold nsFind findBy at e;rw[<-Y1V] at e;unfold W.lookIn;rw[hd];dsimp only;split
 ·rename_i y q
  rw[q] at e;exact congrArg some e
 rename_i q
 rw[q] at e;have a:es.toList.any (·.refKey)=false:=by
  rw[List.any_eq_false];intro y c;obtain⟨z,t,b⟩:=hk y (Array.mem_toList_iff.mp c);simp[DictEntry.refKey,b]
 have d:¬ es.toList.any (·.refKey)=true:=by rw[a];exact YO
 rw[YD d];exact congrArg some e
def ObjM.look {x dx:Addr}{mA:TB}(I:ObjM h x dx C mA):∃ od,W.InstAt h x (W.instObj C dx) C (some od)/\∀ name,W.lookIn name od=some (mA name) :=
 let ⟨od,ho,hl⟩:=C8 I.ns
 ⟨od,⟨I.obj,rfl,rfl,ho⟩,hl⟩
section
variable {x dx:Addr}{mA:TB}{name:Str}{v:Value}
def Z5d {a:Bool}{Q:TC}(X:K.In s.heap)(I:ObjM s.heap x dx C mA)(hg:W.plainGet K C name=true)(c:W.hasDictIn K C=true)
  (ha:W.findIn K (.ref C) name=some none) (d:mA name=some v) (b:W.handedIn v=true) (h:Q v { s with toks:=s.toks+1 }) :
  wpAny (model prog w) A (getAttr (.ref x) name a) Q E s:=by
 obtain⟨od,J,hl⟩:=I.look;exact W.get_value X J (W.plainGet_of hg).1 (W.findObj_own c ha rfl (by rw[hl,d])) b h
def Z35 {ns:TF}{Q:Unit->Shared->Prop}(X:K.In s.heap)(I:ObjM s.heap x dx C mA)
  (hs:W.findIn K (.ref C) "__setattr__"=some (some (.builtin "object.__setattr__"))) (hp:W.plainOver K C=true) (n:W.takerIn K C name=some none) (j:W.hasDictIn K C=true)
  (hw:PySem.Within mA ns) (m:ns.length<=sizeLine)
  (h:∀ h',ObjM h' x dx C (λy=>if y=name then some v else mA y)->Heap.SameBut dx s.heap h'->Q () { s with heap:=h',toks:=s.toks+2 }) :
  wpAny (model prog w) A (setAttr (.ref x) name v) Q E s:=by
 obtain⟨od,J,hl⟩:=I.look;refine W.set_plain X J hs (W.osa_open (s:={ s with toks:=s.toks+1 }) (r:=none) X J hp n λb=>?_);obtain⟨cd,hc,f⟩:=W.any_some j;have hx:s.heap.get? x=some ⟨.ref C,some dx,.plain,#[]⟩:=I.obj;refine YA (YK (YA (YA (wpAny_loadPart hx (YA (W.Looks.here (s:={ s with toks:=s.toks+1 }) (W.looks_clsIn X hc) ?_))))));rw[f];refine YK (a:=some dx) (YA (YK (YA ?_)));refine wpAny_nsSet1 (s:={ s with toks:=s.toks+1 }) I.ns λh' d c=>?_;obtain⟨o,l,k,e,g,i⟩:=d.count (PySem.Within.cons name v hw);refine YA (wpAny_lookBehind e (by rw[g];exact pastItsLine_dict (YM i (by rw[XW];omega))) ?_);exact YK (h _ ⟨(c.2 _ (XQ I.ne)).trans I.obj,d,I.ne⟩ c)
def Z1z {R:Result->Shared->Prop}{vs:TH}{a:List (Str × Value)}(X:K.In s.heap)(hm:W.makesIn K C=true)
  (hi:W.findIn K (.ref C) "__init__"=some (some (.ref f))) (hf:W.typeIn K (.ref f)=some (.type "function"))
  (h:codeAny (model prog w) (A.under (.builtin "type.__call__" ⟨.ref C::vs,a⟩)) (.call (.ref f) ⟨.ref (s.heap.objs.size+1)::vs,a⟩) (W.InitBack (s.heap.objs.size+1) R)
   { s with heap:=(s.heap.push W.emptyDict).push (W.instObj C s.heap.objs.size) }) :
  codeAny (model prog w) A (.call (.ref C) ⟨vs,a⟩) R s:=by
 obtain⟨b,g,d,t,os⟩:=s;exact W.make_core (W.makes_of X hm) (Y0O X hi) (λself=>W.bind_fn X self hf) (.inl rfl) h
end
def putF (f:Str)(v:V):List (Str × V)->List (Str × V)
 | []=>[(f,v)]
 | (g,x)::r=>if g=f then (g,v)::r else (g,x)::putF f v r
theorem Zz (f g:Str)(v:V):∀ fs:List (Str × V),(putF f v fs).lookup g=if g=f then some v else fs.lookup g
 | []=>by
  show List.lookup g [(f,v)]=_;by_cases h:g=f
  ·have a:(g == f)=true:=GV.mpr h;simp only [List.lookup,a,YG h]
  have a:(g == f)=false:=JH.mpr h;simp only [List.lookup,a,YD h]
 | (k,x)::r=>by
  have b:=Zz f g v r;rw[show putF f v ((k,x)::r)=(if k=f then (k,v)::r else (k,x)::putF f v r) from rfl];by_cases hk:k=f
  ·rw[YG hk];by_cases h:g=k
   ·have a:(g == k)=true:=GV.mpr h;simp only [List.lookup,a,YG (h.trans hk)]
   have a:(g == k)=false:=JH.mpr h;simp only [List.lookup,a,YD (λe:g=f=>h (e.trans hk.symm))]
  rw[YD hk];by_cases h:g=k
  ·have a:(g == k)=true:=GV.mpr h;simp only [List.lookup,a,YD (λe:g=f=>hk (h.symm.trans e))]
  have a:(g == k)=false:=JH.mpr h;simp only [List.lookup,a];exact b
theorem Sm (f:Str)(v:V):∀ fs:List (Str × V),f∈(putF f v fs).map (·.1)/\∀ g,g∈fs.map (·.1)->g∈(putF f v fs).map (·.1)
 | []=>⟨by simp[putF],λg h=>by simp at h⟩
 | (k,x)::r=>by
  obtain⟨i1,i2⟩:=Sm f v r;rw[show putF f v ((k,x)::r)=(if k=f then (k,v)::r else (k,x)::putF f v r) from rfl];by_cases hk:k=f
  ·rw[YG hk];subst hk;exact⟨J7,λg h=>by simpa using h⟩
  rw[YD hk];refine⟨?_,λg h=>?_⟩
  ·rw[GR];exact YV _ i1
  rw[GR] at h ⊢;rcases YU.mp h with e | e
  ·exact YU.mpr (.inl e)
  exact YV _ (i2 g e)
theorem Rh (f:Str)(v:V):∀ fs:List (Str × V),(putF f v fs).length<=fs.length+1
 | []=>by simp[putF]
 | (k,x)::r=>by
  have a:=Rh f v r;rw[show putF f v ((k,x)::r)=(if k=f then (k,v)::r else (k,x)::putF f v r) from rfl];by_cases hk:k=f
  ·rw[YG hk,XW,XW];omega
  rw[YD hk,XW,XW];omega
def RelO.some_of {v:V}{o:Option Value}(r:RelO (some v) o):∃ u,o=some u/\RelV v u:=by
 cases o with
 | none=>exact (show False from r).elim
 | some u=>exact⟨u,rfl,r⟩
def Ck {v:V}{u:Value}(r:RelV v u):W.handedIn u=true:=by
 cases v with
 | non=>cases (show u=Value.none from r);rfl
 | bl b=>cases (show u=Value.bool b from r);rfl
 | int i=>obtain⟨t,e⟩:=(show ∃ t,u=Value.int i t from r);cases e;rfl
 | str x=>obtain⟨t,e⟩:=(show ∃ t,u=Value.str x t from r);cases e;rfl
 | byt b=>obtain⟨t,e⟩:=(show ∃ t,u=Value.bytes b t from r);cases e;rfl
 | flt b=>obtain⟨t,e⟩:=(show ∃ t,u=Value.float b t from r);cases e;rfl
 | ref a=>cases (show u=Value.ref a from r);rfl
 | ty n=>cases (show u=Value.type n from r);rfl
section
variable {P:TU}{H:Hp}{a dx:Addr}{fs:List (Str × V)}
def Mj (hok:HOk P w H h)(e:H a=some (.ins C dx fs)):∃ mA,ObjM h a dx C mA/\(∀ f,RelO (fs.lookup f) (mA f))/\PySem.Within mA (fs.map (·.1))/\fs.length<=1000/\H dx=some (.own a):=by
 obtain⟨d,z,ne,ob,mA,n,r,q⟩:=(show ObjOk P w H h a (.ins C dx fs) from hok a _ e);exact⟨mA,⟨ob,n,ne⟩,r,q,z,d⟩
end
structure Cls (K:TR)(C:Addr):Prop where
 pg:W.plainGet K C Str.empty=true
 hd:W.hasDictIn K C=true
 po:W.plainOver K C=true
 sa:W.findIn K (.ref C) "__setattr__"=some (some (.builtin "object.__setattr__"))
def Cls.get (c:Cls K C)(f:Str):W.plainGet K C f=true:=c.pg
def NoAttr (K:TR)(C:Addr)(f:Str):Prop:=W.findIn K (.ref C) f=some none
def NoAttr.taker {f:Str}(n:NoAttr K C f):W.takerIn K C f=some none:=by
 unfold W.takerIn;rw[show W.findIn K (.ref C) f=some none from n];rfl
structure Con (K:TR)(C:Addr)(f:Str)(v:V)(u:Value):Prop where
 at_:W.findIn K (.ref C) f=some (some u)
 rel:RelV v u
 get:W.specialIn K u "__get__"=some none
 cp:W.copiedNames.contains f=false
section
variable {X:Cx}{σ:St}{H:Hp}{a dx:Addr}{fs:List (Str × V)}{f:Str}{v:V}
def G0 {b:Bool}{Q:TC}(I:Inv X pins σ H s)(e:H a=some (.ins C dx fs))(c:Cls X.K C)(n:NoAttr X.K C f)(l:fs.lookup f=some v)
  (h:∀ u s',Inv X pins σ H s'->RelV v u->Q u s'):wpAny (model X.prog X.w) A (getAttr (.ref a) f b) Q E s:=by
 obtain⟨mA,O,r,_,_,_⟩:=Mj I.hok e;obtain⟨u,hu,ru⟩:=RelO.some_of (v:=v) (o:=mA f) (by rw[<-l];exact r f);exact Z5d I.kIn O (c.get f) c.hd n hu (Ck ru) (h u _ (I.tok _) ru)
def J1 {y:V}{Q:Unit->Shared->Prop}(I:Inv X pins σ H s)(e:H a=some (.ins C dx fs))(c:Cls X.K C)(n:NoAttr X.K C f)(hl:fs.length<1000)(j:RelV y u)
  (h:∀ s',Inv X pins σ (upd H a (.ins C dx (putF f y fs))) s'->Q () s'):wpAny (model X.prog X.w) A (setAttr (.ref a) f u) Q E s:=by
 obtain⟨mA,O,r,i,_,ho⟩:=Mj I.hok e;have hz:(fs.map (·.1)).length<=sizeLine:=by rw[YC,qq];omega
 refine Z35 I.kIn O c.sa c.po n.taker c.hd i hz λh' d k=>h _ ?_;have hd:∃ o,h'.get? dx=some o:=let ⟨o,_,_,e',_⟩:=d.ns;⟨o,e'⟩;refine I.write (x:=a) (e:=dx) (by rw[e];exact True.intro) (.inr ho) (λb q l z=>(k.2 b l).trans z) hd ?_;refine⟨by rw[Zc O.ne];exact ho,?_,O.ne,d.obj,_,d.ns,λg=>?_,λg hg=>?_⟩
 ·have:=Rh f y fs;omega
 ·show RelO ((putF f y fs).lookup g) (if g=f then some u else mA g);rw[Zz];by_cases q:g=f
  ·rw[YG q,YG q];exact j
  rw[YD q,YD q];exact r g
 by_cases q:g=f
 ·rw[q];exact (Sm f y fs).1
 refine (Sm f y fs).2 g (i g λz=>hg ?_);show (if g=f then some u else mA g)=none;rw[YD q];exact z
theorem Inv.made (I:Inv X pins σ H s):Inv X pins σ (upd (upd H s.heap.objs.size (.own (s.heap.objs.size+1))) (s.heap.objs.size+1) (.ins C s.heap.objs.size []))
  { s with heap:=(s.heap.push W.emptyDict).push (W.instObj C s.heap.objs.size) }:=by
 have e1:(s.heap.push W.emptyDict).get? s.heap.objs.size=some W.emptyDict:=YN s.heap rfl;have e2:((s.heap.push W.emptyDict).push (W.instObj C s.heap.objs.size)).get? (s.heap.objs.size+1)=some (W.instObj C s.heap.objs.size):=by
  have:=YN (s.heap.push W.emptyDict) (o:=W.instObj C s.heap.objs.size) rfl
  rwa [JP] at this
 have e3:(s.heap.push W.emptyDict).Ns s.heap.objs.size (λ_=>none):=⟨W.emptyDict,#[],_,e1,rfl,(λe c=>absurd c J7),λ_=>rfl⟩;have f:=I.laid (a:=s.heap.objs.size) (o:=.own (s.heap.objs.size+1)) (h':=s.heap.push W.emptyDict) (t':=s.toks) (λb u q=>YB _ q) (YJ _) ⟨_,e1⟩;refine f.laid (a:=s.heap.objs.size+1) (o:=.ins C s.heap.objs.size []) (t':=s.toks) (λb u q=>YB _ q) (Y08 (JP _ _)) ?_;have ne:s.heap.objs.size≠s.heap.objs.size+1:=XB (ji _);refine⟨by rw[Zc ne,Za],JF _,ne,e2,λ_=>none,(Heap.Ns1.of_empty e3).at λo q=>YB _ q,λ_=>True.intro,λy d=>absurd rfl d⟩
def Z5u {env:Env}{e:Expr}{f:Str}{Q:TC}(b:attributeBase e f env (eval e env)=eval e env)
  (h:wpAny (model prog w) A (eval e env) (λo a=>wpAny (model prog w) A (getAttr o f true) Q E a) E s):wpAny (model prog w) A (eval (.Attribute e f pos) env) Q E s :=
 Attribute_any_ h (by rw[arm_eval_Attribute,b])
end
inductive tFld_i (K:TR) (f:Str) (Q:VK) (x:V) (H1:Hp):Prop
 | mk (a C dx fs v:_) (zz0:x=.ref a) (zz1:H1 a=some (.ins C dx fs)) (zz2:Cls K C) (zz3:NoAttr K C f) (zz4:fs.lookup f=some v) (zz5:Q v H1)
def tFld (K:TR)(ta:TE)(f:Str):TE:=λσ H Q=>ta σ H (tFld_i K f Q)
inductive sFld_i (K:TR) (f:Str) (D:Ends) (σ:_L.St) (y:V) (x:V) (H2:Hp):Prop
 | mk (a C dx fs:_) (zz0:x=.ref a) (zz1:H2 a=some (.ins C dx fs)) (zz2:Cls K C) (zz3:NoAttr K C f) (zz4:fs.length<1000) (zz5:D.nx σ (upd H2 a (.ins C dx (putF f y fs))))
def sFld (K:TR)(ta tv:TE)(f:Str):TS:=λD σ H=>tv σ H λy H1=>ta σ H1 (sFld_i K f D σ y)
section
variable {X:Cx}{o e value:Expr}{f:Str}{ta tv:TE}
theorem Yb (d:PE X e ta)(i:attributeBase e f X.env (eval e X.env)=eval e X.env):PE X (.Attribute e f pos) (tFld X.K ta f):=by
 intro pins s σ H Q I h;refine Z5u i (thn (d pins s σ H _ I h) λu s1 ⟨x,H1,g,j,a,C,dx,fs,v,ex,ea,c,n,l,q⟩=>?_);subst ex;obtain rfl:u=Value.ref a:=j;exact G0 g ea c n l λu' s2 b ru=>⟨v,H1,b,ru,q⟩
theorem Qe (ha:PE X o ta)(i:PE X value tv)(hs:swapsWith value (some (.Attribute o f pos')) pos.line X.env=pure false):PS X (.Assign [.Attribute o f pos'] value pos) (sFld X.K ta tv f):=by
 intro pins s σ H D I h;refine Y0k (thn (i pins s σ H _ I h) λu s1 ⟨y,H1,j,b,q⟩=>thn (ha pins s1 σ H1 _ j q) λov s2 ⟨x,H2,g,k,a,C,dx,fs,ex,ea,c,n,l,e⟩=>?_) hs;subst ex;obtain rfl:ov=Value.ref a:=k;exact J1 g ea c n l b λm d=>⟨σ,_,d,e⟩
end
section
variable {X:Cx}{σ:St}{H:Hp}{Q:TC}{c:Value}{b:Bool}
inductive TyOf (K:TR) (H:Hp):V->Value->Prop where
 | non:TyOf K H .non (.type "NoneType")
 | bl (x:Bool):TyOf K H (.bl x) (.type "bool")
 | int (i:Int):TyOf K H (.int i) (.type "int")
 | str (x:Str):TyOf K H (.str x) (.type "str")
 | flt (x:UInt64):TyOf K H (.flt x) (.type "float")
 | lst {a:Addr} {xs:TZ} (e:H a=some (.lst xs)):TyOf K H (.ref a) (.type "list")
 | frz {a:Addr} {o:Obj} {xs:TZ} (e:H a=some (.frz o (.lst xs))):TyOf K H (.ref a) (.type "list")
 | tup {a:Addr} {xs:TZ} (e:H a=some (.tup xs)):TyOf K H (.ref a) (.type "tuple")
 | dK {a:Addr} {kvs:List (Key × V)} (e:H a=some (.dK kvs)):TyOf K H (.ref a) (.type "dict")
 | dT {a:Addr} {kvs:List (List Key × V)} (e:H a=some (.dT kvs)):TyOf K H (.ref a) (.type "dict")
 | ins {a C dx:Addr} {fs:List (Str × V)} (e:H a=some (.ins C dx fs)) (cl:Cls K C) (ha:W.findIn K (.ref C) "__class__"=some (some (.builtin "object.__class__")))
   (hn:W.specialIn K (.builtin "object.__class__") "__get__"=some (some (.builtin "getset_descriptor.__get__"))) (htk:W.takesIn K (.builtin "object.__class__")=some true)
   (hm:W.mroIn K C (.type "object")=some true):TyOf K H (.ref a) (.ref C)
theorem Cf {x:V}{u t:Value}(I:Inv X pins σ H s)(d:RelV x u)(ty:TyOf X.K H x t)(e:W.kitOne X.K t c=some b)(h:∀ tk,Q (.bool b) { s with toks:=tk }) :
  wpAny (model X.prog X.w) A (call (.builtin "isinstance") [u,c]) Q E s:=by
 cases ty with
 | non=>cases (show u=Value.none from d);exact zU W.kitx_none I.kIn True.intro e (λz=>nomatch z) h
 | bl y=>cases (show u=Value.bool y from d);exact zU W.kitx_bool I.kIn True.intro e (λz=>nomatch z) h
 | int i=>obtain⟨t,q⟩:=(show ∃ t,u=Value.int i t from d);cases q;exact zU W.kitx_int I.kIn True.intro e (λz=>nomatch z) h
 | str y=>obtain⟨t,q⟩:=(show ∃ t,u=Value.str y t from d);cases q;exact zU W.kitx_str I.kIn True.intro e (λz=>nomatch z) h
 | flt y=>obtain⟨t,q⟩:=(show ∃ t,u=Value.float y t from d);cases q;exact zU W.kitx_float I.kIn True.intro e (λz=>nomatch z) h
 | @lst a xs ea =>
  cases (show u=Value.ref a from d);obtain⟨_,_,n,_,h1⟩:=(show ObjOk X.prog X.w H s.heap a (.lst xs) from I.hok a _ ea);exact zU W.kitx_list I.kIn ⟨_,h1,rfl⟩ e (λz=>nomatch z) h
 | @frz a ob xs ea =>
  cases (show u=Value.ref a from d);obtain⟨_,_,_,n,_,h1⟩:=(show ObjOk X.prog X.w H s.heap a (.frz ob (.lst xs)) from I.hok a _ ea);exact zU W.kitx_list I.kIn ⟨_,h1,rfl⟩ e (λz=>nomatch z) h
 | @tup a xs ea =>
  cases (show u=Value.ref a from d);obtain⟨_,_,_,p⟩:=(show ObjOk X.prog X.w H s.heap a (.tup xs) from I.hok a _ ea);obtain⟨o,h1,h2,_⟩:=p;exact zU W.kitx_tuple I.kIn ⟨o,h1,h2⟩ e (λz=>nomatch z) h
 | @dK a kvs ea =>
  cases (show u=Value.ref a from d);obtain⟨_,_,vs,_,p⟩:=(show ObjOk X.prog X.w H s.heap a (.dK kvs) from I.hok a _ ea);obtain⟨o,es,ep,h1,h2,_⟩:=p;exact zU W.kitx_dict I.kIn ⟨o,h1,h2.1⟩ e (λz=>nomatch z) h
 | @dT a kvs ea =>
  cases (show u=Value.ref a from d);obtain⟨_,_,xs,_,o,es,ep,h1,h2,_⟩:=(show ObjOk X.prog X.w H s.heap a (.dT kvs) from I.hok a _ ea);exact zU W.kitx_dict I.kIn ⟨o,h1,h2.1⟩ e (λz=>nomatch z) h
 | @ins a C dx fs ea cl ha hn htk hm =>
  cases (show u=Value.ref a from d);obtain⟨mA,O,_⟩:=Mj I.hok ea;obtain⟨od,J,_⟩:=O.look;exact zU (W.kitx_own (cl.get _) cl.hd ha hn htk hm) I.kIn J e (λz=>nomatch z) h
end
structure Room (k:Nat)(A:Around)(sr:Bool:=false):Prop where
 hd:sr=true->A.handled=none
 dp:A.depth+3*k+105<recursionLimit
 un:A.units+16*k+200<cLine
def Room.mono {k:Nat}(r:Room k A sr)(h:j<=k):Room j A sr:=⟨r.hd,by have:=r.dp;omega,by have:=r.un;omega⟩
theorem Room.deeper {k:Nat}{A:Around}{sr:Bool}(r:Room (k+1) A sr)(env:Env):Room k (A.deeper env) sr :=
 ⟨r.hd,by have:=r.dp;show A.depth+1+3*k+105<_;omega,by have:=r.un;show A.units+3+16*k+200<_;omega⟩
theorem Room.in1 {k:Nat}{A:Around}{sr:Bool}(r:Room (k+1) A sr):Room k A.in1 sr :=
 ⟨r.hd,by have:=r.dp;show A.depth+3*k+105<_;omega,by have:=r.un;show A.units+1+16*k+200<_;omega⟩
def Ju {us:TH}{a:List (Str × Value)}:(A.under (.builtin "type.__call__" ⟨.ref C::us,a⟩)).depth=A.depth+1:=by
 first | rfl | simp[Around.under,Code.weight,Code.isCreation,Code.isGuard,Code.isCaller,Code.frames,Code.isFrame,guardIds]
def Jt {us:TH}{a:List (Str × Value)}:(A.under (.builtin "type.__call__" ⟨.ref C::us,a⟩)).units=A.units+1:=by
 first | rfl | simp[Around.under,Code.cUnits,Code.frames,Code.isFrame]
def Room.make {k:Nat}(r:Room (k+1) A sr)(C:Addr)(us:TH)(a:List (Str × Value)):Room k (A.under (.builtin "type.__call__" ⟨.ref C::us,a⟩)) sr :=
 ⟨r.hd,by have:=r.dp;rw[Ju];omega,by have:=r.un;rw[Jt];omega⟩
theorem Room.depth {k:Nat}{A:Around}{sr:Bool}(r:Room k A sr):A.depth<recursionLimit:=by have:=r.dp;omega
theorem Room.units {k:Nat}{A:Around}{sr:Bool}(r:Room k A sr):A.units+64<cLine:=by have:=r.un;omega
def Room.loose {k:Nat}(r:Room k A sr):Room k A:=⟨(λz=>nomatch z),r.dp,r.un⟩
def tNil:TA:=λ_ H Q=>Q [] H
def tCons (ta:TE)(a:TA):TA:=λσ H Q=>ta σ H λx H1=>a σ H1 λxs H2=>Q (x::xs) H2
section
variable {X:Cx}{e:Expr}{es:TL}{te:TE}{t:TA}
theorem Z7:PA X [] tNil:=λ_ _ _ _ H Q I h=>Y0Z ⟨[],H,I,.nil,h⟩
theorem Z0 (ha:PE X e te)(hr:PA X es t)(hs:starEach (e::es) X.env=(false,eval e X.env)::starEach es X.env:=by rfl):PA X (e::es) (tCons te t):=by
 intro pos pins s σ H Q I h;rw[hs];show wpAny _ _ (spliced ((false,eval e X.env)::backTo pos (starEach es X.env))) _ _ s;refine Y0P (thn (ha pins s σ H _ I h) λu s1 ⟨x,H1,d,r1,c⟩=>?_);exact thn (hr pos pins s1 σ H1 _ d c) λus s2 ⟨xs,H2,b,r2,a⟩=>⟨x::xs,H2,b,.cons r1 r2,a⟩
def tTup (t:TA):TE:=λσ H Q=>t σ H λxs H1=>xs.length<=sizeLine/\∀ p,H1 p=none->Q (.ref p) (upd H1 p (.tup xs))
def tLst (t:TA):TE:=λσ H Q=>t σ H λxs H1=>xs.length<=sizeLine/\∀ p,H1 p=none->Q (.ref p) (upd H1 p (.lst xs))
theorem Yl {x1}(h:PA X es t):PE X (.Tuple es x1 pos) (tTup t):=by
 intro pins s σ H Q I hq;refine wpAny_Tuple_spliced (thn (h pos pins s σ H _ I hq) λus s1 ⟨xs,H1,a,r,z,q⟩=>⟨by rw[<-r.length];exact z,?_⟩);have hf:H1 s1.heap.objs.size=none:=a.hok.fresh (YJ _);refine⟨.ref s1.heap.objs.size,upd H1 s1.heap.objs.size (.tup xs),a.laid (t':=s1.toks) (λb u e=>YB _ e) (YJ _) ?_,rfl,q _ hf⟩;exact⟨z,us,r,⟨_,YN _ rfl,rfl,_,rfl⟩⟩
theorem Xs (h:PA X es t):PE X (.List es pos) (tLst t):=by
 intro pins s σ H Q I hq;refine wpAny_List_spliced (thn (h pos pins s σ H _ I hq) λus s1 ⟨xs,H1,a,r,z,q⟩=>⟨by rw[<-r.length];exact z,?_⟩);have hf:H1 s1.heap.objs.size=none:=a.hok.fresh (YJ _);refine⟨.ref s1.heap.objs.size,upd H1 s1.heap.objs.size (.lst xs),a.laid (t':=s1.toks) (λb u e=>YB _ e) (YJ _) ?_,rfl,q _ hf⟩;exact⟨z,us,0,r,YN _ rfl⟩
end
abbrev Sp:=List V->Hp->VK->XK->Prop
abbrev CXT:=List Env->Hp->Shared->XK->Value->Shared->Prop
structure Env0 (P:TU)(w:World)(K:TR)(mg:TB)(base:Heap)(A:Around)(outer:TN)(s:Shared)(H:Hp):Prop where
 frames:A.frames=some outer
 mod:Mod K mg base
 bs:∀ b o,base.get? b=some o->s.heap.get? b=some o/\H b=none
 bsz:base.objs.size<=s.heap.objs.size
 funs:s.heap.FunFrames base outer
 frf:∀ b∈frs outer,H b=none
 hok:HOk P w H s.heap
 bare:AllBare s.gens
 qt:_b.QtE A s.heap H (frs outer)
 tree:P.given.tree=none
def CE (outer:TN)(P:TU)(w:World)(H:Hp)(s:Shared)(Q:VK)(u:Value)(s':Shared):Prop :=
 ∃ v H',s'.os=s.os/\AllBare s'.gens/\Un (frs outer) [] H H' s.heap s'.heap/\HOk P w H' s'.heap/\RelV v u/\Q v H'
def CR (CX:CXT)(outer:TN)(P:TU)(w:World)(H:Hp)(s:Shared)(Q:VK)(E:XK)(r:Result)(s':Shared):Prop :=
 match r with
 | .ok (.ret u)=>CE outer P w H s Q u s'
 | .ok _=>False
 | .error e=>CX outer H s E e s'
structure FnOk (P:TU)(w:World)(K:TR)(mg:TB)(base:Heap)(CX:CXT)(k:Nat)(f:Addr)(fd:FuncData)(ps:TF)(sp:Sp)(sr:Bool:=false):Prop where
 len:∀ vs H Q E,sp vs H Q E->vs.length=ps.length
 run:∀ (A:Around) (outer:TN) (s:Shared) (H:Hp) (args:Args) (us:TH) (vs:TZ) (Q:VK) (E:XK),Room k A sr->Env0 P w K mg base A outer s H->BindsTo s fd args (ps.zip us)->Vals vs us->sp vs H Q E →
  codeAny (model P w) A (.call (.ref f) args) (CR CX outer P w H s Q E) s
def FnOk.imp {P:TU}{base:Heap}{CX:CXT}{k:Nat}{sp a:Sp}(F:FnOk P w K mg base CX k f fd ps sp sr)
  (h:∀ vs H Q E,a vs H Q E->sp vs H Q E):FnOk P w K mg base CX k f fd ps a sr :=
 ⟨λvs H Q E q=>F.len vs H Q E (h _ _ _ _ q),λA outer s H args us vs Q E hr b d c hs=>F.run A outer s H args us vs Q E hr b d c (h _ _ _ _ hs)⟩
def Env0.make {P:TU}{base:Heap}{outer:TN}(e:Env0 P w K mg base A outer s H)(C:Addr)(us:TH)(a:List (Str × Value)) :
  Env0 P w K mg base (A.under (.builtin "type.__call__" ⟨.ref C::us,a⟩)) outer s H:=⟨by first | exact e.frames | (simpa [Around.under,Code.envs,Code.isFrame,pushEnvs] using e.frames),e.mod,e.bs,e.bsz,e.funs,e.frf,e.hok,e.bare,e.qt,e.tree⟩
theorem Env0.in1 {P:TU}{w:World}{K:TR}{mg:TB}{base:Heap}{A:Around}{outer:TN}{s:Shared}{H:Hp}(e:Env0 P w K mg base A outer s H) :
  Env0 P w K mg base A.in1 outer s H:=⟨e.frames,e.mod,e.bs,e.bsz,e.funs,e.frf,e.hok,e.bare,e.qt,e.tree⟩
section
variable {X:Cx}{σ:St}{H:Hp}{s':Shared}
def Inv.env0 (I:Inv X pins σ H s)(hc:X.calm=true):Env0 X.prog X.w X.K X.mg X.base X.A X.stack s H :=
 ⟨I.ok.frames,I.ok.mod,I.bs,YM I.ok.bsz I.sz,I.stack,I.stkFree,I.hok,I.bare,(I.ok.hd hc).imp id λ⟨p,hp,e,n⟩=>by
  obtain⟨a1,a2,a3,a4,a5⟩:=I.pin p (XJ _ hp);exact⟨p.1,p.2,e,a1,n,a2,λz=>(YU.mp (I.stkSub p.1 z)).elim a3 a4,a5⟩,I.ok.seen.1⟩
theorem Inv.after {Q:VK}(I:Inv X pins σ H s)(h:CE X.stack X.prog X.w H s Q u s'):EP X pins σ Q u s':=by
 obtain⟨v,H',os,bare,un,hok,r,q⟩:=h;obtain⟨c,g,d,t,a⟩:=s';obtain rfl:a=s.os:=os;exact⟨v,H',I.call (h':=c) (g':=g) (d':=d) (t':=t) (ch:=[]) un hok bare (λb z=>absurd z J7),r,q⟩
end
def tCall (sp:Sp)(dvs:TZ)(E:XK)(t:TA):TE:=λσ H Q=>t σ H λvs H1=>sp (vs++dvs) H1 Q E
def tMake (C:Addr)(sp:Sp)(dvs:TZ)(E:XK)(t:TA):TE:=λσ H Q=>t σ H λvs H1=>∀ x dx,H1 x=none->H1 dx=none->dx≠x →
 sp (.ref x::(vs++dvs)) (upd (upd H1 dx (.own x)) x (.ins C dx [])) (λv H2=>v=.non/\Q (.ref x) H2) E
def Binds (K:TR)(fd:FuncData)(ps:TF)(ds:TH):Prop :=
 ∀ (s:Shared) (us:TH),K.In s.heap->(us++ds).length=ps.length->BindsTo s fd ⟨us,[]⟩ (ps.zip (us++ds))
def Binds.all (h:∀ us:List Value,us.length=ps.length->bindArgs fd ⟨us,[]⟩=pure (ps.zip us)):Binds K fd ps []:=λs us _ hl=>by
 rw[JT] at hl ⊢;exact .of_eq (h us hl)
def Passes (CX:CXT)(X:Cx)(E:XK):Prop:=∀ (pins:TD) (σ:St) (H:Hp) (s:Shared) (e:Value) (s':Shared),Inv X pins σ H s->CX X.stack H s E e s'->X.xe e s'
section
variable {X:Cx}{CX:CXT}{k:Nat}{sp:Sp}{dvs:TZ}{ds:TH}{E:XK}{x:Str}{p:Pos}{e:Expr}{es:TL}{t:TA}
theorem Z6z {pins:TD}{σ:St}{H:Hp}{s:Shared}{Q:VK}{us:TH}{vs:TZ}{sr:Bool}(F:FnOk X.prog X.w X.K X.mg X.base CX k f fd ps sp sr)(hr:Room k X.A sr)(b:Binds X.K fd ps ds)(hd:Vals dvs ds)(hx:Passes CX X E)(hc:X.calm=true)
  (I:Inv X pins σ H s) (r:Vals vs us) (h:sp (vs++dvs) H Q E):wX X (call (.ref f) us) (EP X pins σ Q) X.xe s:=by
 have r2:Vals (vs++dvs) (us++ds):=r.append hd;have hl:(us++ds).length=ps.length:=by rw[<-r2.length];exact F.len _ _ _ _ h
 refine Y0o (jj (F.run X.A X.stack s H ⟨us,[]⟩ (us++ds) (vs++dvs) Q E hr (I.env0 hc) (b s us I.kIn hl) r2 h) λr s' hq=>?_)
 cases r with
 | error e=>exact hx pins σ H s e s' I hq
 | ok a =>
  cases a with
  | ret u=>exact I.after hq
  | next=>exact False.elim hq
  | brk=>exact False.elim hq
  | cont=>exact False.elim hq
theorem Gu (F:FnOk X.prog X.w X.K X.mg X.base CX k f fd ps sp sr)(hr:Room k X.A sr)(hg:Gl X x)(hm:X.mg x=some (.ref f))(hk:W.keepIn X.K (.ref f)=true)(g:Binds X.K fd ps ds)(hd:Vals dvs ds)(hx:Passes CX X E)
  (ha:PA X (e::es) t) (b:(x == ("__debug__":Str))=false:=by decide) (d:starEach (e::es) X.env=(false,eval e X.env)::starEach es X.env:=by rfl) (a:(backTo pos (starEach es X.env)).any (·.1)=false:=by rfl) (hc:X.calm=true:=by rfl) :
  PE X (.Call (.Name x p) (e::es) [] pos) (tCall sp dvs E t):=by
 intro pins s σ H Q I h;refine qk (Vo I hg hm ?_ b);refine W.callWith_K (h₀:=X.base) I.ok.mod.kin hk (thn (ha pos pins s σ H _ I h) λus s1 ⟨vs,H1,c,r,q⟩=>⟨c.kIn,?_⟩) d a;exact Z6z F hr g hd hx hc c r q
structure Mk (K:TR)(C f:Addr):Prop where
 makes:W.makesIn K C=true
 init:W.findIn K (.ref C) "__init__"=some (some (.ref f))
 fn:W.isFn K (.ref f)=true
 kp:W.keepIn K (.ref C)=true
theorem Z0g {pins:TD}{σ:St}{H:Hp}{s:Shared}{Q:VK}{us:TH}{vs:TZ}(M:Mk X.K C f){sr:Bool}(F:FnOk X.prog X.w X.K X.mg X.base CX k f fd ps sp sr)(hr:Room (k+1) X.A sr)(i:Binds X.K fd ps ds)(hd:Vals dvs ds)
  (hx:Passes CX X E) (hc:X.calm=true) (I:Inv X pins σ H s) (r:Vals vs us)
  (h:∀ x dx,H x=none->H dx=none->dx≠x->sp (.ref x::(vs++dvs)) (upd (upd H dx (.own x)) x (.ins C dx [])) (λv H2=>v=.non/\Q (.ref x) H2) E) :
  wX X (call (.ref C) us) (EP X pins σ Q) X.xe s:=by
 have hq:=h (s.heap.objs.size+1) s.heap.objs.size (I.hok.fresh (zj _)) (I.hok.fresh (YJ _)) (XB (ji _));have b:=Inv.made (C:=C) I;have r2:Vals (V.ref (s.heap.objs.size+1)::(vs++dvs)) (Value.ref (s.heap.objs.size+1)::(us++ds)):=.cons rfl (r.append hd);have hl:(Value.ref (s.heap.objs.size+1)::us++ds).length=ps.length:=by
  have e:=r2.length;rw[F.len _ _ _ _ hq] at e;exact e.symm
 refine Y0o (Z1z (f:=f) I.kIn M.makes M.init (GV.mp M.fn) (jj (F.run _ X.stack _ _ ⟨Value.ref (s.heap.objs.size+1)::us,[]⟩ (Value.ref (s.heap.objs.size+1)::(us++ds)) _ _ E (hr.make C us [])
  ((b.env0 hc).make C us []) (i _ (Value.ref (s.heap.objs.size+1)::us) b.kIn hl) r2 hq) λr s' a=>?_))
 cases r with
 | error e=>exact hx pins σ _ _ e s' b a
 | ok g =>
  cases g with
  | ret u =>
   obtain⟨v,H',c,rv,ev,d⟩:=b.after a;subst ev;exact⟨rv,⟨V.ref (s.heap.objs.size+1),H',c,rfl,d⟩⟩
  | next=>exact False.elim a
  | brk=>exact False.elim a
  | cont=>exact False.elim a
theorem Gs (M:Mk X.K C f){sr:Bool}(F:FnOk X.prog X.w X.K X.mg X.base CX k f fd ps sp sr)(hr:Room (k+1) X.A sr)(hg:Gl X x)(hm:X.mg x=some (.ref C))(g:Binds X.K fd ps ds)(hd:Vals dvs ds)(hx:Passes CX X E)
  (ha:PA X (e::es) t) (b:(x == ("__debug__":Str))=false:=by decide) (d:starEach (e::es) X.env=(false,eval e X.env)::starEach es X.env:=by rfl) (a:(backTo pos (starEach es X.env)).any (·.1)=false:=by rfl) (hc:X.calm=true:=by rfl) :
  PE X (.Call (.Name x p) (e::es) [] pos) (tMake C sp dvs E t):=by
 intro pins s σ H Q I h;refine qk (Vo I hg hm ?_ b);refine W.callWith_K (h₀:=X.base) I.ok.mod.kin M.kp (thn (ha pos pins s σ H _ I h) λus s1 ⟨vs,H1,c,r,q⟩=>⟨c.kIn,?_⟩) d a;exact Z0g M F hr g hd hx hc c r q
end
structure FnScope (N P:TF)(sc:Scope):Prop where
 kind:sc.kind=.function
 co:sc.isCoroutine=false
 gen:sc.isGenerator=false
 nd:N.Nodup
 pre:N.take P.length=P
 par:∀ x∈P,sc.names.lookup x=some .local \/ sc.names.lookup x=some .cell
 nofree:∀ y∈sc.names,y.2≠.free
def fsc {N P:TF}{sc:Scope}(a:sc.kind=.function:=by rfl)(b:sc.isCoroutine=false:=by rfl)(c:sc.isGenerator=false:=by rfl)(d:N.Nodup:=by decide +kernel)(e:N.take P.length=P:=by rfl)(f:∀ x∈P,sc.names.lookup x=some .local ∨ sc.names.lookup x=some .cell:=by decide +kernel)(g:∀ y∈sc.names,y.2≠.free:=by decide +kernel):FnScope N P sc:=⟨a,b,c,d,e,f,g⟩
theorem Nh {b:Str->Option NameKind}{x:Str}:∀ {a:List (Str × Value)} {m:TB},(∀ v,(x,v) ∉ a)->bindL b a m x=m x
 | [],_,_=>rfl
 | (n,v)::r,m,h=>by
  unfold bindL;rw[Nh λw hw=>h w (YV _ hw)];split
  ·have:x≠n:=by rintro rfl;exact h v XC
   simp[this]
  rfl
theorem Nj {b:Str->Option NameKind}{x:Str}:∀ {a:List (Str × Value)} {m:TB},(∀ v,(x,v) ∉ a)->bindC b a m x=m x
 | [],_,_=>rfl
 | (n,v)::r,m,h=>by
  unfold bindC;rw[Nj λw hw=>h w (YV _ hw)];split
  ·rfl
  have:x≠n:=by rintro rfl;exact h v XC
  simp[this]
theorem Ni {a:Str->Option NameKind}{x:Str}{v:Value}:∀ {P:TF} {vs:TH} {i:Nat} {m:TB},P.Nodup->P[i]?=some x->vs[i]?=some v->a x=some .local →
  bindL a (P.zip vs) m x=some v
 | [],_,_,_,_,h,_,_=>by simp at h
 | _::_,[],_,_,_,_,h,_=>by simp at h
 | p::P,w::vs,0,m,nd,h1,h2,hk=>by
  simp at h1 h2;subst h1;subst h2;show bindL a ((p,w)::P.zip vs) m p=_;unfold bindL;rw[Nh λv b=>(zq.mp nd).1 (Y0y b).1,YG hk];simp
 | p::P,w::vs,i+1,m,nd,h1,h2,hk=>by
  show bindL a ((p,w)::P.zip vs) m x=_;unfold bindL;exact Ni (i:=i) (zq.mp nd).2 (by simpa using h1) (by simpa using h2) hk
theorem Nk {a:Str->Option NameKind}{x:Str}{v:Value}:∀ {P:TF} {vs:TH} {i:Nat} {m:TB},P.Nodup->P[i]?=some x->vs[i]?=some v->a x≠some .local →
  bindC a (P.zip vs) m x=some v
 | [],_,_,_,_,h,_,_=>by simp at h
 | _::_,[],_,_,_,_,h,_=>by simp at h
 | p::P,w::vs,0,m,nd,h1,h2,hk=>by
  simp at h1 h2;subst h1;subst h2;show bindC a ((p,w)::P.zip vs) m p=_;unfold bindC;rw[Nj λv b=>(zq.mp nd).1 (Y0y b).1,YD hk];simp
 | p::P,w::vs,i+1,m,nd,h1,h2,hk=>by
  show bindC a ((p,w)::P.zip vs) m x=_;unfold bindC;exact Nk (i:=i) (zq.mp nd).2 (by simpa using h1) (by simpa using h2) hk
def start (N:TF)(vs:TZ):St:=vs.map some++List.replicate (N.length - vs.length) none
abbrev wY(q:Str)(c:Scope)(s:Shared)(f:Addr)(d:Value):=envOfC q c s.heap.objs.size f d
def cxOf (CX:CXT)(P:TU)(w:World)(K:TR)(mg:TB)(base:Heap)(N:TF)(qual:Str)(scope:Scope)(f:Addr)(cd:Value)(A:Around)(outer:TN)(s:Shared)(H:Hp)(E:XK):Cx where
 prog:=P
 w:=w
 K:=K
 mg:=mg
 base:=base
 A:=A.deeper (wY qual scope s f cd)
 N:=N
 s₀:=s
 H₀:=H
 env:=wY qual scope s f cd
 outer:=outer
 stack:=wY qual scope s f cd::outer
 ex:=[]
 calm:=true
 fn:=λ_=>true
 pn:=_b.qpin A s.heap
 xe:=λe s'=>wpAny (model P w) (A.deeper (wY qual scope s f cd)) (leaving (wY qual scope s f cd) e) (λ_ a=>CX outer H s E e a) (λe' a=>CX outer H s E e' a) s'
def Kn {sc:Scope}{n:Nat}{x:Str}(h:sc.names.lookup x=some .cell):∃ c,(cellsFrom n sc.names []).lookup x=some c:=by
 have q:=W.cellsFrom_some sc.names n [] (.inl h);exact zg.mp q
theorem Ci {CX:CXT}{P:TU}{w:World}{K:TR}{mg:TB}{base:Heap}{N ps:TF}{qual:Str}{scope:Scope}{f:Addr}{cd:Value}{A:Around}{outer:TN}{s s1:Shared}{H:Hp}{E:XK}{us:TH}{vs:TZ}
  (S:FnScope N ps scope) (e0:Env0 P w K mg base A outer s H) (l:A.depth+1+100<recursionLimit) (hl:vs.length=ps.length) (r:Vals vs us)
  (x:InCallC s s.heap.objs.size (bindL (wY qual scope s f cd).kindOf (ps.zip us) λ_=>none) (cellsFrom (s.heap.objs.size+1) scope.names []) (bindC (wY qual scope s f cd).kindOf (ps.zip us) λ_=>none) s1) :
  Inv (cxOf CX P w K mg base N qual scope f cd A outer s H E) [] (start N vs) H s1:=by
 have m:ps.length<=N.length:=by have:=congrArg List.length S.pre;rw[JX] at this;omega
 obtain⟨h1,tk,rfl,hk⟩:=x.done;have g:∀ b:Addr,b ∉ (cxOf CX P w K mg base N qual scope f cd A outer s H E).ex:=λb z=>absurd (show b∈([]:TJ) from z) J7;refine⟨⟨e0.mod,S.kind,rfl,rfl,YJ _,λy z c h1 h2=>?_,λy d=>?_,λy c _ h=>?_,λ_=>e0.qt.pin,Around.frames_deeper e0.frames,.inr ⟨rfl,rfl⟩,λb z=>absurd z (g b),e0.bs,e0.bsz,λb _ _=>g b,λb z=>absurd z (g b),e0.funs,e0.frf,⟨e0.tree,_,_,rfl,S.gen,S.co,rfl,rfl⟩,l⟩,
  rfl,e0.bare,Un.kept hk,⟨_,x.toInCall.ns,λi y v h1 h2 o=>?_⟩,λy c h=>⟨_,x.cell y c h⟩,e0.hok.fresh (YJ _),λy c h=>?_,λp hp=>?_,e0.hok.kept hk,?_⟩
 rotate_right 2
 ·obtain⟨a1,a2,a3,a4⟩:=e0.qt.mem p ((XS.mp hp).elim id λz=>absurd z J7);exact⟨hk _ _ a1,a2,XB (YL a1),a3,a4⟩
 rotate_left 1
 ·exact name_of_addr x.apart (qZ h1) (qZ h2)
 ·have d:scope.names.lookup y=some .cell \/ scope.names.lookup y=some .free:=d;rcases d with d | d
  ·exact Kn d
  exact absurd rfl (S.nofree _ (qZ d))
 ·exact JC (x.above y c (qZ h))
 ·have hi:i<vs.length:=by
   unfold start at h2;by_cases hi:i<vs.length
   ·exact hi
   rw[JQ (by simpa using hi)] at h2;rw[Y1i] at h2;split at h2 <;> cases h2
  have ha:vs[i]?=some v:=by
   unfold start at h2;rw[JS (by simpa using hi),YI] at h2
   cases e:vs[i]? with
   | none=>rw[e] at h2;cases h2
   | some a=>rw[e] at h2;cases h2;rfl
  obtain⟨u,hu,rv⟩:=r.get ha;have hp:ps[i]?=some y:=by
   rw[<-S.pre,Y1a J5];exact h1
  have j:ps.Nodup:=by rw[<-S.pre];exact S.nd.sublist (List.take_sublist _ _)
  refine⟨u,rv,?_⟩;rcases S.par y (YE hp) with k | k
  ·exact .inl ⟨k,Ni j hp hu k⟩
  obtain⟨c,e⟩:=Kn (n:=s.heap.objs.size+1) k;refine .inr ⟨.inl k,c,e,?_⟩;have q:=x.cell y c e;rw[Nk j hp hu (by show scope.names.lookup y≠_;rw[k];decide)] at q;exact q
 ·exact e0.hok.fresh (JC (x.above y c (qZ h)))
 unfold start;show _=N.length;rw[XD,YC,GY];omega
theorem Z2f {CX:CXT}{P:TU}{w:World}{K:TR}{mg:TB}{base:Heap}{k:Nat}{f:Addr}{name qual:Str}{a:Arguments}{body:TM}{scope:Scope}{l kV doc pm cdv ct oc:Value}{an od:TQ}
  {osl:Array (Option Value)} {N ps:TF} {sp:Sp} {sr:Bool} (lk:K.lookup f=some ⟨oc,od,.func (W.fnOf name qual a body scope l kV doc pm an cdv ct),osl⟩) (j:W.codeIn K cdv qual=true) (S:FnScope N ps scope)
  (len:∀ vs H Q E,sp vs H Q E->vs.length=ps.length)
  (d:∀ (A:Around) (outer:TN) (s:Shared) (H:Hp) (vs:TZ) (Q:VK) (E:XK),Room k (A.deeper (wY qual scope s f cdv)) sr->sp vs H Q E →
   ∃ t,PSs (cxOf CX P w K mg base N qual scope f cdv A outer s H E) body t/\t { nx:=λ_ H'=>Q .non H',rt:=Q } (start N vs) H) :
  FnOk P w K mg base CX (k+1) f (W.fnOf name qual a body scope l kV doc pm an cdv ct) ps sp sr:=by
 refine⟨len,λA outer s H args us vs Q E hr e0 C r h=>?_⟩;have hl:=len _ _ _ _ h;have KX:K.In s.heap:=e0.mod.kin.keeps λb o e=>(e0.bs b o e).1;have i:s.heap.NoLimit:=e0.mod.nolimit.keeps λb o e=>(e0.bs b o e).1;have c:∀ y∈ps.zip us,scope.names.lookup y.1=some .local \/ (scope.names.lookup y.1=some .cell/\((cellsFrom (s.heap.objs.size+1) scope.names []).lookup y.1).isSome=true):=λ⟨n,v⟩ m=>by
  rcases S.par n (Y0y m).1 with q | q
  ·exact .inl q
  exact .inr ⟨q,W.cellsFrom_some _ _ _ (.inl q)⟩
 refine codeAny_call_function hr.depth (KX _ _ lk) rfl S.co S.gen rfl (W.codeRec_of KX j) (C _ _ _ _ ?_);refine wpAny_newFunctionEnv_cells S.kind c λenv p s1 x=>?_;subst p;refine⟨i.keeps x.toInCall.keep,codeAny_func ?_⟩;obtain⟨t,z,hq⟩:=d A outer s H vs Q E (hr.deeper _) h;have I:Inv (cxOf CX P w K mg base N qual scope f cdv A outer s H E) [] (start N vs) H s1:=Ci S e0 (by have:=(hr.deeper (wY qual scope s f cdv)).dp;have:A.depth+1+3*k+105<recursionLimit:=this;omega) hl r x;refine GO (z [] s1 (start N vs) H _ I hq) (λB s' hs=>?_) λe s' hs=>hs;have g:∀ {σ':St} {H':Hp} {v:V} {u:Value},Inv (cxOf CX P w K mg base N qual scope f cdv A outer s H E) [] σ' H' s'->RelV v u->Q v H'->CE outer P w H s Q u s' :=
  λ{σ' H' v u} J rv q=>⟨v,H',J.os,J.bare,J.base,J.hok,rv,q⟩
 cases B with
 | ret u =>
  obtain⟨v,σ',H',J,rv,q⟩:=hs;exact g J rv q
 | next =>
  obtain⟨σ',H',J,q⟩:=hs;exact g (v:=V.non) (u:=Value.none) J rfl q
 | brk =>
  obtain⟨_,_,_,q⟩:=hs;exact False.elim q
 | cont =>
  obtain⟨_,_,_,q⟩:=hs;exact False.elim q
end _L
variable {sp:_L.Sp}
namespace _L
open PySem PySem.Spec PyProof.Rows
section
variable {X:Cx}{x:Str}{p:Pos}{e:Expr}{es:TL}{t:TA}{id T:String}{r:List V->Hp->VK->Prop}
def tCB (r:List V->Hp->VK->Prop)(t:TA):TE:=λσ H Q=>t σ H λvs H1=>r vs H1 Q
theorem Zw (hc:CallR X (.builtin id) r)(hg:Gl X x)(hm:X.mg x=none)(f:bootBuiltins x=some (.builtin id))(ha:PA X (e::es) t)(hn:x≠"__name__":=by decide)(b:(x == ("__debug__":Str))=false:=by decide)
  (d:starEach (e::es) X.env=(false,eval e X.env)::starEach es X.env:=by rfl) (a:(backTo pos (starEach es X.env)).any (·.1)=false:=by rfl):PE X (.Call (.Name x p) (e::es) [] pos) (tCB r t):=by
 intro pins s σ H Q I h;refine qk (Wq I hg hm f ?_ hn b);exact Y0p (thn (ha pos pins s σ H _ I h) λus s1 ⟨vs,H1,g,r1,c⟩=>hc pins s1 σ H1 vs us Q g r1 c) d a
theorem Y6 (hc:CallR X (.type T) r)(hg:Gl X x)(hm:X.mg x=none)(f:bootBuiltins x=some (.type T))(ha:PA X (e::es) t)(hn:x≠"__name__":=by decide)(b:(x == ("__debug__":Str))=false:=by decide)
  (d:starEach (e::es) X.env=(false,eval e X.env)::starEach es X.env:=by rfl) (a:(backTo pos (starEach es X.env)).any (·.1)=false:=by rfl):PE X (.Call (.Name x p) (e::es) [] pos) (tCB r t):=by
 intro pins s σ H Q I h;refine qk (Wq I hg hm f ?_ hn b);exact JM (thn (ha pos pins s σ H _ I h) λus s1 ⟨vs,H1,g,r1,c⟩=>hc pins s1 σ H1 vs us Q g r1 c) d a
end
abbrev TO:=St->Hp->(Option Int->Hp->Prop)->Prop
def Qy {ns:TV}:∀ {us:TH},Vals (ns.map V.int) us->IntsAre us ns:=by
 induction ns with
 | nil=>intro us r;rw[List.map_nil] at r;cases r;exact .nil
 | cons n ns a =>
  intro us r;rw[GR] at r
  cases r with
  | cons r1 r2 =>
   obtain⟨t,e⟩:=r1;subst e;exact .cons n t (a r2)
def ixN (n:Nat)(i:Int):Option Nat:=if 0<=i then (if i<n then some i.toNat else none) else if -(n:Int)<=i then some (i+n).toNat else none
def atI {α:Type}(xs:List α)(i:Int):Option α:=(ixN xs.length i).bind λj=>xs[j]?
def Fe {n:Nat}{i:Int}(h:ixN n i=some j):seqIndex? i n=some j/\j<n/\-(n:Int)<=i/\i<n:=by
 unfold ixN at h;by_cases h0:0<=i
 ·rw[YG h0] at h;by_cases h1:i<n
  ·rw[YG h1] at h;have e:i.toNat=j:=YR h;exact⟨by rw[seqIndex_of h0 h1,e],J5,J5,h1⟩
  rw[YD h1] at h;cases h
 rw[YD h0] at h;by_cases h1:-(n:Int)<=i
 ·rw[YG h1] at h;have e:(i+n).toNat=j:=YR h;exact⟨by rw[seqIndex_neg J5 h1,e],J5,h1,J5⟩
 rw[YD h1] at h;cases h
def Fq {α:Type}{xs:List α}{i:Int}{v:α}(h:atI xs i=some v):∃ j,seqIndex? i xs.length=some j/\xs[j]?=some v/\j<xs.length/\-(xs.length:Int)<=i/\i<xs.length:=by
 unfold atI at h
 cases e:ixN xs.length i with
 | none=>rw[e] at h;cases h
 | some j =>
  rw[e] at h;obtain⟨h1,h2,a,b⟩:=Fe e;exact⟨j,h1,h,h2,a,b⟩
def Zh {α:Type}{xs:List α}{v:α}(h:xs[j]?=some v):atI xs (j:Int)=some v:=by
 have hj:j<xs.length:=(YH.mp h).1;have e:ixN xs.length (j:Int)=some j:=by
  unfold ixN;rw[YG J5,YG J5];simp
 unfold atI;rw[e];exact h
def PlainIx (b:Expr):Prop:=∀ o i,subscripted b false o i=operate [o,i] (getItem o i)
def IxR (X:Cx)(r:R2):Prop :=
 ∀ (value a:Expr) (pins:TD) (s:Shared) (σ:St) (H:Hp) (x y:V) (v u:Value) (Q:VK),Inv X pins σ H s->RelV x v->RelV y u->r x y H Q →
  subscripted a false v u=operate [v,u] (getItem v u)->wX X (subscriptTail value a v u) (EP X pins σ Q) X.xe s
def MtR (X:Cx)(id:String)(r:V->List V->Hp->VK->Prop):Prop :=
 ∀ (pins:TD) (s:Shared) (σ:St) (H:Hp) (x:V) (xs:TZ) (v:Value) (us:TH) (Q:VK),Inv X pins σ H s->RelV x v->Vals xs us->r x xs H Q →
  wX X (call (.builtin id) (v::us)) (EP X pins σ Q) X.xe s
section
variable {X:Cx}{a b:Expr}{ta tb:TE}
theorem Zf {r:R2}(hr:IxR X r)(ha:PE X a ta)(e:PE X b tb)(hs:PlainIx b:=by exact λ_ _=>rfl):PE X (.Subscript a b pos) (tOp r ta tb):=by
 intro pins s σ H Q I h;exact Subscript_ (Z86 ha e I h λv u s2 x y H2 d f c q=>hr a b pins s2 σ H2 x y v u Q d f c q (hs _ _))
inductive rIxL (K:TR) (x:V) (y:V) (H:Hp) (Q:VK):Prop
 | mk (p xs i v:_) (zz0:x=.ref p) (zz1:y=.int i) (zz2:SqL K H p xs) (zz3:atI xs i=some v) (zz4:Q v H)
inductive rIxT (K:TR) (x:V) (y:V) (H:Hp) (Q:VK):Prop
 | mk (p xs i v:_) (zz0:x=.ref p) (zz1:y=.int i) (zz2:SqT K H p xs) (zz3:atI xs i=some v) (zz4:Q v H)
theorem Zt:IxR X (rIxL X.K):=by
 intro value b pins s σ H x y v u Q I l f h hs;obtain⟨p,xs,i,z,rfl,rfl,hq,g,q⟩:=h
 cases l;obtain⟨t,rfl⟩:=f;obtain⟨its,r,pl,hz⟩:=I.list hq;obtain⟨j,h1,h2,m,k,e⟩:=Fq g;obtain⟨w,d,c⟩:=r.get h2;have hl:=r.length;have hn:=Qq;have a:EP X pins σ Q w s:=⟨z,H,I,c,q⟩;by_cases h0:0<=i
 ·have hj:i.toNat=j:=by
   rw[seqIndex_of h0 e] at h1;exact YR h1
  exact item_listR pl.isList h0 J5 (by rw[hj];simpa using d) a hs
 have hj:(i+(its.toArray.size:Int)).toNat=j:=by
  rw[seqIndex_neg J5 k] at h1;rw[YS,<-hl];exact YR h1
 exact Y09 (x:=w) pl.isList.typeIs slot_list_getitem.lookup
  (wpAny_getItem_list_neg (Q:=λr s'=>r=w/\EP X pins σ Q r s') pl.isList J5 (by rw[YS] <;> omega) J5 (by rw[hj];simpa using d) ⟨rfl,a⟩) hs
theorem Yg:IxR X (rIxT X.K):=by
 intro value a pins s σ H x y v u Q I g d h hs;obtain⟨p,xs,i,z,rfl,rfl,hq,e,q⟩:=h
 cases g;obtain⟨t,rfl⟩:=d;obtain⟨its,r,pl,hz⟩:=I.tuple hq;obtain⟨j,h1,h2,l,m,k⟩:=Fq e;obtain⟨w,f,b⟩:=r.get h2;have hl:=r.length;have hn:=Qq;have c:EP X pins σ Q w s:=⟨z,H,I,b,q⟩;exact Y09 (x:=w) pl.typeIs slot_tuple_getitem.lookup
  (getItem_tuple (j:=j) (Q:=λr s'=>r=w/\EP X pins σ Q r s') pl J5 J5 (by rw[YS,<-hl];exact h1) (by simpa using f) ⟨rfl,c⟩) hs
def Js (its:TH)(n j:Nat)(u:Value):Obj.mapSeq (·.setIfInBounds j u) { cls:=.type "list",data:=.seq its.toArray n }={ cls:=.type "list",data:=.seq (its.set j u).toArray n }:=by
 simp[Obj.mapSeq]
theorem Inv.lst {pins:TD}{σ:St}{H:Hp}{s:Shared}{p:Addr}{xs:TZ}(I:Inv X pins σ H s)(h:H p=some (.lst xs)) :
  ∃ (its:TH) (n:Nat),Vals xs its/\s.heap.get? p=some { cls:=.type "list",data:=.seq its.toArray n }/\xs.length<=sizeLine:=by
 obtain⟨z,its,n,r,e⟩:=I.hok p _ h;exact⟨its,n,r,e,z⟩
def Inv.lstUpd {p:Addr}{ys:TZ}{its its':TH}{n n':Nat}{f:Obj->Obj}(I:Inv X pins σ H s)(h:H p=some (.lst xs))
  (ho:s.heap.get? p=some { cls:=.type "list",data:=.seq its.toArray n }) (hf:f { cls:=.type "list",data:=.seq its.toArray n }={ cls:=.type "list",data:=.seq its'.toArray n' }) (r:Vals ys its') (hz:ys.length<=sizeLine) (t:Nat) :
  Inv X pins σ (upd H p (.lst ys)) { s with heap:=s.heap.update p f,toks:=t }:=by
 have e:(s.heap.update p f).get? p=some { cls:=.type "list",data:=.seq its'.toArray n' }:=by
  rw[JJ f ho (by rw[hf] <;> rfl),hf]
 refine I.write (x:=p) (e:=p) (by rw[h];trivial) (.inl rfl) (λb u a q=>(JB _ _ (XQ a)).trans q) ⟨_,e⟩ ?_;exact⟨hz,its',n',r,e⟩
inductive rSetL (o:V) (i:V) (v:V) (H:Hp) (Q:(Hp->Prop)):Prop
 | mk (p xs k j:_) (zz0:o=.ref p) (zz1:i=.int k) (zz2:H p=some (.lst xs)) (zz3:ixN xs.length k=some j) (zz4:Q (upd H p (.lst (xs.set j v))))
theorem Wi:PSet X rSetL:=by
 intro pins s σ H o i v ov iv u Q I d e rv h;obtain⟨p,xs,k,j,rfl,rfl,hp,hj,q⟩:=h
 cases d;obtain⟨t,rfl⟩:=e;obtain⟨its,n,r,ho,hz⟩:=I.lst hp;obtain⟨h1,h2,b,c⟩:=Fe hj;have hl:=r.length;have hn:=Qq;have a:Inv X pins σ (upd H p (.lst (xs.set j v))) { s with heap:=s.heap.update p (Obj.mapSeq (·.setIfInBounds j u)) } :=
  I.lstUpd hp ho (Js its n j u) (r.set rv j) (by rw[zF];exact hz) s.toks
 by_cases h0:0<=k
 ·have hk:k.toNat=j:=by
   rw[seqIndex_of h0 c] at h1;exact YR h1
  exact W.ki_setAt ho h0 J5 (by rw[YS,<-hl];exact c) (by rw[hk];exact⟨_,a,q⟩)
 have hk:(k+(its.toArray.size:Int)).toNat=j:=by
  rw[seqIndex_neg J5 b] at h1;rw[YS,<-hl];exact YR h1
 exact W.ki_setBack ho J5 (by rw[YS,<-hl];exact b) J5 (by rw[hk];exact⟨_,a,q⟩)
def flatV:V->Bool
 | .non=>true
 | .bl _=>true
 | .int _=>true
 | .str _=>true
 | _=>false
def eqV:V->V->Bool
 | .non,.non=>true
 | .bl a,.bl b=>a == b
 | .bl a,.int b=>(if a then 1 else 0) == b
 | .int a,.bl b=>a == (if b then 1 else 0)
 | .int a,.int b=>a == b
 | .str a,.str b=>a == b
 | _,_=>false
theorem Z81 {A:Around}{s:Shared}{y x:V}{u v:Value}(d:RelV y u)(c:RelV x v)(f:flatV y=true)(e:flatV x=true):SeqAt.EqAt A s u v (eqV y x):=by
 cases y with
 | non =>
  cases d
  cases x with
  | non=>cases c;exact zG _
  | bl b=>cases c;exact SeqAt.EqAt.none_bool b
  | int b=>obtain⟨t,rfl⟩:=c;exact SeqAt.EqAt.none_int b t
  | str b=>obtain⟨t,rfl⟩:=c;exact SeqAt.EqAt.none_str b t
  | _=>exact absurd (show false=true from e) YO
 | bl a =>
  cases d
  cases x with
  | non=>cases c;exact SeqAt.EqAt.bool_none a
  | bl b=>cases c;exact SeqAt.EqAt.bool_bool a b
  | int b=>obtain⟨t,rfl⟩:=c;exact SeqAt.EqAt.bool_int a b t
  | str b=>obtain⟨t,rfl⟩:=c;exact SeqAt.EqAt.bool_str a b t
  | _=>exact absurd (show false=true from e) YO
 | int a =>
  obtain⟨t',rfl⟩:=d
  cases x with
  | non=>cases c;exact SeqAt.EqAt.int_none a t'
  | bl b=>cases c;exact SeqAt.EqAt.int_bool a t' b
  | int b=>obtain⟨t,rfl⟩:=c;exact zA a t' b t
  | str b=>obtain⟨t,rfl⟩:=c;exact SeqAt.EqAt.int_str a t' b t
  | _=>exact absurd (show false=true from e) YO
 | str a =>
  obtain⟨t',rfl⟩:=d
  cases x with
  | non=>cases c;exact SeqAt.EqAt.str_none a t'
  | bl b=>cases c;exact SeqAt.EqAt.str_bool a t' b
  | int b=>obtain⟨t,rfl⟩:=c;exact SeqAt.EqAt.str_int a t' b t
  | str b=>obtain⟨t,rfl⟩:=c;exact SeqAt.EqAt.str_str a t' b t
  | _=>exact absurd (show false=true from e) YO
 | _=>exact absurd (show false=true from f) YO
def eqU (x:V)(u:Value):Bool:=match u with
 | .none=>eqV .non x
 | .bool b=>eqV (.bl b) x
 | .int i _=>eqV (.int i) x
 | .str z _=>eqV (.str z) x
 | _=>false
theorem Z2l {x y:V}{u:Value}(r:RelV y u)(f:flatV y=true):eqU x u=eqV y x:=by
 cases y with
 | non=>cases r;rfl
 | bl b=>cases r;rfl
 | int i=>obtain⟨t,rfl⟩:=r;rfl
 | str z=>obtain⟨t,rfl⟩:=r;rfl
 | _=>exact absurd (show false=true from f) YO
theorem L6 {x:V}:∀ {xs:TZ} {us:TH},Vals xs us->xs.all flatV=true->us.any (eqU x)=xs.any λy=>eqV y x
 | _,_,.nil,_=>rfl
 | y::xs,u::us,.cons r t,f=>by
  rw[Y1b,JY] at f;rw[Y1O,Y1O,Z2l r f.1,L6 t f.2]
theorem Qn {A:Around}{s:Shared}{x:V}{v:Value}(b:RelV x v)(a:flatV x=true):∀ {xs:TZ} {us:TH},Vals xs us->xs.all flatV=true->∀ u∈us,SeqAt.EqAt A s u v (eqU x u)
 | _,_,.nil,_=>λu hu=>by cases hu
 | y::xs,u::us,.cons r t,f=>λu' hu=>by
  rw[Y1b,JY] at f;rcases YU.mp hu with rfl | hu
  ·rw[Z2l r f.1];exact Z81 r b f.1 a
  exact Qn b a t f.2 u' hu
def inV (x:V)(xs:TZ):Bool:=xs.any λy=>eqV y x
inductive rIn (K:TR) (neg:Bool) (x:V) (y:V) (H:Hp) (Q:VK):Prop
 | mk (p xs:_) (zz0:y=.ref p) (zz1:(SqL K H p xs \/ SqT K H p xs)) (zz2:flatV x=true) (zz3:xs.all flatV=true) (zz4:Q (.bl (if neg then !inV x xs else inV x xs)) H)
theorem We:OpR X (compareOp .In) (rIn X.K false):=by
 intro pins s σ H x y v u Q I b c h;obtain⟨p,xs,rfl,hq,a,fs,q⟩:=h
 cases c;rcases hq with hq | hq
 ·obtain⟨its,r,pl,hz⟩:=I.list hq;refine SeqAt.in_listAt (eqU x) pl.isList (λw hw=>Qn b a r fs w (by simpa using hw)) ⟨.bl _,H,I,rfl,?_⟩;rw[show its.toArray.any (eqU x)=its.any (eqU x) by simp,L6 r fs];exact q
 obtain⟨its,r,pl,hz⟩:=I.tuple hq;refine SeqAt.in_tupleAt (eqU x) pl (λw hw=>Qn b a r fs w (by simpa using hw)) ⟨.bl _,H,I,rfl,?_⟩;rw[show its.toArray.any (eqU x)=its.any (eqU x) by simp,L6 r fs];exact q
theorem Zx:CallR X (.builtin "len") (λxs H Q=>∃ p ys,xs=[.ref p]/\(SqL X.K H p ys \/ SqT X.K H p ys)/\Q (.int ys.length) H):=by
 intro pins s σ H xs us Q I r h;obtain⟨p,ys,rfl,hq,q⟩:=h;obtain⟨u,rfl,b⟩:=Vv r
 cases b;have hn:=Qq;rcases hq with hq | hq
 ·obtain⟨its,r',pl,hz⟩:=I.list hq;have a:=r'.length;exact Calls.call_len_list pl.isList (by simp only [YS] <;> omega) ⟨.int ys.length,H,I.tok _,⟨s.toks+1,by rw[YS,a]⟩,q⟩
 obtain⟨its,r',pl,hz⟩:=I.tuple hq;have a:=r'.length;exact len_tuple pl (by simp only [YS] <;> omega) ⟨.int ys.length,H,I.tok _,⟨s.toks+1,by rw[YS,a]⟩,q⟩
theorem Yw:CallR X (.type "list") (λxs H Q=>∃ p ys,xs=[.ref p]/\(SqL X.K H p ys \/ SqT X.K H p ys)/\∀ l,H l=none->Q (.ref l) (upd H l (.lst ys))):=by
 intro pins s σ H xs us Q I r h;obtain⟨p,ys,rfl,hq,q⟩:=h;obtain⟨u,rfl,d⟩:=Vv r
 cases d;have c:∀ (its:TH),Vals ys its->ys.length<=sizeLine->∀ (h':Heap) (c':Nat),(∀ b o',s.heap.get? b=some o'->h'.get? b=some o') →
   h'.get? s.heap.objs.size=some { cls:=.type "list",dict:=none,data:=.seq its.toArray c',slots:=#[] }->EP X pins σ Q (.ref s.heap.objs.size) { s with heap:=h' }:=λits r' hz h' c' kp e =>
  ⟨.ref s.heap.objs.size,_,I.laid (t':=s.toks) kp (YJ _) (show ObjOk X.prog X.w _ h' _ (.lst ys) from ⟨hz,its,c',r',e⟩),rfl,q _ (I.hok.fresh (YJ _))⟩
 rcases hq with hq | hq
 ·obtain⟨its,r',pl,hz⟩:=I.list hq;have a:=r'.length;obtain⟨o,ho,hc,n,hd⟩:=pl.isList;exact call_list_seq p (.inl rfl) ho hc hd (λh' c' kp e=>c its r' hz h' c' kp e) (by simp only [YS] <;> omega)
 obtain⟨its,r',pl,hz⟩:=I.tuple hq;have a:=r'.length;obtain⟨o,ho,hc,n,hd⟩:=pl;exact call_list_seq p (.inr rfl) ho hc hd (λh' c' kp e=>c its r' hz h' c' kp e) (by simp only [YS] <;> omega)
theorem Ya:CallR X (.type "tuple") (λxs H Q=>∃ p ys,xs=[.ref p]/\((SqL X.K H p ys/\∀ l,H l=none->Q (.ref l) (upd H l (.tup ys))) \/ (SqT X.K H p ys/\Q (.ref p) H))):=by
 intro pins s σ H xs us Q I r h;obtain⟨p,ys,rfl,h⟩:=h;obtain⟨u,rfl,f⟩:=Vv r
 cases f;rcases h with ⟨hq,q⟩ | ⟨hq,q⟩
 ·obtain⟨its,r',pl,hz⟩:=I.list hq;have a:=r'.length;refine call_tuple_list pl.isList (λh' kp=>?_) (by simp only [YS] <;> omega);have c:Inv X pins σ H { s with heap:=h' }:=I.kept (t':=s.toks) kp;have d:Inv X pins σ (upd H h'.objs.size (.tup ys)) { s with heap:=h'.push { cls:=.type "tuple",data:=.seq its.toArray } } :=
   c.laid (t':=s.toks) (λb o e=>YB _ e) (YJ _) (show ObjOk X.prog X.w _ _ _ (.tup ys) from ⟨hz,its,r',IsTup.new _ _⟩)
  exact⟨.ref h'.objs.size,_,d,rfl,q _ (c.hok.fresh (YJ _))⟩
 obtain⟨its,r',pl,hz⟩:=I.tuple hq;exact call_tuple_same pl ⟨.ref p,H,I,rfl,q⟩
def tyV (K:TR)(T:String)(x:V)(H:Hp):Prop:=match x with
 | .str _=>T="str"
 | .int _=>T="int"
 | .ref p=>(T="list"/\∃ xs,SqL K H p xs) \/ (T="tuple"/\∃ o,K.lookup p=some o/\o.cls=.type "tuple"/\o.dict=none) ∨
   (T="dict"/\((∃ kvs,H p=some (.dK kvs)) \/ ∃ kvs,H p=some (.dT kvs))) \/ (T="set"/\∃ S n,H p=some (.set S n))
 | _=>False
theorem Z6h {pins:TD}{σ:St}{H:Hp}{s:Shared}{T:String}{x:V}{v:Value}(I:Inv X pins σ H s)(r:RelV x v)(ty:tyV X.K T x H) :
  s.TypeIs v T/\∀ a,v=.ref a->∃ ob,s.heap.get? a=some ob/\ob.dict=none:=by
 cases x with
 | str z =>
  obtain⟨t,rfl⟩:=r
  cases (show T="str" from ty);exact⟨typeIs_str s z t,λ_ e=>nomatch e⟩
 | int i =>
  obtain⟨t,rfl⟩:=r
  cases (show T="int" from ty);exact⟨Y1q s i t,λ_ e=>nomatch e⟩
 | ref p =>
  cases r;rcases ty with ⟨rfl,xs,hq⟩ | ⟨rfl,o,hk,hc,hd⟩ | ⟨rfl,hk⟩ | ⟨rfl,S,n,hk⟩
  ·obtain⟨its,_,pl,_⟩:=I.list hq;refine⟨pl.isList.typeIs,λa e=>?_⟩
   cases e;obtain⟨o,n,e,c,hd,_⟩:=pl;exact⟨o,e,hd⟩
  ·refine⟨⟨o,I.kIn p o hk,hc⟩,λa e=>?_⟩
   cases e;exact⟨o,I.kIn _ o hk,hd⟩
  ·have z:∃ o,s.heap.get? p=some o/\o.ExactDict:=by
    rcases hk with ⟨kvs,hk⟩ | ⟨kvs,hk⟩
    ·obtain⟨_,_,_,_,o,_,_,e,ex,_⟩:=I.hok p _ hk;exact⟨o,e,ex⟩
    obtain⟨_,_,_,_,o,_,_,e,ex,_⟩:=I.hok p _ hk;exact⟨o,e,ex⟩
   obtain⟨o,e,ex⟩:=z;refine⟨⟨o,e,ex.1⟩,λa e2=>?_⟩
   cases e2;exact⟨o,e,ex.2.1⟩
  obtain⟨o,_,_,_,e,ex,_⟩:=I.hok p _ hk;refine⟨⟨o,e,ex.1⟩,λa e2=>?_⟩
  cases e2;exact⟨o,e,ex.2.1⟩
 | _=>exact False.elim ty
def tBM (K:TR)(T:String)(r:V->List V->Hp->VK->Prop)(to:TE)(t:TA):TE:=λσ H Q=>to σ H λx H1=>tyV K T x H1/\t σ H1 λxs H2=>r x xs H2 Q
variable {o e:Expr}{es:TL}{to:TE}{t:TA}{name:Str}{apos cpos:Pos}{T id:String}{r:V->List V->Hp->VK->Prop}
theorem Vt (m:PlainAttrs T)(slot:Slot T name id)(f:typeOf (.builtin id)=pure (.type "method_descriptor"))(hm:MtR X id r)(ho:PE X o to)(ha:PA X (e::es) t)
  (c:attributeBase o name X.env (eval o X.env)=eval o X.env:=by rfl)
  (d:((backTo cpos (starEach (e::es) X.env)).all (λx=>!x.1) && (backToKw cpos (keywordEach [] X.env)).all (λx=>x.1.isSome)
   && decide ((e::es).length+([]:List Keyword).length+(if ([]:List Keyword).isEmpty then 0 else 1)<30))=true:=by rfl)
  (b:(apos.endLine == cpos.line)=true:=by rfl) (hs:starEach (e::es) X.env=(false,eval e X.env)::starEach es X.env:=by rfl) (a:(backTo cpos (starEach es X.env)).any (·.1)=false:=by rfl) :
  PE X (.Call (.Attribute o name apos) (e::es) [] cpos) (tBM X.K T r to t):=by
 intro pins s σ H Q I h;refine wpAny_Call_method_late c d b rfl (thn (ho pins s σ H _ I h) λv s1 ⟨x,H1,i,r1,ty,l⟩=>?_);obtain⟨h1,h2⟩:=Z6h i r1 ty;refine⟨T,id,m,slot,f,h1,h2,?_⟩;have g:=ha cpos pins s1 σ H1 _ i l;rw[hs] at g ⊢;refine Calls.callWith_builtin (by show (false || (backTo cpos (starEach es X.env)).any (·.1))=false;rw[a] <;> rfl) (Calls.evalArgs_plain ?_);exact thn g λus s2 ⟨vs,H2,k,r2,j⟩=>hm pins s2 σ H2 x vs v us Q k r1 r2 j
end
def MtM (X:Cx)(id:String)(r:V->List V->Hp->VK->Prop):Prop :=
 ∀ (pins:TD) (s:Shared) (σ:St) (H:Hp) (x:V) (xs:TZ) (v:Value) (us:TH) (Q:VK),Inv X pins σ H s->RelV x v->Vals xs us->r x xs H Q →
  wX X (call (.builtin id) (v::us)) (EP X pins σ Q) X.xe s
theorem Vals.one:∀ {x:V} {us:TH},Vals [x] us->∃ u,us=[u]/\RelV x u
 | _,_,.cons r .nil=>⟨_,rfl,r⟩
theorem Vals.two:∀ {x y:V} {us:TH},Vals [x,y] us->∃ u v,us=[u,v]/\RelV x u/\RelV y v
 | _,_,_,.cons r (.cons q .nil)=>⟨_,_,rfl,r,q⟩
theorem Vals.rep {xs:TZ}{us:TH}(h:Vals xs us):∀ k:Nat,Vals (List.replicate k xs).flatten (List.replicate k us).flatten
 | 0=>.nil
 | k+1=>by
  rw[zt,zt,Y0a,Y0a];exact Vals.append h (Vals.rep h k)
theorem Nd (its:TH):∀ (k:Nat) (acc:TH),
  List.foldl (λx1 a=>x1++a) acc.toArray (List.replicate k its.toArray)=(acc++(List.replicate k its).flatten).toArray
 | 0,acc=>J7
 | k+1,acc=>by
  have e:acc.toArray++its.toArray=(acc++its).toArray:=J7
  have e2:(acc++its)++(List.replicate k its).flatten=acc++(List.replicate (k+1) its).flatten:=by
   rw[zt,Y0a,Y0b]
  rw[<-e2,<-Nd its k (acc++its),<-e,zt,List.foldl_cons]
section
variable {X:Cx}{σ:St}{H:Hp}{l:Addr}{xs ys:TZ}
def Inv.lset {its its':TH}{n:Nat}{f:Array Value->Array Value}{t':Nat}(I:Inv X pins σ H s)(a:H l=some (.lst xs))
  (e:s.heap.get? l=some { cls:=.type "list",data:=.seq its.toArray n }) (hf:f its.toArray=its'.toArray) (b:Vals ys its') (hz:ys.length<=sizeLine) :
  Inv X pins σ (upd H l (.lst ys)) { s with heap:=s.heap.update l (Obj.mapSeq f),toks:=t' }:=by
 have q:=PySem.IsL.update e f;rw[hf] at q;refine I.write (x:=l) (e:=l) (by rw[a];exact trivial) (.inl rfl) (λd u c hu=>(JB s.heap (Obj.mapSeq f) (XQ c)).trans hu) ⟨_,q⟩ ?_;exact⟨hz,its',_,b,q⟩
def Inv.lnew {t':Nat}(I:Inv X pins σ H s)(a:Vals ys its)(hz:ys.length<=sizeLine) :
  Inv X pins σ (upd H s.heap.objs.size (.lst ys)) { s with heap:=s.heap.push { cls:=.type "list",data:=.seq its.toArray },toks:=t' } :=
 I.laid (λ_ _ q=>YB _ q) (YJ _) ⟨hz,its,0,a,YN _ rfl⟩
theorem Inv.fresh (I:Inv X pins σ H s):H s.heap.objs.size=none:=I.hok.fresh (YJ _)
def Inv.lstM (I:Inv X pins σ H s)(a:H l=some (.lst xs)):xs.length<=sizeLine/\∃ (its:TH) (n:Nat),Vals xs its/\xs.length=its.length/\s.heap.get? l=some { cls:=.type "list",data:=.seq its.toArray n }:=by
 obtain⟨z,its,n,r,e⟩:=I.hok l _ a;exact⟨z,its,n,r,r.length,e⟩
def Z1r {n:Nat}(h:n<=sizeLine):Builtin.List.listTooLong n=false:=by
 unfold Builtin.List.listTooLong;exact XN J5
end
section
variable {X:Cx}
inductive rAppend (x:V) (vs:TZ) (H:Hp) (Q:VK):Prop
 | mk (l xs y:_) (zz0:x=.ref l) (zz1:vs=[y]) (zz2:H l=some (.lst xs)) (zz3:xs.length<sizeLine) (zz4:Q .non (upd H l (.lst (xs++[y]))))
theorem Xk:MtM X "list.append" rAppend:=by
 intro pins s σ H x vs v us Q I b rv h;obtain⟨l,xs,y,rfl,rfl,a,hz,q⟩:=h
 cases b;obtain⟨u,rfl,ru⟩:=rv.one;obtain⟨z,its,n,r,hl,e⟩:=I.lstM a;refine jz F.slot_list_append ⟨_,e,rfl⟩ F.entry_list_append (F.args_list_append_2 _ _) (PySem.list_append l its.toArray n u (by rw[YS];omega)) ⟨e,?_⟩;refine⟨.non,_,I.lset (its':=its++[u]) a e J7 (r.append (.cons ru .nil)) ?_,rfl,q⟩;rw[XD,List.length_singleton];omega
inductive rExtend (x:V) (vs:TZ) (H:Hp) (Q:VK):Prop
 | mk (l b xs zs:_) (zz0:x=.ref l) (zz1:vs=[.ref b]) (zz2:H l=some (.lst xs)) (zz3:H b=some (.lst zs)) (zz4:xs.length+zs.length<=sizeLine) (zz5:Q .non (upd H l (.lst (xs++zs))))
theorem Na:MtM X "list.extend" rExtend:=by
 intro pins s σ H x vs v us Q I i rv h;obtain⟨l,b,xs,zs,rfl,rfl,f,hB,hz,q⟩:=h
 cases i;obtain⟨u,rfl,ru⟩:=rv.one
 cases ru;obtain⟨z,its,n,r,hl,e⟩:=I.lstM f;obtain⟨z2,a,n2,r2,g,e2⟩:=I.lstM hB;have d:its.toArray.size+a.toArray.size<=sizeLine:=by rw[YS,YS];omega
 have c:¬ (!its.toArray.isEmpty && Builtin.List.listTooLong (its.toArray.size+a.toArray.size))=true:=by
  rw[Z1r d,Bool.and_false];exact YO
 refine jz F.slot_list_extend ⟨_,e,rfl⟩ F.entry_list_extend (F.args_list_extend_2 _ _)
  (AutoSeq1.list_extend_list_list_0 l its.toArray n b a.toArray n2 c (by rw[YS];omega) J5) ⟨e,e2,?_⟩
 refine⟨.non,_,I.lset (its':=its++a) f e J7 (r.append r2) ?_,rfl,q⟩;rw[XD];omega
inductive rCat (x:V) (y:V) (H:Hp) (Q:VK):Prop
 | mk (l b xs zs:_) (zz0:x=.ref l) (zz1:y=.ref b) (zz2:H l=some (.lst xs)) (zz3:H b=some (.lst zs)) (zz4:xs.length+zs.length<=sizeLine) (zz5:∀ p,H p=none->Q (.ref p) (upd H p (.lst (xs++zs))))
theorem Z16:OpR X (binaryOp .Add) rCat:=by
 intro pins s σ H x y v u Q I g c h;obtain⟨l,b,xs,zs,rfl,rfl,d,hB,hz,q⟩:=h
 cases g
 cases c;obtain⟨z,its,n,r,hl,e⟩:=I.lstM d;obtain⟨z2,a,n2,r2,f,e2⟩:=I.lstM hB;refine PySem.P.add_list e e2 ?_ (by rw[YS,YS];omega);have ea:its.toArray++a.toArray=(its++a).toArray:=J7
 rw[ea];exact⟨.ref _,_,I.lnew (t':=s.toks) (r.append r2) (by rw[XD];omega),rfl,q _ I.fresh⟩
def Z52 {α:Type}(xs:List α)(k:Nat):(List.replicate k xs).flatten.length=k*xs.length:=by
 induction k with
 | zero=>simp
 | succ k a=>rw[zt,Y0a,XD,a,Y0c,Y24]
end
end _L
namespace Att
open PySem PySem.W PySem.Calls PyProof.Rows
def Rr {P:Params}{h:Heap}:∀ (ns:TV) (vs:TH),WellAll P h vs (ns.map WData.int)->IntsAre vs ns:=by
 intro ns
 induction ns with
 | nil =>
  intro vs w;rw[List.map_nil] at w
  cases w;exact .nil
 | cons n ns c =>
  intro vs w;rw[GR] at w
  cases w with
  | cons a b =>
   cases a;exact .cons _ _ (c _ b)
theorem D7 {l:OpenLaw}{n:Nat}(hn:l.most=some n){P:Params}{h:Heap}{args:List WData}{c:TH}
  (b:l.row.toRowW.claim.pre args=true) (j:WellAll P h c args) :
  ∃ a vs ns,c=[Value.ref a]/\args=[WData.list (ns.map WData.int)]/\h.get? a=some { cls:=.type "list",data:=.seq vs.toArray }/\IntsAre vs ns/\ns.length<=n:=by
 have k:WShape.hasAll [] args [.list .int]=true:=(pre_splitW b).1;have hc:l.pre.holds [] { args:=args }=true:=(pre_splitW b).2;obtain⟨d,r,rfl,h1,h2⟩:=hasAllW_cons k;obtain rfl:=hasAllW_nil h2;obtain⟨xs,rfl,m⟩:=hasW_list h1;obtain⟨ns,rfl⟩:=items_int m;have f:ns.length<=n:=by
  unfold OpenLaw.pre at hc;have i:(WTm.not (.lt (.lit (.int (n:Int))) (.len (.arg 0)))).holds [] { args:=[.list (ns.map .int)] }=true:=by
   have i:=(holds_andW hc).1;rw[hn] at i;exact i
  have g:=condW_of i (w_not (w_lt w_lit (w_len_list (w_arg rfl))));rw[YC] at g;refine Nat.le_of_not_lt λq=>?_;have s:(n:Int)<((ns.length:Nat):Int):=J5
  first
   | (rw[XE s] at g;exact absurd g J6)
   | (simp at g;omega)
 cases j with
 | cons o p =>
  cases p
  cases o with
  | list ho e=>exact⟨_,_,ns,rfl,rfl,ho,Rr ns _ e,f⟩
theorem Dl (l:OpenLaw)(args:List WData):l.row.toRowW.claim.post args (.bool true) args=true :=
 postW_of (r:=l.row.toRowW) (X:=(true == true))
  (show WShape.has [] (.bool true) .bool=true by first | rfl | decide | simp[WShape.has,WShape.arms,WShape.armsAll])
  (show (WTm.eq .res (.lit (.bool true))).value [] { args:=args,res:=some (.bool true),after:=args }=some (.bool (true == true)) from w_eq_bool (w_res rfl) w_lit) rfl
def attach_call {l:OpenLaw}{n:Nat}{q:TU}{c:TF}{s:(Str->Option Value)->Heap->Prop}{p:World->Heap->Prop}{d:DefRec}
  (hn:l.most=some n) (k:d.params.defaults=[])
  (call:∀ (w:World) (s₀ b:Shared) (mg mb:TB) (fa:Addr) (o:Obj) (pm cd doc:Value) (a:Addr) (vs:TH) (ns:TV),
   Ground q c [] s w s₀ mg mb b.heap->p w b.heap →
   b.heap.get? fa=some o->o.data=.func (docDef d.name d.params d.body d.scope pm cd doc)->b.heap.CodeRec cd d.name->mg d.name=some (.ref fa) →
   b.heap.get? a=some { cls:=.type "list",data:=.seq vs.toArray }->IntsAre vs ns->ns.length<=n->b.gens=#[] →
   codeAny (model l.prog w) callerA (.call (.ref fa) ⟨[.ref a],[]⟩) (λr s'=>r=.ok (.ret (.bool true))/\OldK b.heap s'.heap/\s'.os=b.os/\AllBare s'.gens) b) :
  WalkO q c s p l.row.toRowW d [] (λf vs=>PySem.call f vs):=by
 intro w s₀ b mg mb G Y fa o pm cd doc y kV ho hd m v hmg hg args u as g t z j A;obtain rfl:y=.none:=Dflts.none v k;obtain rfl:kV=.none:=Dflts.noKw v;obtain⟨a,vs,ns,rfl,rfl,i,e,h⟩:=D7 hn g j;refine enter_call (jj (call w s₀ b mg mb fa o pm cd doc a vs ns G Y ho (fd_plain hd) m hmg i e h hg) λr s' hq=>?_);obtain⟨rfl,h2,x,B⟩:=hq;exact⟨.inl ⟨.bool true,.bool true,[],rfl,λ_=>rfl,.bool true,Dl l _,λ_=>⟨List.Pairwise.nil,λ_ hm=>(nomatch hm)⟩⟩,h2,x,B⟩
section
def ledger (h:Heap)(L d:Addr):List (Addr × Obj):=(List.range h.objs.size).filterMap λa=>if a=L \/ a=d then none else (h.get? a).map λo=>(a,o)
end
end Att
namespace _L
open PySem PySem.Spec PyProof.Rows
theorem Ps:∀ {vs:TH} {ns:TV},IntsAre vs ns->Vals (ns.map V.int) vs
 | _,_,.nil=>.nil
 | _,_,.cons n t h=>.cons ⟨t,rfl⟩ (Ps h)
abbrev KOf {K:TR}{h:Heap}(_:K.In h):W.Frag:=K
def inClass (s:Stmt)(j:Nat):Stmt:=match s with
 | .ClassDef _ _ _ body _ _ _ _ _ _ _=>body.getD j (.Pass ⟨0,0,0,0⟩)
 | _=>.Pass ⟨0,0,0,0⟩
def defArgs (s:Stmt):Arguments:=match s with
 | .FunctionDef _ a _ _ _ _ _ _ _ _=>a
 | _=>{ posonlyargs:=[],args:=[],vararg:=none,kwonlyargs:=[],kw_defaults:=[],kwarg:=none,defaults:=[] }
def defBody (s:Stmt):List Stmt:=match s with
 | .FunctionDef _ _ b _ _ _ _ _ _ _=>b
 | _=>[]
def defScope (s:Stmt):Scope:=match s with
 | .FunctionDef _ _ _ _ _ _ sc _ _ _=>sc
 | _=>{ kind:=.function,names:=[],isGenerator:=false,isCoroutine:=false }
abbrev CX0:CXT:=λ_ _ _ _ _ _=>False
abbrev E0:XK:=λ_ _ _=>False
def Gv:Passes CX0 X E0:=λ_ _ _ _ _ _ _ h=>h.elim
structure Fun (K:TR)(x qual:Str)(st:Stmt)(f:Addr)(fd:FuncData):Prop where
 ex:∃ (oc:Value) (od:TQ) (kV doc pm:Value) (an:TQ) (cdv ct:Value) (osl:Array (Option Value)),
  fd=W.fnOf x qual (defArgs st) (defBody st) (defScope st) .none kV doc pm an cdv ct/\K.lookup f=some ⟨oc,od,.func fd,osl⟩/\W.codeIn K cdv qual=true
 kp:W.keepIn K (.ref f)=true
section
variable {P:TU}{base:Heap}
def Fun.ok {x:Str}{N:TF}{k:Nat}(F:Fun K x qual st f fd)(S:FnScope N ps (defScope st))(len:∀ vs H Q E,sp vs H Q E->vs.length=ps.length)
  (a:∀ (cdv:Value) (A:Around) (outer:TN) (s:Shared) (H:Hp) (vs:TZ) (Q:VK) (E:XK),Room k (A.deeper (envOfC qual (defScope st) s.heap.objs.size f cdv)) sr->sp vs H Q E →
   ∃ t,PSs (cxOf CX0 P w K mg base N qual (defScope st) f cdv A outer s H E).nox (defBody st) t/\t { nx:=λ_ H'=>Q .non H',rt:=Q } (start N vs) H):FnOk P w K mg base CX0 (k+1) f fd ps sp sr:=by
 obtain⟨oc,od,kV,doc,pm,an,cdv,ct,osl,rfl,lk,b⟩:=F.ex;refine Z2f lk b S len λA outer s H vs Q E hr c=>?_;obtain⟨t,h,q⟩:=a cdv A outer s H vs Q E hr c;exact⟨t,h.nox,q⟩
def Fun.binds {x:Str}(F:Fun K x qual st f fd)
  (h:∀ (kV doc pm:Value) (an:TQ) (cdv ct:Value) (us:TH),us.length=ps.length->bindArgs (W.fnOf x qual (defArgs st) (defBody st) (defScope st) .none kV doc pm an cdv ct) ⟨us,[]⟩=pure (ps.zip us)):Binds K fd ps []:=by
 obtain⟨oc,od,kV,doc,pm,an,cdv,ct,osl,rfl,lk,a⟩:=F.ex;exact .all (h kV doc pm an cdv ct)
def U7 {x:Str}{osl:Array (Option Value)}{kV doc cdv:Value}(l:K.lookup f=some ⟨oc,od,.func (W.fnOf x qual (defArgs st) (defBody st) (defScope st) .none kV doc pm an cdv ct),osl⟩)
  (c:W.codeIn K cdv qual=true) (k:W.keepIn K (.ref f)=true):Fun K x qual st f (W.fnOf x qual (defArgs st) (defBody st) (defScope st) .none kV doc pm an cdv ct):=⟨⟨oc,od,kV,doc,pm,an,cdv,ct,osl,rfl,l,c⟩,k⟩
end
def Z2a {k:Nat}(hr:Room k A sr):A.units+1<cLine:=JK (Nat.add_le_add_left (by decide:1<=64) _) hr.units
def Py {n:Nat}(h:n<=1000):n<sizeLine:=JK h J6
section
variable {X:Cx}
def pv (i:Nat){x:Str}{pos:Pos}(hN:X.N[i]?=some x:=by rfl)(b:Vis X.env.scope x:=by first | exact Or.inl rfl | exact Or.inr xj | exact Or.inr (Or.inr rfl))(hd:(x == ("__debug__":Str))=false:=by decide)
  (a:(x == ("__classdict__":Str))=false:=by decide):PE X (.Name x pos) (tVar i):=Z77 hN b hd a
end
def Xn {A B:Prop}(h:B):if false=true then A else B:=by
 rw[YD YO];exact h
def U6 {A B:Prop}(h:A):if true=true then A else B:=by
 rw[YG rfl];exact h
def Xt {c A B:Prop}[Decidable c](h1:c->A)(h2:¬ c->B):if c then A else B:=by
 by_cases h:c
 ·rw[YG h];exact h1 h
 rw[YD h];exact h2 h
def Z27 {c A B:Prop}[Decidable c](hc:c)(h:B):if (!decide c)=true then A else B:=by
 rw[XE hc];exact Xn h
def Same (H H':Hp):Prop:=∀ b o,H b=some o->H' b=some o
def Same.refl (H:Hp):Same H H:=λ_ _ h=>h
def Same.trans (a:Same H H1)(b:Same H1 H2):Same H H2:=λc o h=>b c o (a c o h)
def Same.free {H H':Hp}(e:Same H H'){l:Addr}(h:H' l=Option.none):H l=Option.none:=by
 cases q:H l with
 | none=>rfl
 | some o =>
  rw[e l o q] at h
  cases h
end _L
namespace _b
def Bd (n:Nat)(x:Int):Prop:=x.natAbs<2 ^ n
def Bd.mono {m n:Nat}{x:Int}(h:Bd m x)(k:m<=n):Bd n x:=YQ h (GP J6 k)
theorem Bd.mul {m n:Nat}{x y:Int}(h:Bd m x)(k:Bd n y):Bd (m+n) (x*y):=by
 unfold Bd at *
 rw[GG,Y01];exact Nat.mul_lt_mul'' h k
theorem Bd.add {n:Nat}{x y:Int}(h:Bd n x)(k:Bd n y):Bd (n+1) (x+y):=by
 unfold Bd at *
 rw[Y1r];omega
theorem Bd.sub {n:Nat}{x y:Int}(h:Bd n x)(k:Bd n y):Bd (n+1) (x - y):=by
 unfold Bd at *
 rw[Y1r];omega
theorem Bd.neg {n:Nat}{x:Int}(h:Bd n x):Bd n (-x):=by
 unfold Bd at *
 omega
def Bd.of_le {n:Nat}{x y:Int}(h:x.natAbs<=y.natAbs)(k:Bd n y):Bd n x:=JK h k
def Bd.of_le' {n:Nat}{x y:Int}(k:Bd n y)(h:x.natAbs<=y.natAbs):Bd n x:=JK h k
def Bd.log {n:Nat}{x:Int}(h:Bd n x)(k:n<450000):x.natAbs.log2<450000:=by
 rcases Y1W x.natAbs with h0 | hp
 ·rw[h0];decide
 have:=(Y1D (GC hp)).mpr h;omega
def gI (p q:Int):Int:=(Int.gcd p q:Int)
def sg (p q:Int):Int:=if q<0 then -(gI p q) else gI p q
def nT (p q:Int):Int:=p.fdiv (sg p q)
def nB (p q:Int):Int:=q.fdiv (sg p q)
def G5 {p q:Int}(h:q≠0):0<gI p q:=by
 have:=Int.gcd_pos_of_ne_zero_right p h;unfold gI;omega
def Pz {p q:Int}(h:q≠0):sg p q≠0:=by
 have:=G5 (p:=p) h;unfold sg;split <;> omega
def Kz (p q:Int):sg p q ∣ p:=by
 unfold sg gI;split
 ·exact Int.neg_dvd.mpr (Y1j ..)
 exact Y1j ..
def J0 (p q:Int):sg p q ∣ q:=by
 unfold sg gI;split
 ·exact Int.neg_dvd.mpr (Y0d ..)
 exact Y0d ..
def T7 {a b:Int}(h:b ∣ a):a.fdiv b*b=a:=by
 rw[Int.fdiv_eq_ediv_of_dvd h];exact Int.ediv_mul_cancel h
def Jo (p q:Int):nT p q*sg p q=p:=T7 (Kz p q)
def Si (p q:Int):nB p q*sg p q=q:=T7 (J0 p q)
def Mf {p q:Int}(h:q≠0):0<nB p q:=by
 have e:=Si p q;have g:=G5 (p:=p) h;by_cases hq:q<0
 ·have s:sg p q=-(gI p q):=by unfold sg;rw[YG hq]
  rw[s] at e;rcases Int.lt_trichotomy 0 (nB p q) with k | k | k
  ·exact k
  ·rw[<-k] at e;simp at e;omega
  have:=Int.mul_pos_of_neg_of_neg k (show -(gI p q)<0 by omega);omega
 have s:sg p q=gI p q:=by unfold sg;rw[YD hq]
 rw[s] at e;rcases Int.lt_trichotomy 0 (nB p q) with k | k | k
 ·exact k
 ·rw[<-k] at e;simp at e;omega
 have:=Int.mul_neg_of_neg_of_pos k g;omega
def Wt (p q:Int):nT p q*q=p*nB p q:=by
 have h1:=Jo p q;have h2:=Si p q
 calc nT p q*q=nT p q*(nB p q*sg p q):=by rw[h2]
  _=(nT p q*sg p q)*nB p q:=by rw[JD (nB p q),GS]
  _=p*nB p q:=by rw[h1]
def Z1v {p q:Int}(h:q≠0):Int.gcd (nT p q) (nB p q)=1:=by
 have g:=G5 (p:=p) h;have e1:=Jo p q;have e2:=Si p q;have e:Int.gcd p q=Int.gcd (nT p q) (nB p q)*(sg p q).natAbs:=by
  have z:=Int.gcd_mul_right (nT p q) (sg p q) (nB p q);rw[e1,e2] at z;exact z
 have s:(sg p q).natAbs=Int.gcd p q:=by
  unfold sg gI;split <;> simp
 rw[s] at e;have a:0<Int.gcd p q:=by unfold gI at g;omega
 have e':1*Int.gcd p q=Int.gcd (nT p q) (nB p q)*Int.gcd p q:=J5
 exact (Y0Q a e').symm
def Br {p q:Int}(h:q≠0):1<=(sg p q).natAbs:=by
 have:=Pz (p:=p) h;omega
def Sk {a b c:Int}(h:a*b=c)(d:1<=b.natAbs):a.natAbs<=c.natAbs:=by
 rw[<-h,GG];exact Y02 _ d
def Z8y {p q:Int}(h:q≠0):(nT p q).natAbs<=p.natAbs:=Sk (Jo p q) (Br h)
def Z8z {p q:Int}(h:q≠0):(nB p q).natAbs<=q.natAbs:=Sk (Si p q) (Br h)
def Z8e {p q:Int}(h:q≠0):(sg p q).natAbs<=q.natAbs:=by
 have e:=Si p q;rw[JD] at e;have:=Mf (p:=p) h;exact Sk e J5
def gcd_step {a b:Int}:Int.gcd b (a % b)=Int.gcd a b:=by
 rw[Y0I b,Int.emod_def];rw[Y0U]
def Cl (a b:Int):Int.gcd b (a.fmod b)=Int.gcd a b:=by
 rw[Y0I b,Int.fmod_def];rw[Y0U]
def Z2g (a:Int){b:Int}(h:b≠0):(a.fmod b).natAbs<b.natAbs:=by
 rcases Int.lt_or_gt_of_ne h with k | k
 ·have h0:=Int.neg_fmod_neg a b;have h1:=Y1s (-a) (show 0 < -b by omega);have h2:=Y1X (-a) (show 0 < -b by omega);omega
 have h1:=Y1s a k;have h2:=Y1X a k;omega
def Z7y (a b:Int)(ha:0<=a)(h:b=0):a=(Int.gcd a b:Int):=by
 subst h;simp;omega
open PySem PySem.Spec PyProof.Rows _L
def Bd.bits {n:Nat}{x:Int}(h:Bd n x):Builtin.Int.intBits x<=n:=by
 unfold Builtin.Int.intBits;split
 ·exact JF _
 rename_i h0
 have hn:x.natAbs≠0:=by
  intro z;have:x=0:=J5
  exact h0 (by simp[this])
 have:=(Y1D hn).mpr h;omega
def Bd.mulOk {m n:Nat}{x y:Int}(h:Bd m x)(k:Bd n y)(hm:m<=1048576)(hn:n<=1048576):IntMulOk x y :=
 IntMulOk.of_bits (YM h.bits (YM hm J6)) (YM k.bits (YM hn J6))
def C5 {x y:Int}(h1:-(2 ^ 64)<x)(h2:x<2 ^ 64):IntMulOk x y:=IntMulOk.of_left (intBits_le_64 h1 h2)
def C4 {x y:Int}(h1:-(2 ^ 64)<y)(h2:y<2 ^ 64):IntMulOk x y:=IntMulOk.of_right (intBits_le_64 h1 h2)
section
variable {X:Cx}
def Zp:OpR X (binaryOp .Mult) (rI IntMulOk λi j=>.int (i*j)):=opI λ_ _ _ _ _ _ _ hc q=>mul_int q hc
def DivOk (_ j:Int):Prop:=j≠0/\j.natAbs.log2<450000
theorem Wc:OpR X (binaryOp .FloorDiv) (rI DivOk λi j=>.int (i.fdiv j)):=by
 intro pins s σ H x y v u Q I b a h;obtain⟨i,j,rfl,rfl,hc,q⟩:=h;obtain⟨t,rfl⟩:=b;obtain⟨t',rfl⟩:=a;exact floordiv_int hc.1 ⟨.int (i.fdiv j),H,I.tok _,⟨_,rfl⟩,q⟩ (.inr I.pylong)
inductive rP0 (K:TR) (x:V) (y:V) (H:Hp) (Q:VK):Prop
 | mk (p u v:_) (zz0:x=.ref p) (zz1:y=.int 0) (zz2:SqT K H p [u,v]) (zz3:Q u H)
inductive rP1 (K:TR) (x:V) (y:V) (H:Hp) (Q:VK):Prop
 | mk (p u v:_) (zz0:x=.ref p) (zz1:y=.int 1) (zz2:SqT K H p [u,v]) (zz3:Q v H)
inductive rL0 (K:TR) (x:V) (y:V) (H:Hp) (Q:VK):Prop
 | mk (p u v:_) (zz0:x=.ref p) (zz1:y=.int 0) (zz2:SqL K H p [u,v]) (zz3:Q u H)
inductive rL1 (K:TR) (x:V) (y:V) (H:Hp) (Q:VK):Prop
 | mk (p u v:_) (zz0:x=.ref p) (zz1:y=.int 1) (zz2:SqL K H p [u,v]) (zz3:Q v H)
def at0 {α:Type}(x:α)(xs:List α):atI (x::xs) 0=some x:=Zh (j:=0) rfl
def at1 {α:Type}(x y:α)(xs:List α):atI (x::y::xs) 1=some y:=Zh (j:=1) rfl
theorem Yu:IxR X (rP0 X.K):=λd sl pins s σ H x y v u Q I e c ⟨p,a,b,e1,e2,h,q⟩ hs=>Yg d sl pins s σ H x y v u Q I e c ⟨p,_,_,_,e1,e2,h,at0 _ _,q⟩ hs
theorem Yi:IxR X (rP1 X.K):=λd sl pins s σ H x y v u Q I e c ⟨p,a,b,e1,e2,h,q⟩ hs=>Yg d sl pins s σ H x y v u Q I e c ⟨p,_,_,_,e1,e2,h,at1 _ _ _,q⟩ hs
theorem Fd:IxR X (rL0 X.K):=λd sl pins s σ H x y v u Q I e c ⟨p,a,b,e1,e2,h,q⟩ hs=>Zt d sl pins s σ H x y v u Q I e c ⟨p,_,_,_,e1,e2,h,at0 _ _,q⟩ hs
theorem Fc:IxR X (rL1 X.K):=λd sl pins s σ H x y v u Q I e c ⟨p,a,b,e1,e2,h,q⟩ hs=>Zt d sl pins s σ H x y v u Q I e c ⟨p,_,_,_,e1,e2,h,at1 _ _ _,q⟩ hs
def Qg {x:Str}{T:String}{pos:Pos}(hm:X.mg x=none)(a:bootBuiltins x=some (.type T))(hg:Gl X x:=by rfl)(hn:x≠"__name__":=by decide)(hd:(x == ("__debug__":Str))=false:=by decide):PE X (.Name x pos) (tC (.ty T)) :=
 Z40 hg hm a rfl hn hd
theorem W5:CallR X (.builtin "isinstance") (λxs H Q=>∃ x T t b,xs=[x,.ty T]/\TyOf X.K H x t/\W.kitOne X.K t (.type T)=some b/\Q (.bl b) H):=by
 intro pins s σ H xs us Q I r h;obtain⟨x,T,t,b,rfl,ty,k,q⟩:=h;obtain⟨u,c,rfl,d,a⟩:=Gd r
 cases (show c=Value.type T from a);exact Cf I d ty k λtk=>⟨.bl b,H,I.tok tk,rfl,q⟩
theorem Tz:CallR X (.builtin "isinstance") (λxs H Q=>∃ a ys T b,xs=[.ref a,.ty T]/\SqT X.K H a ys/\W.kitOne X.K (.type "tuple") (.type T)=some b/\Q (.bl b) H):=by
 intro pins s σ H xs us Q I r h;obtain⟨a,ys,T,b,rfl,hs,k,q⟩:=h;obtain⟨u,d,rfl,e,c⟩:=Gd r
 cases (show d=Value.type T from c)
 cases (show u=Value.ref a from e);obtain⟨its,_,tup,_⟩:=I.tuple hs;obtain⟨o,h1,h2,_⟩:=tup;exact zU W.kitx_tuple I.kIn ⟨o,h1,h2⟩ k (λz=>nomatch z) λtk=>⟨.bl b,H,I.tok tk,rfl,q⟩
end
def U5 {T:String}:W.kitOne K (.type T) (.type T)=some true:=by
 unfold W.kitOne;rw[YG J7]
def Tu:W.kitOne K (.type "int") (.type "bool")=some false:=by
 show (if (Value.type "int" == Value.type "bool")=true then some true else (if W.kitMeta "bool"=true then (fastBuiltinMro "int").map (·.contains (Value.type "bool")) else none))=some false
 decide +kernel
def Has (P:TU)(w:World)(K:TR)(mg:TB)(base:Heap)(k:Nat)(x:Str)(ps:TF)(sp:Sp)(sr:Bool:=false):Prop :=
 ∃ (f:Addr) (fd:FuncData),FnOk P w K mg base CX0 k f fd ps sp sr/\mg x=some (.ref f)/\W.keepIn K (.ref f)=true/\Binds K fd ps []
def Def (K:TR)(mg:TB)(x:Str)(st:Stmt)(ps:TF):Prop :=
 ∃ (f:Addr) (fd:FuncData),Fun K x x st f fd/\mg x=some (.ref f)/\Binds K fd ps []
def Def.has {P:TU}{base:Heap}{k:Nat}{x:Str}(D:Def K mg x st ps)
  (h:∀ (f:Addr) (fd:FuncData),Fun K x x st f fd->FnOk P w K mg base CX0 k f fd ps sp sr):Has P w K mg base k x ps sp sr:=by
 obtain⟨f,fd,F,hm,b⟩:=D;exact⟨f,fd,h f fd F,hm,F.kp,b⟩
section
variable {X:Cx}{k:Nat}{x:Str}{sp:Sp}{e:Expr}{es:TL}{t:TA}{p:Pos}
theorem M1 (h:Has X.prog X.w X.K X.mg X.base k x ps sp)(hr:Room k X.A sr)(hg:Gl X x)(ha:PA X (e::es) t)(b:(x == ("__debug__":Str))=false:=by decide)
  (c:starEach (e::es) X.env=(false,eval e X.env)::starEach es X.env:=by rfl) (a:(backTo pos (starEach es X.env)).any (·.1)=false:=by rfl) (hc:X.calm=true:=by rfl):PE X (.Call (.Name x p) (e::es) [] pos) (tCall sp [] E0 t):=by
 obtain⟨f,fd,F,hm,hk,d⟩:=h;exact Gu F hr.loose hg hm hk d .nil Gv ha b c a hc
theorem Gr (h:Has X.prog X.w X.K X.mg X.base k x ps sp true)(hr:Room k X.A true)(hg:Gl X x)(ha:PA X (e::es) t)(b:(x == ("__debug__":Str))=false:=by decide)
  (c:starEach (e::es) X.env=(false,eval e X.env)::starEach es X.env:=by rfl) (a:(backTo pos (starEach es X.env)).any (·.1)=false:=by rfl) (hc:X.calm=true:=by rfl):PE X (.Call (.Name x p) (e::es) [] pos) (tCall sp [] E0 t):=by
 obtain⟨f,fd,F,hm,hk,d⟩:=h;exact Gu F hr hg hm hk d .nil Gv ha b c a hc
theorem Ze (h:Has X.prog X.w X.K X.mg X.base k x ps sp)(hr:Room j X.A sr)(ha:PA X (e::es) t)(hg:Gl X x:=by rfl)(hj:k<=j:=by decide)(b:(x == ("__debug__":Str))=false:=by decide)
  (c:starEach (e::es) X.env=(false,eval e X.env)::starEach es X.env:=by rfl) (a:(backTo pos (starEach es X.env)).any (·.1)=false:=by rfl) (hc:X.calm=true:=by rfl):PE X (.Call (.Name x p) (e::es) [] pos) (tCall sp [] E0 t):=M1 h (hr.mono hj) hg ha b c a hc
end
section
variable {X:Cx}{t:TS}
inductive tJ (t:TS) (D:Ends) (σ:_L.St) (H:Hp):Prop
 | mk (J:_L.St->Hp->Prop) (zz0:t { D with nx:=J } σ H) (zz1:∀ σ' H',J σ' H'->D.nx σ' H')
theorem Uc (h:PS X st t):PS X st (tJ t):=by
 intro pins s σ H D I ⟨J,a,b⟩;refine thn (h pins s σ H _ I a) λf s' q=>?_
 cases f with
 | next=>obtain⟨σ',H',c,q⟩:=q;exact⟨σ',H',c,b _ _ q⟩
 | brk=>exact q
 | cont=>exact q
 | ret v=>exact q
end
def SameX (a:Addr)(H H':Hp):Prop:=∀ b o,H b=some o->b≠a->H' b=some o
def SameX.trans {a:Addr}(x:SameX a H H1)(y:SameX a H1 H2):SameX a H H2:=λb o h n=>y b o (x b o h n) n
def SameX.of {a:Addr}(x:Same H H'):SameX a H H':=λb o h _=>x b o h
theorem SameX.upd (a:Addr)(H:Hp)(o:HO):SameX a H (upd H a o):=λb u h n=>by rw[Zc n];exact h
def Same.new {a:Addr}{o:HO}(h:H a=none):Same H (upd H a o):=λb u e=>by rw[Zc (Zd e h)];exact e
def Zo {a:Addr}(e:Same H H')(h:SqT K H a xs):SqT K H' a xs:=by
 rcases h with (h | ⟨o,h⟩) | h
 ·exact .inl (.inl (e _ _ h))
 ·exact .inl (.inr ⟨o,e _ _ h⟩)
 exact .inr h
def BagAt (H:Hp)(a:Addr)(n:Nat):Prop:=∃ x y:Int,H a=some (.lst [.int x,.int y])/\0<=y/\y<=n
def BagAt.mono {a:Addr}{m n:Nat}(h:BagAt H a m)(k:m<=n):BagAt H a n:=by
 obtain⟨x,y,e,h1,h2⟩:=h;exact⟨x,y,e,h1,J5⟩
def BagAt.same {a:Addr}{n:Nat}(h:BagAt H a n)(x:Same H H'):BagAt H' a n:=by
 obtain⟨p,q,e,r⟩:=h;exact⟨p,q,x _ _ e,r⟩
theorem BagAt.upd {H:Hp}{a l:Addr}{o:HO}{n:Nat}(h:BagAt H a n)(k:a≠l):BagAt (_L.upd H l o) a n:=by
 obtain⟨p,q,e,r⟩:=h;exact⟨p,q,by rw[Zc k];exact e,r⟩
theorem BagAt.lst {H:Hp}{a:Addr}{n:Nat}(h:BagAt H a n):∃ ys,H a=some (.lst ys):=by
 obtain⟨x,y,e,_⟩:=h;exact⟨_,e⟩
def Zm {x:Str}{sl:Array (Option Value)}{kV:Value}(X:K.In h)(G:h.Ns mainGlobals mg)
  (a:W.nsIn K mainGlobals x=some (some (.ref f)):=by k_is) (l:K.lookup f=some ⟨oc,od,.func (W.fnOf x x (defArgs st) (defBody st) (defScope st) .none kV dc pm an cd ct),sl⟩:=by k_is) (c:W.codeIn K cd x=true:=by k_is) (k:W.keepIn K (.ref f)=true:=by k_is)
  (b:∀ (kV doc pm:Value) (an:TQ) (cdv ct:Value) (us:TH),us.length=ps.length->bindArgs (W.fnOf x x (defArgs st) (defBody st) (defScope st) .none kV doc pm an cdv ct) ⟨us,[]⟩=pure (ps.zip us):=by intro _ _ _ _ _ _ us h;(iterate 9 (try (rcases us with _|⟨_,us⟩;·cases h)));rcases us with _|⟨_,us⟩<;>first|rfl|cases h):Def K mg x st ps :=
 ⟨f,_,U7 l c k,Y0J X G a,(U7 l c k).binds b⟩
theorem T9 (env:Env):∀ (ns:List (Str × NameKind)) (cs:List (Str × Addr)),(∀ y∈ns,y.2=.free->∃ c,env.cells.lookup y.1=some c)->(∀ y c,cs.lookup y=some c->env.cells.lookup y=some c) →
  ∃ cl,(forIn ns cs (λ(x:Str × NameKind) (r:List (Str × Addr))=>(if (x.2 == .free)=true then do let a <-cellOf env x.1;pure (ForInStep.yield ((x.1,a)::r)) else pure (ForInStep.yield r):Sem (ForInStep (List (Str × Addr))))))=pure cl ∧
   (∀ y c,cl.lookup y=some c->env.cells.lookup y=some c)/\(∀ y c,cs.lookup y=some c->∃ c',cl.lookup y=some c')/\∀ y∈ns,y.2=.free->∃ c,cl.lookup y.1=some c
 | [],cs,_,hs=>⟨cs,J7,hs,λy c e=>⟨c,e⟩,λy b=>nomatch b⟩
 | (n,k)::r,cs,hf,hs=>by
  have hr:∀ y∈r,y.2=.free->∃ c,env.cells.lookup y.1=some c:=λy b=>hf y (YV _ b);by_cases hk:k=.free
  ·subst hk;obtain⟨c,hc⟩:=hf (n,.free) XC rfl;have g:env.cells.lookup n=some c:=hc;have j:∀ y d,((n,c)::cs).lookup y=some d->env.cells.lookup y=some d:=λy d e=>by
    by_cases b:y=n
    ·subst b;simp only [XX,zf] at e
     cases e;exact g
    have h:(y == n)=false:=JH.mpr b;simp only [XX,h] at e;exact hs y d e
   obtain⟨cl,h1,h2,i,l⟩:=T9 env r ((n,c)::cs) hr j;have up:∃ c',cl.lookup n=some c':=i n c (by simp[XX]);refine⟨cl,?_,h2,λy d e=>?_,λy b f=>?_⟩
   ·have e:cellOf env n=pure c:=by unfold cellOf;rw[g]
    simp only [jb,zf,Y10,e];exact h1
   ·by_cases b:y=n
    ·subst b;exact up
    have h:(y == n)=false:=JH.mpr b;exact i y d (by simp only [XX,h];exact e)
   rcases YU.mp b with z | z
   ·subst z;exact up
   exact l y z f
  obtain⟨cl,h1,h2,i,l⟩:=T9 env r cs hr hs;refine⟨cl,?_,h2,i,λy b f=>?_⟩
  ·have h:(k == NameKind.free)=false:=JH.mpr hk;simp only [jb,h,XM,qo];exact h1
  rcases YU.mp b with z | z
  ·subst z;exact absurd f hk
  exact l y z f
def Um {env:Env}(hf:∀ y∈scope.names,y.2=.free->∃ c,env.cells.lookup y.1=some c) :
  ∃ cl,closureFor scope env=pure cl/\(∀ y c,cl.lookup y=some c->env.cells.lookup y=some c)/\∀ y∈scope.names,y.2=.free->∃ c,cl.lookup y.1=some c:=by
 obtain⟨cl,h1,h2,_,b⟩:=T9 env scope.names [] hf (λy c e=>by simp at e);refine⟨cl,?_,h2,b⟩;have e:closureFor scope env=((forIn scope.names ([]:List (Str × Addr)) (λ(x:Str × NameKind) (r:List (Str × Addr))=>(if (x.2 == .free)=true then do let a <-cellOf env x.1;pure (ForInStep.yield ((x.1,a)::r)) else pure (ForInStep.yield r):Sem (ForInStep (List (Str × Addr)))))) >>= λr=>pure r):=by
  unfold closureFor
  congr 1
 rw[e,h1];rfl
def Jq {l:List (Str × NameKind)}{x:Str}{q:NameKind}(h:l.lookup x=some q):(x,q)∈l:=by
 obtain⟨a,b,e,_⟩:=List.lookup_eq_some_iff.mp h;rw[e];simp
theorem Ti {env:Env}(hf:env.scope.kind=.function):∀ {names:List (Str × NameKind)} {x:Str},names.lookup x=some .free->env.kindOf x=some .cell →
  (names.map λ(n,k)=>if (k == .free && env.scope.kind == .function && env.kindOf n == some .cell) then (n,NameKind.cell) else (n,k)).lookup x=some .cell
 | [],_,h,_=>by simp at h
 | (n,k)::r,x,h,hx=>by
  by_cases e:x=n
  ·subst e;simp only [XX,zf] at h
   cases h;simp[XX,hf,hx]
  have a:(x == n)=false:=JH.mpr e;simp only [XX,a] at h;have b:=Ti hf h hx;show List.lookup x ((if (k == .free && env.scope.kind == .function && env.kindOf n == some .cell)=true then (n,NameKind.cell) else (n,k))::_)=_;by_cases c:(k == .free && env.scope.kind == .function && env.kindOf n == some .cell)=true
  ·rw[YG c];simp only [XX,a];exact b
  rw[YD c];simp only [XX,a];exact b
theorem Vi {env:Env}:∀ {names:List (Str × NameKind)} {x:Str} {q:NameKind},(q=.cell \/ q=.free) →
  (names.map λ(n,k)=>if (k == .free && env.scope.kind == .function && env.kindOf n == some .cell) then (n,NameKind.cell) else (n,k)).lookup x=some q →
  ∃ y∈names,y.1=x/\(y.2=.free \/ y.2=.cell)
 | [],_,_,_,h=>by simp at h
 | (n,k)::r,x,q,hq,h=>by
  by_cases e:x=n
  ·subst e;refine⟨(x,k),XC,rfl,?_⟩;replace h:List.lookup x ((if (k == .free && env.scope.kind == .function && env.kindOf x == some .cell)=true then (x,NameKind.cell) else (x,k))::_)=some q:=h;by_cases c:(k == .free && env.scope.kind == .function && env.kindOf x == some .cell)=true
   ·have:k=.free:=by
     rw[JY,JY] at c;exact GV.mp c.1.1
    exact .inl this
   rw[YD c] at h;simp only [XX,zf] at h
   cases h;rcases hq with z | z
   ·exact .inr z
   exact .inl z
  have a:(x == n)=false:=JH.mpr e;replace h:List.lookup x ((if (k == .free && env.scope.kind == .function && env.kindOf n == some .cell)=true then (n,NameKind.cell) else (n,k))::_)=some q:=h;have h':(r.map λ(n,k)=>if (k == .free && env.scope.kind == .function && env.kindOf n == some .cell) then (n,NameKind.cell) else (n,k)).lookup x=some q:=by
   by_cases c:(k == .free && env.scope.kind == .function && env.kindOf n == some .cell)=true
   ·rw[YG c] at h;simp only [XX,a] at h;exact h
   rw[YD c] at h;simp only [XX,a] at h;exact h
  obtain⟨y,b,z⟩:=Vi hq h';exact⟨y,YV _ b,z⟩
section
variable {R:Result->Shared->Prop}
abbrev noX:Value->Shared->Prop:=λ_ _=>False
def Cw {g tg d:Expr}{e:TL}{scope:Scope}{pos:Pos}{it acc:Value}{env:Env}(J:Nat->Shared->Prop)
  (i:∀ n s,J n s->wpAny (model prog w) A (pyNext it) (λr s1=>match r with
   | none=>R (.ok .next) s1
   | some v=>wpAny (model prog w) A (letOwnedTupleGo tg it v) (λ_ s2=>wpAny (model prog w) A (assign tg env v) (λ_ k =>
     wpAny (model prog w) A (forIn e true λc r=>if r=true then do let ok <-isTrue c env (eval c env);pure (ForInStep.yield ok) else pure (ForInStep.yield r)) (λok j =>
      if ok=true then wpAny (model prog w) A (eval g env) (λx p=>wpAny (model prog w) A (call (.builtin "list.append") [acc,x]) (λ_ o=>∃ m,m<n/\J m o) noX p) noX j
      else ∃ m,m<n/\J m j) noX k) noX s2) noX s1) noX s)
  (n:Nat) (h:J n s):codeAny (model prog w) A (.compLoop (.ListComp g [⟨tg,d,e,0⟩] scope pos) 0 it acc env) R s:=by
 have no:∀ {Z:TC} (a:Value) (b:Shared),noX a b->Z a b:=λ_ _ f=>f.elim;refine codeAny_loop rfl J (λn s y=>?_) n h;show wpAny _ A ((compTurn (.ListComp g [⟨tg,d,e,0⟩] scope pos) 0 it acc env).onRaise (λx=>do noteFrame x env;theTreesLotGoes x)) _ _ s;refine wpAny_noted ?_;rw[compTurn_list];refine YA (jc (YA (GO (i n s y) (λr s1 h1=>?_) no)))
 cases r with
 | none=>exact YK h1
 | some v =>
  refine YA (GO h1 (λ_ s2 h2=>YA (GO h2 (λ_ k t=>YA (GO t (λok j l=>?_) no)) no)) no)
  cases ok with
  | false=>exact YK ⟨rfl,l⟩
  | true=>exact YA (YA (GO l (λx p q=>YA (GO q (λ_ o u=>YK (YK ⟨rfl,u⟩)) no)) no))
end
def cellsO (ox:Option Str)(n:Addr)(cl:List (Str × Addr)):List (Str × Addr):=ox.elim cl λx=>(x,n)::cl
def compCx (X:Cx)(N:TF)(scope:Scope)(ox:Option Str)(cl:List (Str × Addr))(C:Addr)(fp:TJ)(s:Shared)(H:Hp):Cx where
 prog:=X.prog
 w:=X.w
 K:=X.K
 mg:=X.mg
 base:=X.base
 A:=X.A
 N:=N
 s₀:=s
 H₀:=H
 env:=compEnvC scope (cellsO ox (C+1) cl) C X.env
 outer:=X.stack
 stack:=X.stack
 ex:=fp
 fn:=λy=>ox.elim false λx=>y == x
 calm:=true
 pn:=X.pn
 xe:=noX
def comp0 (k:Nat)(fv:List Nat)(σ:_L.St):_L.St:=List.replicate k none++fv.map λj=>σ.getD j none
def PTs (X:Cx)(a:TL)(t:TT):Prop :=
 ∀ (pins:TD) (s:Shared) (σ:_L.St) (H:Hp) (Q:Bool->Hp->Prop),Inv X pins σ H s->t σ H Q →
  wX X (forIn a true λc r=>if r=true then do let ok <-isTrue c X.env (eval c X.env);pure (ForInStep.yield ok) else pure (ForInStep.yield r)) (TP X pins σ Q) X.xe s
def tYes:TT:=λ_ H Q=>Q true H
theorem Y8:PTs X [] tYes:=λ_ _ _ H _ I h=>wpAny_tests_nil ⟨H,I,h⟩
theorem Xu {c:Expr}{t:TT}(h:PT X c t):PTs X [c] t:=λpins s σ H Q I q=>wpAny_tests_one (h pins s σ H Q I q)
def Weaker (a b:_L.St):Prop:=b.length=a.length/\∀ (i:Nat) (v:V),b[i]?=some (some v)->a[i]?=some (some v)
def tComp (f:TI)(g:TG)(tt:TT)(te:TE)(k:Nat)(fv:List Nat):TE:=λσ H Q=>f σ H λJ H1=>∀ d,H1 d=none->∃ (n:Nat) (W:Nat->List V->Hp->Prop),n<=sizeLine/\W 0 [] (upd H1 d (.lst [])) ∧
 (∀ i ys H2,i<n->W i ys H2->H2 d=some (.lst ys)->J.go i H2/\∀ x c,J.yld i H2 x c->g x (comp0 k fv σ) c λa h=>tt a h λb H5 =>
  if b=true then te a H5 λy e=>e d=some (.lst ys)/\W (i+1) (ys++[y]) (upd e d (.lst (ys++[y]))) else H5 d=some (.lst ys)/\W (i+1) ys H5) ∧
 (∀ ys H2,W n ys H2->H2 d=some (.lst ys)->J.stop n H2/\Q (.ref d) H2)
def Z5c {P:TU}(x:HOk P w H h)(hn:H C=none)(k:∀ b,b≠C->h'.get? b=h.get? b):HOk P w H h':=λa o e =>
 (x a o e).stay (λb u c q=>by
  rw[k b]
  ·exact q
  rintro rfl;rcases c with rfl | c
  ·rw[hn] at e;cases e
  rw[hn] at c;cases c) (λ_ q=>q) λ_ _ q=>q
def Z6g {fs ex:TJ}{h1 h2:Heap}(u:Un fs ex H H' h h1)(a:h.get? C=none)(k:∀ b,b≠C->h2.get? b=h1.get? b):Un fs ex H H' h h2:=by
 have ne:∀ b o,h.get? b=some o->b≠C:=λb o e z=>by rw[z,a] at e;cases e
 exact⟨λb o e n hf hx=>by rw[k b (ne b o e)];exact u.keep b o e n hf hx,λb o e n hf hx=>by rw[k b (ne b o e)];exact u.slot b o e n hf hx,u.free,λb o e hx=>by rw[k b (ne b o e)];exact u.there b o e hx,u.tups,u.frzs,u.tbls⟩
def Z5s:∀ (names:List (Str × NameKind)) (ox:Option Str) (n:Nat) (acc:List (Str × Addr)) (h:Heap),(names.filter λy=>y.2 == .cell)=ox.toList.map (λx=>(x,.cell))->cellsFrom n names acc=cellsO ox n acc/\pushCells h names=ox.elim h λ_=>h.push { cls:=.type "cell",data:=.cell none }:=by
 intro names
 induction names with
 | nil =>
  intro ox n acc h e
  cases ox with
  | none=>exact⟨rfl,rfl⟩
  | some x=>cases e
 | cons y r b =>
  obtain⟨m,k⟩:=y;intro ox n acc h e;by_cases hk:(k == NameKind.cell)=true
  ·rw[Y1k (a:=(m,k)) (l:=r) (p:=λy:Str × NameKind=>y.2 == .cell) hk] at e
   cases ox with
   | none=>cases e
   | some x =>
    injection e with e1 e2
    cases e1;unfold cellsFrom pushCells;rw[YG hk,YG hk];exact b none _ _ _ e2
  rw[Y1l (a:=(m,k)) (l:=r) (p:=λy:Str × NameKind=>y.2 == .cell) hk] at e;unfold cellsFrom pushCells;rw[YD hk,YD hk];exact b ox n acc h e
def Z8w {M:Model}{A:Around}{E:TC}{c:Addr}{cl:List (Str × Addr)}{d:TQ}{code:Value}{outer:Env}{a:Addr}{Q:Env->Shared->Prop}{ox:Option Str}
  (f:(scope.names.filter λy=>y.2 == .cell)=ox.toList.map (λx=>(x,.cell)))
  (k:∀ h',h'.Ns s.heap.objs.size (λ_=>none)->(∀ x,ox=some x->h'.IsCell (s.heap.objs.size+1) none)->(∀ b o,s.heap.get? b=some o->h'.get? b=some o)->Q (newEnv scope s.heap.objs.size c (cellsO ox (s.heap.objs.size+1) cl) qual d code (some outer) a) { s with heap:=h' }) :
  wpAny M A (newFunctionEnv scope c cl [] qual d code (some outer) a) Q E s:=by
 simp only [newFunctionEnv,Option.isSome_some,Y10];refine YA (wpAny_alloc ?_);refine YA (wpAny_layCells _ (λname kind g=>by cases h:kind == NameKind.cell <;> simp[h]) _ _ _ _ ?_);have e:=JP s.heap { cls:=.type "dict",data:=.dict #[] };obtain⟨i,j⟩:=Z5s scope.names ox (s.heap.objs.size+1) cl (s.heap.push { cls:=.type "dict",data:=.dict #[] }) f;rw[show ({ s with heap:=s.heap.push { cls:=.type "dict",data:=.dict #[] } }:Shared).heap.objs.size=s.heap.objs.size+1 from e,i,j];refine YA ?_;rw[Y0e];refine YK (YK (k _ ?_ ?_ ?_))
 ·cases ox
  ·exact Heap.Ns.new s.heap (.type "dict")
  exact (Heap.Ns.new s.heap (.type "dict")).keeps λb o e=>YB _ e
 ·rintro x rfl;rw[<-e];exact⟨_,YN _ rfl,rfl⟩
 intro b o q
 cases ox
 ·exact YB _ q
 exact YB _ (YB _ q)
def K3 {ox:Option Str}{n:Addr}{cl:List (Str × Addr)}{y:Str}{c:Addr}(h:(cellsO ox n cl).lookup y=some c):(ox=some y/\c=n) \/ (ox≠some y/\cl.lookup y=some c):=by
 cases ox with
 | none=>exact .inr ⟨nofun,h⟩
 | some x =>
  replace h:((x,n)::cl).lookup y=some c:=h;rw[XX] at h
  cases a:y == x with
  | true=>rw[a] at h;cases h;exact .inl ⟨by rw[GV.mp a],rfl⟩
  | false=>rw[a] at h;exact .inr ⟨λz=>JH.mp a (YR z).symm,h⟩
def Z91 {ox:Option Str}{n:Addr}{cl:List (Str × Addr)}{y:Str}(h:ox≠some y):(cellsO ox n cl).lookup y=cl.lookup y:=by
 cases ox with
 | none=>rfl
 | some x =>
  show ((x,n)::cl).lookup y=_;rw[XX,JH.mpr λz=>h (by rw[z])]
section
variable {X:Cx}{σ:_L.St}{H:Hp}{N:TF}{cl:List (Str × Addr)}{fp:TJ}{k:Nat}{fv:List Nat}{ox:Option Str}
theorem Z5r (I:Inv X pins σ H s)(hc:X.calm=true)(hf:∀ b∈fp,FpOk X pins H b)(hl:∀ b∈fp,b<s.heap.objs.size)(g:scope.kind=.function)(h:(scope.names.filter λy=>y.2 == .cell)=ox.toList.map (λx=>(x,.cell)))
  (h1:∀ y c,cl.lookup y=some c->X.env.cells.lookup y=some c) (h2:∀ y∈scope.names,y.2=.free->∃ c,cl.lookup y.1=some c):(compCx X N scope ox cl s.heap.objs.size fp s H).Ok where
 mod:=I.ok.mod
 kind:=g
 glob:=I.ok.glob
 blt:=I.ok.blt
 above:=YJ _
 inj:=λy z c a b=>by
  have i:∀ {n:Str} {d:Addr},cl.lookup n=some d->d<s.heap.objs.size:=λ{n d} e=>by
   obtain⟨v,w⟩:=I.cell n d (h1 n d e);exact w.lt
  rcases K3 a with ⟨A,p⟩ | ⟨B,u⟩
  ·rcases K3 b with ⟨r,_⟩ | ⟨nz,j⟩
   ·exact YR (A.symm.trans r)
   have:=i j;rw[p] at this;exact absurd this (Y0q.mpr (zj _))
  rcases K3 b with ⟨r,p⟩ | ⟨nz,j⟩
  ·have:=i u;rw[p] at this;exact absurd this (Y0q.mpr (zj _))
  exact I.ok.inj y z c (h1 y c u) (h1 z c j)
 has:=λz hz=>by
  have:∃ y∈scope.names,y.1=z/\(y.2=.free \/ y.2=.cell):=by
   rcases hz with q | q
   ·exact Vi (.inl rfl) q
   exact Vi (.inr rfl) q
  obtain⟨y,t,e,q⟩:=this;by_cases hx:ox=some z
  ·refine⟨s.heap.objs.size+1,?_⟩;show (cellsO ox _ cl).lookup z=_;rw[hx];show ((z,_)::cl).lookup z=_;rw[XX,zf]
  rcases q with q | q
  ·obtain⟨c,k⟩:=h2 y t q;exact⟨c,(Z91 hx).trans (by rw[<-e];exact k)⟩
  have m:y∈scope.names.filter λy=>y.2 == .cell:=XA.mpr ⟨t,by rw[q];rfl⟩;rw[h] at m;obtain⟨x,l,rfl⟩:=YT.mp m;exact absurd ((Option.mem_toList.mp l).trans (by rw[<-e])) hx
 cab:=λy c z e=>by
  rcases K3 e with ⟨_,rfl⟩ | ⟨n,_⟩
  ·exact zj _
  cases ox with
  | none=>cases z
  | some x=>exact absurd (congrArg some (GV.mp z).symm) n
 hd:=λ_=>I.ok.hd hc
 frames:=I.ok.frames
 stk:=.inl rfl
 exf:=λb f=>⟨XB (hl b f),λy c e=>by
  rcases K3 e with ⟨_,rfl⟩ | ⟨_,e⟩
  ·exact λz=>absurd (hl b f) (Y0q.mpr (by rw[<-z];exact zj _))
  exact (hf b f).2.2.2.2.1 y c (h1 y c e)⟩
 bs:=I.bs
 bsz:=YM I.ok.bsz I.sz
 noex:=λb o e f=>by
  rcases (hf b f).2.2.2.1 with z | z
  ·exact I.ok.noex b o e z
  exact absurd (YQ (YL (I.ok.bs b o e).1) z) (JA _)
 exfs:=λb f z=>(YU.mp (I.stkSub b z)).elim (λe=>(hf b f).2.1 e) λe=>(hf b f).2.2.1 e
 funs:=I.stack
 frf:=I.stkFree
 seen:=I.ok.seen
 dpt:=I.ok.dpt
theorem Z2u (I:Inv X pins σ H s)(hc:X.calm=true)(hf:∀ b∈fp,FpOk X pins H b)(hl:∀ b∈fp,b<s.heap.objs.size)(f:scope.kind=.function)(h:(scope.names.filter λy=>y.2 == .cell)=ox.toList.map (λx=>(x,.cell)))(hx:∀ y∈N.drop k,ox≠some y)
  (h1:∀ y c,cl.lookup y=some c->X.env.cells.lookup y=some c) (h2:∀ y∈scope.names,y.2=.free->∃ c,cl.lookup y.1=some c)
  (hN:N.length=k+fv.length) (D:fv.map (λj=>X.N[j]?)=(N.drop k).map some) (hk:(N.drop k).map X.env.kindOf=(N.drop k).map λ_=>some .cell) (A:∀ y∈N.drop k,scope.names.lookup y=some .free)
  {h':Heap} {tk:Nat} (hn:h'.Ns s.heap.objs.size λ_=>none) (t:∀ x,ox=some x->h'.IsCell (s.heap.objs.size+1) none) (n:∀ b o,s.heap.get? b=some o->h'.get? b=some o) :
  Inv (compCx X N scope ox cl s.heap.objs.size fp s H) [] (comp0 k fv σ) H { s with heap:=h',toks:=tk } where
 ok:=Z5r I hc hf hl f h h1 h2
 os:=rfl
 bare:=I.bare
 base:=Un.kept n
 loc:=⟨_,hn,λi y v e1 e2 e3=>by
  have K:k<=i:=by
   apply Nat.le_of_not_lt;intro z;have:(comp0 k fv σ)[i]?=some none:=by
    unfold comp0;rw[JS (by simpa using z)];simp[z]
   rw[this] at e2
   cases e2
  obtain⟨j,rfl⟩:∃ j,i=k+j:=⟨i - k,J5⟩;have d:(fv.map λj=>σ.getD j none)[j]?=some (some v):=by
   have:(comp0 k fv σ)[k+j]?=(fv.map λj=>σ.getD j none)[j]?:=by
    unfold comp0;rw[JQ J7];simp
   rw[<-this];exact e2
  rw[YI] at d
  cases hj:fv[j]? with
  | none=>rw[hj] at d;cases d
  | some m =>
   rw[hj] at d;have r:σ.getD m none=some v:=YR d;have C:(N.drop k)[j]?=some y:=by rw[List.getElem?_drop];exact e1
   have L:X.N[m]?=some y:=by
    have a:=congrArg (λl=>l[j]?) D;simp only [YI,hj,C,jt] at a;exact YR a
   have w:X.env.kindOf y=some .cell:=by
    have a:=congrArg (λl=>l[j]?) hk;simp only [YI,C,jt] at a;exact YR a
   have M:σ[m]?=some (some v):=by
    cases q:σ[m]? with
    | none=>rw[List.getD,q] at r;cases r
    | some o=>rw[List.getD,q] at r;rw[show o=some v from r]
   obtain⟨O,J,B⟩:=I.loc;obtain⟨u,ru,lk⟩:=B m y v L M (.inr (.inl w));refine⟨u,ru,?_⟩;rcases lk with ⟨z,_⟩ | ⟨_,c,hcc,G⟩
   ·rw[w] at z;cases z
   have mem:y∈N.drop k:=YE C;have E:=A y mem;obtain⟨c',g⟩:=h2 (y,.free) (Jq E) rfl;have F:=h1 y c' g;rw[hcc] at F
   cases F;refine .inr ⟨.inl (Ti I.ok.kind E w),c,(Z91 (hx y mem)).trans g,?_⟩;obtain⟨o,ho,hd⟩:=G;exact⟨o,n _ _ ho,hd⟩⟩
 cell:=λy c e=>by
  rcases K3 e with ⟨z,rfl⟩ | ⟨_,e⟩
  ·exact⟨_,t y z⟩
  obtain⟨v,o,ho,hd⟩:=I.cell y c (h1 y c e);exact⟨v,o,n _ _ ho,hd⟩
 free:=I.hok.fresh (YJ _)
 freeC:=λy c e=>by
  rcases K3 e with ⟨_,rfl⟩ | ⟨_,e⟩
  ·exact I.hok.fresh (zj _)
  exact I.freeC y c (h1 y c e)
 pin:=λp hp=>by
  obtain⟨a1,a2,a3,a4,a5⟩:=I.pin p (XJ _ ((XS.mp hp).elim id λz=>nomatch z));exact⟨n _ _ a1,a2,XB (YL a1),λz=>(YU.mp (I.stkSub p.1 z)).elim a3 a4,a5⟩
 hok:=I.hok.kept n
 len:=by
  show (comp0 k fv σ).length=N.length;unfold comp0;simp[hN]
end
section
variable {X:Cx}
def Pj {U O tg:Expr}{Y:TL}{scope:Scope}{pos:Pos}{g:TG}{tt:TT}{te:TE}{N:TF}{k:Nat}{fv:List Nat}{cl:List (Str × Addr)}{ox:Option Str}
  {pins:TD} {σ:_L.St} {H:Hp} {s:Shared} {it:Addr} {fp:TJ} {tn:Nat->Heap->Prop} {J:It} {Q:VK} {RR:Value->Addr->Result->Shared->Prop} {E:TC}
  (hc:X.calm=true) (hg:∀ cl C fp s H,PG (compCx X N scope ox cl C fp s H) tg g) (ht:∀ cl C fp s H,PTs (compCx X N scope ox cl C fp s H) Y tt) (he:∀ cl C fp s H,PE (compCx X N scope ox cl C fp s H) U te)
  (hw:∀ r x H Q,g x (List.replicate k none++r) H Q->g x (List.replicate k none++r) H λt H4=>Q t H4/\Weaker t (List.replicate k none++r))
  (hN:N.length=k+fv.length) (d6:fv.map (λj=>X.N[j]?)=(N.drop k).map some) (hk:(N.drop k).map X.env.kindOf=(N.drop k).map λ_=>some .cell) (d5:∀ y∈N.drop k,scope.names.lookup y=some .free)
  (P:(scope.names.filter λy=>y.2 == .cell)=ox.toList.map (λx=>(x,.cell))) (d0:∀ y∈N.drop k,ox≠some y) (R:scope.kind=.function) (h1:∀ y c,cl.lookup y=some c->X.env.cells.lookup y=some c) (h2:∀ y∈scope.names,y.2=.free->∃ c,cl.lookup y.1=some c)
  (I:Inv X pins σ H s) (T:Turn X.prog X.w X.K tg J fp it tn) (st:tn 0 s.heap) (f:∀ b∈fp,FpOk X pins H b)
  (body:∀ d,H d=none->∃ (n:Nat) (W:Nat->List V->Hp->Prop),n<=sizeLine/\W 0 [] (upd H d (.lst [])) ∧
   (∀ i ys H2,i<n->W i ys H2->H2 d=some (.lst ys)->J.go i H2/\∀ x H3,J.yld i H2 x H3->g x (comp0 k fv σ) H3 λt H4=>tt t H4 λb H5 =>
    if b=true then te t H5 λy H6=>H6 d=some (.lst ys)/\W (i+1) (ys++[y]) (upd H6 d (.lst (ys++[y]))) else H5 d=some (.lst ys)/\W (i+1) ys H5) ∧
   (∀ ys H2,W n ys H2->H2 d=some (.lst ys)->J.stop n H2/\Q (.ref d) H2))
  (hR:∀ (D C:Addr) (H':Hp) (s':Shared),(∃ m,s'.heap.Ns C m)->FpOk X pins H' C->Q (.ref D) H'->(∀ h',Heap.SameBut C s'.heap h'->Inv X pins σ H' { s' with heap:=h' })->RR (.ref D) C (.ok .next) s') :
  wX X (newList []) (λacc h=>wX X (newFunctionEnv scope X.env.globals cl [] X.env.qual none .none (some X.env)) (λL s4 =>
   codeAny (model X.prog X.w) X.A (.compStart (.ListComp U [⟨tg,O,Y,0⟩] scope pos) 0 (.ref it) acc { L with scope:=relabel scope X.env }) (RR acc L.locals) s4) E h) E s:=by
 refine zJ ?_;have I3:=I.lnew (its:=[]) (ys:=[]) (t':=s.toks) .nil (JF _);have fresh:=I.fresh;generalize hD:s.heap.objs.size=D at I3 fresh ⊢;have B:∀ b∈fp,FpOk X pins (upd H D (.lst [])) b:=λb a=>by
  refine⟨?_,(f b a).2⟩;have c5:b≠D:=by
   obtain⟨o,e,_⟩:=T.obj 0 _ st b a;rw[<-hD];exact XB (YL e)
  rw[Zc c5];exact (f b a).1
 have c1:∀ b o,s.heap.get? b=some o->(s.heap.push { cls:=.type "list",data:=.seq ([]:TH).toArray }).get? b=some o:=λb o e=>YB _ e;have a4:tn 0 (s.heap.push { cls:=.type "list",data:=.seq ([]:TH).toArray }):=T.keep 0 _ _ st λb _ o e=>c1 b o e;have F:∀ b∈fp,b<(s.heap.push { cls:=.type "list",data:=.seq ([]:TH).toArray }).objs.size:=λb a=>by
  obtain⟨o,e,_⟩:=T.obj 0 _ a4 b a;exact YL e
 obtain⟨n,W,hn,w0,step,d4⟩:=body D fresh;generalize c3:({ s with heap:=s.heap.push { cls:=.type "list",data:=.seq ([]:TH).toArray },toks:=s.toks }:Shared)=h at I3;have c2:h.heap=s.heap.push { cls:=.type "list",data:=.seq ([]:TH).toArray }:=by rw[<-c3]
 rw[<-c2] at a4 F;refine Z8w P (λh4 c6 c9 a9=>?_);have I4:=Z2u (N:=N) (tk:=h.toks) I3 hc B F R P d0 h1 h2 hN d6 hk d5 (h':=h4) c6 c9 a9;have a6:tn 0 h4:=T.keep 0 _ _ a4 λb _ o e=>a9 b o e;have b5:h.heap.get? h.heap.objs.size=none:=by
  cases e:h.heap.get? h.heap.objs.size with
  | none=>rfl
  | some o=>exact absurd (YL e) (JA _)
 generalize hC:h.heap.objs.size=C at I4 b5 ⊢;have v:∀ {H':Hp} {ps:TD},(∀ b∈fp,H' b=none)->(∀ p∈ps,p.1 ∉ fp)->∀ b∈fp,FpOk (compCx X N scope ox cl C fp h (upd H D (.lst []))) ps H' b:=λ{H' ps} hn hp b a =>
  ⟨hn b a,by rw[<-hC];exact XB (F b a),λz=>(YU.mp (I3.stkSub b z)).elim (λe=>(B b a).2.1 e) λe=>(B b a).2.2.1 e,.inl a,λx c e=>(K3 e).elim (λz q=>absurd (F b a) (Y0q.mpr (by rw[<-q,z.2,<-hC];exact zj _))) (λz=>(B b a).2.2.2.2.1 x c (h1 x c z.2)),λp q z=>(XS.mp q).elim (λq=>(B b a).2.2.2.2.2 p (XJ _ q) z) λq=>hp p q (by rw[z];exact a)⟩
 have M:∀ s4:Shared,s4={ h with heap:=h4,toks:=h.toks } →
   codeAny (model X.prog X.w) X.A (.compLoop (.ListComp U [⟨tg,O,Y,0⟩] scope pos) 0 (.ref it) (.ref D) (compEnvC scope (cellsO ox (C+1) cl) C X.env)) (RR (.ref D) C) s4:=by
  rintro s4 rfl;refine Cw (λm s'=>∃ i ys H',Inv (compCx X N scope ox cl C fp h (upd H D (.lst []))) [] (comp0 k fv σ) H' s'/\tn i s'.heap/\(∀ b∈fp,H' b=none)/\i<=n/\m=n+1 - i/\ys.length<=i/\H' D=some (.lst ys)/\W i ys H') ?_ (n+1)
   ⟨0,[],_,I4,a6,λb a=>(B b a).1,JF _,rfl,YJ _,Za,w0⟩
  rintro m s5 ⟨i,ys,H5,I5,a7,b4,hi,rfl,b0,b2,w5⟩;by_cases l:i<n
  ·obtain⟨go,d1⟩:=step i ys H5 l w5 b2;refine thn (T.item (compCx X N scope ox cl C fp h (upd H D (.lst []))) rfl rfl rfl rfl i [] s5 _ H5 noX I5 (v b4 J7) a7 go) λr s6 ⟨u,er,h6⟩=>?_;subst er;refine thn h6 λ_ s7 ⟨x,H7,I7,r7,y7,a0,c0⟩=>?_;have b7:=I7.pinned (v c0 J7) (T.obj _ _ a0);refine thn (hg cl C fp h _ _ s7 _ H7 x u _ b7 r7 (hw _ x H7 _ (d1 x H7 y7))) λ_ s8 ⟨S,H8,I8,q8,wk⟩=>?_;refine thn (ht cl C fp h _ _ s8 S H8 _ I8 q8) λok s9 ⟨H9,I9,q9⟩=>?_;have G:∀ {σ':_L.St} {H':Hp} {s':Shared},Inv (compCx X N scope ox cl C fp h (upd H D (.lst []))) ([]++pinsAt fp s7.heap) σ' H' s'->Weaker σ' (comp0 k fv σ) →
     Inv (compCx X N scope ox cl C fp h (upd H D (.lst []))) [] (comp0 k fv σ) H' s'/\tn (i+1) s'.heap/\∀ b∈fp,H' b=none:=λ{σ' H' s'} I' b1=>by
    refine⟨I'.unpinned.weak b1.1 b1.2,T.keep _ _ _ a0 λb a o e=>(I'.pin (b,o) (YX _ (YX _ (Vn a e)))).1,λb a=>?_⟩;obtain⟨o,e,_⟩:=T.obj _ _ a0 b a;exact (I'.pin (b,o) (YX _ (YX _ (Vn a e)))).2.1
   cases ok with
   | false =>
    rw[YD YO] at q9 ⊢;obtain⟨c8,w9⟩:=q9;obtain⟨a1,a2,a3⟩:=G I9 wk;exact⟨n+1 - (i+1),J5,i+1,ys,H9,a1,a2,a3,l,rfl,Nat.le_succ_of_le b0,c8,w9⟩
   | true =>
    rw[YG rfl] at q9 ⊢;refine thn (he cl C fp h _ _ s9 S H9 _ I9 q9) λy b9 ⟨yv,a8,d2,d3,b3,b6⟩=>?_;refine thn (Xk _ b9 S a8 (.ref D) [yv] (.ref D) [y] (λ_ H'=>H'=upd a8 D (.lst (ys++[yv]))) d2 rfl (.cons d3 .nil) ⟨D,ys,yv,rfl,rfl,b3,JK b0 (YQ l hn),rfl⟩) λ_ d7 ⟨_,d8,c4,_,b8⟩=>?_;subst b8;obtain⟨a1,a2,a3⟩:=G c4 wk;exact⟨n+1 - (i+1),J5,i+1,ys++[yv],_,a1,a2,a3,l,rfl,by rw[XD];show ys.length+1<=i+1;omega,Za,b6⟩
  obtain rfl:i=n:=Nat.le_antisymm hi (Y0q.mp l);obtain⟨stop,q⟩:=d4 ys H5 w5 b2;refine thn (T.done (compCx X N scope ox cl C fp h (upd H D (.lst []))) rfl rfl rfl rfl i [] s5 _ H5 noX I5 (v b4 J7) a7 stop) λr s6 ⟨er,Z⟩=>?_;subst er;refine hR D C H5 s6 ?_ (I3.fpOk (by rw[hC];exact YJ _) Z.free) q λh' c7=>?_
  ·obtain⟨m,hm,_⟩:=Z.loc;exact⟨m,hm⟩
  have a5:∀ b,b≠C->h'.get? b=s6.heap.get? b:=λb a=>c7.2 b a;refine I3.call' (s':={ s6 with heap:=h' }) (ch:=fp) ?_ (Z6g Z.base b5 a5) (Z5c Z.hok Z.free a5) Z.bare λb a=>?_
  ·exact Z.os
  exact⟨(B b a).2.2.2.1,(B b a).2.1,(B b a).2.2.2.2.1,(B b a).2.2.2.2.2⟩
 exact codeAny_compStart_list (M _ rfl) (T.self _ 0 _ _ _ a6 (M _ rfl))
theorem Yd {i c:Expr}{o:TL}{pos:Pos}{L:TI}{g:TG}{N:TF}{k:Nat}{fv:List Nat}{ox:Option Str}
  (hc:X.calm=true) (hi:PI X tg c L) (hg:∀ cl C fp s H,PG (compCx X N scope ox cl C fp s H) tg g) (M:∀ cl C fp s H,PTs (compCx X N scope ox cl C fp s H) o tt) (P:∀ cl C fp s H,PE (compCx X N scope ox cl C fp s H) i te)
  (hw:∀ r x H Q,g x (List.replicate k none++r) H Q->g x (List.replicate k none++r) H λn R=>Q n R/\Weaker n (List.replicate k none++r))
  (hN:N.length=k+fv.length:=by rfl) (F:fv.map (λj=>X.N[j]?)=(N.drop k).map some:=by rfl) (hk:(N.drop k).map X.env.kindOf=(N.drop k).map (λ_=>some .cell):=by rfl)
  (E:∀ y∈N.drop k,scope.names.lookup y=some .free:=by decide +kernel) (u:∀ y∈scope.names,y.2=.free->y.1∈N.drop k:=by decide +kernel)
  (p:(scope.names.filter λy=>y.2 == .cell)=ox.toList.map (λx=>(x,.cell)):=by decide +kernel) (B:∀ y∈N.drop k,ox≠some y:=by decide +kernel) (b:scope.kind=.function:=by rfl) (d:∀ y∈scope.names,y.2=.local->scope.names.lookup y.1=some .local:=by decide +kernel)
  (hs:∀ x,foldedSetIterable c X.env x=pure x:=by intro _;rfl):PE X (.ListComp i [⟨tg,c,o,0⟩] scope pos) (tComp L g tt te k fv):=by
 intro pins s σ H Q I h;have O:∀ y∈N.drop k,X.env.kindOf y=some .cell:=λy z=>by
  obtain⟨j,hj⟩:=XL z;have a:=congrArg (λl=>l[j]?) hk;simp only [YI,hj,jt] at a;exact YR a
 obtain⟨cl,f,h1,h2⟩:=Um (env:=X.env) (scope:=scope) λy z hf=>I.ok.has y.1 (.inl (O y.1 (u y z hf)));rw[eval_ListComp];refine Y1c (use:=none) rfl hs f b d (thn (hi pins s σ H _ I h) λV s1 G=>thn G λU s2 K=>?_);obtain⟨it,fp,tn,J,H2,e,S,T,t,f2,body⟩:=K;subst e;exact Pj (RR:=λacc C=>compPost (model X.prog X.w) X.A X.xe none (EP X pins σ Q) acc C) hc hg M P hw hN F hk E p B b h1 h2 S T t f2 body λD C H' s' ⟨m,hm⟩ _ q iv=>⟨m,hm,λh' v=>⟨.ref D,H',iv h' v,rfl,q⟩⟩
theorem Zu:∀ (r:_L.St) (x:V) (H:Hp) (Q:_L.St->Hp->Prop),gName 0 x (List.replicate 1 none++r) H Q->gName 0 x (List.replicate 1 none++r) H λa b=>Q a b/\Weaker a (List.replicate 1 none++r):=λr x H Q h =>
 ⟨h,J7,λi v e=>by
  cases i with
  | zero=>cases e
  | succ j=>exact e⟩
theorem Xp {K:TR}:∀ (r:_L.St) (x:V) (H:Hp) (Q:_L.St->Hp->Prop),gTup K 2 (gCons (gName 0) (gCons (gName 1) gNil)) x (List.replicate 2 none++r) H Q →
  gTup K 2 (gCons (gName 0) (gCons (gName 1) gNil)) x (List.replicate 2 none++r) H λb d=>Q b d/\Weaker b (List.replicate 2 none++r):=by
 rintro r x H Q ⟨a,xs,e1,hq,hl,v,t,e2,v',t',e3,c,q⟩;refine⟨a,xs,e1,hq,hl,v,t,e2,v',t',e3,c,q,J7,λi z e=>?_⟩
 cases i with
 | zero=>cases e
 | succ j =>
  cases j with
  | zero=>cases e
  | succ j=>exact e
end
def Ym {x:V}{σ:_L.St}{A B:_L.St->Hp->Prop}(h:A (σ.set 0 (some x)) H):gName 0 x σ H λa c=>tYes a c λb H5=>if b=true then A a H5 else B a H5:=by
 show if true=true then A (σ.set 0 (some x)) H else B (σ.set 0 (some x)) H
 exact U6 h
section
variable {X:Cx}
inductive rIxA (K:TR) (x:V) (y:V) (H:Hp) (Q:VK):Prop
 | mk (p xs i v:_) (zz0:x=.ref p) (zz1:y=.int i) (zz2:(SqL K H p xs \/ SqT K H p xs)) (zz3:atI xs i=some v) (zz4:Q v H)
theorem Jx:IxR X (rIxA X.K):=λb sl pins s σ H x y v u Q I c a ⟨p,xs,i,z,e1,e2,h,ea,q⟩ hs=>by
 rcases h with h | h
 ·exact Zt b sl pins s σ H x y v u Q I c a ⟨p,xs,i,z,e1,e2,h,ea,q⟩ hs
 exact Yg b sl pins s σ H x y v u Q I c a ⟨p,xs,i,z,e1,e2,h,ea,q⟩ hs
end
section
variable {X:Cx}
def Z6c (h:X.K=K:=by rfl):IxR X (rIxT K):=h ▸ Yg
def Z93 (h:X.K=K:=by rfl):IxR X (rIxL K):=h ▸ Zt
def Z94 (h:X.K=K:=by rfl):IxR X (rIxA K):=h ▸ Jx
def Z7w (h:X.K=K:=by rfl):IxR X (rP0 K):=h ▸ Yu
def Z7v (h:X.K=K:=by rfl):IxR X (rP1 K):=h ▸ Yi
end
def Tn {x:V}{σ:_L.St}{A B:_L.St->Hp->Prop}{t:TT}(h:t (σ.set 0 (some x)) H λb H5=>if b=true then A (σ.set 0 (some x)) H5 else B (σ.set 0 (some x)) H5) :
  gName 0 x σ H λa c=>t a c λb H5=>if b=true then A a H5 else B a H5:=h
def Tl {p:Addr}{u:V}{σ:_L.St}{A B:_L.St->Hp->Prop}(hp:SqT K H p [u,v])(h:A ((σ.set 0 (some u)).set 1 (some v)) H) :
  gTup K 2 (gCons (gName 0) (gCons (gName 1) gNil)) (.ref p) σ H λa c=>tYes a c λb H5=>if b=true then A a H5 else B a H5:=by
 refine⟨p,[u,v],rfl,hp,rfl,u,[v],rfl,v,[],rfl,rfl,?_⟩;show if true=true then A ((σ.set 0 (some u)).set 1 (some v)) H else B ((σ.set 0 (some u)).set 1 (some v)) H
 exact U6 h
end _b
namespace _b
open PySem PySem.Builtin.SmallTypes
def kN (l:Bool):String:=cond l "list" "tuple"
def kI (l:Bool):String:=cond l "list_iterator" "tuple_iterator"
def Iq (l:Bool)(h:Heap)(a:Addr)(ys:Array Value):Prop:=∃ o,h.get? a=some o/\o.cls=.type (kN l)/\∃ n,o.data=.seq ys n
def Ir (l:Bool)(h:Heap)(a t:Addr)(i:Nat):Prop:=∃ o,h.get? a=some o/\o.cls=.type (kI l)/\o.data=.fields #[.ref t,.int i 0]
section
def Lx {it t:Addr}{j:Nat}{ys:Array Value}{Q:TC}(hq:Qt A s.heap)(f:s.heap.IsTupleIter it t j)(tt:s.heap.IsTuple t ys)
  (l:∀ y,ys[j]?=some y->∀ h',h'.IsTupleIter it t (j+1)->Heap.SameBut it s.heap h'->Q y { s with heap:=h' })
  (g:ys[j]?=none->∀ h' e,Heap.ExtBut it s.heap h'->(∃ o,h'.get? e=some o/\o.cls=.type "StopIteration")->E (.ref e) { s with heap:=h' }):wpAny (model prog w) A (nextOf (.ref it)) Q E s:=by
 obtain⟨oi,c,p,a⟩:=id f;obtain⟨r,i,_,nt,dt⟩:=tt;unfold nextOf;refine YA (JR (name:=Str.ofString "__next__") f.typeIs zz (JW zz f.typeIs Y0H ?_ (Y0x _)));show wpAny _ _ (field (.ref it) 0 >>= _) _ _ _;refine YA (JE c a (x:=.ref t) rfl ?_);show wpAny _ _ (if (Value.ref t == Value.none)=true then _ else _) _ _ _;rw[YD (show ¬ ((Value.ref t == Value.none)=true) from λq=>YO q)];show wpAny _ _ (field (.ref it) 1 >>= _) _ _ _;refine YA (JE c a (x:=.int j 0) rfl ?_);show wpAny _ _ (seqItems? (.ref t) >>= _) _ _ _;refine YA (GE i dt ?_)
 cases d:ys[j]? with
 | some y =>
  simp only [zo,d];refine YA (GZ c a J7 (YK ⟨y,rfl,YK (l y d _ ?_ (JG ..))⟩));refine⟨_,JJ _ c (zB (qj a _)),(Y06 ..).trans p,?_⟩;rw[qj a];simp[rawInt]
 | none =>
  simp only [zo,d];refine YA (zy (YA (GZ c a J7 ?_)));refine Se (hq:=(hq.but c λn=>?_)) λh' e k h=>g d _ _ (λb o m e=>k b o ((JG ..).extBut b o m e)) h;obtain⟨vs,e1,e2⟩:=n;rw[a] at e1
  cases e1;simp at e2
theorem Cq (hq:QtP A qs)(it t:Addr)(ne:t≠it)(d:∀ p∈qs,p.1≠it)(ys:Array Value) :
  Draws prog w A it (it::t::qs.map Prod.fst) ys.size (λi x=>ys[i]?=some x) (λi h=>h.IsTupleIter it t i/\h.IsTuple t ys/\∀ p∈qs,h.get? p.1=some p.2) where
 live:=λi h st=>by
  obtain⟨⟨o,e,_⟩,_⟩:=st;exact⟨o,e⟩
 frame:=λi h h' st k=>by
  obtain⟨⟨o,e,r⟩,⟨o',e',r'⟩,st⟩:=st;exact⟨⟨o,k it J7 o e,r⟩,⟨o',k t J7 o' e',r'⟩,λp hp=>k p.1 (by simp;exact .inr (.inr ⟨p.2,hp⟩)) p.2 (st p hp)⟩
 item:=λi s Q E j st g=>Lx (hq.at st.2.2) st.1 st.2.1 (λy c h' a b=>g _ h' s.toks c ⟨a,st.2.1.extBut b.extBut ne,λp hp=>b.extBut p.1 p.2 (d p hp) (st.2.2 p hp)⟩ b) λz=>by
  rw[zC j] at z
  cases z
 done:=λs Q E st f=>Lx (hq.at st.2.2) st.1 st.2.1 (λy c=>by
  rw[Y1t (YJ _)] at c
  cases c) λ_=>f
def Z5j (l:Bool){qs:TD}(hq:QtP A qs)(it t:Addr)(ne:t≠it)(a:∀ p∈qs,p.1≠it)(ys:Array Value) :
  Draws prog w A it (it::t::qs.map Prod.fst) ys.size (λi x=>ys[i]?=some x) (λi h=>Ir l h it t i/\Iq l h t ys/\∀ p∈qs,h.get? p.1=some p.2):=by
 cases l
 ·exact Cq hq it t ne a ys
 exact Draws.listQ hq it t ne a ys
theorem Qu {l:Bool}{t:Addr}{ys:Array Value}{Q:TC}(hl:Iq l s.heap t ys)(a:Q (.ref s.heap.objs.size) { s with heap:=s.heap.push { cls:=.type (kI l),data:=.fields #[.ref t,.int 0 0] } }):wpAny (model prog w) A (pyIter (.ref t)) Q E s:=by
 cases l
 ·exact jy hl a
 exact zL hl a
end
structure ZOff (z TI TO i1 i2:Addr):Prop where
 a1:TI≠z
 a2:TO≠z
 a3:i1≠z
 a4:i2≠z
 a5:TI≠TO
 a6:TI≠i1
 a7:TI≠i2
 a8:TO≠i1
 a9:TO≠i2
 b1:i1≠i2
structure Off (z TI TO i1 i2:Addr)(f1 f2:TJ):Prop extends ZOff z TI TO i1 i2 where
 z1:z ∉ f1
 o1:TO ∉ f1
 n1:i2 ∉ f1
 z2:z ∉ f2
 o2:TO ∉ f2
 n2:i1 ∉ f2
section
variable {z TI TO i1 i2:Addr}{f1 f2:TJ}{n1 n2:Nat}{P1 P2:Nat->Value->Prop}{S1 S2:Nat->Heap->Prop}
def Ft {k:Nat}{a b:Value}{Q:TC}(D:Off z TI TO i1 i2 f1 f2)(j:Draws prog w A i1 f1 n1 P1 S1)(D2:Draws prog w A i2 f2 n2 P2 S2)
  (hz:IsZip s.heap z TI TO .none) (U:IsPair s.heap TI (.ref i1) (.ref i2)) (L:IsPair s.heap TO a b) (c1:S1 k s.heap) (c2:S2 k s.heap) (l1:k<n1) (l2:k<n2)
  (hQ:∀ x y h' tk,P1 k x->P2 k y->IsZip h' z TI TO (rawInt s.heap.objs.size)->IsPair h' TO x y->S1 (k+1) h'->S2 (k+1) h'->IsPair h' s.heap.objs.size x y->h'.objs.size=s.heap.objs.size+1 →
   (∀ c o,c≠z->c≠TO->c≠i1->c≠i2->s.heap.get? c=some o->h'.get? c=some o)->Q (.ref s.heap.objs.size) { s with heap:=h',toks:=tk }) :
  wpAny (model prog w) A (Builtin.«zip.__next__» ⟨[.ref z],[]⟩) (λI s'=>∃ v,I=.done (.ret v)/\Q v s') E s:=by
 show wpAny _ _ (field (.ref z) 2 >>= _) _ _ _;refine YA (JE hz rfl (x:=.bool false) rfl ?_);show wpAny _ _ (field (.ref z) 3 >>= _) _ _ _;refine YA (JE hz rfl (x:=.ref TI) rfl ?_);refine YA (GE U rfl ?_);show wpAny _ _ (ownedTupleIsFree (.ref z) >>= _) _ _ _;refine YA ?_;unfold ownedTupleIsFree;refine YA (JE hz rfl (x:=.none) rfl (YK ?_));simp only [Y10];refine YA (zy ?_);refine YA (JE hz rfl (x:=.ref TO) rfl ?_);refine YA (zY hz J7 λK z1 s1=>?_);replace z1:IsZip K z TI TO .ellipsis:=z1;refine YA ?_;simp only [List.zipIdx_cons,List.zipIdx_nil,jb,Y0e];refine YA (YA (Y1P ?_));show wpAny _ _ (nextOf (.ref i1) >>= _) _ _ _;have N:S1 k K:=j.frame _ _ _ c1 λb d o e=>s1.extBut b o (λq=>D.z1 (q ▸ d)) e;refine YA (j.item k _ _ _ l1 N λx B a0 Z T s2=>YK ?_);replace s2:Heap.SameBut i1 K B:=s2;have W:IsPair B TO a b:=s2.extBut _ _ D.a8 (s1.extBut _ _ D.a2 L);refine YA (GE W rfl ?_);refine YA (wpAny_updateSeq_pair W λg3 R h=>?_);replace R:IsPair g3 TO x b:=R;replace h:Heap.SameBut TO B g3:=h;refine YA (Y0Y (YK ?_));refine YA (YA (Y1P ?_));show wpAny _ _ (nextOf (.ref i2) >>= _) _ _ _;have t:S2 k g3:=D2.frame _ _ _ c2 λb d o e=>h.extBut b o (λq=>D.o2 (q ▸ d)) (s2.extBut b o (λq=>D.n2 (q ▸ d)) (s1.extBut b o (λq=>D.z2 (q ▸ d)) e));have u:S1 (k+1) g3:=j.frame _ _ _ T λb d o e=>h.extBut b o (λq=>D.o1 (q ▸ d)) e;refine YA (D2.item k _ _ _ l2 t λy J S p2 O g=>YK ?_);replace g:Heap.SameBut i2 g3 J:=g;have V:IsPair J TO x b:=g.extBut _ _ D.a9 R;refine YA (GE V rfl ?_);refine YA (wpAny_updateSeq_pair V λf r i=>?_);replace r:IsPair f TO x y:=r;replace i:Heap.SameBut TO J f:=i;refine YA (Y0Y (YK (YK ?_)));refine YA (GE r rfl ?_);refine YA (wpAny_newTuple ?_);have X:f.objs.size=s.heap.objs.size:=by rw[i.1,g.1,h.1,s2.1,s1.1]
 have z5:IsZip f z TI TO .ellipsis:=i.extBut _ _ D.a2.symm (g.extBut _ _ D.a4.symm (h.extBut _ _ D.a2.symm (s2.extBut _ _ D.a3.symm z1)));have k5:∀ c o,c≠z->c≠TO->c≠i1->c≠i2->s.heap.get? c=some o->f.get? c=some o:=λc o p n C G e =>
  i.extBut _ _ n (g.extBut _ _ G (h.extBut _ _ n (s2.extBut _ _ C (s1.extBut _ _ p e))))
 have M:S1 (k+1) f:=j.frame _ _ _ u λb d o e=>i.extBut b o (λq=>D.o1 (q ▸ d)) (g.extBut b o (λq=>D.n1 (q ▸ d)) e);have H:S2 (k+1) f:=D2.frame _ _ _ O λb d o e=>i.extBut b o (λq=>D.o2 (q ▸ d)) e;have l:z<f.objs.size:=YL z5;show wpAny _ _ (ownedTupleHandOut (.ref z) (.ref f.objs.size) >>= _) _ _ _;refine YA ?_;unfold ownedTupleHandOut;have z6:IsZip (f.push { cls:=.type "tuple",data:=.seq #[x,y] }) z TI TO .ellipsis:=YB _ z5;refine YA (zY z6 J7 λg7 z7 F=>?_);replace z7:IsZip g7 z TI TO (rawInt f.objs.size):=z7;refine zY z7 J7 λm z8 P=>?_;replace z8:IsZip m z TI TO (rawInt f.objs.size):=z8;have up:∀ c o,c≠z->f.get? c=some o->m.get? c=some o:=λc o q e=>P.extBut _ _ q (F.extBut _ _ q (YB _ e));have Y:IsPair m f.objs.size x y:=P.extBut _ _ (GC l) (F.extBut _ _ (GC l) (YN _ rfl));have sz8:m.objs.size=f.objs.size+1:=by rw[P.1,F.1,JP]
 rw[X] at z8 Y sz8;refine YK ⟨_,rfl,?_⟩;show Q (.ref f.objs.size) _;rw[X];exact hQ x y m S Z p2 z8 (up _ _ D.a2 r) (j.frame _ _ _ M λb d o e=>up b o (λq=>D.z1 (q ▸ d)) e) (D2.frame _ _ _ H λb d o e=>up b o (λq=>D.z2 (q ▸ d)) e) Y sz8
  λc o p n C G e=>up c o p (k5 c o p n C G e)
def Fs {k:Nat}{a b:Value}{Q:Fin->Shared->Prop}(D:Off z TI TO i1 i2 f1 f2)(l:Draws prog w A i1 f1 n1 P1 S1)(hz:IsZip s.heap z TI TO .none)(i:IsPair s.heap TI (.ref i1) (.ref i2))(u:S1 n1 s.heap)
  (t:∀ h' e,(∀ c o,c≠z->c≠i1->s.heap.get? c=some o->h'.get? c=some o)->(∃ o,h'.get? e=some o/\o.cls=.type "StopIteration")->E (.ref e) { s with heap:=h' }) :
  wpAny (model prog w) A (Builtin.«zip.__next__» ⟨[.ref z],[]⟩) Q E s:=by
 show wpAny _ _ (field (.ref z) 2 >>= _) _ _ _;refine YA (JE hz rfl (x:=.bool false) rfl ?_);show wpAny _ _ (field (.ref z) 3 >>= _) _ _ _;refine YA (JE hz rfl (x:=.ref TI) rfl ?_);refine YA (GE i rfl ?_);show wpAny _ _ (ownedTupleIsFree (.ref z) >>= _) _ _ _;refine YA ?_;unfold ownedTupleIsFree;refine YA (JE hz rfl (x:=.none) rfl (YK ?_));simp only [Y10];refine YA (zy ?_);refine YA (JE hz rfl (x:=.ref TO) rfl ?_);refine YA (zY hz J7 λd z1 s1=>?_);replace z1:IsZip d z TI TO .ellipsis:=z1;refine YA ?_;simp only [List.zipIdx_cons,List.zipIdx_nil,jb,Y0e];refine YA (YA (Y1P ?_));show wpAny _ _ (nextOf (.ref i1) >>= _) _ _ _;have g:S1 n1 d:=l.frame _ _ _ u λb B o e=>s1.extBut b o (λq=>D.z1 (q ▸ B)) e;refine YA (l.done _ _ _ g λm e s2 y=>?_);obtain⟨oe,f,j⟩:=y;replace s2:Heap.ExtBut i1 d m:=s2;have z2:IsZip m z TI TO .ellipsis:=s2 _ _ D.a3.symm z1;have r:e≠z:=λq=>by
  subst q;rw[z2] at f
  cases f;simp at j
 exact zY z2 J7 λg3 _ p=>t g3 e (λc o n v h=>p.extBut _ _ n (s2 _ _ v (s1.extBut _ _ n h))) ⟨oe,p.extBut _ _ r f,j⟩
def Lm {k:Nat}{a b:Value}{Q:Option Value->Shared->Prop}(D:Off z TI TO i1 i2 f1 f2)(h:Draws prog w A.in1 i1 f1 n1 P1 S1)(D2:Draws prog w A.in1 i2 f2 n2 P2 S2)
  (hz:IsZip s.heap z TI TO .none) (e:IsPair s.heap TI (.ref i1) (.ref i2)) (d:IsPair s.heap TO a b) (i:S1 k s.heap) (m:S2 k s.heap) (p:k<n1) (B:k<n2)
  (u:∀ x y h' tk,P1 k x->P2 k y->IsZip h' z TI TO (rawInt s.heap.objs.size)->IsPair h' TO x y->S1 (k+1) h'->S2 (k+1) h'->IsPair h' s.heap.objs.size x y->h'.objs.size=s.heap.objs.size+1 →
   (∀ c o,c≠z->c≠TO->c≠i1->c≠i2->s.heap.get? c=some o->h'.get? c=some o)->Q (some (.ref s.heap.objs.size)) { s with heap:=h',toks:=tk }):wpAny (model prog w) A (pyNext (.ref z)) Q E s:=by
 have f:s.TypeIs (.ref z) "zip":=⟨_,hz,rfl⟩;unfold pyNext;exact YA (zP (JR (name:=Str.ofString "__next__") f Y0z (JW Y0z f F.entry_zip_next
   (Ft D h D2 hz e d i m p B λx y h' tk g v q j l t C n r=>YK (u x y h' tk g v q j l t C n r)) (F.args_zip_next_1 _))))
def Rq {Q:Option Value->Shared->Prop}(D:Off z TI TO i1 i2 f1 f2)(g:Draws prog w A.in1 i1 f1 n1 P1 S1)(hz:IsZip s.heap z TI TO .none)(d:IsPair s.heap TI (.ref i1) (.ref i2))(i:S1 n1 s.heap)
  (j:∀ h',(∀ c o,c≠z->c≠i1->s.heap.get? c=some o->h'.get? c=some o)->Q none { s with heap:=h' }):wpAny (model prog w) A (pyNext (.ref z)) Q E s:=by
 have f:s.TypeIs (.ref z) "zip":=⟨_,hz,rfl⟩;unfold pyNext;refine YA (zP (JR (name:=Str.ofString "__next__") f Y0z (JW Y0z f F.entry_zip_next
  (Fs (k:=0) (a:=.none) (b:=.none) D g hz d i λh' e hk h=>?_) (F.args_zip_next_1 _))))
 obtain⟨o,ho,hc⟩:=h;exact YA (ze (T:="StopIteration") (b:=true) ⟨o,ho,hc⟩ Y07 (YK (j _ hk)))
end
abbrev zH1 (l:Bool)(h:Heap)(t:Addr):Heap:=h.push { cls:=.type (kI l),data:=.fields #[.ref t,.int 0 0] }
abbrev zH2 (l m:Bool)(h:Heap)(t u:Addr):Heap:=zH1 m (zH1 l h t) u
abbrev zH3 (l m:Bool)(h:Heap)(t u:Addr):Heap:=(zH2 l m h t u).push { cls:=.type "tuple",data:=.seq #[.ref h.objs.size,.ref (zH1 l h t).objs.size] }
abbrev zH4 (l m:Bool)(h:Heap)(t u:Addr):Heap:=(zH3 l m h t u).push { cls:=.type "tuple",data:=.seq #[.none,.none] }
abbrev zH5 (l m:Bool)(h:Heap)(t u:Addr):Heap:=(zH4 l m h t u).push { cls:=.type "zip",data:=.fields #[.none,.bool false,.bool false,.ref (zH2 l m h t u).objs.size,.ref (zH3 l m h t u).objs.size] }
def C6 (l m:Bool)(t u:Addr)(xs ys:Array Value):Meets (Builtin.«zip.__new__» ⟨[.type "zip",.ref t,.ref u],[]⟩) (λ_ R s=>Iq l s.heap t xs/\Iq m s.heap u ys ∧
  R (.ok (.ret (.ref (zH4 l m s.heap t u).objs.size))) { s with heap:=zH5 l m s.heap t u }) :=
 .of_wp λprog w A R s h=>by
  obtain⟨hp,g,d,tk,os⟩:=s;obtain⟨h1,⟨o,e,r⟩,h⟩:=h;have a:=sub_zip;have c:Iq l (Shared.heap ⟨hp,g,d,tk,os⟩) t xs:=h1;have b:Iq m (Shared.heap ⟨zH1 l hp t,g,d,tk,os⟩) u ys:=⟨o,YB _ e,r⟩
  wp_walk using Qu c,Qu b
  exact⟨_,rfl,h⟩
def Z2w {prog:TU}{w:World}{A:Around}{E:TC}{t u:Addr}{xs ys:Array Value}{Q:TC}(l m:Bool)(h1:Iq l s.heap t xs)(h2:Iq m s.heap u ys)
  (h:∀ h',IsZip h' (s.heap.objs.size+4) (s.heap.objs.size+2) (s.heap.objs.size+3) .none->IsPair h' (s.heap.objs.size+2) (.ref s.heap.objs.size) (.ref (s.heap.objs.size+1))->IsPair h' (s.heap.objs.size+3) .none .none →
   Ir l h' s.heap.objs.size t 0->Ir m h' (s.heap.objs.size+1) u 0->h'.objs.size=s.heap.objs.size+5->(∀ c o,s.heap.get? c=some o->h'.get? c=some o)->Q (.ref (s.heap.objs.size+4)) { s with heap:=h' }) :
  wpAny (model prog w) A (call (.type "zip") [.ref t,.ref u]) Q E s:=by
 refine callType_new F.called_zip J6 (F.typeCall_zip_2 _ _) (F.newCall_zip_2 _ _) (λobj=>F.args_object_init_3 obj _ _) F.entry_zip_new (C6 l m t u xs ys) ⟨h1,h2,?_⟩;have e1:(zH1 l s.heap t).objs.size=s.heap.objs.size+1:=JP ..;have e2:(zH2 l m s.heap t u).objs.size=s.heap.objs.size+2:=by rw[JP,e1]
 have e3:(zH3 l m s.heap t u).objs.size=s.heap.objs.size+3:=by rw[JP,e2]
 have a:(zH4 l m s.heap t u).objs.size=s.heap.objs.size+4:=by rw[JP,e3]
 have up:∀ {h:Heap} {c:Addr} {x o:Obj},h.get? c=some o->(h.push x).get? c=some o:=λe=>YB _ e;have b:(zH5 l m s.heap t u).get? (zH4 l m s.heap t u).objs.size=some _:=YN _ rfl;have g:(zH5 l m s.heap t u).get? (zH3 l m s.heap t u).objs.size=some _:=up (YN _ rfl);have d:(zH5 l m s.heap t u).get? (zH2 l m s.heap t u).objs.size=some _:=up (up (YN _ rfl));have f:(zH5 l m s.heap t u).get? (zH1 l s.heap t).objs.size=some _:=up (up (up (YN _ rfl)));show _/\_;rw[e2,e3,a] at b;rw[e1,e2] at d;rw[e3] at g;rw[e1] at f;rw[a];exact⟨⟨_,b,rfl⟩,h _ b d g ⟨_,up (up (up (up (YN _ rfl)))),rfl,rfl⟩ ⟨_,f,rfl,rfl⟩ (by rw[JP,a]) λc o x=>up (up (up (up (up x))))⟩
def Jr (l:Bool)(t:Addr)(ys:Array Value)(n:Nat)(dd:TQ)(sl:Array (Option Value)):Meets (Builtin.«enumerate.__new__» ⟨[.type "enumerate",.ref t],[]⟩) (λ_ R s=>s.heap.get? t=some { cls:=.type (kN l),dict:=dd,data:=.seq ys n,slots:=sl } ∧
  R (.ok (.ret (.ref (zH1 l s.heap t).objs.size))) { s with heap:=(zH1 l s.heap t).push { cls:=.type "enumerate",data:=.fields #[.none,.bool false,.ref s.heap.objs.size,rawInt 0,.none,.none] } }) :=
 .of_wp λprog w A R s h=>by
  obtain⟨hp,g,d,tk,os⟩:=s;obtain⟨hl,h⟩:=h;have b:=sub_enumerate;have a:Iq l (Shared.heap ⟨hp,g,d,tk,os⟩) t ys:=⟨_,hl,rfl,n,rfl⟩
  wp_walk using qd hl
  refine wpAny_stack_any λst=>YK ?_;split
  ·rename_i c _ _ _ _ _
   cases (c == Value.type "enumerate")
   ·wp_walk using qd hl,Qu a
    exact⟨_,rfl,h⟩
   wp_walk using qd hl,Qu a
   exact⟨_,rfl,h⟩
  wp_walk using qd hl,Qu a
  exact⟨_,rfl,h⟩
def Bb {prog:TU}{w:World}{A:Around}{E:TC}{t:Addr}{ys:Array Value}{Q:TC}(l:Bool)(d:Iq l s.heap t ys)
  (h:∀ h',IsEnum h' (s.heap.objs.size+1) s.heap.objs.size 0 .none->Ir l h' s.heap.objs.size t 0->h'.objs.size=s.heap.objs.size+2->(∀ b o,s.heap.get? b=some o->h'.get? b=some o)->Q (.ref (s.heap.objs.size+1)) { s with heap:=h' }) :
  wpAny (model prog w) A (call (.type "enumerate") [.ref t]) Q E s:=by
 obtain⟨⟨c,dd,dt,sl⟩,e,a,n,d1⟩:=d
 cases a
 cases d1;refine callType_new F.called_enumerate J6 (F.typeCall_enumerate_1 _) (F.newCall_enumerate_1 _) (λobj=>F.args_object_init_2 obj _) F.entry_enumerate_new (Jr l t ys n dd sl) ⟨e,?_⟩;have hz:(zH1 l s.heap t).objs.size=s.heap.objs.size+1:=JP ..;have q:=YN (zH1 l s.heap t) (o:={ cls:=.type "enumerate",data:=.fields #[.none,.bool false,.ref s.heap.objs.size,rawInt 0,.none,.none] }) rfl;show _/\_;rw[hz] at q ⊢;exact⟨⟨_,q,rfl⟩,h _ q ⟨_,YB _ (YN _ rfl),rfl,rfl⟩ (by rw[JP,hz]) λb o x=>YB _ (YB _ x)⟩
end _b
namespace _b
open PySem PySem.Spec PyProof.Rows _L
section
variable {X:Cx}{σ:_L.St}{H:Hp}{t':Nat}{ch:TJ}
def K7 (I:Inv X pins σ H s)(hn:∀ b∈ch,H b=none)(k:∀ b o,b ∉ ch->s.heap.get? b=some o->h'.get? b=some o):HOk X.prog X.w H h':=λa o e =>
 (I.hok a o e).stay (λb u c q=>k b u (λz=>by
  have n:=hn b z;rcases c with rfl | c
  ·rw[n] at e;cases e
  rw[n] at c;cases c) q) (λ_ q=>q) λ_ _ q=>q
def Qx (I:Inv X pins σ H s)(hf:∀ b∈ch,FpOk X pins H b)(k:∀ b o,b ∉ ch->s.heap.get? b=some o->h'.get? b=some o):Inv X pins σ H { s with heap:=h',toks:=t' }:=by
 refine I.step (g':=s.gens) (d':=s.drawn) (ch:=ch) (λb a=>?_) (λb o _ _ hc e _=>k b o hc e) (λb o _ _ hc e _=>⟨o.slots,k b o hc e⟩) (λ_ _ _ _ n=>n) (λb o hc e=>⟨o,k b o hc e⟩) (λ_ _ e=>e) (λ_ _ _ e=>e)
  (λb ps e=>⟨#[],by rw[e];simp⟩) (λm hm=>?_) (K7 I (λb a=>(hf b a).1) k) I.bare
 ·exact⟨(hf b a).2.2.2.1,(hf b a).2.1,(hf b a).2.2.2.2.1,(hf b a).2.2.2.2.2⟩
 obtain⟨o,es,ep,ho,r⟩:=hm;exact⟨o,es,ep,k _ o (λz=>(hf _ z).2.1 rfl) ho,r⟩
theorem Tv {p:Addr}{u:HO}(I:Inv X pins σ H s)(hf:∀ b∈ch,FpOk X pins H b)(k:∀ b o,b ∉ ch->s.heap.get? b=some o->h'.get? b=some o)(hp:s.heap.objs.size<=p)(f:ObjOk X.prog X.w (upd H p u) h' p u) :
  Inv X pins σ (upd H p u) { s with heap:=h',toks:=t' }:=by
 have g:∀ b o,s.heap.get? b=some o->b≠p:=λb o e z=>absurd (YQ (YL e) hp) (by rw[z];exact JA _);have a:∀ b o,H b=some o->b≠p:=λb o e z=>absurd (YQ (I.hok.lt e) hp) (by rw[z];exact JA _);have hk:=K7 I (λb d=>(hf b d).1) k;refine I.step (g':=s.gens) (d':=s.drawn) (ch:=ch) (λb d=>?_) (λb o _ _ hc e _=>k b o hc e) (λb o _ _ hc e _=>⟨o.slots,k b o hc e⟩) (λb o _ e n=>by rw[Zc (g b o e)];exact n) (λb o hc e=>⟨o,k b o hc e⟩)
  (λb _ e=>by rw[Zc (a b _ e)];exact e) (λb _ _ e=>by rw[Zc (a b _ e)];exact e) (λb ps e=>⟨#[],by rw[Zc (a b _ e),e];simp⟩) (λm hm=>?_) (λb o e=>?_) I.bare
 ·exact⟨(hf b d).2.2.2.1,(hf b d).2.1,(hf b d).2.2.2.2.1,(hf b d).2.2.2.2.2⟩
 ·obtain⟨o,es,ep,ho,r⟩:=hm;exact⟨o,es,ep,k _ o (λz=>(hf _ z).2.1 rfl) ho,r⟩
 by_cases d:b=p
 ·subst d;rw[Za] at e
  cases e;exact f
 rw[Zc d] at e;exact (hk b o e).stay (λ_ _ _ q=>q) (λc q=>by rw[Zc (a c _ q)];exact q) λc xs q=>by rw[Zc (a c _ q)];exact q
def Sq (l:Bool)(K:TR)(H:Hp)(t:Addr)(xs:TZ):Prop:=cond l (SqL K H t xs) (SqT K H t xs)
theorem Vw {l:Bool}{t:Addr}(I:Inv X pins σ H s)(h:Sq l X.K H t xs):∃ us:List Value,Vals xs us/\Iq l s.heap t us.toArray:=by
 cases l
 ·obtain⟨u,v,p,_⟩:=I.tuple h;exact⟨u,v,p⟩
 obtain⟨u,v,p,_⟩:=I.list h;exact⟨u,v,p.isList⟩
def Kv {l:Bool}{t:Addr}(I:Inv X pins σ H s)(h:Sq l X.K H t xs)(h':Sq l X.K H t ys):xs=ys:=by
 cases l
 ·exact I.tuple_inj h h'
 exact I.list_inj h h'
def Z8c {l:Bool}{t:Addr}(h:Sq l K H t xs):(∃ u,Rd H t u) \/ ∃ o,K.lookup t=some o:=by
 cases l
 ·rcases h with h | ⟨o,its,n,h,_⟩
  ·exact .inl ⟨_,h⟩
  exact .inr ⟨o,h⟩
 rcases h with h | ⟨o,its,n,h,_⟩
 ·exact .inl ⟨_,h⟩
 exact .inr ⟨o,h⟩
def Gf {l:Bool}{b t:Addr}(I:Inv X pins σ H s)(hf:FpOk X pins H b)(h:Sq l X.K H t xs):t≠b:=by
 rintro rfl;rcases Z8c h with ⟨u,h | ⟨o,h⟩⟩ | ⟨o,h⟩
 ·rw[hf.1] at h;cases h
 ·rw[hf.1] at h;cases h
 have e:=I.ok.mod.kin _ _ h;rcases hf.2.2.2.1 with z | z
 ·exact I.ok.noex _ _ e z
 exact absurd (YQ (YL (I.ok.bs _ _ e).1) z) (JA _)
def Je {b:Addr}(hf:FpOk X pins H b):(∀ x,(b,x) ∉ X.pn)/\∀ p∈X.pn,p.1≠b:=⟨λx m=>hf.2.2.2.2.2 _ (XJ _ m) rfl,λp hp=>hf.2.2.2.2.2 p (XJ _ hp)⟩
def Ln (I:Inv X pins σ H s):∀ p∈X.pn,s.heap.get? p.1=some p.2:=λp hp=>(I.pin p (XJ _ hp)).1
def Tx {l:Bool}{t:Addr}(I:Inv X pins σ H s)(hc:X.calm=true)(hf:FpOk X pins H it)(hx:Sq l X.K H t xs)(us:TH) :
  Draws X.prog X.w X.A.in1 it (it::t::X.pn.map Prod.fst) us.toArray.size (λi x=>us.toArray[i]?=some x) (λi h=>Ir l h it t i/\Iq l h t us.toArray/\∀ p∈X.pn,h.get? p.1=some p.2) :=
 Z5j (A:=X.A.in1) l (I.ok.hd hc) it t (Gf I hf hx) (Je hf).2 us.toArray
def Z28 {u:TH}{x:Value}(v:Vals xs u)(lx:i<xs.length)(b:u.toArray[i]?=some x):∃ x0,xs[i]?=some x0/\RelV x0 x:=by
 obtain⟨x1,a,c⟩:=v.get (i:=i) (x:=xs[i]) (by simp[lx]);rw[List.getElem?_toArray,a] at b
 cases b;exact⟨_,by simp[lx],c⟩
def Z69 {p:Addr}{u:HO}(hp:p=s.heap.objs.size)(hf:∀ b∈ch,FpOk X pins H b)(ob:∀ b∈ch,∃ o,s.heap.get? b=some o/\∀ v,o.data≠.cell v):∀ b∈ch,upd H p u b=none:=λb a=>by
 obtain⟨o,e,_⟩:=ob b a;rw[Zc (by rw[hp];exact XB (YL e))];exact (hf b a).1
end
def ItG (S T:Hp->Addr->List V->Prop)(t u:Addr):It :=
 ⟨λi H=>∃ xs ys,S H t xs/\T H u ys/\i<xs.length/\i<ys.length,
   λi H v H'=>∃ p x y,v=.ref p/\H p=none/\H'=upd H p (.tup [x,y])/\(∀ xs,S H t xs->xs[i]?=some x)/\∀ ys,T H u ys->ys[i]?=some y,
   λi H=>∃ xs ys,S H t xs/\T H u ys/\i=xs.length⟩
abbrev Itz (K:TR):Addr->Addr->It:=ItG (SqT K) (SqT K)
section
variable {P:TU}{es:TL}{kk:Nat}{tp:Pos}{z TI TO i1 i2 t u:Addr}{l m:Bool}
def ZSt (l m:Bool)(z TI TO i1 i2 t u:Addr)(i:Nat)(h:Heap):Prop:=IsZip h z TI TO .none/\IsPair h TI (.ref i1) (.ref i2)/\(∃ a b,IsPair h TO a b)/\Ir l h i1 t i/\Ir m h i2 u i
def Z5y (st:ZSt l m z TI TO i1 i2 t u i h):∀ b∈[z,TI,TO,i1,i2],∃ o,h.get? b=some o/\∀ v,o.data≠.cell v:=λb f=>by
 obtain⟨hz,e,⟨a,j,d⟩,⟨o1,e1,_,d1⟩,⟨o2,e2,_,g⟩⟩:=st;simp only [YU,GH,Y0f] at f;rcases f with rfl | rfl | rfl | rfl | rfl
 ·exact⟨_,hz,λv q=>by have c:Data.fields _=Data.cell v:=q;cases c⟩
 ·exact⟨_,e,λv q=>by have c:Data.seq _ _=Data.cell v:=q;cases c⟩
 ·exact⟨_,d,λv q=>by have c:Data.seq _ _=Data.cell v:=q;cases c⟩
 ·exact⟨_,e1,λv q=>by rw[d1] at q;cases q⟩
 exact⟨_,e2,λv q=>by rw[g] at q;cases q⟩
def Z5x {σ:_L.St}(O:ZOff z TI TO i1 i2)(I:Inv X pins σ H s)(hf:∀ b∈[z,TI,TO,i1,i2],FpOk X pins H b)(hx:Sq l X.K H t xs)(c:Sq m X.K H u ys) :
  Off z TI TO i1 i2 (i1::t::X.pn.map Prod.fst) (i2::u::X.pn.map Prod.fst):=by
 have ne:∀ b∈[z,TI,TO,i1,i2],b≠t/\b≠u/\∀ x,(b,x) ∉ X.pn:=λb a=>⟨(Gf I (hf b a) hx).symm,(Gf I (hf b a) c).symm,(Je (hf b a)).1⟩;have nz:=ne z J7;have no:=ne TO J7;have n1:=ne i1 J7;have n2:=ne i2 J7;exact⟨O,by simp[O.a3.symm,nz],by simp[O.a8,no],by simp[O.b1.symm,n2],by simp[O.a4.symm,nz],by simp[O.a9,no],by simp[O.b1,n1]⟩
theorem Bk (O:ZOff z TI TO i1 i2)(t u:Addr):Turn P w K (.Tuple es kk tp) (ItG (Sq l K) (Sq m K) t u) [z,TI,TO,i1,i2] z (ZSt l m z TI TO i1 i2 t u) where
 mem:=J7
 obj:=λi h st=>Z5y st
 keep:=λi h h' st k=>by
  obtain⟨hz,c,⟨a,b,j⟩,⟨o1,e1,r1⟩,⟨o2,e2,r2⟩⟩:=st;exact⟨k z J7 _ hz,k TI J7 _ c,⟨a,b,k TO J7 _ j⟩,⟨o1,k i1 J7 _ e1,r1⟩,⟨o2,k i2 J7 _ e2,r2⟩⟩
 item:=by
  intro X A hw hK hc i pins s σ H E I hf st hg;subst A hw hK;obtain⟨xs,ys,hx,n,lx,V⟩:=hg;have ob:=Z5y st;obtain⟨hz,c,⟨a,b,j⟩,p,J⟩:=st;obtain⟨D,q,v⟩:=Vw I hx;obtain⟨Z,G,R⟩:=Vw I n;have n1:=q.length;have n2:=G.length;refine Lm (Z5x O I hf hx n) (Tx I hc (hf i1 J7) hx D) (Tx I hc (hf i2 J7) n Z) hz c j ⟨p,v,Ln I⟩ ⟨J,R,Ln I⟩ (by simp;omega) (by simp;omega) λx y g tk U M S C s1 s2 pr sz kp=>?_;refine⟨_,rfl,wpAny_letOwnedTupleGo_zip S λL z2 B=>?_⟩;obtain⟨x0,ex,Y⟩:=Z28 q lx U;obtain⟨y0,N,T⟩:=Z28 G V M;have f:∀ b,b≠z->L.get? b=g.get? b:=λb d=>B.2 b d;have F:ObjOk X.prog X.w (upd H s.heap.objs.size (.tup [x0,y0])) L s.heap.objs.size (.tup [x0,y0]) :=
   ⟨by show 2<=sizeLine;decide,[x,y],.cons Y (.cons T .nil),⟨_,by rw[f _ (GC (YL hz))];exact pr,rfl,0,rfl⟩⟩
  have W:=Tv (t':=tk) I hf (λb o d e=>by
   simp only [YU,GH,Y0f,Y2b] at d;rw[f b d.1];exact kp b o d.1 d.2.2.1 d.2.2.2.1 d.2.2.2.2 e) (YJ _) F
  refine⟨.ref s.heap.objs.size,_,W,rfl,⟨_,x0,y0,rfl,I.fresh,rfl,λQ h1=>by rw[Kv I h1 hx];exact ex,λys' h2=>by rw[Kv I h2 n];exact N⟩,⟨z2,(f TI O.a1).trans (kp _ _ O.a1 O.a5 O.a6 O.a7 c),⟨x,y,(f TO O.a2).trans C⟩,?_,?_⟩,Z69 rfl hf ob⟩
  ·obtain⟨⟨o,e,r⟩,_⟩:=s1;exact⟨o,B.extBut _ _ O.a3 e,r⟩
  obtain⟨⟨o,e,r⟩,_⟩:=s2;exact⟨o,B.extBut _ _ O.a4 e,r⟩
 done:=by
  intro X A hw hK hc i pins s σ H E I hf st hg;subst A hw hK;obtain⟨xs,ys,hx,n,rfl⟩:=hg;obtain⟨hz,c,⟨a,b,j⟩,p,J⟩:=st;obtain⟨D,q,v⟩:=Vw I hx;rw[q.length,<-YS] at p;refine Rq (Z5x O I hf hx n) (Tx I hc (hf i1 J7) hx D) hz c ⟨p,v,Ln I⟩ λg kp=>⟨rfl,?_⟩;exact Qx (t':=s.toks) I hf λb o d e=>by
   simp only [YU,GH,Y0f,Y2b] at d;exact kp b o d.1 d.2.2.2.1 e
 self:=λ_ _ _ _ _ st h=>wpAny_pyIter_zip st.1 h
end
section
variable {X:Cx}{es:TL}{kk:Nat}{tp:Pos}{p:Pos}{ta:TA}{a b:Expr}
def Z2d {σ:_L.St}{ch:List Nat}(I:Inv X pins σ H s)(h:∀ b∈ch,s.heap.objs.size<=b):∀ b∈ch,FpOk X pins H b:=λb a=>I.fpOk (h b a) (I.hok.fresh (h b a))
inductive iZip_i (S T:Hp->Addr->List V->Prop) (R:(It->Hp->Prop)) (vs:TZ) (H1:Hp):Prop
 | mk (t u:_) (zz0:vs=[.ref t,.ref u]) (zz1:(∃ xs,S H1 t xs)) (zz2:(∃ ys,T H1 u ys)) (zz3:R (ItG S T t u) H1)
def iZip (S T:Hp->Addr->List V->Prop)(ta:TA):TI:=λσ H R=>ta σ H (iZip_i S T R)
theorem Gq (l m:Bool)(hg:Gl X "zip")(hm:X.mg "zip"=none)(ha:PA X [a,b] ta)(hs:starEach [a,b] X.env=[(false,eval a X.env),(false,eval b X.env)])
  (c:starEach [b] X.env=[(false,eval b X.env)]):PI X (.Tuple es kk tp) (.Call (.Name "zip" p) [a,b] [] pos) (iZip (Sq l X.K) (Sq m X.K) ta):=by
 intro pins s σ H R I h;refine Call_ (Wq I hg hm boot_zip (JM (thn (ha pos pins s σ H _ I h) λus s1 ⟨vs,H1,d,r1,k⟩=>?_) (by rw[hs,c]) (by rw[c];rfl)));obtain⟨t,u,e,⟨xs,hx⟩,⟨ys,i⟩,q⟩:=k;subst e;obtain⟨t0,n,e0,rt,ru⟩:=Gd r1
 cases (show t0=Value.ref t from rt)
 cases (show n=Value.ref u from ru);subst e0;obtain⟨x,v,f⟩:=Vw d hx;obtain⟨y,r,o⟩:=Vw d i;refine Z2w l m f o λg z0 j to i1 i2 w kp=>wpAny_pyIter_zip z0 ?_;refine⟨s1.heap.objs.size+4,[s1.heap.objs.size+4,s1.heap.objs.size+2,s1.heap.objs.size+3,s1.heap.objs.size,s1.heap.objs.size+1],_,_,H1,rfl,d.kept (t':=s1.toks) kp,Bk (O:=?_) t u,⟨z0,j,⟨_,_,to⟩,i1,i2⟩,Z2d d ?_,q⟩
 ·refine⟨?_,?_,?_,?_,?_,?_,?_,?_,?_,?_⟩ <;> (show @Ne Nat _ _;omega)
 simp
theorem Z0v (hg:Gl X "zip")(hm:X.mg "zip"=none)(ha:PA X [a,b] ta)(hs:starEach [a,b] X.env=[(false,eval a X.env),(false,eval b X.env)]:=by rfl)
  (c:starEach [b] X.env=[(false,eval b X.env)]:=by rfl):PI X (.Tuple es kk tp) (.Call (.Name "zip" p) [a,b] [] pos) (iZip (SqT X.K) (SqT X.K) ta):=Gq false false hg hm ha hs c
theorem Nz (hg:Gl X "zip")(hm:X.mg "zip"=none)(ha:PA X [a,b] ta)(hs:starEach [a,b] X.env=[(false,eval a X.env),(false,eval b X.env)]:=by rfl)
  (c:starEach [b] X.env=[(false,eval b X.env)]:=by rfl):PI X (.Tuple es kk tp) (.Call (.Name "zip" p) [a,b] [] pos) (iZip (SqL X.K) (SqL X.K) ta):=Gq true true hg hm ha hs c
end
def IteG (S:Hp->Addr->List V->Prop)(t:Addr):It :=
 ⟨λi H=>∃ xs,S H t xs/\i<xs.length,
   λi H v H'=>∃ p x,v=.ref p/\H p=none/\H'=upd H p (.tup [.int (i:Int),x])/\∀ xs,S H t xs->xs[i]?=some x,
   λi H=>∃ xs,S H t xs/\i=xs.length⟩
abbrev IteL (K:TR):Addr->It:=IteG (SqL K)
section
variable {P:TU}{es:TL}{kk:Nat}{tp:Pos}{t:Addr}{l:Bool}
def Z6e (st:(∃ a,IsEnum h e it (i:Int) a)/\Ir l h it t i):∀ b∈[e,it],∃ o,h.get? b=some o/\∀ v,o.data≠.cell v:=λb c=>by
 obtain⟨⟨a,d⟩,⟨o1,e1,_,d1⟩⟩:=st;simp only [YU,GH,Y0f] at c;rcases c with rfl | rfl
 ·exact⟨_,d,λv q=>by have f:Data.fields _=Data.cell v:=q;cases f⟩
 exact⟨_,e1,λv q=>by rw[d1] at q;cases q⟩
theorem Fv (O:e≠it)(t:Addr):Turn P w K (.Tuple es kk tp) (IteG (Sq l K) t) [e,it] e (λi h=>(∃ a,IsEnum h e it (i:Int) a)/\Ir l h it t i) where
 mem:=J7
 obj:=λi h st=>Z6e st
 keep:=λi h h' st k=>by
  obtain⟨⟨a,d⟩,⟨o1,e1,r1⟩⟩:=st;exact⟨⟨a,k e J7 _ d⟩,⟨o1,k it J7 _ e1,r1⟩⟩
 item:=by
  intro X v hw hK hc i pins s σ H E I hf st hg;subst v hw hK;obtain⟨xs,hx,lx⟩:=hg;have ob:=Z6e st;obtain⟨⟨a,d⟩,u⟩:=st;obtain⟨m,j,p⟩:=Vw I hx;have n1:=j.length;have A:=hf e J7;refine wpAny_pyNext_enum_itemD (Tx I hc (hf it J7) hx m) d ⟨u,p,Ln I⟩ (by simp;omega) O (by simp[O,(Gf I A hx).symm,(Je A).1]) λx g tk F z s1 pr L kp=>?_;refine⟨_,rfl,wpAny_letOwnedTupleGo_enum z λB z2 C=>?_⟩;obtain⟨x0,ex,J⟩:=Z28 j lx F;have f:∀ b,b≠e->B.get? b=g.get? b:=λb c=>C.2 b c;have n:ObjOk X.prog X.w (upd H s.heap.objs.size (.tup [.int (i:Int),x0])) B s.heap.objs.size (.tup [.int (i:Int),x0]) :=
   ⟨by show 2<=sizeLine;decide,[.int (i:Int) tk,x],.cons ⟨tk,rfl⟩ (.cons J .nil),⟨_,by rw[f _ (GC (YL d))];exact pr,rfl,0,rfl⟩⟩
  have D:=Tv (t':=tk+1) I hf (λb o c q=>by
   simp only [YU,GH,Y0f,Y2b] at c;rw[f b c.1];exact kp b o c.1 c.2 q) (YJ _) n
  refine⟨.ref s.heap.objs.size,_,D,rfl,⟨_,x0,rfl,I.fresh,rfl,λG h1=>by rw[Kv I h1 hx];exact ex⟩,⟨⟨x,z2⟩,?_⟩,Z69 rfl hf ob⟩;obtain⟨⟨o,q,r⟩,_⟩:=s1;exact⟨o,C.extBut _ _ O.symm q,r⟩
 done:=by
  intro X v hw hK hc i pins s σ H E I hf st hg;subst v hw hK;obtain⟨xs,hx,rfl⟩:=hg;obtain⟨⟨a,d⟩,u⟩:=st;obtain⟨m,j,p⟩:=Vw I hx;have y:Ir l s.heap it t m.toArray.size:=by
   rw[YS,<-j.length];exact u
  refine wpAny_pyNext_enum_endD (Tx I hc (hf it J7) hx m) d ⟨y,p,Ln I⟩ λg kp=>⟨rfl,?_⟩;exact Qx (t':=s.toks) I hf λb o c q=>by
   simp only [YU,GH,Y0f,Y2b] at c;exact kp b o c.2 q
 self:=λ_ _ _ _ _ st h=>by
  obtain⟨⟨a,d⟩,_⟩:=st;exact wpAny_pyIter_enum d h
end
section
variable {X:Cx}{es:TL}{kk:Nat}{tp:Pos}{p:Pos}{ta:TA}{a:Expr}
inductive iEnum_i (S:Hp->Addr->List V->Prop) (R:(It->Hp->Prop)) (vs:TZ) (H1:Hp):Prop
 | mk (t:_) (zz0:vs=[.ref t]) (zz1:(∃ xs,S H1 t xs)) (zz2:R (IteG S t) H1)
def iEnum (S:Hp->Addr->List V->Prop)(ta:TA):TI:=λσ H R=>ta σ H (iEnum_i S R)
theorem Lp (l:Bool)(hg:Gl X "enumerate")(hm:X.mg "enumerate"=none)(ha:PA X [a] ta)(hs:starEach [a] X.env=[(false,eval a X.env)]):PI X (.Tuple es kk tp) (.Call (.Name "enumerate" p) [a] [] pos) (iEnum (Sq l X.K) ta):=by
 intro pins s σ H R I h;refine Call_ (Wq I hg hm boot_enumerate (JM (thn (ha pos pins s σ H _ I h) λus s1 ⟨vs,H1,b,r1,d⟩=>?_) hs rfl));obtain⟨t,e,⟨xs,hx⟩,q⟩:=d;subst e;obtain⟨t0,e0,rt⟩:=Vv r1
 cases (show t0=Value.ref t from rt);subst e0;obtain⟨j,i,c⟩:=Vw b hx;refine Bb l c λg z0 i1 f kp=>wpAny_pyIter_enum z0 ?_;refine⟨s1.heap.objs.size+1,[s1.heap.objs.size+1,s1.heap.objs.size],_,_,H1,rfl,b.kept (t':=s1.toks) kp,Fv (O:=?_) t,⟨⟨_,z0⟩,i1⟩,Z2d b ?_,q⟩
 ·show @Ne Nat _ _;omega
 simp
theorem Z3y (hg:Gl X "enumerate")(hm:X.mg "enumerate"=none)(ha:PA X [a] ta)(hs:starEach [a] X.env=[(false,eval a X.env)]:=by rfl):PI X (.Tuple es kk tp) (.Call (.Name "enumerate" p) [a] [] pos) (iEnum (SqT X.K) ta):=Lp false hg hm ha hs
theorem Tk (hg:Gl X "enumerate")(hm:X.mg "enumerate"=none)(ha:PA X [a] ta)(hs:starEach [a] X.env=[(false,eval a X.env)]:=by rfl):PI X (.Tuple es kk tp) (.Call (.Name "enumerate" p) [a] [] pos) (iEnum (SqL X.K) ta):=Lp true hg hm ha hs
end
end _b
namespace _b
open PySem _L
structure Ext (H H':Hp):Prop where
 tup:∀ b xs,H b=some (.tup xs)->H' b=some (.tup xs)
 frz:∀ b o u,H b=some (.frz o u)->H' b=some (.frz o u)
theorem Ext.trans (a:Ext H H1)(b:Ext H1 H2):Ext H H2:=⟨λc xs h=>b.tup c xs (a.tup c xs h),λc o u h=>b.frz c o u (a.frz c o u h)⟩
def Ext.same (x:Same H H'):Ext H H':=⟨λb _ h=>x b _ h,λb _ _ h=>x b _ h⟩
theorem Ext.x {a:Addr}(x:SameX a H H')(ha:H a=some (.lst ys)):Ext H H' :=
 ⟨λb _ h=>x b _ h (Z6a h ha (by intro z;cases z)),λb _ _ h=>x b _ h (Z6a h ha (by intro z;cases z))⟩
theorem Ext.bag {a:Addr}{n:Nat}(x:SameX a H H')(ha:BagAt H a n):Ext H H':=by
 obtain⟨ys,e⟩:=ha.lst;exact Ext.x x e
theorem Ext.upd {l:Addr}{H:Hp}{ys:TZ}{o:HO}(hl:H l=some (.lst ys)):Ext H (_L.upd H l o):=Ext.x (SameX.upd l H o) hl
theorem Ext.new {l:Addr}{H:Hp}{o:HO}(hl:H l=none):Ext H (_L.upd H l o):=Ext.same (Same.new hl)
def Ext.sq {a:Addr}(e:Ext H H')(h:SqT K H a xs):SqT K H' a xs:=by
 rcases h with (h | ⟨o,h⟩) | h
 ·exact .inl (.inl (e.tup _ _ h))
 ·exact .inl (.inr ⟨o,e.frz _ _ _ h⟩)
 exact .inr h
abbrev Rat:=Int × Int
abbrev _root_.UB:=List (List Rat)
abbrev _root_.UA:=List Rat
def IsR (K:TR)(H:Hp)(r:Rat)(v:V):Prop:=∃ b,v=.ref b/\SqT K H b [.int r.1,.int r.2]
def IsR.ext {r:Rat}(h:IsR K H r v)(e:Ext H H'):IsR K H' r v:=by
 obtain⟨b,q,h⟩:=h;exact⟨b,q,e.sq h⟩
def Rs (K:TR)(H:Hp)(rs:UA)(xs:TZ):Prop:=Paired (IsR K H) rs xs
theorem Rs.ext {K:TR}{H H':Hp}{rs:UA}{xs:TZ}(h:Rs K H rs xs)(e:Ext H H'):Rs K H' rs xs:=Paired.mapP h λ_ _ q=>q.ext e
def Rs.snoc {rs:UA}{r:Rat}(h:Rs K H rs xs)(q:IsR K H r v):Rs K H (rs++[r]) (xs++[v]):=Y1E h q
def Rs.len {rs:UA}(h:Rs K H rs xs):rs.length=xs.length:=YY h
theorem Rs.at {K:TR}{H:Hp}:∀ {rs:UA} {xs:TZ} {i:Nat} {r:Rat},Rs K H rs xs->rs[i]?=some r->∃ v,xs[i]?=some v/\IsR K H r v
 | _,_,_,_,.nil,e=>by simp at e
 | _,_,0,_,.cons q _,e=>by
  simp at e;subst e;exact⟨_,rfl,q⟩
 | _,_,i+1,r,.cons _ t,e=>by
  obtain⟨v,h1,h2⟩:=Rs.at (i:=i) (r:=r) t (by simpa using e);exact⟨v,by simpa using h1,h2⟩
def Rs.back {rs:UA}(h:Rs K H rs xs)(e:xs[i]?=some v):∃ r,rs[i]?=some r/\IsR K H r v:=by
 have hi:i<xs.length:=(YH.mp e).1;have hr:i<rs.length:=by rw[h.len];exact hi
 obtain⟨w,h1,h2⟩:=h.at (i:=i) (r:=rs[i]) (by simp[hr]);rw[e] at h1
 cases h1;exact⟨_,by simp[hr],h2⟩
def RowAt (K:TR)(H:Hp)(a:Addr)(rs:UA):Prop:=∃ xs,SqT K H a xs/\Rs K H rs xs
theorem RowAt.ext {K:TR}{H H':Hp}{a:Addr}{rs:UA}(h:RowAt K H a rs)(e:Ext H H'):RowAt K H' a rs:=by
 obtain⟨xs,h1,h2⟩:=h;exact⟨xs,e.sq h1,h2.ext e⟩
structure Good (n:Nat)(r:Rat):Prop where
 b1:Bd n r.1
 b2:Bd n r.2
 pos:0<r.2
 cop:Int.gcd r.1 r.2=1
theorem Good.mono {m n:Nat}{r:Rat}(h:Good m r)(k:m<=n):Good n r:=⟨h.b1.mono k,h.b2.mono k,h.pos,h.cop⟩
def nrm (p q:Int):Rat:=(nT p q,nB p q)
def Wl {n:Nat}{p q:Int}(hp:Bd n p)(hq:Bd n q)(h:q≠0):Good n (nrm p q):=⟨hp.of_le' (Z8y h),hq.of_le' (Z8z h),Mf h,Z1v h⟩
def addR (r s:Rat):Rat:=nrm (r.1*s.2+s.1*r.2) (r.2*s.2)
def subR (r s:Rat):Rat:=nrm (r.1*s.2 - s.1*r.2) (r.2*s.2)
def mulR' (r s:Rat):Rat:=nrm (r.1*s.1) (r.2*s.2)
def Wn {a b:Int}(ha:0<a)(c:0<b):a*b≠0:=by
 have:=XG ha c;omega
end _b
variable {gs l rs:UA}{rss:UB}
namespace _b
open PySem PySem.Spec PyProof.Rows _L
set_option maxRecDepth 100000
def V7:fillsNumberSlot (.type "tuple") "mul"=pure false :=
 PySem.fillsNumberSlot_seq (id:="tuple.__mul__") (r:=some (.builtin "tuple.__rmul__")) Y0r.lookup J8 F.slot_tuple_rmul.lookup J8
def Th:seqRepeat? (.type "tuple")=pure (some (.builtin "tuple.__mul__")):=by
 unfold seqRepeat?;rw[PySem.seqSlot_of (T:="tuple") (name:="__mul__") (id:="tuple.__mul__") Y0r.lookup J8,PySem.seqSlot_of (T:="tuple") (name:="__rmul__") (id:="tuple.__rmul__") F.slot_tuple_rmul.lookup J8];rfl
def Ui (a:Int)(t:Tok)(l:Addr)(items:Array Value)(n:Nat)(dd:TQ)(sl:Array (Option Value)) :
  Meets (Builtin.«int.__rmul__» ⟨[.int a t,.ref l],[]⟩) (λ_ R s=>s.heap.get? l=some { cls:=.type "tuple",dict:=dd,data:=.seq items n,slots:=sl }/\R (.ok (.ret Value.notImplemented)) s) :=
 .of_wp λprog w A R s h=>by obtain⟨hp,g,d,tk,os⟩:=s;obtain⟨hl,h⟩:=h;wp_walk;exact⟨_,rfl,h⟩
def Fx (l:Addr)(items:Array Value)(n:Nat)(dd:TQ)(sl:Array (Option Value))(x:Int)(u:Tok)(h1:2<=x)(h2:items.isEmpty=false)(k:items.size*x.toNat<=1000) :
  Meets (Builtin.«tuple.__mul__» ⟨[.ref l,.int x u],[]⟩) (λ_ R s=>s.heap.get? l=some { cls:=.type "tuple",dict:=dd,data:=.seq items n,slots:=sl } ∧
   R (.ok (.ret (Value.ref s.heap.objs.size))) { s with heap:=s.heap.push { cls:=Value.type "tuple",data:=Data.seq (List.foldl (·++·) #[] (List.replicate x.toNat items)) } }) :=
 .of_wp λprog w A R s h=>by
  obtain⟨hp,g,d,tk,os⟩:=s;obtain⟨hl,h⟩:=h;have f1:=AutoSeq1.idx_int;have f2:=Y1d;have b1:(items.size:Int)*x<=1000:=by
   have e:x=(x.toNat:Int):=J5
   rw[e,<-Int.natCast_mul];omega
  have b2:0<items.size:=by
   cases items with
   | mk l=>cases l with
    | nil=>simp at h2
    | cons a r=>simp
  have p:x<=1000:=by
   have:(1:Int)*x<=(items.size:Int)*x:=JZ J5 J5;omega
  have j:¬ (decide (x < -2 ^ 63) || decide (x ≥ 2 ^ 63))=true:=by simp;omega
  have b:¬ (items.isEmpty || x == 1)=true:=by rw[h2];simp;omega
  have f:¬ (decide (x<=0) || items.isEmpty)=true:=by rw[h2];simp;omega
  have i:¬ ((items.size:Int)*x > (2 ^ 63 - 1) / 8):=by
   have:(1000:Int)<=(2 ^ 63 - 1) / 8:=J6
   omega
  have m:¬ Builtin.Tuple.tupleTooMany ((items.size:Int)*x)=true:=by
   unfold Builtin.Tuple.tupleTooMany;have:((items.size:Int)*x).toNat<=1000:=J5
   have:(1000:Nat)<=sizeLine:=J6
   simp;omega
  have o:(List.foldl (λx1 c=>x1++c) #[] (List.replicate x.toNat items)).size<=sizeLine:=by
   rw[AutoSeq1.size_joined];have:(1000:Nat)<=sizeLine:=J6
   have e:x.toNat*items.size=items.size*x.toNat:=zM ..;simp;omega
  wp_walk using qd hl
  refine Y0A (XN j) ?_
  wp_walk using qd hl
  refine Y0A (XN b) ?_
  wp_walk using qd hl
  refine Y0A (XN f) ?_
  wp_walk using qd hl
  refine Y0A (XN i) ?_
  wp_walk using qd hl
  exact⟨_,rfl,h⟩
section
variable {X:Cx}
inductive rRepT (K:TR) (x:V) (y:V) (H:Hp) (Q:VK):Prop
 | mk (a k xs:_) (zz0:x=.ref a) (zz1:y=.int k) (zz2:SqT K H a xs) (zz3:2<=k) (zz4:xs≠[]) (zz5:xs.length*k.toNat<=1000) (zz6:∀ p,H p=none->Q (.ref p) (upd H p (.tup (List.replicate k.toNat xs).flatten)))
theorem Gx:OpR X (binaryOp .Mult) (rRepT X.K):=by
 intro pins s σ H x y v u Q I i e h;obtain⟨l,k,xs,rfl,rfl,hq,h1,h2,d,q⟩:=h
 cases i;obtain⟨t,rfl⟩:=e;obtain⟨its,r,pl,hz⟩:=I.tuple hq;obtain⟨⟨cls,dd,data,sl⟩,ho,hc,n,hd⟩:=id pl;simp only at hc hd;subst hc hd;have hl:=r.length;have g:its.toArray.isEmpty=false:=by
  cases its with
  | nil=>cases r;exact absurd rfl h2
  | cons a b=>rfl
 have c:List.foldl (λx1 f=>x1++f) #[] (List.replicate k.toNat its.toArray)=(List.replicate k.toNat its).flatten.toArray:=by
  have:=Nd its k.toNat [];rw[List.nil_append] at this;exact this
 refine Y0V (T:="tuple") (U:="int") J6 ⟨_,ho,rfl⟩ (λs'=>Y1q s' k t) V7 F.fills_int_mul Y0B Th F.slot_int_index.lookup
  (jz Y0B (Y1q s k t) F.entry_int_rmul (F.args_int_rmul_2 _ _) (Ui k t l its.toArray n dd sl)
   ⟨ho,rfl,⟨_,ho,rfl⟩,jz Y0r ⟨_,ho,rfl⟩ F.entry_tuple_mul (F.args_tuple_mul_2 _ _) (Fx l its.toArray n dd sl k t h1 g (by rw[YS,<-hl];exact d)) ⟨ho,?_⟩⟩)
 rw[c];refine⟨.ref s.heap.objs.size,_,I.laid (t':=s.toks) (o:=.tup (List.replicate k.toNat xs).flatten) (λb ob q=>YB _ q) (YJ _) ?_,rfl,q _ (I.hok.fresh (YJ _))⟩;exact⟨by rw[Z52,zM];exact YM d J6,_,r.rep k.toNat,IsTup.new _ _⟩
inductive rEqI (K:TR) (x:V) (y:V) (H:Hp) (Q:VK):Prop
 | mk (a b:Addr) (ns ms:TV) (zz0:x=.ref a) (zz1:y=.ref b) (zz2:SqT K H a (ns.map V.int)) (zz3:SqT K H b (ms.map V.int)) (zz4:Q (.bl (decide (ns=ms))) H)
def Ga (ns ms:TV):((List.range (min ns.length ms.length)).all (λj=>ns.getD j 0 == ms.getD j 0) && ns.length == ms.length)=decide (ns=ms):=by
 rw[GF];simp only [JY,jk,XO,GV,zN];constructor
 ·rintro ⟨h,hl⟩;refine Y1m hl λi h1 h2=>?_;have:=h i J5
  simpa [List.getD,h1,h2] using this
 rintro rfl;exact⟨λ_ _=>rfl,rfl⟩
def Ug {ns:TV}{us:TH}(r:Vals (ns.map V.int) us){j:Nat}(h:j<us.length):∃ t,us[j]=Value.int (ns.getD j 0) t:=by
 have hl:=r.length;rw[YC] at hl;have hj:j<ns.length:=J5
 obtain⟨u,e,q⟩:=r.get (i:=j) (show (ns.map V.int)[j]?=some (V.int ns[j]) by simp[hj]);obtain⟨t,rfl⟩:=q;have e2:us[j]?=some us[j]:=by simp[h]
 rw[e2] at e;refine⟨t,?_⟩;rw[YR e];simp[List.getD,hj]
theorem Z15 (hu:X.A.units<cLine)(hK:X.K=K:=by rfl):OpR X (compareOp .Eq) (rEqI K):=by
 subst hK;intro pins s σ H x y v u Q I o l h;obtain⟨a,b,ns,ms,rfl,rfl,ha,m,q⟩:=h
 cases o
 cases l;obtain⟨its,r1,k,_⟩:=I.tuple ha;obtain⟨c,r2,n,_⟩:=I.tuple m;have g:=r1.length;have i:=r2.length;rw[YC] at g i;refine SeqAt.eq_tupleAt (e:=λj=>ns.getD j 0 == ms.getD j 0) k n hu (λj h1 h2=>?_) ?_
 ·obtain⟨t,e1⟩:=Ug r1 (j:=j) (by simpa using h1);obtain⟨t',e2⟩:=Ug r2 (j:=j) (by simpa using h2);have d:its.toArray[j]=Value.int (ns.getD j 0) t:=by simpa using e1
  have f:c.toArray[j]=Value.int (ms.getD j 0) t':=by simpa using e2
  rw[d,f];exact zA _ _ _ _
 rw[YS,YS,<-g,<-i,Ga];exact⟨.bl _,H,I,rfl,q⟩
def Jg (h:X.K=K:=by rfl):OpR X (compareOp .In) (rIn K false):=h ▸ We
end
def Qz (i:Int)(ns:TV):inV (.int i) (ns.map V.int)=decide (i∈ns):=by
 unfold inV;rw[List.any_map,GF];simp only [List.any_eq_true,zN,Function.comp];constructor
 ·rintro ⟨x,hx,e⟩;have:x=i:=by simpa [eqV] using e
  exact this ▸ hx
 intro h;exact⟨i,h,by simp[eqV]⟩
def Ss (ns:TV):(ns.map V.int).all flatV=true:=by
 rw[Y25,jk];intro x _;rfl
end _b
namespace _b
open PySem _L
def Con (K:TR)(mg:TB)(x:Str)(r:Rat):Prop:=∃ a:Addr,mg x=some (.ref a)/\∀ H,SqT K H a [.int r.1,.int r.2]
def Z2t {x:Str}{a:Addr}{i j:Int}{c b:Tok}{n:Nat}{sl:Array (Option Value)}(X:K.In h)(G:h.Ns mainGlobals mg)
  (e:W.nsIn K mainGlobals x=some (some (.ref a))) (l:K.lookup a=some ⟨.type "tuple",dd,.seq #[.int i c,.int j b] n,sl⟩):Con K mg x (i,j) :=
 ⟨a,Y0J X G e,λH=>.inr ⟨_,_,_,l,rfl,rfl,sz2,.cons ⟨_,rfl⟩ (.cons ⟨_,rfl⟩ .nil)⟩⟩
def evI (c:Nat)(p:Nat->Bool):List Int:=((List.range c).filter p).map λ(w:Nat)=>(w:Int)
def EvAt (K:TR)(H:Hp)(c:Nat)(o:TW)(v:V):Prop:=match o with
 | none=>v=.non
 | some p=>∃ a,v=.ref a/\SqT K H a ((evI c p).map V.int)
def EvAt.ext {K:TR}{H H':Hp}{c:Nat}{o:TW}{v:V}(h:EvAt K H c o v)(e:Ext H H'):EvAt K H' c o v:=by
 cases o with
 | none=>exact h
 | some p=>obtain⟨a,q,h⟩:=h;exact⟨a,q,e.sq h⟩
theorem EvAt.same {K:TR}{H H':Hp}{c:Nat}{o:TW}{v:V}(h:EvAt K H c o v)(e:Same H H'):EvAt K H' c o v:=h.ext (Ext.same e)
def inE (o:TW)(i:Nat):Bool:=match o with
 | none=>true
 | some p=>p i
def F6 {c:Nat}{p:Nat->Bool}:((i:Int)∈evI c p) ↔ i<c/\p i=true:=by
 unfold evI;simp only [YT,XA,XO];constructor
 ·rintro ⟨j,h,e⟩;have:j=i:=J5
  exact this ▸ h
 intro h;exact⟨i,h,rfl⟩
def Kg (c:Nat)(p:Nat->Bool):evI (c+1) p=evI c p++if p c then [(c:Int)] else []:=by
 unfold evI;rw[zH,GD,XF]
 congr 1
 cases h:p c <;> simp[h]
def Cp {c:Nat}{p q:Nat->Bool}(h:∀ i,i<c->p i=q i):evI c p=evI c q:=by
 unfold evI
 congr 1
 apply List.filter_congr;intro x hx;exact h x (XO.mp hx)
def K6 {c A B:Prop}[Decidable c](hc:c)(h:A):if decide c=true then A else B:=by rw[XE hc];exact U6 h
def Qv {c A B:Prop}[Decidable c](hc:¬ c)(h:B):if decide c=true then A else B:=by rw[XN hc];exact Xn h
def Z57 {b:Bool}{A B:Prop}(h1:b=true->A)(h0:b=false->B):if b=true then A else B:=by
 cases b with
 | true=>exact U6 (h1 rfl)
 | false=>exact Xn (h0 rfl)
def Ye {α:Type}{l:List α}{x:α}(h:l[i]?=some x):l.take (i+1)=l.take i++[x]:=by rw[GW,h];rfl
def cutR (o:TW)(rs:UA):List Rat:=rs.mapIdx λi r=>if inE o i then r else (0,1)
def Ww {o:TW}{r:Rat}(h:rs[i]?=some r):(cutR o rs)[i]?=some (if inE o i then r else (0,1)):=by
 unfold cutR;rw[Y0u,h];rfl
def Yo (o:TW)(rs:UA):(cutR o rs).length=rs.length:=by unfold cutR;simp
def zipR {α:Type}(op:Rat->Rat->α)(rs ss:UA)(i:Nat):List α:=List.zipWith op (rs.take i) (ss.take i)
def Fr {α:Type}(op:Rat->Rat->α){rs ss:UA}{i:Nat}{r s:Rat}(hr:rs[i]?=some r)(hs:ss[i]?=some s):zipR op rs ss (i+1)=zipR op rs ss i++[op r s]:=by
 have a:i<rs.length:=(YH.mp hr).1;have ls:i<ss.length:=(YH.mp hs).1;unfold zipR;rw[GW,GW,hr,hs,Y1K (by simp;omega)];rfl
def Bg {α:Type}(op:Rat->Rat->α){rs ss:UA}{n:Nat}(hr:rs.length=n)(hs:ss.length=n):zipR op rs ss n=List.zipWith op rs ss:=by
 unfold zipR;rw[YW J5,YW J5]
def mapR {α:Type}(op:Rat->α)(rs:UA)(i:Nat):List α:=(rs.take i).map op
def C7 {α:Type}(op:Rat->α){rs:UA}{i:Nat}{r:Rat}(hr:rs[i]?=some r):mapR op rs (i+1)=mapR op rs i++[op r]:=by
 unfold mapR;rw[GW,hr,XF];rfl
def Z1y {α:Type}(op:Rat->α){rs:UA}{n:Nat}(hr:rs.length=n):mapR op rs n=rs.map op:=by
 unfold mapR;rw[YW J5]
def ltR (r s:Rat):Bool:=decide (r.1*s.2<s.1*r.2)
open PySem.Spec PyProof.Rows
section
variable {X:Cx}
def iSeq (K:TR)(tl:TE):TI:=λσ H R=>tl σ H λx H1=>∃ a,x=.ref a/\(((∃ xs,SqL K H1 a xs)/\R (Itl K a) H1) \/ ((∃ xs,SqT K H1 a xs)/\R (Itt K a) H1))
theorem Z75 {l:Expr}(hl:PE X l tl):PI X tg l (iSeq X.K tl):=by
 intro pins s σ H R I h;refine thn (hl pins s σ H _ I h) λv s1 ⟨x,H1,c,r1,f⟩=>?_;obtain⟨a,e,⟨⟨xs,hq⟩,q⟩ | ⟨⟨xs,hq⟩,q⟩⟩:=f
 ·subst e
  cases r1;obtain⟨its,rv,p,hz⟩:=c.list hq;refine zL p.isList ?_;refine⟨s1.heap.objs.size,[s1.heap.objs.size],_,_,H1,rfl,c.kept (t':=s1.toks) λb o e=>YB _ e,Sd a _,⟨_,YN _ rfl,rfl,rfl⟩,λb d=>?_,q⟩;have e:b=s1.heap.objs.size:=by simpa using d
  subst e;exact c.fpOk (YJ _) (c.hok.fresh (YJ _))
 subst e
 cases r1;obtain⟨its,rv,p,hz⟩:=c.tuple hq;refine jy (show s1.heap.IsTuple a its.toArray from p) ?_;refine⟨s1.heap.objs.size,[s1.heap.objs.size],_,_,H1,rfl,c.kept (t':=s1.toks) λb o e=>YB _ e,Up a _,⟨_,YN _ rfl,rfl,rfl⟩,λb d=>?_,q⟩;have e:b=s1.heap.objs.size:=by simpa using d
 subst e;exact c.fpOk (YJ _) (c.hok.fresh (YJ _))
def Z5e {a:Addr}{g:TG}{D:Ends}{σ:_L.St}(d:Nat->_L.St->Hp->Prop)(hx:SqL K H a xs \/ SqT K H a xs)(h0:d 0 σ H)(hS:∀ i σ H',i<=xs.length->d i σ H'->Same H H')
  (hs:∀ i x σ H,xs[i]?=some x->d i σ H->g x σ H λc H2=>tb { D with nx:=d (i+1),ct:=d (i+1),bk:=D.nx } c H2) (hd:∀ σ H,d xs.length σ H->D.nx σ H) :
  ∃ b,V.ref a=.ref b/\(((∃ xs,SqL K H b xs)/\∃ W:Nat->Nat->_L.St->Hp->Prop,(∃ m,W 0 m σ H)/\∀ i m σ H,W i m σ H →
   ((Itl K b).stop i H/\D.nx σ H) \/ ((Itl K b).go i H/\∃ N:_L.St->Hp->Prop,(∀ σ' H',N σ' H'->∃ e,e<m/\W (i+1) e σ' H')/\∀ x H',(Itl K b).yld i H x H'->g x σ H' λc H2=>tb { D with nx:=N,ct:=N,bk:=D.nx } c H2)) ∨
   ((∃ xs,SqT K H b xs)/\∃ W:Nat->Nat->_L.St->Hp->Prop,(∃ m,W 0 m σ H)/\∀ i m σ H,W i m σ H →
   ((Itt K b).stop i H/\D.nx σ H) \/ ((Itt K b).go i H/\∃ N:_L.St->Hp->Prop,(∀ σ' H',N σ' H'->∃ e,e<m/\W (i+1) e σ' H')/\∀ x H',(Itt K b).yld i H x H'->g x σ H' λc H2=>tb { D with nx:=N,ct:=N,bk:=D.nx } c H2))):=by
 refine⟨a,rfl,?_⟩;rcases hx with hx | hx
 ·exact .inl ⟨⟨_,hx⟩,U8 (K:=K) (a:=a) (xs:=xs) d h0 (λi σ H' hi p=>by
   rcases hx with (z | ⟨o,z⟩) | z
   ·exact .inl (.inl (hS i σ H' hi p _ _ z))
   ·exact .inl (.inr ⟨o,hS i σ H' hi p _ _ z⟩)
   exact .inr z) hs hd⟩
 exact .inr ⟨⟨_,hx⟩,Fk (K:=K) (a:=a) (xs:=xs) d h0 (λi σ H' hi p=>Zo (hS i σ H' hi p) hx) hs hd⟩
theorem Sx (hc:X.calm=true)(hK:X.K=K:=by rfl):CallR X (.builtin "sum") (λxs H Q=>∃ (p:Addr) (ns:TV),xs=[.ref p]/\SqL K H p (ns.map V.int)/\Q (.int ns.sum) H):=by
 subst hK;intro pins s σ H xs us Q I r h;obtain⟨p,ns,rfl,hs,q⟩:=h;obtain⟨u,e0,c⟩:=Vv r
 cases (show u=Value.ref p from c);subst e0;obtain⟨its,rv,pl,hz⟩:=I.list hs;have hi:IntsAre its ns:=Qy rv;obtain⟨ys,b⟩:=hi.allInts.items;have a:(numsOf its.toArray.toList)=ns:=hi.numsOf;have lp:s.heap.IsList p (intItems ys):=by rw[<-b];exact pl.isList
 rw[b,nums_intItems] at a;refine Z8b (I.ok.hd hc) (λp hp=>(I.pin p (XJ _ hp)).1) lp λh' tk t' hk=>⟨.int ns.sum,H,I.kept (t':=tk) hk,⟨t',?_⟩,q⟩;rw[preSum_eq,YW J7,a]
end
end _b
namespace _b
open PySem _L
def X9 {a:Addr}(e:Same H H')(h:SqL K H a xs):SqL K H' a xs:=by
 rcases h with (h | ⟨o,h⟩) | h
 ·exact .inl (.inl (e _ _ h))
 ·exact .inl (.inr ⟨o,e _ _ h⟩)
 exact .inr h
open PySem.Spec PyProof.Rows
abbrev bmV:List Value:=[.type "ValueError",.type "Exception",.type "BaseException",.type "object"]
def Kq {P:TU}{w:World}{fs:TJ}{h0 h1 h2 B:Heap}(u:Un fs [] H H' h0 h1)(hB:∀ b o,h0.get? b=some o->b ∉ fs->(∃ o',B.get? b=some o')/\(H b=none->B.get? b=some o))(st:B.StaysIn h2)(up:h1.UpToSlots h2)
  (c:∀ b∈fs,∃ o,h1.get? b=some o/\∀ vs,o.data≠.fields vs):Un fs [] H H' h0 h2 where
 keep:=λb o e n hf _=>st b o ((hB b o e hf).2 n)
 slot:=λb o e n hf hx=>by
  obtain⟨sl,e1⟩:=u.slot b o e n hf hx;obtain⟨o1,e2,d⟩:=c b hf;rw[e1] at e2
  cases e2;obtain⟨a,e3⟩:=up b _ e1 d;exact⟨a,e3⟩
 free:=u.free
 there:=λb o e hx=>by
  by_cases hf:b∈fs
  ·obtain⟨o1,e2,d⟩:=c b hf;obtain⟨sl,e3⟩:=up b _ e2 d;exact⟨_,e3⟩
  obtain⟨o',e'⟩:=(hB b o e hf).1;exact⟨o',st b o' e'⟩
 tups:=u.tups
 frzs:=u.frzs
 tbls:=u.tbls
structure CatchBy (K:TR)(C D:Addr):Prop where
 nt:W.instIn K (.ref D) (.type "tuple")=some false
 be:W.subIn K (.ref D) (.type "BaseException")=some true
 it:W.kitOne K (.type "int") (.ref D)=some false
 sub:W.subIn K (.ref C) (.ref D)=some true
def CatchBy.cls {D:Addr}(c:CatchBy K C D):W.kitCls K (.type "int") (.ref D)=some false:=by
 have e:=c.it;unfold W.kitOne at e;rw[YD (by intro z;cases (GV.mp z))] at e;exact e
def Kf {M:Model}{D:Addr}{g:Array GenState}{d:Drawn}{tk:Nat}{os:OsState}{Q:Bool->Shared->Prop}(X:K.In h)(c:CatchBy K C D)
  (a:h.get? e=some oe) (hc:oe.cls=.ref C) (q:Q true ⟨h,g,d,tk,os⟩):wpAny M A (excMatches (.ref e) (.ref D)) Q E ⟨h,g,d,tk,os⟩:=by
 obtain⟨_,b,_⟩:=W.kit_cls (M:=M) X c.cls;have j:=W.looks_subIn (M:=M) X c.sub;have i:=W.looks_instIn (M:=M) X c.nt;have f:=W.looks_subIn (M:=M) X c.be;unfold excMatches;refine YA (i.at ?_);simp only [XM,qo];refine YA (YK ?_);simp only [jb,Y0e];unfold isExcClass;refine YA (YA (YA (YA (b.at ?_))));simp only [Y10];refine f.at ?_;simp only [zQ,XM,qo];refine YK ?_;refine YK ?_;refine YA ?_;refine W.Looks.at (r:=Value.ref C) ?_ ?_
 ·exact hc ▸ (W.Looks.ld a).andThen .now
 refine YA (YA (YA (j.at ?_)));simp only [Y10]
 repeat (first | exact q | refine YK ?_ | refine YA ?_)
section
variable {sp:Sp}{t:TA}{EX:_L.St->XK}
def tUseX (sp:Sp)(EX:_L.St->XK)(t:TA):TE:=λσ H Q=>t σ H λvs H1=>sp vs H1 Q (EX σ)
end
abbrev tryCx (X:Cx)(pn:TD)(E:TC):Cx:={ X with pn:=pn,xe:=E }
abbrev sutCx (X:Cx)(a:Addr)(pn:TD)(E:TC):Cx:={ X with A:=X.A.mark (some (.ref a)),calm:=false,pn:=pn,xe:=E }
section
variable {X:Cx}{pins' pn:TD}{σ:_L.St}{H:Hp}{a:Addr}
def Z7b (ok:X.Ok)(hp:∀ p∈X.pn,p∈pn):(tryCx X pn E).Ok:=⟨ok.mod,ok.kind,ok.glob,ok.blt,ok.above,ok.inj,ok.has,ok.cab,(λhc=>(ok.hd hc).sub hp),ok.frames,ok.stk,ok.exf,ok.bs,ok.bsz,ok.noex,ok.exfs,ok.funs,ok.frf,ok.seen,ok.dpt⟩
def Z7c (ok:X.Ok):(sutCx X a pn E).Ok:=⟨ok.mod,ok.kind,ok.glob,ok.blt,ok.above,ok.inj,ok.has,ok.cab,(λz=>nomatch z),ok.frames,ok.stk,ok.exf,ok.bs,ok.bsz,ok.noex,ok.exfs,ok.funs,ok.frf,ok.seen,ok.dpt⟩
def Z58 (I:Inv X pins σ H s):Inv (tryCx X (X.pn++pins) E) [] σ H s :=
 ⟨Z7b I.ok (λp hp=>XJ _ hp),I.os,I.bare,I.base,I.loc,I.cell,I.free,I.freeC,λp hp=>I.pin p (by simpa using hp),I.hok,I.len⟩
def V8 (ok:X.Ok)(I:Inv (tryCx X (X.pn++pins) E) pins' σ H s):Inv X pins σ H s :=
 ⟨ok,I.os,I.bare,I.base,I.loc,I.cell,I.free,I.freeC,λp hp=>I.pin p (XJ _ hp),I.hok,I.len⟩
def Fg (I:Inv X pins σ H s):Inv (sutCx X a (X.pn++pins) E) [] σ H s :=
 ⟨Z7c I.ok,I.os,I.bare,I.base,I.loc,I.cell,I.free,I.freeC,λp hp=>I.pin p (by simpa using hp),I.hok,I.len⟩
def Uf (ok:X.Ok)(I:Inv (sutCx X a (X.pn++pins) E) pins' σ H s):Inv X pins σ H s :=
 ⟨ok,I.os,I.bare,I.base,I.loc,I.cell,I.free,I.freeC,λp hp=>I.pin p (XJ _ hp),I.hok,I.len⟩
theorem Bn {D:Ends}{f:Flow}{s':Shared}(ok:X.Ok)(h:SP (tryCx X (X.pn++pins) E) pins' D f s'):SP X pins D f s':=by
 cases f with
 | next=>obtain⟨σ',H',I,q⟩:=h;exact⟨σ',H',V8 ok I,q⟩
 | brk=>obtain⟨σ',H',I,q⟩:=h;exact⟨σ',H',V8 ok I,q⟩
 | cont=>obtain⟨σ',H',I,q⟩:=h;exact⟨σ',H',V8 ok I,q⟩
 | ret u=>obtain⟨v,σ',H',I,r,q⟩:=h;exact⟨v,σ',H',V8 ok I,r,q⟩
theorem Bo {D:Ends}{f:Flow}{s':Shared}(ok:X.Ok)(h:SP (sutCx X a (X.pn++pins) E) pins' D f s'):SP X pins D f s':=by
 cases f with
 | next=>obtain⟨σ',H',I,q⟩:=h;exact⟨σ',H',Uf ok I,q⟩
 | brk=>obtain⟨σ',H',I,q⟩:=h;exact⟨σ',H',Uf ok I,q⟩
 | cont=>obtain⟨σ',H',I,q⟩:=h;exact⟨σ',H',Uf ok I,q⟩
 | ret u=>obtain⟨v,σ',H',I,r,q⟩:=h;exact⟨v,σ',H',Uf ok I,r,q⟩
end
open PySem.W (Looks findIn specialIn takesIn mroIn clsIn InstAt findObj KitX)
structure ExcRead (K:TR)(C:Addr):Prop where
 ga:findIn K (.ref C) "__getattribute__"=some (some (.builtin "BaseException.__getattribute__"))
 gh:findIn K (.ref C) "__getattr__"=some none
 cl:findIn K (.ref C) "__class__"=some (some (.builtin "object.__class__"))
 gt:specialIn K (.builtin "object.__class__") "__get__"=some (some (.builtin "getset_descriptor.__get__"))
 tk:takesIn K (.builtin "object.__class__")=some true
 mo:mroIn K C (.type "object")=some true
 be:W.subIn K (.ref C) (.type "BaseException")=some true
section
variable {X:Cx}{σ:_L.St}{H:Hp}
theorem Ch {a:Addr}{o:HO}(I:Inv X pins σ H s)(hn:H a=none)(ok:ObjOk X.prog X.w (upd H a o) s.heap a o)(h0:∀ ob,X.s₀.heap.get? a=some ob->False)(hl:a≠X.env.locals)(hc:∀ x c,X.env.cells.lookup x=some c->c≠a)(hp:∀ p∈X.pn++pins,p.1≠a):Inv X pins σ (upd H a o) s where
 ok:=I.ok
 os:=I.os
 bare:=I.bare
 base:=by
  have u:=I.base;exact⟨u.keep,u.slot,λb ob e n hx=>by rw[Zc (show b≠a from λz=>h0 ob (by rw[<-z];exact e))];exact u.free b ob e n hx,u.there,λb xs e=>by
   have:=u.tups b xs e;rw[Zc (λz=>by rw[z,hn] at this;cases this)];exact this,λb ob v e=>by
   have:=u.frzs b ob v e;rw[Zc (λz=>by rw[z,hn] at this;cases this)];exact this,λb ps e=>by
   obtain⟨m,this⟩:=u.tbls b ps e;exact⟨m,by rw[Zc (λz=>by rw[z,hn] at this;cases this)];exact this⟩⟩
 loc:=I.loc
 cell:=I.cell
 free:=by rw[Zc hl.symm];exact I.free
 freeC:=λx c e=>by rw[Zc (hc x c e)];exact I.freeC x c e
 pin:=λp q=>by
  obtain⟨h1,h2,d⟩:=I.pin p q;exact⟨h1,by rw[Zc (hp p q)];exact h2,d⟩
 hok:=λb ob e=>by
  by_cases z:b=a
  ·subst z;rw[Za] at e
   cases e;exact ok
  rw[Zc z] at e;exact (I.hok b ob e).stay (λc u _ q=>q) (λc q=>by rw[Zc (λz=>by rw[z,hn] at q;cases q)];exact q) λc xs q=>by rw[Zc (λz=>by rw[z,hn] at q;cases q)];exact q
 len:=I.len
end
def flatE:V->Bool
 | .non | .bl _ | .int _ | .str _ | .ref _=>true
 | _=>false
def EqU (K:TR)(H:Hp):Nat->V->V->Prop
 | 0,x,y=>x=y/\flatE x=true
 | n+1,x,y=>(x=y/\flatE x=true) \/ ∃ (a b:Addr) (xs ys:TZ),x=.ref a/\y=.ref b/\((SqL K H a xs/\SqL K H b ys) \/ (SqT K H a xs/\SqT K H b ys))/\Paired (EqU K H n) xs ys
theorem Paired.getB {α β:Type}{R:α->β->Prop}:∀ {xs:List α} {ys:List β} {i:Nat} {x:α} {y:β},Paired R xs ys->xs[i]?=some x->ys[i]?=some y->R x y
 | _,_,_,_,_,.nil,e,_=>by simp at e
 | _,_,0,_,_,.cons q _,e,e'=>by
  simp at e e';subst e e';exact q
 | _,_,i+1,x,y,.cons _ t,e,e'=>Paired.getB (i:=i) t (by simpa using e) (by simpa using e')
section
variable {X:Cx}{σ:_L.St}{H:Hp}
def Nf {A:Around}{x:V}{u v:Value}(h:flatE x=true)(ru:RelV x u)(rv:RelV x v):SeqAt.EqAt A s u v true:=by
 cases x with
 | non=>cases ru;cases rv;exact zG _
 | bl b=>cases ru;cases rv;exact zG _
 | int i =>
  obtain⟨t,rfl⟩:=ru;obtain⟨t',rfl⟩:=rv;have:=zA (A:=A) (s:=s) i t i t'
  rwa [zf] at this
 | str z =>
  obtain⟨t,rfl⟩:=ru;obtain⟨t',rfl⟩:=rv;have:=SeqAt.EqAt.str_str (A:=A) (s:=s) z t z t'
  rwa [zf] at this
 | ref a=>cases ru;cases rv;exact zG _
 | byt b=>cases h
 | flt b=>cases h
 | ty b=>cases h
def Vd (n:Nat):(List.range n).all (λ_=>true)=true:=by simp
theorem G6 (I:Inv X pins σ H s):∀ (n:Nat) (A:Around) (x y:V) (u v:Value),A.units+n<cLine->EqU X.K H n x y->RelV x u->RelV y v->SeqAt.EqAt A s u v true
 | 0,A,x,y,u,v,_,⟨e,h⟩,ru,rv=>by
  subst e;exact Nf h ru rv
 | n+1,A,x,y,u,v,hu,h,ru,rv=>by
  rcases h with ⟨e,h⟩ | ⟨a,b,xs,ys,rfl,rfl,h,p⟩
  ·subst e;exact Nf h ru rv
  cases ru
  cases rv;by_cases f:a=b
  ·subst f;exact zG _
  refine Y0R f ?_;have lp:=YY p;rcases h with ⟨h1,h2⟩ | ⟨h1,h2⟩
  ·obtain⟨i1,r1,g,_⟩:=I.list h1;obtain⟨i2,r2,q,_⟩:=I.list h2;have w:=r1.length;have z:=r2.length;have:=SeqAt.RcAt.lists (A:=A) (e:=λ_=>true) g.isList q.isList (by simp;omega) J5 λj h1 h2=>by
    have c:j<i1.length:=by simpa using h1
    have d:j<i2.length:=by simpa using h2
    obtain⟨r,e1,m⟩:=r1.get (i:=j) (x:=xs[j]'J5) J7;obtain⟨t,e2,l⟩:=r2.get (i:=j) (x:=ys[j]'J5) J7;have o:i1.toArray[j]=r:=by
     have:i1[j]?=some i1[j]:=by simp[c]
     rw[this] at e1
     simpa using YR e1
    have k:i2.toArray[j]=t:=by
     have:i2[j]?=some i2[j]:=by simp[d]
     rw[this] at e2
     simpa using YR e2
    rw[o,k];exact G6 I n A.in1 _ _ _ _ (by show A.units+1+n<cLine;omega) (Paired.getB p (i:=j) J7 J7) m l
   rwa [Vd] at this
  obtain⟨i1,r1,g,_⟩:=I.tuple h1;obtain⟨i2,r2,q,_⟩:=I.tuple h2;have w:=r1.length;have z:=r2.length;have:=Y0g (A:=A) (e:=λ_=>true) g q J5 λj h1 h2=>by
   have c:j<i1.length:=by simpa using h1
   have d:j<i2.length:=by simpa using h2
   obtain⟨r,e1,m⟩:=r1.get (i:=j) (x:=xs[j]'J5) J7;obtain⟨t,e2,l⟩:=r2.get (i:=j) (x:=ys[j]'J5) J7;have o:i1.toArray[j]=r:=by
    have:i1[j]?=some i1[j]:=by simp[c]
    rw[this] at e1
    simpa using YR e1
   have k:i2.toArray[j]=t:=by
    have:i2[j]?=some i2[j]:=by simp[d]
    rw[this] at e2
    simpa using YR e2
   rw[o,k];exact G6 I n A.in1 _ _ _ _ (by show A.units+1+n<cLine;omega) (Paired.getB p (i:=j) J7 J7) m l
  rw[Vd] at this;have e:(i1.toArray.size == i2.toArray.size)=true:=by simp;omega
  rw[e] at this;exact this
inductive rAlike (K:TR) (ans:Bool) (x:V) (y:V) (H:Hp) (Q:VK):Prop
 | mk (n:Nat) (a b:Addr) (xs ys:TZ) (zz0:x=.ref a) (zz1:y=.ref b) (zz2:n<=60) (zz3:((SqL K H a xs/\SqL K H b ys) \/ (SqT K H a xs/\SqT K H b ys))) (zz4:Paired (EqU K H n) xs ys) (zz5:Q (.bl ans) H)
def Wx (I:Inv X pins σ H s){n:Nat}{A:Around}{xs ys:TZ}{i1 i2:TH}(hu:A.units+n<cLine)(p:Paired (EqU X.K H n) xs ys)(r1:Vals xs i1)(r2:Vals ys i2)(j:Nat)(h1:j<i1.toArray.size)(h2:j<i2.toArray.size):SeqAt.EqAt A s i1.toArray[j] i2.toArray[j] true:=by
 have k:=r1.length;have l:=r2.length;have a:j<i1.length:=by simpa using h1
 have b:j<i2.length:=by simpa using h2
 obtain⟨g,e1,e⟩:=r1.get (i:=j) (x:=xs[j]'J5) J7;obtain⟨h,e2,d⟩:=r2.get (i:=j) (x:=ys[j]'J5) J7;have f:i1.toArray[j]=g:=by
  have:i1[j]?=some i1[j]:=by simp[a]
  rw[this] at e1
  simpa using YR e1
 have c:i2.toArray[j]=h:=by
  have:i2[j]?=some i2[j]:=by simp[b]
  rw[this] at e2
  simpa using YR e2
 rw[f,c];exact G6 I n A _ _ _ _ hu (Paired.getB p (i:=j) J7 J7) e d
theorem Z14 (hu:X.A.units+64<cLine)(hK:X.K=K:=by rfl):OpR X (compareOp .NotEq) (rAlike K false):=by
 subst hK;intro pins s σ H x y v u Q I k f h;obtain⟨n,a,b,xs,ys,rfl,rfl,hn,h,p,q⟩:=h
 cases k
 cases f;have lp:=YY p;rcases h with ⟨h1,h2⟩ | ⟨h1,h2⟩
 ·obtain⟨i1,r1,c,_⟩:=I.list h1;obtain⟨i2,r2,d,_⟩:=I.list h2;have g:=r1.length;have i:=r2.length;refine SeqAt.RcNeAt.lists (A:=X.A) (e:=λ_=>true) c.isList d.isList (by simp;omega) J5 (λj h1 h2=>Wx I (by show X.A.units+1+n<cLine;omega) p r1 r2 j h1 h2) _ _ _ _ ?_;rw[Vd];exact⟨.bl false,H,I,rfl,q⟩
 obtain⟨i1,r1,c,_⟩:=I.tuple h1;obtain⟨i2,r2,d,_⟩:=I.tuple h2;have g:=r1.length;have i:=r2.length;refine SeqAt.RcNeAt.tuples (A:=X.A) (e:=λ_=>true) c d J5 (λj h1 h2=>Wx I (by show X.A.units+1+n<cLine;omega) p r1 r2 j h1 h2) _ _ _ _ ?_;have e:(i1.toArray.size == i2.toArray.size)=true:=by simp;omega
 rw[Vd,e];exact⟨.bl false,H,I,rfl,q⟩
inductive rIndex (K:TR) (x:V) (vs:TZ) (H:Hp) (Q:VK):Prop
 | mk (l:Addr) (ns:TV) (i:Int) (j:Nat) (zz0:x=.ref l) (zz1:vs=[.int i]) (zz2:SqL K H l (ns.map V.int)) (zz3:ns[j]?=some i) (zz4:(∀ m,m<j->ns[m]?≠some i)) (zz5:ns.length<=1000) (zz6:Q (.int j) H)
def eInt (i:Int):Value->Bool
 | .int a _=>a == i
 | _=>false
theorem Qm (hK:X.K=K:=by rfl):MtM X "list.index" (rIndex K):=by
 subst hK;intro pins s σ H x vs v us Q I o rv h;obtain⟨l,ns,i,j,rfl,rfl,hq,hj,c,hl,q⟩:=h
 cases o;obtain⟨u,rfl,ru⟩:=rv.one;obtain⟨t,rfl⟩:=ru;obtain⟨its,r,pl,hz⟩:=I.list hq;obtain⟨⟨cls,dd,data,sl⟩,ho,hc,n,hd⟩:=pl.isList;simp only at hc hd;subst hc hd;have k:=r.length;rw[YC] at k;have at_:∀ (m:Nat) (hm:m<its.toArray.size),∃ t',its.toArray[m]=Value.int (ns[m]'(by simp at hm;omega)) t':=λm hm=>by
  have a:m<its.length:=by simpa using hm
  obtain⟨w,e,q⟩:=r.get (i:=m) (x:=V.int (ns[m]'J5)) J7;obtain⟨t',rfl⟩:=q;refine⟨t',?_⟩;have:its[m]?=some its[m]:=by simp[a]
  rw[this] at e
  simpa using YR e
 have g:j<ns.length:=(YH.mp hj).1;have b:j<its.toArray.size:=by simp;omega
 refine jz F.slot_list_index ⟨_,ho,rfl⟩ F.entry_list_index (F.args_list_index_2 _ _) (SeqAt.list_indexAt l its.toArray n dd sl (.int i t) (eInt i) j b J5 ?_ ?_) ⟨ho,λy f=>?_,?_⟩
 ·obtain⟨t',e⟩:=at_ j b;rw[e];have:ns[j]=i:=by
   have:=(YH.mp hj).2;exact this
  show (ns[j] == i)=true;rw[this];exact zf i
 ·intro m hm d;obtain⟨t',e⟩:=at_ m hm;rw[e];have a:m<ns.length:=by simp at hm;omega
  show (ns[m] == i)=false;apply beq_false_of_ne;intro z;exact c m d (by rw[<-z];simp[a])
 ·obtain⟨m,hm,e⟩:=Array.mem_iff_getElem.mp f;obtain⟨t',e'⟩:=at_ m hm;rw[<-e,e'];exact zA _ _ _ _
 exact⟨.int j,H,I.tok _,⟨_,rfl⟩,q⟩
theorem Cz (hc:X.calm=true)(hK:X.K=K:=by rfl):CallR X (.builtin "min") (λxs H Q=>∃ (p:Addr) (ns:TV),xs=[.ref p]/\SqL K H p (ns.map V.int)/\ns≠[]/\∀ M,M∈ns->(∀ a∈ns,M<=a)->Q (.int M) H):=by
 subst hK;intro pins s σ H xs us Q I r h;obtain⟨p,ns,rfl,hs,c,q⟩:=h;obtain⟨u,e0,i⟩:=Vv r
 cases (show u=Value.ref p from i);subst e0;obtain⟨its,rv,pl,hz⟩:=I.list hs;have hi:IntsAre its ns:=Qy rv;obtain⟨ys,f⟩:=hi.allInts.items;have b:ns=ys.toList.map (·.1):=by
  rw[<-hi.numsOf,<-nums_intItems,<-f]
 have d:0<ys.size:=by
  have e:0<ns.length:=jn.mpr c;rw[b,YC,GU] at e;exact e
 have lp:s.heap.IsList p (intItems ys):=by rw[<-f];exact pl.isList
 refine Z90 (I.ok.hd hc) (λp hp=>(I.pin p (XJ _ hp)).1) lp d λv h' tk g hk=>?_;obtain⟨t,rfl⟩:=intItems_at g;obtain⟨h1,h2⟩:=argBest_lt (numAt ys) (ys.size - 1);refine⟨.int _,H,I.kept (t':=tk) hk,⟨t,rfl⟩,q _ ?_ λa ha=>?_⟩
 ·rw[b,numAt_eq];exact getD_mem (by rw[YC,GU];omega)
 rw[b] at ha;obtain⟨j,hj,rfl⟩:=mem_getD ha;rw[YC,GU] at hj;rw[<-numAt_eq];exact h2 j J5
end
end _b
namespace _v
def sm:Nat->(Nat->Int)->Int
 | 0,_=>0
 | n+1,f=>sm n f+f n
def Y1 {n:Nat}{f g:TY}(h:∀ i,i<n->f i=g i):sm n f=sm n g:=by
 induction n with
 | zero=>rfl
 | succ n a =>
  show sm n f+f n=sm n g+g n;rw[a λi hi=>h i J5,h n J5]
def Wh (n:Nat)(f g:TY):sm n (λi=>f i+g i)=sm n f+sm n g:=by
 induction n with
 | zero=>rfl
 | succ n a=>show sm n _+(f n+g n)=(sm n f+f n)+(sm n g+g n);rw[a];omega
def Yv (a:Int)(n:Nat)(f:TY):sm n (λi=>a*f i)=a*sm n f:=by
 induction n with
 | zero=>show (0:Int)=a*0;simp
 | succ n b=>show sm n _+_=a*(sm n f+f n);rw[b,Y27]
def sm_zero {n:Nat}{f:TY}(h:∀ i,i<n->f i=0):sm n f=0:=by
 induction n with
 | zero=>rfl
 | succ n a=>show sm n f+f n=0;rw[a λi hi=>h i J5,h n J5];rfl
def Y0 {n k:Nat}{f:TY}(hk:k<n):sm n f=f k+sm n (λi=>if i=k then 0 else f i):=by
 induction n with
 | zero=>omega
 | succ n a =>
  show sm n f+f n=f k+(sm n (λi=>if i=k then 0 else f i)+if n=k then 0 else f n);by_cases e:n=k
  ·subst e;rw[YG rfl,Y1 (f:=λi=>if i=n then 0 else f i) (g:=f) λi hi=>YD J5];omega
  rw[YD e,a J5];omega
def sm_one {n k:Nat}{f:TY}(hk:k<n)(h:∀ i,i<n->i≠k->f i=0):sm n f=f k:=by
 rw[Y0 hk,sm_zero λi hi=>?_]
 ·omega
 by_cases e:i=k
 ·rw[YG e]
 rw[YD e];exact h i hi e
def Bq {n p q:Nat}{f:TY}(hp:p<n)(hq:q<n)(b:p≠q)(h:∀ i,i<n->i≠p->i≠q->f i=0):sm n f=f p+f q:=by
 rw[Y0 hp,sm_one (k:=q) hq λi hi a=>?_]
 ·rw[YD (XQ b)]
 by_cases e:i=p
 ·rw[YG e]
 rw[YD e];exact h i hi e a
def Y2 {n:Nat}{f:TY}(h:∀ i,i<n->0<=f i):0<=sm n f:=by
 induction n with
 | zero=>exact Y1F _
 | succ n a =>
  show 0<=sm n f+f n;have:=a λi hi=>h i J5;have:=h n J5;omega
def Tf {n:Nat}{f g:TY}(h:∀ i,i<n->f i<=g i):sm n f<=sm n g:=by
 induction n with
 | zero=>exact Y1F _
 | succ n a =>
  show sm n f+f n<=sm n g+g n;have:=a λi hi=>h i J5;have:=h n J5;omega
def Kw {n:Nat}{f:TY}(h:0<sm n f):∃ i,i<n/\0<f i:=by
 apply YF;intro hn;have:sm n f<=sm n (λ_=>0):=Tf λi hi=>by
  have:¬ 0<f i:=λz=>hn ⟨i,hi,z⟩;omega
 rw[sm_zero (f:=λ_=>0) λ_ _=>rfl] at this;omega
def Kx (n m:Nat)(f:TY):sm (n+m) f=sm n f+sm m (λi=>f (n+i)):=by
 induction m with
 | zero=>show sm n f=sm n f+0;omega
 | succ m a =>
  show sm (n+m) f+f (n+m)=sm n f+(sm m (λi=>f (n+i))+f (n+m));rw[a];omega
def Z6m {n M:Nat}{f:TY}(h:∀ i,i<n->(f i).natAbs<=M):(sm n f).natAbs<=n*M:=by
 induction n with
 | zero=>show (0:Int).natAbs<=0*M;simp
 | succ n a =>
  show (sm n f+f n).natAbs<=(n+1)*M;have h1:=a λi hi=>h i J5;have h2:=h n J5;rw[Y0c];omega
abbrev Vec:=Nat->Int
abbrev Mat:=Nat->Vec
def skip (k i:Nat):Nat:=if i<k then i else i+1
def sgn:Nat->Int
 | 0=>1
 | n+1=>- sgn n
def minor (v:Mat)(k:Nat):Mat:=λi r=>v (skip k i) (r+1)
def det:Nat->Mat->Int
 | 0,_=>1
 | m+1,v=>sm (m+1) (λk=>sgn k*v k 0*det m (minor v k))
def put (v:Mat)(c:Nat)(x:Vec):Mat:=λi=>if i=c then x else v i
def put_eq (v:Mat)(c:Nat)(x:Vec):put v c x c=x:=YG rfl
def put_ne {v:Mat}{c:Nat}{x:Vec}(h:i≠c):put v c x i=v i:=YD h
def put_self (v:Mat)(c:Nat):put v c (v c)=v:=by
 funext i
 by_cases e:i=c
 ·subst e;exact put_eq ..
 exact put_ne e
def Xw {v:Mat}{c d:Nat}{x y:Vec}(h:c≠d):put (put v c x) d y=put (put v d y) c x:=by
 funext i
 by_cases e:i=c
 ·subst e;rw[put_ne h,put_eq,put_eq]
 by_cases e':i=d
 ·subst e';rw[put_eq,put_ne e,put_eq]
 rw[put_ne e',put_ne e,put_ne e,put_ne e']
theorem det_congr:∀ {m:Nat} {v w:Mat},(∀ k r,k<m->r<m->v k r=w k r)->det m v=det m w
 | 0,_,_,_=>rfl
 | m+1,v,w,h=>by
  refine Y1 λk hk=>?_;rw[h k 0 hk J5,det_congr (m:=m) (v:=minor v k) (w:=minor w k) λi r hi hr=>?_];exact h _ _ (by unfold skip;split <;> omega) J5
def unskip (k c:Nat):Nat:=if c<k then c else c - 1
def Ux (v:Mat)(c:Nat)(z:Vec):minor (put v c z) c=minor v c:=by
 funext i r
 show put v c z (skip c i) (r+1)=v (skip c i) (r+1);rw[put_ne (by unfold skip;split <;> omega)]
def Sj {v:Mat}{k c:Nat}{z:Vec}(h:k≠c):minor (put v c z) k=put (minor v k) (unskip k c) (λr=>z (r+1)):=by
 funext i r
 show put v c z (skip k i) (r+1)=_;by_cases e:skip k i=c
 ·have e':i=unskip k c:=by
   unfold skip at e;unfold unskip;split at e <;> split <;> omega
  rw[e,e',put_eq,put_eq]
 have e':i≠unskip k c:=by
  unfold skip at e;unfold unskip;split at e <;> split <;> omega
 rw[put_ne e,put_ne e'];rfl
theorem Ty:∀ {m:Nat} {v:Mat} {c:Nat} {a b:Int} {x y:Vec},c<m->det m (put v c (λr=>a*x r+b*y r))=a*det m (put v c x)+b*det m (put v c y)
 | 0,_,_,_,_,_,_,h=>J5
 | m+1,v,c,a,b,x,y,h=>by
  show sm (m+1) _=a*sm (m+1) _+b*sm (m+1) _;rw[<-Yv,<-Yv,<-Wh];refine Y1 λk hk=>?_;by_cases e:k=c
  ·subst e;rw[Ux,Ux,Ux,put_eq,put_eq,put_eq];grind
  rw[Sj e,Sj e,Sj e,put_ne e,put_ne e,put_ne e];have:=Ty (m:=m) (v:=minor v k) (c:=unskip k c) (a:=a) (b:=b) (x:=λr=>x (r+1)) (y:=λr=>y (r+1)) (by unfold unskip;split <;> omega);rw[this];grind
def Ki {m:Nat}{v:Mat}{c:Nat}(h:c<m):det m (put v c (λ_=>0))=0:=by
 have:=Ty (m:=m) (v:=v) (c:=c) (a:=0) (b:=0) (x:=λ_=>0) (y:=λ_=>0) h
 simpa using this
theorem det_sum {m:Nat}{v:Mat}{c:Nat}(h:c<m)(a:TY)(u:Nat->Vec):∀ n,det m (put v c (λr=>sm n (λk=>a k*u k r)))=sm n (λk=>a k*det m (put v c (u k)))
 | 0=>Ki h
 | n+1=>by
  have:=Ty (m:=m) (v:=v) (c:=c) (a:=1) (b:=a n) (x:=λr=>sm n (λk=>a k*u k r)) (y:=u n) h;show _=sm n (λk=>a k*det m (put v c (u k)))+a n*det m (put v c (u n));rw[<-det_sum h a u n];rw[zu] at this;rw[<-this]
  congr 2
  funext r
  show sm n _+_=_;rw[zu]
def det_smul {m:Nat}{v:Mat}{c:Nat}(h:c<m)(a:Int)(x:Vec):det m (put v c (λr=>a*x r))=a*det m (put v c x):=by
 have:=Ty (m:=m) (v:=v) (c:=c) (a:=a) (b:=0) (x:=x) (y:=x) h
 simpa using this
def Mw {m:Nat}{v:Mat}{c:Nat}(h:c<m)(x y:Vec):det m (put v c (λr=>x r+y r))=det m (put v c x)+det m (put v c y):=by
 have:=Ty (m:=m) (v:=v) (c:=c) (a:=1) (b:=1) (x:=x) (y:=y) h
 simpa using this
theorem Q0:∀ {m:Nat} {v:Mat} {p:Nat},p+1<m->v p=v (p+1)->det m v=0
 | 0,_,_,h,_=>J5
 | m+1,v,p,h,e=>by
  show sm (m+1) _=0;rw[Bq (p:=p) (q:=p+1) J5 h J5 λk hk h1 h2=>?_]
  ·have e2:minor v p=minor v (p+1):=by
    funext i r
    show v (skip p i) (r+1)=v (skip (p+1) i) (r+1);by_cases q:i=p
    ·have a1:skip p i=p+1:=by unfold skip;split <;> omega
     have a2:skip (p+1) i=p:=by unfold skip;split <;> omega
     rw[a1,a2,e]
    have a1:skip p i=skip (p+1) i:=by unfold skip;split <;> split <;> omega
    rw[a1]
   rw[e2,e];show sgn p*_*_ + -sgn p*_*_=0;grind
  have:det m (minor v k)=0:=by
   by_cases q:k<p
   ·refine Q0 (p:=p - 1) J5 ?_
    funext r
    show v (skip k (p - 1)) (r+1)=v (skip k (p - 1+1)) (r+1);have a1:skip k (p - 1)=p:=by unfold skip;split <;> omega
    have a2:skip k (p - 1+1)=p+1:=by unfold skip;split <;> omega
    rw[a1,a2,e]
   refine Q0 (p:=p) J5 ?_
   funext r
   show v (skip k p) (r+1)=v (skip k (p+1)) (r+1);have a1:skip k p=p:=by unfold skip;split <;> omega
   have a2:skip k (p+1)=p+1:=by unfold skip;split <;> omega
   rw[a1,a2,e]
  rw[this,GT]
def Kj {m:Nat}{v:Mat}{p q:Nat}(hp:p<m)(hq:q<m)(a:p≠q)(h0:∀ z:Vec,det m (put (put v p z) q z)=0)(x y:Vec):det m (put (put v p x) q y)=- det m (put (put v p y) q x):=by
 have e:=h0 (λr=>x r+y r);rw[Mw hq,Xw a,Mw hp,Xw (c:=p) a,Mw hp] at e;rw[Xw (XQ a),Xw (XQ a),Xw (XQ a),Xw (XQ a),h0 x,h0 y] at e;omega
theorem Mu:∀ (d:Nat) {m:Nat} {v:Mat} {p q:Nat},q=p+1+d->q<m->v p=v q->det m v=0
 | 0,m,v,p,q,h,hq,e=>Q0 (p:=p) J5 (by rw[e,h])
 | d+1,m,v,p,q,h,hq,e=>by
  have hz:∀ z:Vec,det m (put (put v (q - 1) z) q z)=0:=λz=>by
   refine Q0 (p:=q - 1) J5 ?_;have a:q - 1+1=q:=J5
   rw[a,put_eq,put_ne J5,put_eq]
  have s:=Kj (m:=m) (v:=v) (p:=q - 1) (q:=q) J5 hq J5 hz (v (q - 1)) (v q);rw[put_self,put_self] at s;have:det m (put (put v (q - 1) (v q)) q (v (q - 1)))=0:=by
   refine Mu d (p:=p) (q:=q - 1) J5 J5 ?_;rw[put_ne J5,put_ne J5,put_ne J5,put_eq,e]
  rw[s,this];rfl
def det_same {m:Nat}{v:Mat}{p q:Nat}(hp:p<m)(hq:q<m)(a:p≠q)(e:v p=v q):det m v=0:=by
 by_cases h:p<q
 ·exact Mu (q - p - 1) (p:=p) (q:=q) J5 hq e
 exact Mu (p - q - 1) (p:=q) (q:=p) J5 hp e.symm
def Z2q {m:Nat}{v:Mat}{p q:Nat}(hp:p<m)(hq:q<m)(a:p≠q)(x y:Vec):det m (put (put v p x) q y)=- det m (put (put v p y) q x) :=
 Kj hp hq a (λz=>det_same hp hq a (by rw[put_ne a,put_eq,put_eq])) x y
def idm:Mat:=λk r=>if k=r then 1 else 0
theorem det_id:∀ m:Nat,det m idm=1
 | 0=>rfl
 | m+1=>by
  show sm (m+1) _=1;rw[sm_one (k:=0) J5 λk hk h=>?_]
  ·have e:minor idm 0=idm:=by
    funext i r
    show (if skip 0 i=r+1 then (1:Int) else 0)=if i=r then 1 else 0
    have:skip 0 i=i+1:=by unfold skip;split <;> omega
    rw[this];by_cases q:i=r
    ·rw[YG q,YG J5]
    rw[YD q,YD J5]
   rw[e,det_id m];show (1:Int)*(if (0:Nat)=0 then 1 else 0)*1=1;rfl
  show sgn k*(if k=0 then 1 else 0)*_=0;rw[YD h];simp
theorem Rw:∀ k,(sgn k).natAbs=1
 | 0=>rfl
 | k+1=>by show (-sgn k).natAbs=1;rw[Y1G];exact Rw k
theorem Sw {M:Nat}:∀ {m:Nat} {v:Mat},(∀ k r,k<m->r<m->(v k r).natAbs<=M)->(det m v).natAbs<=(m*M) ^ m
 | 0,_,_=>by show (1:Int).natAbs<=1;decide
 | m+1,v,h=>by
  have key:(sm (m+1) (λk=>sgn k*v k 0*det m (minor v k))).natAbs<=(m+1)*(M*(m*M) ^ m):=Z6m λk hk=>by
   rw[GG,GG,Rw,Y28];exact zV (h k 0 hk J5) (Sw (m:=m) λi r hi hr=>h _ _ (by unfold skip;split <;> omega) J5)
  refine YM key ?_;rw[<-Y1Q,Y1r,zM];exact qx _ (Y1L (qx _ J5) _)
end _v
namespace _b
def Mq {a b c:Int}(h:a ∣ b*c)(g:Int.gcd a b=1):a ∣ c:=by
 have h1:a.natAbs ∣ b.natAbs*c.natAbs:=by
  rw[<-GG];exact zd.mpr h
 exact zd.mp (Nat.Coprime.dvd_of_dvd_mul_left g h1)
def Vj {r s:Rat}(hr:0<r.2)(hs:0<s.2)(g:Int.gcd r.1 r.2=1)(cs:Int.gcd s.1 s.2=1)(h:r.1*s.2=s.1*r.2):r=s:=by
 have d1:r.2 ∣ s.2:=by
  have:r.2 ∣ r.1*s.2:=⟨s.1,by rw[h,JD]⟩;exact Mq this (by rw[Y0I];exact g)
 have f:s.2 ∣ r.2:=by
  have:s.2 ∣ s.1*r.2:=⟨r.1,by rw[<-h,JD]⟩;exact Mq this (by rw[Y0I];exact cs)
 have e:r.2=s.2:=Int.dvd_antisymm J5 J5 d1 f;have e1:r.1=s.1:=by
  rw[e] at h;exact jh J5 h
 obtain⟨a,b⟩:=r;obtain⟨c,d⟩:=s;simp only at e e1;rw[e,e1]
def Pc {r:Rat}{W:Int}(hr:0<r.2)(a:Int.gcd r.1 r.2=1)(h:r.1*D=W*r.2):r.2 ∣ D :=
 Mq (show r.2 ∣ r.1*D from ⟨W,by rw[h,JD]⟩) (by rw[Y0I];exact a)
def Xe {a b:Int}(c:0<b)(h:a ∣ b):a.natAbs<=b.natAbs:=by
 have:=zd.mpr h;exact Nat.le_of_dvd J5 this
def Z0k {r:Rat}{W:Int}(a:0<D)(hr:0<r.2)(b:Int.gcd r.1 r.2=1)(h:r.1*D=W*r.2):r.1.natAbs<=W.natAbs/\r.2.natAbs<=D.natAbs:=by
 have d:=Pc hr b h;refine⟨?_,Xe a d⟩;obtain⟨k,e⟩:=d;have:W=r.1*k:=by
  rw[e] at h;have:(r.1*k)*r.2=W*r.2:=by rw[<-h];rw[GS,JD k]
  exact (jh J5 this).symm
 rw[this,GG];refine Y02 _ ?_;have:k≠0:=by
  intro z;rw[z] at e;simp at e;omega
 omega
def Wv {n:Nat}{r:Rat}{W:Int}(b:0<D)(hr:0<r.2)(a:Int.gcd r.1 r.2=1)(h:r.1*D=W*r.2)(bD:Bd n D)(c:Bd n W):Good n r :=
 ⟨c.of_le' (Z0k b hr a h).1,bD.of_le' (Z0k b hr a h).2,hr,a⟩
def Nv {p q:Int}(_:q≠0):(nrm p q).1*q=p*(nrm p q).2:=Wt p q
theorem Z3t {r s:Rat}{a D2 c b:Int}(hr:0<r.2)(hs:0<s.2)(h1:r.1*a=c*r.2)(h2:s.1*D2=b*s.2):(mulR' r s).1*(a*D2)=(c*b)*(mulR' r s).2:=by
 have d:(mulR' r s).1*(r.2*s.2)=(r.1*s.1)*(mulR' r s).2:=Wt _ _;generalize mulR' r s=m at *
 have:(r.2*s.2)*(m.1*(a*D2))=(r.2*s.2)*(c*b*m.2):=ZJ
 exact GB (Wn hr hs) this
theorem Gm {r s:Rat}{b a:Int}(hr:0<r.2)(hs:0<s.2)(h1:r.1*D=b*r.2)(h2:s.1*D=a*s.2):(addR r s).1*D=(b+a)*(addR r s).2:=by
 have c:(addR r s).1*(r.2*s.2)=(r.1*s.2+s.1*r.2)*(addR r s).2:=Wt _ _;generalize addR r s=m at *
 have:(r.2*s.2)*(m.1*D)=(r.2*s.2)*((b+a)*m.2):=ZJ
 exact GB (Wn hr hs) this
theorem Rx {r s:Rat}{b a:Int}(hr:0<r.2)(hs:0<s.2)(h1:r.1*D=b*r.2)(h2:s.1*D=a*s.2):(subR r s).1*D=(b - a)*(subR r s).2:=by
 have c:(subR r s).1*(r.2*s.2)=(r.1*s.2 - s.1*r.2)*(subR r s).2:=Wt _ _;generalize subR r s=m at *
 have:(r.2*s.2)*(m.1*D)=(r.2*s.2)*((b - a)*m.2):=ZJ
 exact GB (Wn hr hs) this
structure Low (r:Rat):Prop where
 pos:0<r.2
 cop:Int.gcd r.1 r.2=1
def Good.low {n:Nat}{r:Rat}(h:Good n r):Low r:=⟨h.pos,h.cop⟩
def Yp {p q:Int}(h:q≠0):Low (nrm p q):=⟨Mf h,Z1v h⟩
def Mh {r s:Rat}(hr:Low r)(hs:Low s):Low (addR r s):=Yp (Wn hr.pos hs.pos)
def Ts {r s:Rat}(hr:Low r)(hs:Low s):Low (subR r s):=Yp (Wn hr.pos hs.pos)
def Mg {r s:Rat}(hr:Low r)(hs:Low s):Low (mulR' r s):=Yp (Wn hr.pos hs.pos)
def Qo:Low (0,1):=⟨by decide,by decide⟩
def F7:Low (1,1):=⟨by decide,by decide⟩
structure RepL (n:Nat)(D:Int)(Ws:TV)(rs:UA):Prop where
 pos:0<D
 bD:Bd n D
 len:Ws.length=rs.length
 at_:∀ (i:Nat) (W:Int) (r:Rat),Ws[i]?=some W->rs[i]?=some r->r.1*D=W*r.2/\Bd n W/\Low r
theorem RepL.good {n:Nat}(h:RepL n D Ws rs):∀ r∈rs,Good n r:=λr hr=>by
 obtain⟨i,hi⟩:=XL hr;have hl:i<rs.length:=(YH.mp hi).1;have hw:i<Ws.length:=by rw[h.len];exact hl
 obtain⟨e,b,l⟩:=h.at_ i Ws[i] r (by simp[hw]) hi;exact Wv h.pos l.pos l.cop e h.bD b
def lcm1 (l b:Int):Int:=(l*b).fdiv (Int.gcd l b)
def Nb {l b:Int}(hl:0<l)(d:0<b):0<lcm1 l b/\l ∣ lcm1 l b/\b ∣ lcm1 l b/\∀ D,l ∣ D->b ∣ D->lcm1 l b ∣ D:=by
 have hg:0<(Int.gcd l b:Int):=by
  have:=Y0K b (show l≠0 by omega);omega
 obtain⟨x,ex⟩:=Y1j (a:=l) (b:=b);obtain⟨y,e⟩:=Y0d (a:=l) (b:=b);have e1:lcm1 l b=x*b:=by
  unfold lcm1;have:l*b=(x*b)*(Int.gcd l b:Int):=by
   conv=>lhs;rw[ex]
   rw[JD (Int.gcd l b:Int),GS,JD (Int.gcd l b:Int),<-GS]
  rw[this,Y0E _ J5]
 have e2:lcm1 l b=l*y:=by
  unfold lcm1;have:l*b=(l*y)*(Int.gcd l b:Int):=by
   conv=>lhs;rw[e]
   rw[JD (Int.gcd l b:Int),GS]
  rw[this,Y0E _ J5]
 have hx:0<x:=by
  apply YF;intro z;have:(Int.gcd l b:Int)*x<=0:=Int.mul_nonpos_of_nonneg_of_nonpos J5 J5;omega
 refine⟨by rw[e1];exact XG hx d,⟨y,e2⟩,⟨x,by rw[e1,JD]⟩,λD h1 h2=>?_⟩;have:(lcm1 l b).natAbs ∣ D.natAbs:=by
  have e3:(lcm1 l b).natAbs=Nat.lcm l.natAbs b.natAbs:=by
   unfold Nat.lcm;have g:Nat.gcd l.natAbs b.natAbs=Int.gcd l b:=rfl;rw[g];have c:(lcm1 l b).natAbs*Int.gcd l b=l.natAbs*b.natAbs:=by
    rw[<-GG,e1];have:((x*b).natAbs)*Int.gcd l b=(x*b*(Int.gcd l b:Int)).natAbs:=by
     rw[GG (x*b)];rfl
    rw[this]
    congr 1
    conv=>rhs;rw[ex]
    rw[GS,JD b,<-GS,JD x]
   rw[<-c];exact (Nat.mul_div_cancel _ J5).symm
  rw[e3];exact Nat.lcm_dvd (zd.mpr h1) (zd.mpr h2)
 exact zd.mp this
def lcmB (rs:UA):Int:=rs.foldl (λl r=>lcm1 l r.2) 1
def Ca (rs:UA)(r:Rat):lcmB (rs++[r])=lcm1 (lcmB rs) r.2:=by
 unfold lcmB;rw[List.foldl_append];rfl
def C9 {r:Rat}(h:rs[i]?=some r):lcmB (rs.take (i+1))=lcm1 (lcmB (rs.take i)) r.2:=by rw[Ye h,Ca]
theorem Kc:∀ (rs:UA) (l:Int),0<l->(∀ r∈rs,0<r.2)->0<rs.foldl (λl r=>lcm1 l r.2) l/\l ∣ rs.foldl (λl r=>lcm1 l r.2) l/\(∀ r∈rs,r.2 ∣ rs.foldl (λl r=>lcm1 l r.2) l)/\∀ D,l ∣ D->(∀ r∈rs,r.2 ∣ D)->rs.foldl (λl r=>lcm1 l r.2) l ∣ D
 | [],l,hl,_=>⟨hl,Int.dvd_refl _,(λ_ h=>nomatch h),λD h _=>h⟩
 | r::t,l,hl,h=>by
  obtain⟨p,d1,d,m⟩:=Nb hl (h r XC);obtain⟨c,a,b,e⟩:=Kc t (lcm1 l r.2) p λx hx=>h x (YV _ hx);refine⟨c,Y1R d1 a,λx hx=>?_,λD h1 h2=>e D (m D h1 (h2 r XC)) λx hx=>h2 x (YV _ hx)⟩;rcases YU.mp hx with rfl | hx
  ·exact Y1R d a
  exact b x hx
def Sl (h:∀ r∈rs,0<r.2):0<lcmB rs/\(∀ r∈rs,r.2 ∣ lcmB rs)/\∀ D,(∀ r∈rs,r.2 ∣ D)->lcmB rs ∣ D:=by
 obtain⟨p,_,d,m⟩:=Kc rs 1 J6 h;exact⟨p,d,λD a=>m D (Int.one_dvd _) a⟩
def wholeB (rs:UA)(D:Int):List Int:=rs.map λr=>r.1*D.fdiv r.2
def Vf {r:Rat}(h:r.2 ∣ D):r.1*D=(r.1*D.fdiv r.2)*r.2:=by
 have:=T7 h;rw[GS,this]
theorem RepL.least {n:Nat}(h:RepL n D Ws rs):RepL n (lcmB rs) (wholeB rs (lcmB rs)) rs:=by
 have low:∀ r∈rs,Low r:=λr hr=>(h.good r hr).low;obtain⟨p,d,m⟩:=Sl λr hr=>(low r hr).pos;have j:∀ r∈rs,r.2 ∣ D:=λr hr=>by
  obtain⟨i,hi⟩:=XL hr;have hl:i<rs.length:=(YH.mp hi).1;have hw:i<Ws.length:=by rw[h.len];exact hl
  obtain⟨e,b,l⟩:=h.at_ i Ws[i] r (by simp[hw]) hi;exact Pc l.pos l.cop e
 have hd:=m D j;refine⟨p,h.bD.of_le' (Xe h.pos hd),by unfold wholeB;rw[YC],λi W r c hr=>?_⟩;have a:=YE hr;have hl:i<rs.length:=(YH.mp hr).1;have hw:i<Ws.length:=by rw[h.len];exact hl
 obtain⟨e,b,l⟩:=h.at_ i Ws[i] r (by simp[hw]) hr;unfold wholeB at c;rw[YI,hr] at c
 cases c;refine⟨Vf (d r a),?_,l⟩;obtain⟨k,f⟩:=hd;have e1:=Vf (D:=lcmB rs) (d r a);have hk:Ws[i]=(r.1*(lcmB rs).fdiv r.2)*k:=by
  have:(r.1*(lcmB rs).fdiv r.2*k)*r.2=Ws[i]*r.2:=by
   rw[<-e,f,<-GS,e1];grind
  exact (jh (by have:=l.pos;omega) this).symm
 have g:k≠0:=by
  intro z;rw[z,GT] at f;have:=h.pos;omega
 refine b.of_le' ?_;rw[hk,GG _ k];exact Y02 _ J5
def Mn {a b:Int}(ha:0<a)(c:0<b):(a.fdiv b).natAbs<=a.natAbs:=by
 rw[Int.fdiv_eq_ediv_of_nonneg _ J5];have h1:=Int.ediv_nonneg (show 0<=a by omega) (show 0<=b by omega);have h2:=Int.ediv_le_self b (show 0<=a by omega);omega
theorem Rm {n:Nat}:∀ (rs:UA) (l:Int) (m:Nat),0<l->Bd m l->(∀ r∈rs,0<r.2/\Bd n r.2)->Bd (m+n*rs.length) (rs.foldl (λl r=>lcm1 l r.2) l)
 | [],l,m,_,b,_=>b
 | r::t,l,m,hl,b,h=>by
  obtain⟨hp,a⟩:=h r XC;obtain⟨p,_,_,c⟩:=Nb hl hp;have:Bd (m+n) (lcm1 l r.2):=(b.mul a).of_le' (Xe (XG hl hp) (c _ (Int.dvd_mul_right ..) (Int.dvd_mul_left ..)));have:=Rm t (lcm1 l r.2) (m+n) p this λx hx=>h x (YV _ hx);rw[XW,Y26];exact this.mono J5
def RepL.of_good {n:Nat}(h:∀ r∈rs,Good n r):RepL (n*(rs.length+1)+1) (lcmB rs) (wholeB rs (lcmB rs)) rs:=by
 obtain⟨p,d,_⟩:=Sl λr hr=>(h r hr).pos;have b:Bd (1+n*rs.length) (lcmB rs):=Rm rs 1 1 J6 (by show (1:Int).natAbs<2 ^ 1;decide) λr hr=>⟨(h r hr).pos,(h r hr).b2⟩;refine⟨p,b.mono (by rw[Y26];omega),by unfold wholeB;rw[YC],λi W r c hr=>?_⟩;have a:=YE hr;unfold wholeB at c;rw[YI,hr] at c
 cases c;exact⟨Vf (d r a),((h r a).b1.mul (b.of_le' (Mn p (h r a).pos))).mono (by rw[Y26];omega),(h r a).low⟩
def dot:List Int->List Int->Int
 | x::xs,y::ys=>x*y+dot xs ys
 | _,_=>0
def Z2y {n:Nat}:∀ (xs:TV),(∀ x∈xs,Bd n x)->∀ k,xs.length<=2 ^ k->Bd (n+k) xs.sum:=λxs h k hk=>by
 have key:∀ (xs:TV),(∀ x∈xs,Bd n x)->xs.sum.natAbs<=xs.length*(2 ^ n - 1):=λxs=>by
  induction xs with
  | nil=>intro _;simp
  | cons a t b =>
   intro h;have h1:=b λx hx=>h x (YV _ hx);have h2:a.natAbs<2 ^ n:=h a XC;rw[jd,XW,Y0c];omega
 have h1:=key xs h;unfold Bd;have h2:xs.length*(2 ^ n - 1)<=2 ^ k*(2 ^ n - 1):=qx _ hk;have c:2 ^ k*(2 ^ n - 1)<2 ^ (n+k):=by
  rw[Y01,zM (2 ^ n)];have:0<2 ^ n:=Y29 J6;exact Nat.mul_lt_mul_of_pos_left J5 (Y29 J6)
 omega
theorem Gk {D:Int}(g:0<D):∀ (b:TV) (zs:UA),b.length=zs.length->(∀ (i:Nat) (N:Int) (z:Rat),b[i]?=some N->zs[i]?=some z->z.1*D=N*z.2/\Low z)->∀ (a:Rat) (A:Int),Low a->a.1*D=A*a.2->(zs.foldl addR a).1*D=(A+b.sum)*(zs.foldl addR a).2/\Low (zs.foldl addR a)
 | [],[],_,_,a,A,la,ha=>⟨by simpa using ha,la⟩
 | [],_::_,h,_,_,_,_,_=>by simp at h
 | _::_,[],h,_,_,_,_,_=>by simp at h
 | N::b,z::zs,h,hz,a,A,la,ha=>by
  obtain⟨e,c⟩:=hz 0 N z rfl rfl;obtain⟨h1,h2⟩:=Gk g b zs (by simpa using h) (λi f d e1 e2=>hz (i+1) f d (by simpa using e1) (by simpa using e2)) (addR a z) (A+N) (Mh la c) (Gm la.pos c.pos ha e);refine⟨?_,h2⟩;rw[jd,<-Int.add_assoc];exact h1
theorem RepL.mul {n n':Nat}{D D':Int}{Ws Rs:TV}{ws rs:UA}(h:RepL n D Ws ws)(h':RepL n' D' Rs rs)(hl:ws.length=rs.length):RepL (n+n') (D*D') (List.zipWith (·*·) Ws Rs) (List.zipWith mulR' ws rs):=by
 refine⟨XG h.pos h'.pos,h.bD.mul h'.bD,by rw[JV,JV,h.len,h'.len],λi W r a hr=>?_⟩;rw[GM] at a hr
 cases e1:Ws[i]? with
 | none=>rw[e1] at a;cases a
 | some x =>
  cases e2:Rs[i]? with
  | none=>rw[e1,e2] at a;cases a
  | some y =>
   cases e3:ws[i]? with
   | none=>rw[e3] at hr;cases hr
   | some u =>
    cases b:rs[i]? with
    | none=>rw[e3,b] at hr;cases hr
    | some v =>
     rw[e1,e2] at a;rw[e3,b] at hr
     cases a
     cases hr;obtain⟨a1,b1,c⟩:=h.at_ i x u e1 e3;obtain⟨a2,b2,d⟩:=h'.at_ i y v e2 b;exact⟨Z3t c.pos d.pos a1 a2,b1.mul b2,Mg c d⟩
theorem RepL.sum {n:Nat}{D:Int}{a:TV}{zs:UA}(h:RepL n D a zs):(zs.foldl addR (0,1)).1*D=a.sum*(zs.foldl addR (0,1)).2/\Low (zs.foldl addR (0,1)):=by
 have:=Gk h.pos a zs h.len (λi N z e1 e2=>⟨(h.at_ i N z e1 e2).1,(h.at_ i N z e1 e2).2.2⟩) (0,1) 0 Qo J7
 rwa [Int.zero_add] at this
theorem RepL.take {n:Nat}{D:Int}{b:TV}{zs:UA}(h:RepL n D b zs)(i:Nat):RepL n D (b.take i) (zs.take i):=by
 refine⟨h.pos,h.bD,by rw[JX,JX,h.len],λj W r a hr=>?_⟩;rw[Y1Y] at a hr;split at a
 ·rename_i q
  rw[YG q] at hr;exact h.at_ j W r a hr
 cases a
theorem RepL.sumGood {n k:Nat}{a:TV}{zs:UA}(h:RepL n D a zs)(hk:zs.length<=2 ^ k):Good (n+k) (zs.foldl addR (0,1)):=by
 obtain⟨e,l⟩:=h.sum;refine Wv h.pos l.pos l.cop e (h.bD.mono J5) (Z2y a (λx hx=>?_) k (by rw[h.len];exact hk));obtain⟨i,hi⟩:=XL hx;have hl:i<a.length:=(YH.mp hi).1;have hz:i<zs.length:=by rw[<-h.len];exact hl
 exact (h.at_ i x zs[i] hi (by simp[hz])).2.1
theorem Z50 {n n':Nat}{D':Int}{Rs:TV}{ws:UA}(h:RepL n D Ws ws)(h':RepL n' D' Rs rs)(hl:ws.length=rs.length) :
  nrm (List.zipWith (·*·) Ws Rs).sum (D*D')=(List.zipWith mulR' ws rs).foldl addR (0,1):=by
 have m:=h.mul h' hl;obtain⟨e,l⟩:=m.sum;have a:D*D'≠0:=by have:=m.pos;omega
 have l':=Yp (p:=(List.zipWith (·*·) Ws Rs).sum) a;have e':=Nv (p:=(List.zipWith (·*·) Ws Rs).sum) a;refine Vj l'.pos l.pos l'.cop l.cop ?_;generalize (List.zipWith mulR' ws rs).foldl addR (0,1)=u at *
 generalize nrm (List.zipWith (·*·) Ws Rs).sum (D*D')=v at *
 generalize (List.zipWith (·*·) Ws Rs).sum=N at *
 generalize D*D'=E at *
 have:E*(v.1*u.2)=E*(u.1*v.2):=ZJ
 exact GB a this
open PySem _L
def sumR (rs:UA):Rat:=rs.foldl addR (0,1)
def D0 (rs:UA)(r:Rat):sumR (rs++[r])=addR (sumR rs) r:=by
 unfold sumR;rw[List.foldl_append];rfl
def Fz {r:Rat}(h:rs[i]?=some r):sumR (rs.take (i+1))=addR (sumR (rs.take i)) r:=by rw[Ye h,D0]
def isW (rs:UA):Bool:=!((rs.map λr=>ltR r (0,1)).any id) && decide (sumR rs=(1,1))
theorem Ku:∀ (ns:TV) (m:Int),(∀ z∈ns,0<=z/\z<=m)->0<=ns.sum/\ns.sum<=m*ns.length
 | [],m,_=>J7
 | z::t,m,h=>by
  obtain⟨h1,h2⟩:=Ku t m λx hx=>h x (YV _ hx);obtain⟨a,b⟩:=h z XC;rw[jd,XW];have:m*((t.length+1:Nat):Int)=m*t.length+m:=by rw[Int.natCast_add,Y27];simp
  omega
theorem Ge:∀ (ns:TV),(∀ z∈ns,0<=z)->(∃ z∈ns,1<=z)->1<=ns.sum
 | [],_,h=>by obtain⟨z,hz,_⟩:=h;cases hz
 | y::t,h0,h=>by
  have d:0<=t.sum:=by
   have:∀ l:List Int,(∀ z∈l,0<=z)->0<=l.sum:=λl=>by
    induction l with
    | nil=>intro _;simp
    | cons a r b =>
     intro h;have:=b λx hx=>h x (YV _ hx);have:=h a XC;rw[jd];omega
   exact this t λx hx=>h0 x (YV _ hx)
  have c:=h0 y XC;rw[jd];obtain⟨z,hz,h1⟩:=h;rcases YU.mp hz with e | e
  ·subst e;omega
  have:=Ge t (λx hx=>h0 x (YV _ hx)) ⟨z,e,h1⟩;omega
end _b
namespace _b
def Tc {α β:Type}(f:α->β){l:List α}{i:Nat}{x:α}(h:l[i]?=some x):(l.map f).take (i+1)=(l.map f).take i++[f x]:=Ye (by rw[YI,h];rfl)
open _v (sm Y1 Wh Yv sm_zero Y2 Y0 Tf)
theorem Ve:∀ (c:Nat) (As Bs:TV),As.length=c->Bs.length=c->(List.zipWith (·*·) As Bs).sum=sm c (λi=>As.getD i 0*Bs.getD i 0)
 | 0,As,Bs,h1,h2=>by
  rw[zX h1];rfl
 | c+1,As,Bs,h1,h2=>by
  have e1:As=As.take c++[As.getD c 0]:=by
   have:As[c]?=some (As.getD c 0):=by simp[List.getD,show c<As.length by omega]
   rw[<-Ye this,YW J5]
  have e2:Bs=Bs.take c++[Bs.getD c 0]:=by
   have:Bs[c]?=some (Bs.getD c 0):=by simp[List.getD,show c<Bs.length by omega]
   rw[<-Ye this,YW J5]
  have d:(As.take c).length=c:=by rw[JX];omega
  have a:(Bs.take c).length=c:=by rw[JX];omega
  have b:=Ve c (As.take c) (Bs.take c) d a
  conv=>lhs;rw[e1,e2]
  rw[Y1K J5];rw[List.sum_append,b];show _+(As.getD c 0*Bs.getD c 0+0)=sm c _+As.getD c 0*Bs.getD c 0;rw[Int.add_zero]
  congr 1
  refine Y1 λi hi=>?_;have g:∀ L:List Int,c<=L.length->(L.take c).getD i 0=L.getD i 0:=λL e=>by
   simp[List.getD,Y1Y,hi]
  rw[g As J5,g Bs J5]
def cutZ (o:TW)(Zs:TV):List Int:=Zs.mapIdx λi z=>if inE o i then z else 0
def W0 (o:TW)(Zs:TV):(cutZ o Zs).length=Zs.length:=by unfold cutZ;simp
def Mx {o:TW}:(cutZ o Zs)[i]?=(Zs[i]?).map λz=>if inE o i then z else 0:=by
 unfold cutZ;rw[Y0u]
def Wf (o:TW)(Zs:TV)(i:Nat):(cutZ o Zs).getD i 0=if inE o i then Zs.getD i 0 else 0:=by
 simp only [List.getD,Mx]
 cases Zs[i]? with
 | none=>simp
 | some z=>rfl
def bd0 (n:Nat):Bd n 0:=by
 show (0:Int).natAbs<2 ^ n;exact Y29 J6
theorem RepL.cut {n:Nat}(h:RepL n D Zs rs)(o:TW):RepL n D (cutZ o Zs) (cutR o rs):=by
 refine⟨h.pos,h.bD,by rw[W0,Yo,h.len],λi W r c hr=>?_⟩;have hl:i<rs.length:=by
  have:=(YH.mp hr).1
  rwa [Yo] at this
 have hz:i<Zs.length:=by rw[h.len];exact hl
 rw[Ww (r:=rs[i]) (by simp[hl])] at hr;rw[Mx,show Zs[i]?=some Zs[i] by simp[hz]] at c
 cases hr
 cases c;obtain⟨a,b,l⟩:=h.at_ i Zs[i] rs[i] (by simp[hz]) (by simp[hl]);split
 ·exact⟨a,b,l⟩
 exact⟨J7,bd0 n,Qo⟩
def RepL.ones (c:Nat):RepL 1 1 (List.replicate c 1) (List.replicate c (1,1)):=by
 refine⟨J6,by show (1:Int).natAbs<2 ^ 1;decide,J7,λi W r a hr=>?_⟩;have h1:=zh (YE a);have h2:=zh (YE hr);subst h1 h2;exact⟨rfl,by show (1:Int).natAbs<2 ^ 1;decide,F7⟩
theorem RepL.mono {m n:Nat}{D:Int}{Zs:TV}{rs:UA}(h:RepL m D Zs rs)(k:m<=n):RepL n D Zs rs :=
 ⟨h.pos,h.bD.mono k,h.len,λi W r a hr=>⟨(h.at_ i W r a hr).1,(h.at_ i W r a hr).2.1.mono k,(h.at_ i W r a hr).2.2⟩⟩
def RepL.of_map {n:Nat}{D:Int}(b:0<D)(bD:Bd n D){α:Type}(l:List α)(f:α->Rat)(g:α->Int)(h:∀ x∈l,(f x).1*D=g x*(f x).2/\Bd n (g x)/\Low (f x)):RepL n D (l.map g) (l.map f):=by
 refine⟨b,bD,J7,λi W r a hr=>?_⟩;rw[YI] at a hr
 cases e:l[i]? with
 | none=>rw[e] at a;cases a
 | some x =>
  rw[e] at a hr
  cases a
  cases hr;exact h x (YE e)
def V5 {r:Rat}{W:Int}(k:Int)(h:r.1*D=W*r.2):r.1*(D*k)=(W*k)*r.2:=by
 rw[<-GS,h,GS,JD r.2,<-GS]
def Z0j {b a q:Rat}{S M:Int}(hm:0<b.2)(hs:0<a.2)(h1:b.1*(D*6)=M*b.2)(h2:a.1*(D*1)=S*a.2)(hq:q.1*(b.2*a.1)=(b.1*a.2)*q.2):q.1*(6*S)=M*q.2:=by
 have:(b.2*a.2)*(q.1*(6*S))=(b.2*a.2)*(M*q.2):=by
  have e1:(b.2*a.2)*(q.1*(6*S))=q.1*b.2*6*(S*a.2):=ZJ
  have e2:(b.2*a.2)*(M*q.2)=(M*b.2)*a.2*q.2:=ZJ
  rw[e1,e2,<-h1,<-h2];have e3:q.1*b.2*6*(a.1*(D*1))=(q.1*(b.2*a.1))*(6*D):=ZJ
  rw[e3,hq];grind
 exact GB (Wn hm hs) this
def FitR (n:Nat)(Ws:TV)(rs:UA):Prop:=∃ (D:Int) (Zs:TV),RepL n D Zs rs/\(List.zipWith (·*·) Ws Zs).sum<=0
section
variable {c:Nat}{Ro:TV}{o:TW}
def Z5m (a:Ws.length=c)(b:Ro.length=c)(t k C:Int) :
  (List.zipWith (·*·) Ws (cutZ o (Ro.map λz=>t*(z*k - C)))).sum=t*(k*(List.zipWith (·*·) Ws (cutZ o Ro)).sum - C*(List.zipWith (·*·) Ws (cutZ o (List.replicate c 1))).sum):=by
 rw[Ve c _ _ a (by rw[W0,YC];exact b),Ve c _ _ a (by rw[W0];exact b),Ve c _ _ a (by rw[W0];simp)];have e:∀ i,i<c->Ws.getD i 0*(cutZ o (Ro.map λz=>t*(z*k - C))).getD i 0=(t*k)*(Ws.getD i 0*(cutZ o Ro).getD i 0)+(-(t*C))*(Ws.getD i 0*(cutZ o (List.replicate c 1)).getD i 0):=λi hi=>by
  rw[Wf,Wf,Wf];have a1:(Ro.map λz=>t*(z*k - C)).getD i 0=t*(Ro.getD i 0*k - C):=by
   simp[List.getD,show i<Ro.length by omega]
  have a2:(List.replicate c (1:Int)).getD i 0=1:=by simp[List.getD,hi]
  rw[a1,a2];split
  ·grind
  simp
 rw[Y1 e,Wh,Yv,Yv];grind
end
def Z2p {m n k:Nat}{As Bs:TV}(ha:∀ z∈As,Bd m z)(c:∀ z∈Bs,Bd n z)(hl:As.length<=2 ^ k):Bd (m+n+k) (List.zipWith (·*·) As Bs).sum:=by
 refine Z2y _ (λx hx=>?_) k (by rw[JV];omega);obtain⟨i,hi⟩:=XL hx;rw[GM] at hi
 cases e1:As[i]? with
 | none=>rw[e1] at hi;cases hi
 | some a =>
  cases e2:Bs[i]? with
  | none=>rw[e1,e2] at hi;cases hi
  | some b =>
   rw[e1,e2] at hi
   cases hi;exact (ha a (YE e1)).mul (c b (YE e2))
def RepL.bdW {n:Nat}(h:RepL n D Zs rs):∀ z∈Zs,Bd n z:=λz hz=>by
 obtain⟨i,hi⟩:=XL hz;have hl:i<Zs.length:=(YH.mp hi).1;have hr:i<rs.length:=by rw[<-h.len];exact hl
 exact (h.at_ i z rs[i] hi (by simp[hr])).2.1
open PySem _L
structure Goes (J:It)(H:Hp)(xs:TZ):Prop where
 go:∀ (i:Nat) (H':Hp),Same H H'->i<xs.length->J.go i H'
 yld:∀ (i:Nat) (H':Hp) (x:V) (H'':Hp),Same H H'->J.yld i H' x H''->H''=H'/\xs[i]?=some x
 stop:∀ H':Hp,Same H H'->J.stop xs.length H'
theorem Z97 {a:Addr}(h:SqL K H a xs):Goes (Itl K a) H xs :=
 ⟨λi H' S hi=>⟨xs,xs[i],X9 S h,by simp[hi]⟩,λ_ _ _ _ S ⟨e,f⟩=>⟨e,f xs (X9 S h)⟩,λ_ S=>⟨xs,X9 S h,YJ _⟩⟩
theorem Z96 {a:Addr}(h:SqT K H a xs):Goes (Itt K a) H xs :=
 ⟨λi H' S hi=>⟨xs,xs[i],Zo S h,by simp[hi]⟩,λ_ _ _ _ S ⟨e,f⟩=>⟨e,f xs (Zo S h)⟩,λ_ S=>⟨xs,Zo S h,YJ _⟩⟩
section
open PySem.Spec PyProof.Rows
variable {X:Cx}
inductive iAny_i (K:TR) (R:(It->Hp->Prop)) (x:V) (H1:Hp):Prop
 | mk (a:Addr) (xs:TZ) (zz0:x=.ref a) (zz1:(SqL K H1 a xs \/ SqT K H1 a xs)) (zz2:∀ J:It,Goes J H1 xs->R J H1)
def iAny (K:TR)(tl:TE):TI:=λσ H R=>tl σ H (iAny_i K R)
theorem Z76 {l:Expr}(hl:PE X l tl):PI X tg l (iAny X.K tl):=by
 intro pins s σ H R I h;refine thn (hl pins s σ H _ I h) λv s1 ⟨x,H1,c,r1,f⟩=>?_;obtain⟨a,xs,e,hq | hq,q⟩:=f
 ·subst e
  cases r1;obtain⟨its,rv,p,hz⟩:=c.list hq;refine zL p.isList ?_;refine⟨s1.heap.objs.size,[s1.heap.objs.size],_,_,H1,rfl,c.kept (t':=s1.toks) λb o e=>YB _ e,Sd a _,⟨_,YN _ rfl,rfl,rfl⟩,λb d=>?_,q _ (Z97 hq)⟩;have e:b=s1.heap.objs.size:=by simpa using d
  subst e;exact c.fpOk (YJ _) (c.hok.fresh (YJ _))
 subst e
 cases r1;obtain⟨its,rv,p,hz⟩:=c.tuple hq;refine jy (show s1.heap.IsTuple a its.toArray from p) ?_;refine⟨s1.heap.objs.size,[s1.heap.objs.size],_,_,H1,rfl,c.kept (t':=s1.toks) λb o e=>YB _ e,Up a _,⟨_,YN _ rfl,rfl,rfl⟩,λb d=>?_,q _ (Z96 hq)⟩;have e:b=s1.heap.objs.size:=by simpa using d
 subst e;exact c.fpOk (YJ _) (c.hok.fresh (YJ _))
end
open PySem.Spec PyProof.Rows
section
variable {X:Cx}
theorem X6 {x:Str}{pos' n:Pos}{u c:Expr}{B:TL}{pos:Pos}{wi:TI}{g:TG}{N:TF}{k:Nat}{fv:List Nat}{ox:Option Str}
  (M:X.N.Nodup) (S:X.N[i]?=some x) (hx:Loc X.env.scope x)
  (hc:X.calm=true) (hi:PI X tg c wi) (hg:∀ cl C fp s H,PG (compCx X N scope ox cl C fp s H) tg g) (ht:∀ cl C fp s H,PTs (compCx X N scope ox cl C fp s H) B tt) (he:∀ cl C fp s H,PE (compCx X N scope ox cl C fp s H) u te)
  (hw:∀ r x H Q,g x (List.replicate k none++r) H Q->g x (List.replicate k none++r) H λE H4=>Q E H4/\Weaker E (List.replicate k none++r))
  (hN:N.length=k+fv.length:=by rfl) (Y:fv.map (λj=>X.N[j]?)=(N.drop k).map some:=by rfl) (hk:(N.drop k).map X.env.kindOf=(N.drop k).map (λ_=>some .cell):=by rfl)
  (V:∀ y∈N.drop k,scope.names.lookup y=some .free:=by decide +kernel) (K:∀ y∈scope.names,y.2=.free->y.1∈N.drop k:=by decide +kernel)
  (F:(scope.names.filter λy=>y.2 == .cell)=ox.toList.map (λx=>(x,.cell)):=by decide +kernel) (R:∀ y∈N.drop k,ox≠some y:=by decide +kernel) (d:scope.kind=.function:=by rfl) (f:∀ y∈scope.names,y.2=.local->scope.names.lookup y.1=some .local:=by decide +kernel)
  (hs:∀ x,foldedSetIterable c X.env x=pure x:=by intro _;rfl)
  (W:swapsWith (.ListComp u [⟨tg,c,B,0⟩] scope pos) (some (.Name x pos')) n.line X.env=pure true:=by rfl)
  (hf:X.fn x=true \/ X.env.scope.names.lookup x=some .local:=by first | exact .inl rfl | exact .inr rfl | assumption) :
  PS X (.Assign [.Name x pos'] (.ListComp u [⟨tg,c,B,0⟩] scope pos) n) (tAsg (tComp wi g tt te k fv) (gName i)):=by
 intro pins s σ H D I h;have kc:∀ y∈N.drop k,X.env.kindOf y=some .cell:=λy P=>by
  obtain⟨j,hj⟩:=XL P;have a:=congrArg (λl=>l[j]?) hk;simp only [YI,hj,jt] at a;exact YR a
 obtain⟨cl,t,h1,h2⟩:=Um (env:=X.env) (scope:=scope) λy P hf=>I.ok.has y.1 (.inl (kc y.1 (K y P hf)));rw[exec_Assign_Name_used _ _ _ _ W];refine YA (jc (YA ?_));unfold evalThenUse;refine YA (Y1c (use:=some (assign (.Name x pos') X.env)) rfl hs t d f (thn (hi pins s σ H _ I h) λxv s1 Z=>thn Z λa1 s2 a0=>?_));obtain⟨it,fp,tn,J,H2,e,I2,T,G,f2,body⟩:=a0;subst e;refine Pj (Q:=λv H1=>gName i v σ H1 D.nx) (RR:=λacc C=>compPost (model X.prog X.w) X.A X.xe (some (assign (.Name x pos') X.env)) _ acc C) hc hg ht he hw hN Y hk V F R d h1 h2 I2 T G f2 body λDd C H' s' ⟨m,hm⟩ p q iv=>?_;show wpAny _ _ (assign (.Name x pos') X.env (.ref Dd)) _ _ s';have I':Inv X pins σ H' s':=iv s'.heap ⟨rfl,λ_ _=>rfl⟩;refine wpAny_assign_Name (Px I' M S hx (v:=.ref Dd) rfl (λs3 I3 ⟨a,sb,ha⟩=>⟨m,?_,λh' O=>?_⟩) hf)
 ·have L:C≠a:=by
   rcases ha with rfl | ha
   ·exact p.2.1
   exact λz=>p.2.2.2.2.1 x a ha z.symm
  obtain⟨o,es,ep,ho,r⟩:=hm;exact⟨o,es,ep,by rw[sb.2 C L];exact ho,r⟩
 refine YK (YK ?_);have I4:=Qx (ch:=[C]) (h':=h') (t':=s3.toks) I3 (λb U=>by rw[XH.mp U];exact p) λb o U e=>by
  rw[O.2 b (λz=>U (by rw[z];exact XH.mpr rfl))];exact e
 exact⟨_,H',I4,q⟩
end
end _b
namespace _b
open PySem _L
def Sr {a:Addr}{g:TG}{D:Ends}{σ:_L.St}(b:Nat->_L.St->Hp->Prop)(h0:b 0 σ H)(hl:∀ i σ H,i<=xs.length->b i σ H->SqL K H a xs)
  (hs:∀ i x σ H p,xs[i]?=some x->b i σ H->H p=none->g (.ref p) σ (upd H p (.tup [.int (i:Int),x])) λc H2=>tb { D with nx:=b (i+1),ct:=b (i+1),bk:=D.nx } c H2) (hd:∀ σ H,b xs.length σ H->D.nx σ H) :
  ∃ W:Nat->Nat->_L.St->Hp->Prop,(∃ m,W 0 m σ H)/\∀ i m σ H,W i m σ H →
   ((IteL K a).stop i H/\D.nx σ H) \/ ((IteL K a).go i H/\∃ N:_L.St->Hp->Prop,(∀ σ' H',N σ' H'->∃ f,f<m/\W (i+1) f σ' H')/\∀ x H',(IteL K a).yld i H x H'->g x σ H' λc H2=>tb { D with nx:=N,ct:=N,bk:=D.nx } c H2):=by
 refine⟨λi m σ H=>m=xs.length - i/\i<=xs.length/\b i σ H,⟨xs.length,J7,JF _,h0⟩,?_⟩;rintro i m σ H ⟨rfl,hi,p⟩;have q:=hl i σ H hi p;by_cases d:i<xs.length
 ·refine .inr ⟨⟨xs,q,d⟩,b (i+1),λσ' H' j=>⟨xs.length - (i+1),J5,rfl,d,j⟩,λx H' y=>?_⟩;obtain⟨k,x0,rfl,hp,rfl,h⟩:=y;exact hs i x0 σ H k (h xs q) p hp
 have e:i=xs.length:=J5
 subst e;exact .inl ⟨⟨xs,q,rfl⟩,hd σ H p⟩
theorem Paired.appP {α β:Type}{R:α->β->Prop}:∀ {xs a:List α} {ys ys':List β},Paired R xs ys->Paired R a ys'->Paired R (xs++a) (ys++ys')
 | _,_,_,_,.nil,s=>s
 | _,_,_,_,.cons r t,s=>.cons r (Paired.appP t s)
section
def RowsAt (K:TR)(H:Hp)(l:Addr)(rss:UB):Prop:=∃ as:List Addr,H l=some (.lst (as.map V.ref))/\Paired (RowAt K H) as rss
def Y4 (h:Paired (RowAt K H) as rss)(x:Ext H H'):Paired (RowAt K H') as rss:=Paired.mapP h λ_ _ q=>q.ext x
end
def Z26 {c A B:Prop}[Decidable c](hc:¬ c)(h:A):if (!decide c)=true then A else B:=by
 rw[XN hc];exact U6 h
open PySem.Spec PyProof.Rows
def Ks (l:Addr)(items:Array Value)(n:Nat)(dd:TQ)(sl:Array (Option Value))(u:Tok) :
  Meets (Builtin.«tuple.__mul__» ⟨[.ref l,.int 1 u],[]⟩) (λ_ R s=>s.heap.get? l=some { cls:=.type "tuple",dict:=dd,data:=.seq items n,slots:=sl }/\R (.ok (.ret (Value.ref l))) s) :=
 .of_wp λprog w A R s h=>by
  obtain⟨hp,g,d,tk,os⟩:=s;obtain⟨hl,h⟩:=h;have f1:=AutoSeq1.idx_int;have f2:=Y1d;have a:(items.isEmpty || (1:Int) == 1)=true:=J7
  wp_walk using qd hl
  exact⟨_,rfl,h⟩
section
variable {X:Cx}
inductive rRepU (K:TR) (x:V) (y:V) (H:Hp) (Q:VK):Prop
 | mk (a k xs:_) (zz0:x=.ref a) (zz1:y=.int k) (zz2:SqT K H a xs) (zz3:1<=k) (zz4:xs≠[]) (zz5:xs.length*k.toNat<=1000) (zz6:∀ p H',Same H H'->SqT K H' p (List.replicate k.toNat xs).flatten->Q (.ref p) H')
theorem Z43:OpR X (binaryOp .Mult) (rRepU X.K):=by
 intro pins s σ H x y v u Q I b a h;obtain⟨l,k,xs,rfl,rfl,hq,h1,h2,c,q⟩:=h;by_cases hk:2<=k
 ·exact Gx pins s σ H _ _ v u Q I b a ⟨l,k,xs,rfl,rfl,hq,hk,h2,c,λp hp=>q p _ (Same.new hp) (SqT.of Za)⟩
 have e:k=1:=J5
 subst e
 cases b;obtain⟨t,rfl⟩:=a;obtain⟨its,r,pl,hz⟩:=I.tuple hq;obtain⟨⟨cls,dd,data,sl⟩,ho,hc,n,hd⟩:=id pl;simp only at hc hd;subst hc hd;refine Y0V (T:="tuple") (U:="int") J6 ⟨_,ho,rfl⟩ (λs'=>Y1q s' 1 t) V7 F.fills_int_mul Y0B Th F.slot_int_index.lookup
  (jz Y0B (Y1q s 1 t) F.entry_int_rmul (F.args_int_rmul_2 _ _) (Ui 1 t l its.toArray n dd sl)
   ⟨ho,rfl,⟨_,ho,rfl⟩,jz Y0r ⟨_,ho,rfl⟩ F.entry_tuple_mul (F.args_tuple_mul_2 _ _) (Ks l its.toArray n dd sl t) ⟨ho,?_⟩⟩)
 refine⟨.ref l,H,I,rfl,q l H (λ_ _ h=>h) ?_⟩;have:(List.replicate (1:Int).toNat xs).flatten=xs:=J7
 rw[this];exact hq
end
end _b
namespace _v
structure Tab where
 b:Int
 own:Nat->Nat
 hd:Nat->Nat
 L:Nat->Nat->Int
abbrev _root_.UC:=Tab
def colOf (n:Nat)(col:Nat->Vec)(rhs:Vec)(T:Tab)(j:Nat):Vec:=if j<n then col (T.hd j) else rhs
def bas (col:Nat->Vec)(T:Tab):Mat:=λi=>col (T.own i)
structure Inv (m n:Nat)(col:Nat->Vec)(rhs:Vec)(T:Tab):Prop where
 pos:0<T.b
 dt:det m (bas col T)=T.b
 eqs:∀ j,j<=n->∀ r,r<m->T.b*colOf n col rhs T j r=sm m (λi=>T.L i j*bas col T i r)
 part:∀ f:Nat->Int,sm (n+m) f=sm m (λi=>f (T.own i))+sm n (λj=>f (T.hd j))
section
variable {m n:Nat}{col:Nat->Vec}{rhs:Vec}{T:Tab}
def Mz {a x y:Int}(h:0<a)(e:a*x=a*y):x=y:=GB J5 e
def Mv {k:Nat}(hi:i<m)(hk:k<m):det m (put (bas col T) i (bas col T k))=if k=i then det m (bas col T) else 0:=by
 by_cases e:k=i
 ·subst e;rw[YG rfl,put_self]
 rw[YD e];exact det_same hi hk (XQ e) (by rw[put_eq,put_ne e])
def Inv.phi (I:Inv m n col rhs T){i j:Nat}(hi:i<m)(hj:j<=n):det m (put (bas col T) i (colOf n col rhs T j))=T.L i j:=by
 refine Mz I.pos ?_;rw[<-det_smul hi];have e1:det m (put (bas col T) i (λr=>T.b*colOf n col rhs T j r))=det m (put (bas col T) i (λr=>sm m (λk=>T.L k j*bas col T k r))):=by
  refine det_congr λk r hk hr=>?_;by_cases e:k=i
  ·subst e;rw[put_eq,put_eq];exact I.eqs j hj r hr
  rw[put_ne e,put_ne e]
 rw[e1,det_sum hi];rw[sm_one (k:=i) hi λk hk a=>?_]
 ·rw[Mv hi hi,YG rfl,I.dt,JD]
 rw[Mv hi hk,YD a,GT]
def Inv.phiO (I:Inv m n col rhs T){i k:Nat}(hi:i<m)(hk:k<m):det m (put (bas col T) i (bas col T k))=if k=i then T.b else 0:=by
 rw[Mv hi hk,I.dt]
def Inv.two (I:Inv m n col rhs T){p i c j:Nat}(hp:p<m)(hi:i<m)(a:i≠p)(hc:c<=n)(hj:j<=n) :
  T.b*det m (put (put (bas col T) p (colOf n col rhs T c)) i (colOf n col rhs T j))=T.L i j*T.L p c - T.L i c*T.L p j:=by
 rw[Xw (XQ a),<-det_smul hp];have e1:det m (put (put (bas col T) i (colOf n col rhs T j)) p (λr=>T.b*colOf n col rhs T c r))=det m (put (put (bas col T) i (colOf n col rhs T j)) p (λr=>sm m (λk=>T.L k c*bas col T k r))):=by
  refine det_congr λk r hk hr=>?_;by_cases e:k=p
  ·subst e;rw[put_eq,put_eq];exact I.eqs c hc r hr
  rw[put_ne e,put_ne e]
 rw[e1,det_sum hp];rw[Bq (p:=p) (q:=i) hp hi (XQ a) λk hk h1 h2=>?_]
 ·have a1:put (put (bas col T) i (colOf n col rhs T j)) p (bas col T p)=put (bas col T) i (colOf n col rhs T j):=by
   rw[Xw a,put_self]
  have a2:det m (put (put (bas col T) i (colOf n col rhs T j)) p (bas col T i))=- T.L p j:=by
   rw[Z2q hi hp a,put_self,I.phi hp hj]
  rw[a1,a2,I.phi hi hj];grind
 rw[det_same (p:=p) (q:=k) hp hk (XQ h1) (by rw[put_eq,put_ne h1,put_ne h2]),GT]
def newL (T:Tab)(p c i j:Nat):Int:=if i=p then (if j=c then T.b else T.L p j) else if j=c then - T.L i c else (T.L i j*T.L p c - T.L i c*T.L p j).fdiv T.b
def up (f:TX)(i v:Nat):Nat->Nat:=λk=>if k=i then v else f k
def piv (T:Tab)(p c:Nat):Tab:=⟨T.L p c,up T.own p (T.hd c),up T.hd c (T.own p),newL T p c⟩
def Inv.newL_mul (I:Inv m n col rhs T){p c i j:Nat}(hp:p<m)(hc:c<n)(hi:i<m)(hj:j<=n)(h1:i≠p)(h2:j≠c):T.b*newL T p c i j=T.L i j*T.L p c - T.L i c*T.L p j:=by
 have h:=I.two hp hi h1 (JC hc) hj;unfold newL;rw[YD h1,YD h2,<-h];rw[JD T.b (det m _),Y0E _ (by have:=I.pos;omega)];rw[JD]
def Z5z {k:Nat}{f:TY}{g:TX}{v:Nat}(hi:i<k):sm k (λx=>f (up g i v x))=sm k (λx=>f (g x))+f v - f (g i):=by
 rw[Y0 (k:=i) hi,Y0 (f:=λx=>f (g x)) (k:=i) hi];have e:sm k (λx=>if x=i then 0 else f (up g i v x))=sm k (λx=>if x=i then 0 else f (g x)):=Y1 λx _=>by
  by_cases h:x=i
  ·rw[YG h,YG h]
  rw[YD h,YD h];unfold up;rw[YD h]
 rw[e];have:up g i v i=v:=YG rfl;show f (up g i v i)+_=_;rw[this];omega
def Fo (T:Tab)(p c:Nat):bas col (piv T p c)=put (bas col T) p (col (T.hd c)):=by
 funext i
 show col (up T.own p (T.hd c) i)=_;by_cases e:i=p
 ·subst e;rw[put_eq];unfold up;rw[YG rfl]
 rw[put_ne e];unfold up;rw[YD e];rfl
def W4 (h:j<n):colOf n col rhs T j=col (T.hd j):=YG h
theorem Inv.piv (I:Inv m n col rhs T){p c:Nat}(hp:p<m)(hc:c<n)(hk:0<T.L p c):Inv m n col rhs (piv T p c):=by
 refine⟨hk,?_,λj hj r hr=>?_,λf=>?_⟩
 ·rw[Fo,<-W4 (col:=col) (rhs:=rhs) (T:=T) hc,I.phi hp (JC hc)];rfl
 ·rw[Fo];show T.L p c*colOf n col rhs (_v.piv T p c) j r=sm m (λi=>newL T p c i j*put (bas col T) p (col (T.hd c)) i r);have d:=I.eqs c (JC hc) r hr;rw[W4 hc,Y0 (k:=p) hp] at d;rw[Y0 (k:=p) hp,put_eq];by_cases e:j=c
  ·subst e;have e1:colOf n col rhs (_v.piv T p j) j=bas col T p:=by
    rw[W4 hc];show col (up T.hd j (T.own p) j)=_;unfold up;rw[YG rfl];rfl
   have e2:sm m (λi=>if i=p then 0 else newL T p j i j*put (bas col T) p (col (T.hd j)) i r)=(-1)*sm m (λi=>if i=p then 0 else T.L i j*bas col T i r):=by
    rw[<-Yv];refine Y1 λi hi=>?_;by_cases h:i=p
    ·rw[YG h,YG h];rfl
    rw[YD h,YD h,put_ne h];unfold newL;rw[YD h,YG rfl];grind
   have e3:newL T p j p j=T.b:=by unfold newL;rw[YG rfl,YG rfl]
   rw[e1,e2,e3];omega
  have a:=I.eqs j hj r hr;rw[Y0 (k:=p) hp] at a;have e1:colOf n col rhs (_v.piv T p c) j=colOf n col rhs T j:=by
   unfold colOf;by_cases q:j<n
   ·rw[YG q,YG q];show col (up T.hd c (T.own p) j)=_;unfold up;rw[YD e]
   rw[YD q,YD q]
  have e3:newL T p c p j=T.L p j:=by unfold newL;rw[YG rfl,YD e]
  refine Mz I.pos ?_;have e2:T.b*sm m (λi=>if i=p then 0 else newL T p c i j*put (bas col T) p (col (T.hd c)) i r)=T.L p c*sm m (λi=>if i=p then 0 else T.L i j*bas col T i r)+(- T.L p j)*sm m (λi=>if i=p then 0 else T.L i c*bas col T i r):=by
   rw[<-Yv,<-Yv,<-Yv,<-Wh];refine Y1 λi hi=>?_;by_cases h:i=p
   ·rw[YG h,YG h,YG h];simp
   rw[YD h,YD h,YD h,put_ne h,<-GS,I.newL_mul hp hc hi hj h e];grind
  rw[e1,e3,Y27,e2];generalize sm m (λi=>if i=p then 0 else T.L i j*bas col T i r)=A at *
  generalize sm m (λi=>if i=p then 0 else T.L i c*bas col T i r)=B at *
  generalize colOf n col rhs T j r=x at *
  generalize col (T.hd c) r=y at *
  generalize bas col T p r=z at *
  clear e2;grind
 show sm (n+m) f=sm m (λi=>f (up T.own p (T.hd c) i))+sm n (λj=>f (up T.hd c (T.own p) j));rw[Z5z hp,Z5z hc,I.part f];omega
def ind (v:Nat):Nat->Int:=λx=>if x=v then 1 else 0
def Sn (v x:Nat):0<=ind v x:=by unfold ind;split <;> omega
def Inv.cnt (I:Inv m n col rhs T){v:Nat}(h:v<n+m):sm m (λi=>ind v (T.own i))+sm n (λj=>ind v (T.hd j))=1:=by
 rw[<-I.part (ind v),sm_one (f:=ind v) (k:=v) h λi hi a=>YD a];exact YG rfl
def Inv.big (I:Inv m n col rhs T):sm m (λi=>if T.own i<n+m then (0:Int) else 1)+sm n (λj=>if T.hd j<n+m then (0:Int) else 1)=0:=by
 rw[<-I.part (λx=>if x<n+m then 0 else 1)];exact sm_zero λi hi=>YG hi
def Inv.ownLt (I:Inv m n col rhs T){i:Nat}(hi:i<m):T.own i<n+m:=by
 apply YF;intro h;have e:=I.big;have h1:0<=sm n (λj=>if T.hd j<n+m then (0:Int) else 1):=Y2 λj _=>by split <;> omega
 rw[Y0 (k:=i) hi,YD h] at e;have h2:0<=sm m (λx=>if x=i then 0 else if T.own x<n+m then (0:Int) else 1):=Y2 λj _=>by split <;> (try split) <;> omega
 omega
def Inv.hdLt (I:Inv m n col rhs T){j:Nat}(hj:j<n):T.hd j<n+m:=by
 apply YF;intro h;have e:=I.big;have h1:0<=sm m (λj=>if T.own j<n+m then (0:Int) else 1):=Y2 λj _=>by split <;> omega
 rw[Y0 (f:=λj=>if T.hd j<n+m then (0:Int) else 1) (k:=j) hj,YD h] at e;have h2:0<=sm n (λx=>if x=j then 0 else if T.hd x<n+m then (0:Int) else 1):=Y2 λj _=>by split <;> (try split) <;> omega
 omega
def Inv.ne (I:Inv m n col rhs T){i j:Nat}(hi:i<m)(hj:j<n):T.own i≠T.hd j:=λh=>by
 have e:=I.cnt (I.ownLt hi);rw[Y0 (k:=i) hi,Y0 (f:=λx=>ind (T.own i) (T.hd x)) (k:=j) hj] at e;have a1:ind (T.own i) (T.own i)=1:=YG rfl;have a2:ind (T.own i) (T.hd j)=1:=YG h.symm;have h1:0<=sm m (λx=>if x=i then 0 else ind (T.own i) (T.own x)):=Y2 λx _=>by split;omega;exact Sn ..
 have h2:0<=sm n (λx=>if x=j then 0 else ind (T.own i) (T.hd x)):=Y2 λx _=>by split;omega;exact Sn ..
 omega
def Inv.ownInj (I:Inv m n col rhs T){i k:Nat}(hi:i<m)(hk:k<m)(h:T.own i=T.own k):i=k:=by
 apply YF;intro a;have e:=I.cnt (I.ownLt hi);rw[Y0 (k:=i) hi,Y0 (f:=λx=>if x=i then 0 else ind (T.own i) (T.own x)) (k:=k) hk] at e;have a1:ind (T.own i) (T.own i)=1:=YG rfl;rw[YD (XQ a)] at e;have a2:ind (T.own i) (T.own k)=1:=YG h.symm;have h1:0<=sm m (λx=>if x=k then 0 else if x=i then 0 else ind (T.own i) (T.own x)):=Y2 λx _=>by split;omega;split;omega;exact Sn ..
 have h2:0<=sm n (λx=>ind (T.own i) (T.hd x)):=Y2 λx _=>Sn ..;omega
def Inv.hdInj (I:Inv m n col rhs T){i k:Nat}(hi:i<n)(hk:k<n)(h:T.hd i=T.hd k):i=k:=by
 apply YF;intro a;have e:=I.cnt (I.hdLt hi);rw[Y0 (f:=λx=>ind (T.hd i) (T.hd x)) (k:=i) hi,Y0 (f:=λx=>if x=i then 0 else ind (T.hd i) (T.hd x)) (k:=k) hk] at e;have a1:ind (T.hd i) (T.hd i)=1:=YG rfl;rw[YD (XQ a)] at e;have a2:ind (T.hd i) (T.hd k)=1:=YG h.symm;have h1:0<=sm n (λx=>if x=k then 0 else if x=i then 0 else ind (T.hd i) (T.hd x)):=Y2 λx _=>by split;omega;split;omega;exact Sn ..
 have h2:0<=sm m (λx=>ind (T.hd i) (T.own x)):=Y2 λx _=>Sn ..;omega
def Inv.cover (I:Inv m n col rhs T){v:Nat}(h:v<n+m):(∃ i,i<m/\T.own i=v) \/ (∃ j,j<n/\T.hd j=v):=by
 have e:=I.cnt h;by_cases q:0<sm m (λi=>ind v (T.own i))
 ·obtain⟨i,hi,hp⟩:=Kw q;refine .inl ⟨i,hi,?_⟩;apply YF;intro z;rw[show ind v (T.own i)=0 from YD z] at hp;omega
 have:0<sm n (λj=>ind v (T.hd j)):=J5
 obtain⟨i,hi,hp⟩:=Kw this;refine .inr ⟨i,hi,?_⟩;apply YF;intro z;rw[show ind v (T.hd i)=0 from YD z] at hp;omega
def Inv.row (I:Inv m n col rhs T){i:Nat}(hi:i<m)(x:TY)(hx:∀ r,r<m->sm (n+m) (λv=>x v*col v r)=0):T.b*x (T.own i)+sm n (λj=>T.L i j*x (T.hd j))=0:=by
 have e1:det m (put (bas col T) i (λr=>sm (n+m) (λv=>x v*col v r)))=0:=by
  rw[<-Ki (m:=m) (v:=bas col T) (c:=i) hi];refine det_congr λk r hk hr=>?_;by_cases e:k=i
  ·subst e;rw[put_eq,put_eq];exact hx r hr
  rw[put_ne e,put_ne e]
 rw[det_sum hi,I.part] at e1;have e2:sm m (λk=>x (T.own k)*det m (put (bas col T) i (col (T.own k))))=T.b*x (T.own i):=by
  rw[sm_one (k:=i) hi λk hk a=>?_]
  ·have:=I.phiO hi hi;rw[YG rfl] at this;show x (T.own i)*det m (put (bas col T) i (bas col T i))=_;rw[this,JD]
  have:=I.phiO hi hk;rw[YD a] at this;show x (T.own k)*det m (put (bas col T) i (bas col T k))=_;rw[this,GT]
 have e3:sm n (λj=>x (T.hd j)*det m (put (bas col T) i (col (T.hd j))))=sm n (λj=>T.L i j*x (T.hd j)):=Y1 λj hj=>by
  have:=I.phi (i:=i) (j:=j) hi (JC hj);rw[W4 hj] at this;rw[this,JD]
 rw[e2,e3] at e1;exact e1
def dir (m:Nat)(T:Tab)(c:Nat):Nat->Int:=λv=>(if v=T.hd c then T.b else 0) + - sm m (λi=>if T.own i=v then T.L i c else 0)
def Inv.dirO (I:Inv m n col rhs T){c i:Nat}(hc:c<n)(hi:i<m):dir m T c (T.own i)=- T.L i c:=by
 unfold dir;rw[YD (I.ne hi hc),sm_one (k:=i) hi λk hk a=>YD λz=>a (I.ownInj hk hi z),YG rfl];omega
def Inv.dirH (I:Inv m n col rhs T){c j:Nat}(hc:c<n)(hj:j<n):dir m T c (T.hd j)=if j=c then T.b else 0:=by
 unfold dir;rw[sm_zero (f:=λi=>if T.own i=T.hd j then T.L i c else 0) λk hk=>YD (I.ne hk hj)];by_cases e:j=c
 ·subst e;rw[YG rfl,YG rfl];omega
 rw[YD e,YD λz=>e (I.hdInj hj hc z)];omega
def Inv.dirSol (I:Inv m n col rhs T){c:Nat}(hc:c<n){r:Nat}(hr:r<m):sm (n+m) (λv=>dir m T c v*col v r)=0:=by
 rw[I.part];have e1:sm m (λi=>dir m T c (T.own i)*col (T.own i) r)=(-1)*sm m (λi=>T.L i c*bas col T i r):=by
  rw[<-Yv];refine Y1 λi hi=>?_;rw[I.dirO hc hi];show _=-1*(T.L i c*col (T.own i) r);grind
 have e2:sm n (λj=>dir m T c (T.hd j)*col (T.hd j) r)=T.b*col (T.hd c) r:=by
  rw[sm_one (k:=c) hc λj hj a=>by rw[I.dirH hc hj,YD a,zZ],I.dirH hc hc,YG rfl]
 have e3:=I.eqs c (JC hc) r hr;rw[W4 hc] at e3;rw[e1,e2,e3];omega
end
end _v
variable {T:UC}
namespace _v
section
variable {m n lk i0:Nat}{col:Nat->Vec}{rhs:Vec}{T:Tab}{p c:Nat}
structure Step (m n lk i0:Nat)(T:Tab)(p c:Nat):Prop where
 hp:p<m
 hc:c<n
 nl:T.hd c≠lk
 help:0<T.L i0 c
 first:∀ j,j<n->T.hd j≠lk->0<T.L i0 j->T.hd c<=T.hd j
 el:T.own p<=lk
 key:0<T.L p c
 least:∀ i,i<m->T.own i<=lk->0<T.L i c->T.L p n*T.L i c<T.L i n*T.L p c \/ (T.L p n*T.L i c=T.L i n*T.L p c/\T.own p<=T.own i)
def Feas (m n lk:Nat)(T:Tab):Prop:=∀ i,i<m->T.own i<=lk->0<=T.L i n
def C2 {a x:Int}(ha:0<a)(h:0<=a*x):0<=x:=by
 apply YF;intro z;have:=Int.mul_neg_of_pos_of_neg ha (show x<0 by omega);omega
def Inv.end_ne (I:Inv m n col rhs T)(s:Step m n lk i0 T p c){i:Nat}(hi:i<m)(h:i≠p):T.b*(_v.piv T p c).L i n=T.L i n*T.L p c - T.L i c*T.L p n :=
 I.newL_mul s.hp s.hc hi (YJ n) h (by have:=s.hc;omega)
def Z6d (s:Step m n lk i0 T p c):(piv T p c).L p n=T.L p n:=by
 show newL T p c p n=_;unfold newL;rw[YG rfl,YD (by have:=s.hc;omega)]
def own_p:(piv T p c).own p=T.hd c:=YG rfl
def own_ne (h:i≠p):(piv T p c).own i=T.own i:=YD h
def Step.feas (I:Inv m n col rhs T)(s:Step m n lk i0 T p c)(F:Feas m n lk T):Feas m n lk (piv T p c):=λi hi ho=>by
 by_cases e:i=p
 ·subst e;rw[Z6d s];exact F i hi s.el
 rw[own_ne e] at ho;have h:=I.end_ne s hi e;have h0:=F i hi ho;have h1:=F p s.hp s.el;refine C2 I.pos ?_;rw[h];by_cases q:0<T.L i c
 ·rcases s.least i hi ho q with z | ⟨z,_⟩
  ·rw[JD (T.L i c)];omega
  rw[JD (T.L i c)];omega
 have a1:0<=T.L i n*T.L p c:=zW h0 (by have:=s.key;omega);have a2:T.L i c*T.L p n<=0:=ql J5 h1;omega
structure Run (m n lk i0:Nat)(col:Nat->Vec)(rhs:Vec)(K:Nat)(S:Nat->Tab)(P C:TX):Prop where
 h0:i0<m
 I0:Inv m n col rhs (S 0)
 F0:Feas m n lk (S 0)
 st:∀ k,k<K->Step m n lk i0 (S k) (P k) (C k)
 stay:∀ k,k<K->P k≠i0
 nx:∀ k,k<K->S (k+1)=piv (S k) (P k) (C k)
variable {K:Nat}{S:Nat->Tab}{P C:TX}
theorem Run.inv (R:Run m n lk i0 col rhs K S P C):∀ k,k<=K->Inv m n col rhs (S k)/\Feas m n lk (S k)
 | 0,_=>⟨R.I0,R.F0⟩
 | k+1,h=>by
  obtain⟨I,F⟩:=R.inv k J5;have s:=R.st k J5;rw[R.nx k J5];exact⟨I.piv s.hp s.hc s.key,s.feas I F⟩
theorem Run.down (R:Run m n lk i0 col rhs K S P C){a:Nat}:∀ d,a+d<=K->(S (a+d)).L i0 n*(S a).b<=(S a).L i0 n*(S (a+d)).b/\((∃ l,a<=l/\l<a+d/\0<(S l).L (P l) n)->(S (a+d)).L i0 n*(S a).b<(S a).L i0 n*(S (a+d)).b)
 | 0,_=>⟨Y1F _,λ⟨l,h1,h2,_⟩=>J5⟩
 | d+1,h=>by
  obtain⟨h1,h2⟩:=R.down (a:=a) d J5;obtain⟨I,F⟩:=R.inv (a+d) J5;obtain⟨v,_⟩:=R.inv a J5;have s:=R.st (a+d) J5;have e:=I.end_ne s R.h0 (XQ (R.stay (a+d) J5));have p:(piv (S (a+d)) (P (a+d)) (C (a+d))).b=(S (a+d)).L (P (a+d)) (C (a+d)):=rfl;rw[<-zR,R.nx (a+d) J5,p];have hn:=F (P (a+d)) s.hp s.el;have k:=s.help;have hk:=s.key;have u:=I.pos;have ha:=v.pos;have hd:0<=(S (a+d)).L i0 (C (a+d))*(S (a+d)).L (P (a+d)) n:=zW J5 hn;have i:0<(S (a+d)).L (P (a+d)) n->0<(S (a+d)).L i0 (C (a+d))*(S (a+d)).L (P (a+d)) n:=λz=>XG k z;have hs:(∃ l,a<=l/\l<a+d+1/\0<(S l).L (P l) n)->(∃ l,a<=l/\l<a+d/\0<(S l).L (P l) n) \/ 0<(S (a+d)).L (P (a+d)) n:=λ⟨l,o,w,j⟩=>by
   by_cases q:l=a+d
   ·subst q;exact .inr j
   exact .inl ⟨l,o,J5,j⟩
  generalize (piv (S (a+d)) (P (a+d)) (C (a+d))).L i0 n=g at *
  generalize (S (a+d)).L i0 n=x at *
  generalize (S (a+d)).b=b at *
  generalize (S (a+d)).L (P (a+d)) (C (a+d))=c at *
  generalize (S a).b=ba at *
  generalize (S a).L i0 n=f at *
  generalize (S (a+d)).L i0 (C (a+d))*(S (a+d)).L (P (a+d)) n=t at *
  have e1:b*(g*ba)=x*ba*c - t*ba:=by
   have:b*(g*ba)=(b*g)*ba:=ZJ
   rw[this,e];grind
  have e2:b*(f*c)=(f*b)*c:=ZJ
  have m1:x*ba*c<=f*b*c:=JZ h1 J5;have y:0<=t*ba:=zW hd J5;constructor
  ·exact Y0W (show b*(g*ba)<=b*(f*c) by omega) u
  intro z;rcases hs z with z | z
  ·have r:x*ba*c<f*b*c:=jg (h2 z) hk;exact zD (show b*(g*ba)<b*(f*c) by omega) J5
  have r:0<t*ba:=XG (i z) ha;exact zD (show b*(g*ba)<b*(f*c) by omega) J5
def isOwn (m:Nat)(T:Tab)(r:Nat):Prop:=∃ i,i<m/\T.own i=r
def Zr (m n:Nat)(T:Tab)(r:Nat):Prop:=∀ i,i<m->T.own i=r->T.L i n=0
def Jy {r:Nat}(h:isOwn m T r)(hr:r≠T.own p):isOwn m (piv T p c) r:=by
 obtain⟨i,hi,rfl⟩:=h;have:i≠p:=λz=>hr (by rw[z]);exact⟨i,hi,own_ne this⟩
def Cg {r:Nat}(h:¬ isOwn m T r)(hr:r≠T.hd c):¬ isOwn m (piv T p c) r:=λ⟨i,hi,e⟩=>by
 by_cases q:i=p
 ·subst q;rw[own_p] at e;exact hr e.symm
 rw[own_ne q] at e;exact h ⟨i,hi,e⟩
def Z89 (I:Inv m n col rhs T)(s:Step m n lk i0 T p c)(h0:T.L p n=0){r:Nat}:(Zr m n T r->Zr m n (piv T p c) r)/\(Zr m n (piv T p c) r->Zr m n T r):=by
 have a:=I.pos;have hk:=s.key;refine⟨λh i hi e=>?_,λh i hi e=>?_⟩
 ·by_cases q:i=p
  ·subst q;rw[Z6d s];exact h0
  rw[own_ne q] at e;have:=I.end_ne s hi q;rw[h i hi e,h0] at this;refine Mz a ?_;rw[this];simp
 by_cases q:i=p
 ·subst q;exact h0
 have:=I.end_ne s hi q;rw[h i hi (by rw[own_ne q];exact e),h0] at this;refine Mz hk ?_;have e2:T.L p c*T.L i n=T.L i n*T.L p c:=JD ..;rw[e2];simp at this;simp;omega
theorem Run.Zall (R:Run m n lk i0 col rhs K S P C){a b:Nat}(hK:a+b<=K)(hz:∀ l,a<=l->l<a+b->(S l).L (P l) n=0){r:Nat}:∀ d,d<=b->(Zr m n (S (a+d)) r ↔ Zr m n (S a) r)
 | 0,_=>Iff.rfl
 | d+1,h=>by
  have c:=R.Zall hK hz (r:=r) d J5;obtain⟨I,_⟩:=R.inv (a+d) J5;obtain⟨z1,z2⟩:=Z89 I (R.st (a+d) J5) (hz (a+d) J5 J5) (r:=r);rw[<-zR,R.nx (a+d) J5];exact⟨λh=>c.mp (z2 h),λh=>z1 (c.mpr h)⟩
theorem Run.keeps (R:Run m n lk i0 col rhs K S P C){k r:Nat}(h:isOwn m (S k) r):∀ d,k+d<=K->(∀ l,k<=l->l<k+d->(S l).own (P l)≠r)->isOwn m (S (k+d)) r
 | 0,_,_=>h
 | d+1,hK,hl=>by
  have a:=R.keeps h d J5 λl h1 h2=>hl l h1 J5;rw[<-zR,R.nx (k+d) J5];exact Jy a (XQ (hl (k+d) J5 J5))
theorem Run.keepsN (R:Run m n lk i0 col rhs K S P C){k r:Nat}(h:¬ isOwn m (S k) r):∀ d,k+d<=K->(∀ l,k<=l->l<k+d->(S l).hd (C l)≠r)->¬ isOwn m (S (k+d)) r
 | 0,_,_=>h
 | d+1,hK,hl=>by
  have a:=R.keepsN h d J5 λl h1 h2=>hl l h1 J5;rw[<-zR,R.nx (k+d) J5];exact Cg a (XQ (hl (k+d) J5 J5))
theorem Z1x (f:TX)(a:Nat):∀ d,0<d->∃ k,a<=k/\k<a+d/\∀ l,a<=l->l<a+d->f l<=f k
 | 0,h=>J5
 | 1,_=>⟨a,J5,J5,λl h1 h2=>by rw[show l=a by omega];exact YJ _⟩
 | d+2,_=>by
  obtain⟨k,h1,h2,c⟩:=Z1x f a (d+1) J5;by_cases q:f k<=f (a+d+1)
  ·refine⟨a+d+1,J5,J5,λl b g=>?_⟩;by_cases e:l=a+d+1
   ·rw[e];exact YJ _
   exact YM (c l b J5) q
  refine⟨k,h1,J5,λl b g=>?_⟩;by_cases e:l=a+d+1
  ·rw[e];omega
  exact c l b J5
theorem Run.once (R:Run m n lk i0 col rhs K S P C){a d:Nat}(hd:0<d)(hK:a+d<=K)(c:∀ i,i<m->(S a).own i=(S (a+d)).own i):False:=by
 obtain⟨X,Fa⟩:=R.inv a J5;obtain⟨Y,Fb⟩:=R.inv (a+d) hK;have eb:(S a).b=(S (a+d)).b:=by
  rw[<-X.dt,<-Y.dt];refine det_congr λk r hk hr=>?_;show col ((S a).own k) r=col ((S (a+d)).own k) r;rw[c k hk]
 have ee:(S a).L i0 n=(S (a+d)).L i0 n:=by
  rw[<-X.phi R.h0 (YJ n),<-Y.phi R.h0 (YJ n)];refine det_congr λk r hk hr=>?_;by_cases e:k=i0
  ·subst e;rw[put_eq,put_eq];unfold colOf;rw[YD J5,YD J5]
  rw[put_ne e,put_ne e];show col ((S a).own k) r=col ((S (a+d)).own k) r;rw[c k hk]
 have hz:∀ l,a<=l->l<a+d->(S l).L (P l) n=0:=λl h1 h2=>by
  have s:=R.st l J5;have f:=(R.inv l J5).2 (P l) s.hp s.el;apply YF;intro z;have:=(R.down (a:=a) d hK).2 ⟨l,h1,h2,J5⟩;rw[<-ee,<-eb] at this;omega
 have u:∀ r,isOwn m (S a) r->isOwn m (S (a+d)) r:=λr ⟨i,hi,e⟩=>⟨i,hi,by rw[<-c i hi];exact e⟩;have g:∀ r,isOwn m (S (a+d)) r->isOwn m (S a) r:=λr ⟨i,hi,e⟩=>⟨i,hi,by rw[c i hi];exact e⟩;obtain⟨k1,a2,Z,y⟩:=Z1x (λk=>(S k).hd (C k)) a d hd;have s1:=R.st k1 J5;obtain⟨D,F1⟩:=R.inv k1 J5;have H:¬ isOwn m (S k1) ((S k1).hd (C k1)):=λ⟨i,hi,e⟩=>D.ne hi s1.hc e;have ⟨k2,F,E,o⟩:∃ k,a<=k/\k<a+d/\(S k).own (P k)=(S k1).hd (C k1):=by
  apply YF;intro hn;have p:∀ l,a<=l->l<a+d->(S l).own (P l)≠(S k1).hd (C k1):=λl v w z=>hn ⟨l,v,w,z⟩;have o1:isOwn m (S (k1+1)) ((S k1).hd (C k1)):=⟨P k1,s1.hp,by rw[R.nx k1 J5];exact own_p⟩;have o2:=R.keeps o1 (a+d - (k1+1)) J5 λl v w=>p l J5 J5;rw[show k1+1+(a+d - (k1+1))=a+d by omega] at o2;have G:=R.keeps (g _ o2) (k1 - a) J5 λl v w=>p l J5 J5;rw[show a+(k1 - a)=k1 by omega] at G;exact H G
 have s2:=R.st k2 J5;obtain⟨A,F2⟩:=R.inv k2 J5;have row:=D.row R.h0 (dir m (S k2) (C k2)) λr hr=>A.dirSol s2.hc hr;have ho:∀ k,k<=K->(S k).own i0=(S 0).own i0:=λk=>by
  induction k with
  | zero=>intro _;rfl
  | succ k ih =>
   intro h;rw[R.nx k J5,own_ne (XQ (R.stay k J5))];exact ih J5
 have T:(S k1).own i0=(S k2).own i0:=by rw[ho k1 J5,ho k2 J5]
 rw[T,A.dirO s2.hc R.h0] at row;have pos:0<sm n (λj=>(S k1).L i0 j*dir m (S k2) (C k2) ((S k1).hd j)):=by
  have:=XG D.pos s2.help;have e:(S k1).b * -(S k2).L i0 (C k2)=-((S k1).b*(S k2).L i0 (C k2)):=ZJ
  rw[e] at row;omega
 obtain⟨j,hj,hp⟩:=Kw pos;rcases A.cover (D.hdLt hj) with ⟨i,hi,e⟩ | ⟨j',Q,e⟩
 ·rw[<-e,A.dirO s2.hc hi] at hp;have I:isOwn m (S k2) ((S k1).hd j):=⟨i,hi,e⟩;have t:¬ isOwn m (S k1) ((S k1).hd j):=λ⟨i',O,e'⟩=>D.ne O hj e';have ⟨k3,N,J,B⟩:∃ k,a<=k/\k<a+d/\(S k).hd (C k)=(S k1).hd j:=by
   apply YF;intro hn;have p:∀ l,a<=l->l<a+d->(S l).hd (C l)≠(S k1).hd j:=λl v w z=>hn ⟨l,v,w,z⟩;have o2:=R.keepsN t (a+d - k1) J5 λl v w=>p l J5 J5;rw[show k1+(a+d - k1)=a+d by omega] at o2;have G:=R.keepsN (λz=>o2 (u _ z)) (k2 - a) J5 λl v w=>p l J5 J5;rw[show a+(k2 - a)=k2 by omega] at G;exact G I
  have a1:(S k1).hd j<=(S k1).hd (C k1):=by rw[<-B];exact y k3 N J
  have W:=R.st k3 J5;have M:(S k1).hd j≠lk:=by rw[<-B];exact W.nl
  by_cases q:i=P k2
  ·
   subst q;have ej:(S k1).hd j=(S k1).hd (C k1):=by rw[<-e];exact o
   have ec:j=C k1:=D.hdInj hj s1.hc ej;subst ec;have:=XG s1.help s2.key;have e':(S k1).L i0 (C k1) * -(S k2).L (P k2) (C k2)=-((S k1).L i0 (C k1)*(S k2).L (P k2) (C k2)):=ZJ
   rw[e'] at hp;omega
  have a0:(S k1).hd j<(S k1).hd (C k1):=by
   rcases Nat.lt_or_ge ((S k1).hd j) ((S k1).hd (C k1)) with z | z
   ·exact z
   have:(S k2).own i=(S k2).own (P k2):=by rw[e,o];omega
   exact absurd (A.ownInj hi s2.hp this) q
  have v:(S k1).L i0 j<=0:=by
   apply YF;intro z;have:=s1.first j hj M J5;omega
  have w:0<(S k2).L i (C k2):=by
   apply YF;intro z;have:(S k1).L i0 j * -(S k2).L i (C k2)<=0:=ql v J5;omega
  have U:(S k2).own i<=lk:=by rw[e];have:=s2.el;rw[o] at this;omega
  have z3:Zr m n (S k3) ((S k1).hd j):=λx hx ex=>absurd (by rw[ex,B]) ((R.inv k3 J5).1.ne hx W.hc);have za:=(R.Zall hK hz (r:=(S k1).hd j) (k3 - a) J5);rw[show a+(k3 - a)=k3 by omega] at za;have V:=(R.Zall hK hz (r:=(S k1).hd j) (k2 - a) J5);rw[show a+(k2 - a)=k2 by omega] at V;have zi:=(V.mpr (za.mp z3)) i hi e;have zp:=hz k2 F E;rcases s2.least i hi U w with z | ⟨_,z⟩
  ·rw[zi,zp] at z;simp at z
  rw[e,o] at z;omega
 rw[<-e,A.dirH s2.hc Q] at hp;by_cases q:j'=C k2
 ·subst q;rw[YG rfl] at hp;have v:0<(S k1).L i0 j:=by
   apply YF;intro z;have:(S k1).L i0 j*(S k2).b<=0:=ql J5 (by have:=A.pos;omega);omega
  have h1:=s1.first j hj (by rw[<-e];exact s2.nl) v;have h2:=y k2 F E;have:(S k2).own (P k2)=(S k2).hd (C k2):=by
   rw[o];have a3:(S k1).hd (C k1)<=(S k1).hd j:=h1;have a4:(S k2).hd (C k2)<=(S k1).hd (C k1):=h2;rw[e] at *
   omega
  exact A.ne s2.hp s2.hc this
 rw[YD q] at hp;simp at hp
theorem Z0u:∀ (M:Nat) (f:TX),(∀ i,i<=M->f i<M)->∃ a d,0<d/\a+d<=M/\f a=f (a+d)
 | 0,f,h=>absurd (h 0 J5) J5
 | M+1,f,h=>by
  by_cases q:∃ i,i<=M/\f i=f (M+1)
  ·obtain⟨i,hi,e⟩:=q;exact⟨i,M+1 - i,J5,J5,by rw[show i+(M+1 - i)=M+1 by omega];exact e⟩
  have b:∀ i,i<=M->f i≠f (M+1):=λi hi z=>q ⟨i,hi,z⟩;obtain⟨a,d,h1,h2,c⟩:=Z0u M (λi=>if f i<f (M+1) then f i else f i - 1) λi hi=>by
   have:=b i hi;have:=h i J5;have:=h (M+1) J5;show (if f i<f (M+1) then f i else f i - 1)<M;split <;> omega
  refine⟨a,d,h1,J5,?_⟩;have n1:=b a J5;have n2:=b (a+d) J5;have c:(if f a<f (M+1) then f a else f a - 1)=if f (a+d)<f (M+1) then f (a+d) else f (a+d) - 1:=c
  split at c <;> split at c <;> omega
def code (N:Nat):Nat->(Nat->Nat)->Nat
 | 0,_=>0
 | k+1,f=>code N k f+f k*N ^ k
theorem Q3 {N:Nat}:∀ {k:Nat} {f:TX},(∀ i,i<k->f i<N)->code N k f<N ^ k
 | 0,_,_=>by show 0<1;decide
 | k+1,f,h=>by
  have h1:=Q3 (k:=k) (f:=f) λi hi=>h i J5;have h2:=h k J5;show code N k f+f k*N ^ k<N ^ (k+1);rw[Y1r];have a:(f k+1)*N ^ k<=N*N ^ k:=qx _ h2;rw[Nat.add_mul] at a;rw[zM (N ^ k)];omega
theorem Kl {N:Nat}:∀ {k:Nat} {f g:TX},(∀ i,i<k->f i<N)->(∀ i,i<k->g i<N)->code N k f=code N k g->∀ i,i<k->f i=g i
 | 0,_,_,_,_,_,i,hi=>J5
 | k+1,f,g,hf,hg,e,i,hi=>by
  have a1:=Q3 (k:=k) (f:=f) λi hi=>hf i J5;have a2:=Q3 (k:=k) (f:=g) λi hi=>hg i J5;have e:code N k f+f k*N ^ k=code N k g+g k*N ^ k:=e;have e1:code N k f=code N k g:=by
   have:=congrArg (· % N ^ k) e;simp only [Nat.add_mul_mod_self_right] at this
   rwa [Nat.mod_eq_of_lt a1,Nat.mod_eq_of_lt a2] at this
  by_cases q:i=k
  ·subst q;have:f i*N ^ i=g i*N ^ i:=J5
   exact Y0Q J5 this
  exact Kl (k:=k) (λi hi=>hf i J5) (λi hi=>hg i J5) e1 i J5
def Run.short (R:Run m n lk i0 col rhs K S P C):K<(n+m) ^ m:=by
 rcases Nat.lt_or_ge K ((n+m) ^ m) with h | h
 ·exact h
 obtain⟨a,d,h1,h2,b⟩:=Z0u ((n+m) ^ m) (λk=>code (n+m) m (S k).own) λk hk=>Q3 λi hi=>(R.inv k J5).1.ownLt hi;exact absurd (R.once h1 J5 λi hi=>Kl (λi hi=>(R.inv a J5).1.ownLt hi) (λi hi=>(R.inv (a+d) J5).1.ownLt hi) b i hi) id
end
section
variable {m n:Nat}{col:Nat->Vec}{rhs:Vec}{T:Tab}
def numAt (n:Nat)(T:Tab)(i v:Nat):Int:=sm n (λj=>if T.hd j=v then T.L i j else 0)
def endOf (m n:Nat)(T:Tab)(v:Nat):Int:=sm m (λi=>if T.own i=v then T.L i n else 0)
def coef (n:Nat)(T:Tab)(i v:Nat):Int:=(if v=T.own i then T.b else 0)+numAt n T i v
def Inv.numH (I:Inv m n col rhs T){i j:Nat}(hj:j<n):numAt n T i (T.hd j)=T.L i j:=by
 unfold numAt;rw[sm_one (k:=j) hj λk hk a=>YD λz=>a (I.hdInj hk hj z),YG rfl]
def Inv.numO (I:Inv m n col rhs T){i k:Nat}(hk:k<m):numAt n T i (T.own k)=0:=sm_zero λj hj=>YD (XQ (I.ne hk hj))
def Inv.endO (I:Inv m n col rhs T){i:Nat}(hi:i<m):endOf m n T (T.own i)=T.L i n:=by
 unfold endOf;rw[sm_one (k:=i) hi λk hk a=>YD λz=>a (I.ownInj hk hi z),YG rfl]
def Inv.endH (I:Inv m n col rhs T){j:Nat}(hj:j<n):endOf m n T (T.hd j)=0:=sm_zero λi hi=>YD (I.ne hi hj)
def Inv.coefs (I:Inv m n col rhs T){i v:Nat}(hi:i<m)(a:v<n+m):det m (put (bas col T) i (col v))=coef n T i v:=by
 unfold coef;rcases I.cover a with ⟨k,hk,rfl⟩ | ⟨j,hj,rfl⟩
 ·rw[I.numO hk];have:=I.phiO hi hk;show det m (put (bas col T) i (bas col T k))=_;rw[this];by_cases e:k=i
  ·subst e;rw[YG rfl,YG rfl];omega
  rw[YD e,YD λz=>e (I.ownInj hk hi z)];omega
 rw[I.numH hj,YD (XQ (I.ne hi hj))];have:=I.phi hi (JC hj);rw[W4 hj] at this;rw[this];omega
def Inv.lin (I:Inv m n col rhs T)(hc:∀ i r,i<m->r<m->col (n+i) r=if i=r then 1 else 0){i:Nat}(hi:i<m)(x:Vec):det m (put (bas col T) i x)=sm m (λr=>x r*coef n T i (n+r)):=by
 have e:det m (put (bas col T) i x)=det m (put (bas col T) i (λr=>sm m (λk=>x k*col (n+k) r))):=by
  refine det_congr λk r hk hr=>?_;by_cases q:k=i
  ·subst q;rw[put_eq,put_eq,sm_one (k:=r) hr λk hk a=>by rw[hc k r hk hr,YD a,GT],hc r r hr hr,YG rfl,zv]
  rw[put_ne q,put_ne q]
 rw[e,det_sum hi];exact Y1 λr hr=>by rw[I.coefs hi J5]
def Inv.size (I:Inv m n col rhs T){M:Nat}(hc:∀ v r,v<n+m->r<m->(col v r).natAbs<=M)(hr:∀ r,r<m->(rhs r).natAbs<=M){i j:Nat}(hi:i<m)(hj:j<=n):(T.L i j).natAbs<=(m*M) ^ m:=by
 rw[<-I.phi hi hj];refine Sw λk r hk a=>?_;by_cases e:k=i
 ·subst e;rw[put_eq];unfold colOf;split
  ·exact hc _ _ (I.hdLt (by assumption)) a
  exact hr r a
 rw[put_ne e];exact hc _ _ (I.ownLt hk) a
def Inv.sizeB (I:Inv m n col rhs T){M:Nat}(hc:∀ v r,v<n+m->r<m->(col v r).natAbs<=M):T.b.natAbs<=(m*M) ^ m:=by
 rw[<-I.dt];exact Sw λk r hk a=>hc _ _ (I.ownLt hk) a
def Inv.sol (I:Inv m n col rhs T){r:Nat}(hr:r<m):sm (n+m) (λv=>endOf m n T v*col v r)=T.b*rhs r:=by
 rw[I.part];have e1:sm n (λj=>endOf m n T (T.hd j)*col (T.hd j) r)=0:=sm_zero λj hj=>by rw[I.endH hj,zZ]
 have e2:sm m (λi=>endOf m n T (T.own i)*col (T.own i) r)=sm m (λi=>T.L i n*bas col T i r):=Y1 λi hi=>by rw[I.endO hi];rfl
 have e3:=I.eqs n (YJ n) r hr;unfold colOf at e3;rw[YD J5] at e3;rw[e1,e2,<-e3];omega
end
section
variable {n g:Nat}{A:Nat->Nat->Int}{pap gl:TY}
def colS (n g:Nat)(A:Nat->Nat->Int)(pap gl:TY):Nat->Vec:=λv r=>if v<n then (if r<g then A r v else if r=g then pap v else gl v) else if v - n=r then 1 else 0
def rhsS (g:Nat):Vec:=λr=>if r=g then 1 else 0
def T0 (n g:Nat)(A:Nat->Nat->Int)(pap gl:TY):Tab:=⟨1,λi=>n+i,λj=>j,λi j=>if j<n then colS n g A pap gl j i else rhsS g i⟩
def Wd {r:Nat}:colS n g A pap gl (n+i) r=if i=r then 1 else 0:=by
 unfold colS;rw[YD J5];have:n+i - n=i:=J5
 rw[this]
def inv0:Inv (g+2) n (colS n g A pap gl) (rhsS g) (T0 n g A pap gl):=by
 refine⟨by show (0:Int)<1;decide,?_,λj hj r hr=>?_,λf=>?_⟩
 ·show det (g+2) _=1;rw[<-det_id (g+2)];exact det_congr λk r _ _=>Wd
 ·show 1*colOf n (colS n g A pap gl) (rhsS g) (T0 n g A pap gl) j r=sm (g+2) (λi=>(if j<n then colS n g A pap gl j i else rhsS g i)*colS n g A pap gl (n+i) r);rw[sm_one (k:=r) hr λk hk a=>by rw[Wd,YD a,GT],Wd,YG rfl];unfold colOf;rw[zv,zu];split <;> rfl
 rw[Kx,Int.add_comm];rfl
def feas0:Feas (g+2) n (n+g) (T0 n g A pap gl):=λi _ _=>by
 show 0<=if n<n then _ else rhsS g i
 rw[YD J5];unfold rhsS;split <;> omega
variable {T:Tab}
abbrev InvS (n g:Nat)(A:Nat->Nat->Int)(pap gl:TY)(T:Tab):Prop:=Inv (g+2) n (colS n g A pap gl) (rhsS g) T
def InvS.world (I:InvS n g A pap gl T){i w:Nat}(hi:i<g+2)(hw:w<n):coef n T i w=sm g (λk=>A k w*coef n T i (n+k))+pap w*coef n T i (n+g)+gl w*coef n T i (n+g+1):=by
 rw[<-I.coefs hi J5,I.lin (λi r _ _=>Wd) hi];show sm g _+colS n g A pap gl w g*_+colS n g A pap gl w (g+1)*_=_;have e1:sm g (λr=>colS n g A pap gl w r*coef n T i (n+r))=sm g (λk=>A k w*coef n T i (n+k)):=Y1 λr hr=>by
  unfold colS;rw[YG hw,YG hr]
 have e2:colS n g A pap gl w g=pap w:=by unfold colS;rw[YG hw,YD J5,YG rfl]
 have e3:colS n g A pap gl w (g+1)=gl w:=by unfold colS;rw[YG hw,YD J5,YD J5]
 rw[e1,e2,e3];rfl
def InvS.ends (I:InvS n g A pap gl T){i:Nat}(hi:i<g+2):T.L i n=coef n T i (n+g):=by
 rw[<-I.phi hi (YJ n)];unfold colOf;rw[YD J5,I.lin (λi r _ _=>Wd) hi,sm_one (k:=g) J5 λk hk a=>by unfold rhsS;rw[YD a,zZ]];unfold rhsS;rw[YG rfl,zu]
def InvS.lines (I:InvS n g A pap gl T):(∀ k,k<g->sm n (λw=>A k w*endOf (g+2) n T w)+endOf (g+2) n T (n+k)=0)/\sm n (λw=>pap w*endOf (g+2) n T w)+endOf (g+2) n T (n+g)=T.b/\sm n (λw=>gl w*endOf (g+2) n T w)+endOf (g+2) n T (n+g+1)=0:=by
 have key:∀ (r:Nat) (a:TY),r<g+2->(∀ w,w<n->colS n g A pap gl w r=a w)->sm n (λw=>a w*endOf (g+2) n T w)+endOf (g+2) n T (n+r)=T.b*rhsS g r:=λr a hr ha=>by
  rw[<-I.sol hr,Kx]
  congr 1
  ·exact Y1 λw hw=>by rw[ha w hw,JD]
  rw[sm_one (k:=r) hr λk hk c=>by rw[Wd,YD c,GT],Wd,YG rfl,zv]
 refine⟨λk hk=>?_,?_,?_⟩
 ·rw[key k (λw=>A k w) J5 λw hw=>by unfold colS;rw[YG hw,YG hk]];unfold rhsS;rw[YD J5,GT]
 ·rw[key g pap J5 λw hw=>by unfold colS;rw[YG hw,YD J5,YG rfl]];unfold rhsS;rw[YG rfl,zv]
 have:=key (g+1) gl J5 λw hw=>by unfold colS;rw[YG hw,YD J5,YD J5]
 rw[show n+(g+1)=n+g+1 by omega] at this;rw[this];unfold rhsS;rw[YD J5,GT]
def Q2 (I:InvS n g A pap gl T){i lk v:Nat}(a:v<n+(g+2))(h1:v≠T.own i)(h2:v≠lk)(hs:∀ j,j<n->T.hd j≠lk->T.L i j<=0):coef n T i v<=0:=by
 unfold coef;rw[YD h1];rcases I.cover a with ⟨k,hk,rfl⟩ | ⟨j,hj,rfl⟩
 ·rw[I.numO hk];omega
 rw[I.numH hj];have:=hs j hj h2;omega
theorem InvS.none (I:InvS n g A pap gl T){i ia:Nat}(hi:i<g+2)(ho:T.own i=n+g)(d:ia<g+2)(c:T.own ia=n+g+1)(hs:∀ j,j<n->T.hd j≠n+g->T.L i j<=0) :
  (∀ k,k<g->numAt n T i (n+k)<=0)/\∀ w,w<n->pap w*T.b<=sm g (λk=>A k w * -numAt n T i (n+k)):=by
 have hk:∀ k,k<g->coef n T i (n+k)=numAt n T i (n+k):=λk hk=>by
  unfold coef;rw[YD J5];omega
 refine⟨λk a=>?_,λw hw=>?_⟩
 ·rw[<-hk k a];exact Q2 I J5 J5 (lk:=n+g) J5 hs
 have e:=I.world hi hw;have h:=Q2 I (v:=w) J5 J5 (lk:=n+g) J5 hs;have e1:coef n T i (n+g)=T.b:=by
  unfold coef;rw[YG ho.symm];have:=I.numO (i:=i) hi;rw[ho] at this;omega
 have e2:coef n T i (n+g+1)=0:=by
  unfold coef;rw[YD J5];have:=I.numO (i:=i) d;rw[c] at this;omega
 have e3:sm g (λk=>A k w*coef n T i (n+k))=- sm g (λk=>A k w * -numAt n T i (n+k)):=by
  have:sm g (λk=>A k w*coef n T i (n+k))=sm g (λk=>(-1)*(A k w * -numAt n T i (n+k))):=Y1 λk a=>by rw[hk k a];grind
  rw[this,Yv];omega
 rw[e1,e2,e3] at e;omega
structure Most (n g:Nat)(A:Nat->Nat->Int)(pap gl:TY)(T:Tab)(i:Nat):Prop where
 x0:∀ w,w<n->0<=endOf (g+2) n T w
 fit:∀ k,k<g->sm n (λw=>A k w*endOf (g+2) n T w)<=0
 lie:sm n (λw=>pap w*endOf (g+2) n T w)=T.b
 val:sm n (λw=>gl w*endOf (g+2) n T w)=- T.L i n
 y0:∀ k,k<g->numAt n T i (n+k)<=0
 show_:∀ w,w<n->gl w*T.b<=sm g (λk=>A k w * -numAt n T i (n+k))+pap w * -T.L i n
theorem InvS.most (I:InvS n g A pap gl T)(F:Feas (g+2) n (n+g) T){i jl:Nat}(hi:i<g+2)(ho:T.own i=n+g+1)(c:jl<n)(d:T.hd jl=n+g)(hs:∀ j,j<n->T.hd j≠n+g->T.L i j<=0):Most n g A pap gl T i:=by
 obtain⟨f,o,m⟩:=I.lines;have x0:∀ v,v<=n+g->0<=endOf (g+2) n T v:=λv l=>by
  rcases I.cover (v:=v) J5 with ⟨k,hk,rfl⟩ | ⟨j,hj,rfl⟩
  ·rw[I.endO hk];exact F k hk l
  rw[I.endH hj];omega
 have hk:∀ k,k<g->coef n T i (n+k)=numAt n T i (n+k):=λk hk=>by
  unfold coef;rw[YD J5];omega
 refine⟨λw hw=>x0 w J5,λk hk=>?_,?_,?_,λk a=>?_,λw hw=>?_⟩
 ·have:=f k hk;have:=x0 (n+k) J5;omega
 ·have:=I.endH c;rw[d] at this;rw[this] at o;omega
 ·have:=I.endO hi;rw[ho] at this;rw[this] at m;omega
 ·rw[<-hk k a];exact Q2 I J5 J5 (lk:=n+g) J5 hs
 have e:=I.world hi hw;have h:=Q2 I (v:=w) J5 J5 (lk:=n+g) J5 hs;have e1:=I.ends hi;have e2:coef n T i (n+g+1)=T.b:=by
  unfold coef;rw[YG ho.symm];have:=I.numO (i:=i) hi;rw[ho] at this;omega
 have e3:sm g (λk=>A k w*coef n T i (n+k))=- sm g (λk=>A k w * -numAt n T i (n+k)):=by
  have:sm g (λk=>A k w*coef n T i (n+k))=sm g (λk=>(-1)*(A k w * -numAt n T i (n+k))):=Y1 λk a=>by rw[hk k a];grind
  rw[this,Yv];omega
 rw[<-e1,e2,e3] at e;have p:pap w * -T.L i n=-(pap w*T.L i n):=ZJ
 omega
theorem InvS.bounded (I:InvS n g A pap gl T)(b:∀ w,w<n->0<=pap w)(m:∀ w,w<n->pap w=0->gl w=0){i jl c:Nat}(hi:i<g+2)(ho:T.own i=n+g+1)(h:jl<n)(d:T.hd jl=n+g)(hc:c<n)(l:T.hd c≠n+g)(p:0<T.L i c) :
  ∃ k,k<g+2/\T.own k<=n+g/\0<T.L k c:=by
 apply YF;intro hn;have f:∀ k,k<g+2->T.own k<=n+g->T.L k c<=0:=λk h1 h2=>by
  apply YF;intro z;exact hn ⟨k,h1,h2,J5⟩
 have x0:∀ v,v<=n+g->0<=dir (g+2) T c v:=λv o=>by
  rcases I.cover (v:=v) J5 with ⟨k,hk,rfl⟩ | ⟨j,hj,rfl⟩
  ·rw[I.dirO hc hk];have:=f k hk o;omega
  rw[I.dirH hc hj];have:=I.pos;split <;> omega
 have row:∀ (r:Nat) (a:TY),r<g+2->(∀ w,w<n->colS n g A pap gl w r=a w)->sm n (λw=>a w*dir (g+2) T c w)+dir (g+2) T c (n+r)=0:=λr a hr ha=>by
  rw[<-I.dirSol hc hr,Kx]
  congr 1
  ·exact Y1 λw hw=>by rw[ha w hw,JD]
  rw[sm_one (k:=r) hr λk hk e=>by rw[Wd,YD e,GT],Wd,YG rfl,zv]
 have r1:=row g pap J5 λw hw=>by unfold colS;rw[YG hw,YD J5,YG rfl]
 have r2:=row (g+1) gl J5 λw hw=>by unfold colS;rw[YG hw,YD J5,YD J5]
 have hl:dir (g+2) T c (n+g)=0:=by
  rw[<-d,I.dirH hc h,YD λz=>l (by rw[<-z];exact d)]
 have hz:∀ w,w<n->pap w*dir (g+2) T c w=0:=λw hw=>by
  apply YF;intro z;have h1:∀ x,x<n->0<=pap x*dir (g+2) T c x:=λx hx=>zW (b x hx) (x0 x J5);rw[hl,Y0 (k:=w) hw] at r1;have h2:0<=sm n (λi=>if i=w then 0 else pap i*dir (g+2) T c i):=Y2 λx hx=>by
   split
   ·omega
   exact h1 x hx
  have:=h1 w hw;omega
 have hg:sm n (λw=>gl w*dir (g+2) T c w)=0:=sm_zero λw hw=>by
  by_cases q:pap w=0
  ·rw[m w hw q,zZ]
  have:=hz w hw;rcases Int.mul_eq_zero.mp this with z | z
  ·exact absurd z q
  rw[z,GT]
 have ha:=I.dirO hc hi;rw[ho] at ha;rw[hg,show n+(g+1)=n+g+1 by omega,ha] at r2;omega
end
end _v
namespace _b
open PySem PySem.Spec PyProof.Rows _L
theorem N2 {α β:Type}{R:α->β->Prop}:∀ {xs:List α} {us:List β},xs.length=us.length->(∀ (j:Nat) (x:α) (u:β),xs[j]?=some x->us[j]?=some u->R x u)->Paired R xs us
 | [],[],_,_=>.nil
 | [],_::_,h,_=>by simp at h
 | _::_,[],h,_=>by simp at h
 | x::xs,u::us,h,hr=>.cons (hr 0 x u rfl rfl) (N2 (by simpa using h) λj y w e1 e2=>hr (j+1) y w (by simpa using e1) (by simpa using e2))
section
variable {X:Cx}
def Z13 {p:Addr}{u:V}{σ:_L.St}{A B:_L.St->Hp->Prop}{t:TT}(hp:SqT K H p [u,v])(h:t ((σ.set 0 (some u)).set 1 (some v)) H λb H5=>if b=true then A ((σ.set 0 (some u)).set 1 (some v)) H5 else B ((σ.set 0 (some u)).set 1 (some v)) H5) :
  gTup K 2 (gCons (gName 0) (gCons (gName 1) gNil)) (.ref p) σ H λa c=>t a c λb H5=>if b=true then A a H5 else B a H5 :=
 ⟨p,[u,v],rfl,hp,rfl,u,[v],rfl,v,[],rfl,rfl,h⟩
def M7 {e:Expr}{f:Str}{pos:Pos}{ta:TE}(a:PE X e ta)(b:attributeBase e f X.env (eval e X.env)=eval e X.env)(h:X.K=K:=by rfl):PE X (.Attribute e f pos) (tFld K ta f):=h ▸ Yb a b
inductive tLR1_i (Q:VK) (vs:TZ) (H1:Hp):Prop
 | mk (n:Nat) (zz0:vs=[.int (n:Int)]) (zz1:n<=1000) (zz2:∀ l,H1 l=none->Q (.ref l) (upd H1 l (.lst ((List.range n).map λ(k:Nat)=>V.int (k:Int)))))
def tLR1 (ta:TA):TE:=λσ H Q=>ta σ H (tLR1_i Q)
inductive tLR2_i (Q:VK) (vs:TZ) (H1:Hp):Prop
 | mk (i n:Nat) (zz0:vs=[.int (i:Int),.int ((i+n:Nat):Int)]) (zz1:i<=1000) (zz2:n<=1000) (zz3:∀ l,H1 l=none->Q (.ref l) (upd H1 l (.lst ((List.range n).map λk=>V.int ((i+k:Nat):Int)))))
def tLR2 (ta:TA):TE:=λσ H Q=>ta σ H (tLR2_i Q)
def Ul {pins:TD}{σ:_L.St}{H:Hp}{s:Shared}{Q:VK}{i n:Nat}{t u v:Tok}{tk:Nat}(hc:X.calm=true)(I:Inv X pins σ H s)(hi:i<=1000)(hn:n<=1000)
  (q:∀ l,H l=none->Q (.ref l) (upd H l (.lst ((List.range n).map λk=>V.int ((i+k:Nat):Int))))) :
  wX X (call (.type "list") [.ref s.heap.objs.size]) (EP X pins σ Q) X.xe { s with heap:=s.heap.push { cls:=.type "range",data:=.fields #[.int (i:Int) t,.int ((i+n:Nat):Int) u,.int 1 v] },toks:=tk }:=by
 have a:Inv X pins σ H { s with heap:=s.heap.push { cls:=.type "range",data:=.fields #[.int (i:Int) t,.int ((i+n:Nat):Int) u,.int 1 v] },toks:=tk }:=I.kept λb o e=>YB _ e;refine Mi (n:=n) (a.ok.hd hc) (λp hp=>(a.pin p (XJ _ hp)).1) (IsRange.new ..) (small_one J5 J5 J5 J5) ?_ J5 λh' f acc c' kp e items=>?_
 ·rw[rangeSize_one];split <;> omega
 refine⟨.ref _,_,a.laid (t':=f) (o:=.lst ((List.range n).map λk=>V.int ((i+k:Nat):Int))) kp (YJ _) ?_,rfl,q _ (a.hok.fresh (YJ _))⟩;obtain⟨d,c⟩:=items;refine⟨by rw[YC,Y11];exact YM hn J6,acc.toList,c',?_,by simpa using e⟩;refine N2 (by simp[d]) λj x u' e1 e2=>?_;rw[YI] at e1
 cases e3:(List.range n)[j]? with
 | none=>rw[e3] at e1;cases e1
 | some k =>
  rw[e3] at e1
  cases e1;have hk:k=j:=by
   have:=YH.mp e3;obtain⟨_,h2⟩:=this;rw[<-h2];simp
  subst hk;obtain⟨t',g⟩:=c k u' (by simpa using e2);refine⟨t',?_⟩;rw[g]
  congr 1
  omega
theorem Dm {a b:Expr}{ta:TA}{p f pos pos':Pos}(hc:X.calm=true)(k:Gl X "list")(g:X.mg "list"=none)(l:Gl X "range")(j:X.mg "range"=none)(ha:PA X [a,b] ta)
  (hs:starEach [a,b] X.env=[(false,eval a X.env),(false,eval b X.env)]:=by rfl) (d:starEach [b] X.env=[(false,eval b X.env)]:=by rfl)
  (c:starEach [.Call (.Name "range" f) [a,b] [] pos'] X.env=[(false,eval (.Call (.Name "range" f) [a,b] [] pos') X.env)]:=by rfl) :
  PE X (.Call (.Name "list" p) [.Call (.Name "range" f) [a,b] [] pos'] [] pos) (tLR2 ta):=by
 intro pins s σ H Q I h;refine qk (Wq I k g JN ?_);refine JM ?_ (by rw[c];rfl) rfl;rw[c];show wpAny _ _ (spliced ((false,eval (.Call (.Name "range" f) [a,b] [] pos') X.env)::[])) _ _ s;refine Y0P (Call_ (Wq I l j boot_range (JM (thn (ha pos' pins s σ H _ I h) λus s1 ⟨vs,H1,o,r1,m⟩=>?_) (by rw[hs,d]) (by rw[d];rfl))));obtain⟨i,n,e,hi,hn,q⟩:=m;subst e;obtain⟨t0,r,e0,rt,ru⟩:=Gd r1;obtain⟨t,rfl⟩:=rt;obtain⟨u,rfl⟩:=ru;subst e0;refine call_range_2 ?_;refine Y0Z ?_;exact Ul hc o hi hn q
theorem Dn {a:Expr}{ta:TA}{p c pos pos':Pos}(hc:X.calm=true)(g:Gl X "list")(d:X.mg "list"=none)(j:Gl X "range")(f:X.mg "range"=none)(ha:PA X [a] ta)
  (hs:starEach [a] X.env=[(false,eval a X.env)]:=by rfl)
  (b:starEach [.Call (.Name "range" c) [a] [] pos'] X.env=[(false,eval (.Call (.Name "range" c) [a] [] pos') X.env)]:=by rfl) :
  PE X (.Call (.Name "list" p) [.Call (.Name "range" c) [a] [] pos'] [] pos) (tLR1 ta):=by
 intro pins s σ H Q I h;refine qk (Wq I g d JN ?_);refine JM ?_ (by rw[b];rfl) rfl;rw[b];show wpAny _ _ (spliced ((false,eval (.Call (.Name "range" c) [a] [] pos') X.env)::[])) _ _ s;refine Y0P (Call_ (Wq I j f boot_range (JM (thn (ha pos' pins s σ H _ I h) λus s1 ⟨vs,H1,l,r1,k⟩=>?_) hs rfl)));obtain⟨n,e,hn,q⟩:=k;subst e;obtain⟨t0,e0,rt⟩:=Vv r1;obtain⟨t,rfl⟩:=rt;subst e0;refine call_range_1 ?_;refine Y0Z ?_;have:=Ul (i:=0) (n:=n) (t:=s1.toks) (u:=t) (v:=s1.toks+1) (tk:=s1.toks+1+1) (Q:=Q) hc l J6 hn (by simpa using q)
 simpa using this
end
section
variable {X:Cx}{l:Expr}{tl:TE}
def Lo (hl:PE X l tl)(h:X.K=K:=by rfl):PI X tg l (iList K tl):=h ▸ Yk hl
end
def Cr (o:Obj)(f):(o.mapFields f).dict=o.dict:=by
 obtain⟨c,d,dt,sl⟩:=o
 cases dt <;> rfl
def TrD (h B:Heap)(e:Addr)(c:Value)(dd:TQ)(a:Value):Prop :=
 ∃ (oe:Obj) (vs:Array Value) (T:Addr) (oT:Obj) (ts:Array Value),(h.get? e=some oe/\oe.cls=c/\oe.dict=dd/\oe.data=.fields vs/\vs[1]?=some (.ref T)/\vs[2]?=some .none)/\(B.get? T=none/\T≠e)/\(h.get? T=some oT/\oT.data=.fields ts/\ts[3]?=some a)
def TrD.obj {B:Heap}{c:Value}{b:Value}(x:TrD h B e c dd b):∃ oe vs,h.get? e=some oe/\oe.cls=c/\oe.dict=dd/\oe.data=.fields vs:=by
 obtain⟨oe,vs,_,_,_,⟨e1,e2,e3,a,_⟩,_⟩:=x;exact⟨oe,vs,e1,e2,e3,a⟩
def FlyD (B:Heap)(l:TN)(e:Addr)(c:Value)(dd:TQ)(h:Heap):Prop:=B.StaysIn h/\B.get? e=none/\h.FunFrames B l/\TrD h B e c dd .none
def HeldD (B:Heap)(l:TN)(e:Addr)(c:Value)(dd:TQ)(L:Addr)(h:Heap):Prop:=B.StaysIn h/\B.get? e=none/\h.FunFrames B l/\TrD h B e c dd (rawInt L)
section
variable {M:Model}{B:Heap}{env:Env}{outer:TN}{L:Addr}{c:Value}{Q:Unit->Shared->Prop}
def Z2m {vs:Array Value}{d:Value}{nx:Bool}(v:A.frames=some (env::outer))(i:s.heap.FunFrames B (env::outer))(t:env.frame=some L)(l:s.heap.get? e=some oe)(kb:B.StaysIn s.heap)(nb:B.get? e=none)(j:oe.data=.fields vs)(r:1<vs.size)(hc:vs[2]?=some .none)
  (hq:∀ h',HeldD B (env::outer) e oe.cls oe.dict L h'->s.heap.UpToSlots h'->Q () { s with heap:=h' }) :
  wpAny M A (do let a <-frameOf env;let pl <-entryPlaceOf L nx;let b <-EntryCells.newEntry d a .none (rawInt L) .none pl;setField (.ref e) 1 b) Q E s:=by
 have ne:e ∉ (env::outer).filterMap (·.frame):=λz=>by
  obtain⟨_,o,ho,f⟩:=i.mem z;rw[l] at ho
  cases ho;exact f vs j
 refine YA (wpAny_frameOf_fun v i t λc k=>?_);refine YA (wpAny_entryPlaceOf λpl m=>?_);unfold EntryCells.newEntry newFields;refine YA (zJ ?_ (m.sizeOk5 _ _ _ _ _));have e1:c.get? e=some oe:=(k.2.1 e ne).trans l;have g:B.StaysIn c:=λb o q=>(k.2.1 b λz=>by rw[(i.mem z).1] at q;cases q).trans (kb b o q);generalize hN:({ cls:=Value.type "traceback",dict:=none,data:=.fields ([d,.ref L,.none,rawInt L,.none]++(if pl.isEmpty then List.replicate 6 Value.none else pl)).toArray }:Obj)=N;have e2:=YB (h:=c) N e1;have nT:c.objs.size≠e:=GC (YL e1);have p:=qj j (·.setIfInBounds 1 (Value.ref c.objs.size));have e3:=JJ (Obj.mapFields (·.setIfInBounds 1 (Value.ref c.objs.size))) e2 (zB p);have kp:∀ b o,b≠e->c.get? b=some o->((c.push N).update e (Obj.mapFields (·.setIfInBounds 1 (Value.ref c.objs.size)))).get? b=some o:=λb o q z=>by
  rw[JB _ _ (XQ q)];exact YB _ z
 have n:∀ b o,s.heap.get? b=some o->(∀ vs,o.data≠.fields vs)->b≠e:=λb o z f q=>by
  rw[q,l] at z
  cases z;exact f vs j
 refine GZ e2 j r (hq _ ?_ ?_)
 ·have u:((c.push N).update e (Obj.mapFields (·.setIfInBounds 1 (Value.ref c.objs.size)))).get? c.objs.size=some N:=by
   rw[JB _ _ (XQ nT)];exact YN c (by rw[<-hN];rfl)
  refine⟨λb o q=>kp b o (λz=>by rw[z,nb] at q;cases q) (g b o q),nb,i.of_keeps λb o z f=>?_,?_⟩
  ·obtain⟨sl,w⟩:=k.2.2 b o z;exact⟨_,kp b _ (n b o z f) w,rfl⟩
  refine⟨_,_,c.objs.size,N,([d,.ref L,.none,rawInt L,.none]++(if pl.isEmpty then List.replicate 6 Value.none else pl)).toArray,⟨e3,Y06 _ _,Cr _ _,p,by simp[r],by rw[Array.getElem?_setIfInBounds_ne J6];exact hc⟩,⟨g.fresh,nT⟩,u,by rw[<-hN],?_⟩
  first | (simp;done) | (rcases m with rfl | ⟨_,_,_,_,_,_,_,rfl⟩ <;> simp)
 intro b o z f;obtain⟨sl,w⟩:=k.2.2 b o z;exact⟨sl,kp b _ (n b o z f) w⟩
theorem F8 {l:TN}{v:Value}(kb:B.StaysIn s.heap)(nb:B.get? e=none)(u:s.heap.FunFrames B l)(t:TrD s.heap B e c dd v)(hq:∀ h',FlyD B l e c dd h'->s.heap.UpToSlots h'->Q () { s with heap:=h' }):wpAny M A (setFlight (.ref e) none) Q E s:=by
 obtain⟨oe,vs,T,oT,ts,⟨j,r,p,m,h1⟩,⟨nT,h⟩,g,dT,n⟩:=t;have k:3<ts.size:=(qz.mp n).1;have d:∀ b,b≠T->(s.heap.update T (Obj.mapFields (·.setIfInBounds 3 ((none:TQ).elim Value.none λf=>rawInt f)))).get? b=s.heap.get? b:=λb q=>JB _ _ (XQ q);have i:∀ b o,s.heap.get? b=some o->(∀ vs,o.data≠.fields vs)->b≠T:=λb o z a q=>by
  rw[q,g] at z
  cases z;exact a ts dT
 unfold setFlight;refine YA (JE j m h1.1 ?_);rw[YG J7];refine GZ g dT k (hq _ ⟨λb o q=>(d b λz=>by rw[z,nT] at q;cases q).trans (kb b o q),nb,u.of_keeps λb o z a=>⟨o,(d b (i b o z a)).trans z,rfl⟩,?_⟩ λb o z a=>⟨o.slots,(d b (i b o z a)).trans z⟩);exact⟨oe,vs,T,_,_,⟨(d e (XQ h)).trans j,r,p,m,h1⟩,⟨nT,h⟩,JJ _ g (zB (qj dT _)),qj dT _,by simp[k]⟩
def Jl {vs:Array Value}(d:A.frames=some (env::outer))(f:s.heap.FunFrames B (env::outer))(a:env.frame=some L)(b:s.heap.get? e=some oe)(kb:B.StaysIn s.heap)(nb:B.get? e=none)(c:oe.data=.fields vs)(h1:vs[1]?=some .none)(hc:vs[2]?=some .none)
  (hq:∀ h',HeldD B (env::outer) e oe.cls oe.dict L h'->s.heap.UpToSlots h'->Q () { s with heap:=h' }):wpAny M A (noteFrame (.ref e) env) Q E s:=by
 unfold noteFrame;simp only [a];refine YA (JE b c h1 ?_);rw[YD J6];exact Z2m d f a b kb nb c (qz.mp h1).1 hc hq
theorem N6 (n:A.frames=some (env::outer))(i:env.frame=some L)(x:FlyD B (env::outer) e c dd s.heap)(hq:∀ h',HeldD B (env::outer) e c dd L h'->s.heap.UpToSlots h'->Q () { s with heap:=h' }):wpAny M A (noteFrame (.ref e) env) Q E s:=by
 obtain⟨kb,nb,m,oe,vs,T,oT,ts,⟨j,rfl,rfl,k,h1⟩,⟨nT,l⟩,f,dT,g⟩:=x;unfold noteFrame;simp only [i];refine YA (JE j k h1.1 ?_);rw[YG J7];refine YA (JE f dT g ?_);rw[YD (by simp[rawInt])];refine YA (GZ f dT (qz.mp g).1 ?_);have d:∀ b,b≠T->(s.heap.update T (Obj.mapFields (·.setIfInBounds 3 Value.none))).get? b=s.heap.get? b:=λb q=>JB _ _ (XQ q);have h:∀ b o,s.heap.get? b=some o->(∀ vs,o.data≠.fields vs)->b≠T:=λb o z a q=>by
  rw[q,f] at z
  cases z;exact a ts dT
 exact Z2m n (m.of_keeps λb o z a=>⟨o,(d b (h b o z a)).trans z,rfl⟩) i ((d e (XQ l)).trans j) (λb o q=>(d b λz=>by rw[z,nT] at q;cases q).trans (kb b o q)) nb k (qz.mp h1.1).1 h1.2
  λh' x u=>hq h' x λb o z a=>u b o ((d b (h b o z a)).trans z) a
theorem K5 {vs:Array Value}(c:A.frames=some (env::outer))(d:s.heap.FunFrames B (env::outer))(a:env.frame=some L)(b:s.heap.get? e=some oe)(kb:B.StaysIn s.heap)(nb:B.get? e=none)(f:oe.data=.fields vs)(h1:vs[1]?=some .none)(hc:vs[2]?=some .none)
  (hq:∀ h',FlyD B outer e oe.cls oe.dict h'->s.heap.UpToSlots h'->Q () { s with heap:=h' }):wpAny M A (leaving env (.ref e)) Q E s:=by
 unfold leaving;refine YA (Jl c d a b kb nb f h1 hc λh' x u=>F8 x.1 x.2.1 x.2.2.1 x.2.2.2 λh2 y v=>hq h2 ⟨y.1,y.2.1,y.2.2.1.2.2,y.2.2.2⟩ (u.trans v))
theorem Jv (b:A.frames=some (env::outer))(a:env.frame=some L)(x:FlyD B (env::outer) e c dd s.heap)(hq:∀ h',FlyD B outer e c dd h'->s.heap.UpToSlots h'->Q () { s with heap:=h' }):wpAny M A (leaving env (.ref e)) Q E s:=by
 unfold leaving;refine YA (N6 b a x λh' x u=>F8 x.1 x.2.1 x.2.2.1 x.2.2.2 λh2 y v=>hq h2 ⟨y.1,y.2.1,y.2.2.1.2.2,y.2.2.2⟩ (u.trans v))
end
abbrev newTupO (vs:TH):Obj:={ cls:=.type "tuple",data:=.seq vs.toArray }
abbrev newExcO (C:Addr)(t:Addr)(dd:TQ):Obj:={ cls:=.ref C,dict:=dd,data:=.fields #[.ref t,.none,.none,.none,.bool false,.none] }
abbrev excHeap (h:Heap)(C:Addr)(vs:TH):Heap:=(h.push (newTupO vs)).push (newExcO C h.objs.size none)
section
variable {P:TU}{g:Array GenState}{d:Drawn}{tk:Nat}{os:OsState}
variable {nm q:Str}{N fI:Addr}{bs tl bB:TH}{hdct:Bool}{sn:TF}{sub:TH}{ab:Bool}{col:Option Bool}{k0 k1 k2 k3 k5:Option Value}{B newId initId:String}{mN:TB}{vs:TH}{oI:Obj}
def Xf {b:Addr}{o:Obj}(e:h.get? b=some o):(excHeap h C vs).get? b=some o:=YB _ (YB _ e)
def Pb:(excHeap h C vs).get? (h.objs.size+1)=some (newExcO C h.objs.size none):=Heap.get?_push_at (JP ..).symm rfl
def Kt {Q:Fin->Shared->Prop}(F:ExcBaseFacts B newId initId bB)(T:OwnTail h bB tl)(a:h.get? C=some (excClassObj nm q C N bs tl hdct sn sub ab col dd k0 k1 k2 k3 k5 newId))(hn:h.Ns N mN)(hi:mN "__init__"=some (.ref fI))
  (hf:h.get? fI=some oI) (f:oI.cls=.type "function") (k:vs.length<=sizeLine)
  (hq:wpAny (model P w) A (call (.ref fI) (.ref (h.objs.size+1)::vs)) (λr s'=>r=.none/\Q (.done (.ret (.ref (h.objs.size+1)))) s') E ⟨excHeap h C vs,g,d,tk,os⟩) :
  wpAny (model P w) A (Builtin.«type.__call__» ⟨.ref C::vs,[]⟩) Q E ⟨h,g,d,tk,os⟩:=by
 repeat (first | with_reducible refine qX a ?_ | with_reducible refine wpAny_madeBy_exc a ?_ | wp_step)
 refine codeAny_call_builtin_code (Code.quiet_builtin _ F.quiet) (wpAny_check_new_subT F T a (codeAny_exc_new_subT F T a ?_ k));show wpAny _ _ _ _ _ _;have c:(excHeap h C vs).get? C=_:=Xf a;have i:(excHeap h C vs).get? (h.objs.size+1)=_:=Pb;have j:(excHeap h C vs).Ns N mN:=hn.keeps λb o e=>Xf e;have n:OwnTail (excHeap h C vs) bB tl:=T.keeps λb o e=>Xf e;have m:(Value.ref C::tl).contains (.ref C)=true:=J7
 unfold isInstance
 repeat (first | with_reducible refine qX i ?_ | (with_reducible refine Y0F c ?_;rw[m]) | wp_step)
 show wpAny _ _ (typeLookup (.ref C) _) _ _ _;refine wpAny_typeLookup_tail c j n F.mroIs F.init.lookup ?_;rw[hi];refine JO (YA ?_);unfold bindSpecial;refine YA (Y1p (T:="function") ⟨_,Xf hf,f⟩ ?_);rw[YG J6];refine YK (YA (GO hq (λr s' ⟨hr,l⟩=>?_) λ_ _ x=>x));subst hr
 wp_walk
 exact l
def Ba {Q:TC}(F:ExcBaseFacts B newId initId bB)(T:OwnTail h bB tl)(a:h.get? C=some (excClassObj nm q C N bs tl hdct sn sub ab col dd k0 k1 k2 k3 k5 newId))(hn:h.Ns N mN)(hi:mN "__init__"=some (.ref fI))
  (hf:h.get? fI=some oI) (b:oI.cls=.type "function") (c:vs.length<=sizeLine)
  (hq:wpAny (model P w) (A.under (.builtin "type.__call__" ⟨.ref C::vs,[]⟩)) (call (.ref fI) (.ref (h.objs.size+1)::vs)) (λr s'=>r=.none/\Q (.ref (h.objs.size+1)) s') E ⟨excHeap h C vs,g,d,tk,os⟩) :
  wpAny (model P w) A (call (.ref C) vs) Q E ⟨h,g,d,tk,os⟩:=by
 have f1:=tc_lookup;have f2:=tc_bind (.ref C);have e:(⟨h,g,d,tk,os⟩:Shared).TypeIs (.ref C) "type":=⟨_,a,rfl⟩;refine Y0o (codeAny_of_tree ?_);show wpAny _ _ (callAny (.ref C) _) _ _ _
 repeat (any_goals (first | assumption | with_reducible refine qX a ?_ | wp_step))
 exact⟨rfl,codeAny_call_builtin_at (Code.quiet_builtin _ J8) entry_typeCall (wpAny_check_type_call_sub a (Kt F T a hn hi hf b c hq))⟩
end
def Z1q {N:Addr}{m:TB}{n:Str}{v:Value}(X:K.In h)(G:h.Ns N m)(e:W.nsIn K N n=some (some v)):m n=some v:=by
 obtain⟨o,es,ep,ho,hd,_,hf⟩:=G;unfold W.nsIn at e;split at e
 ·rename_i c d a n' sl q
  have z:=X _ _ q;rw[ho] at z
  cases z
  cases hd;split at e
  ·rename_i f b
   cases e;rw[<-hf];unfold nsFind findBy;rw[<-Y1V,b];rfl
  split at e <;> cases e
 cases e
def excInI (K:TR)(C fI:Addr):Bool:=match K.lookup C with
 | some ⟨.type "type",_,.cls cd,sl⟩=>(match cd.mro,sl.toList with
  | .ref C'::bm,[_,_,_,_,some (.builtin n),_]=>C' == C && (cd.hasDict && (n == "ValueError.__new__" && (!cd.hasDel && (W.tailIn K bmV bm && (W.nsOkIn K cd.ns && W.nsIn K cd.ns "__init__" == some (some (.ref fI)))))))
  | _,_=>false)
 | _=>false
structure ExcI (K:TR)(mg:TB)(x:Str)(C fI:Addr):Prop where
 ok:excInI K C fI=true
 fn:W.isFn K (.ref fI)=true
 bd:mg x=some (.ref C)
def ExcI.own {x:Str}{fI:Addr}(O:ExcI K mg x C fI)(X:K.In h) :
  ∃ bm N nm q bs sn sub ab col dd k0 k1 k2 k3 k5 mN,h.get? C=some (excClassObj nm q C N bs bm true sn sub ab col dd k0 k1 k2 k3 k5 "ValueError.__new__")/\h.Ns N mN/\mN "__init__"=some (.ref fI)/\OwnTail h bmV bm:=by
 have q:=O.ok;unfold excInI at q
 revert q
 split
 ·rename_i v t k c
  split
  ·rename_i u rest y0 s n r nn m e es
   intro q;rw[JY,JY,JY,JY,JY,JY] at q;obtain⟨l,d,g,i,o,f,j⟩:=q
   cases GV.mp l
   cases GV.mp g;have b:=Y12 _ ▸ i;have a:=GV.mp j
   cases t;simp only at e d b f a;subst e d b;obtain⟨p⟩:=k;have el:p=[y0,s,n,r,some (.builtin "ValueError.__new__"),m]:=es;subst el;have G:h.Ns _ _:=.of_isNs (W.isNs_of_in X f);exact⟨_,_,_,_,_,_,_,_,_,_,_,_,_,_,_,_,X _ _ c,G,Z1q X G a,W.tail_of_in X o⟩
  intro q;cases q
 intro q;cases q
def excN (e C:Addr)(dd:TQ):HO:=.ext λh=>∃ t,h.get? e=some (newExcO C t dd)
def Mp {P:TU}{t:Addr}(x:h.get? e=some (newExcO C t dd)):ObjOk P w H h e (excN e C dd) :=
 ⟨⟨t,x⟩,⟨_,x⟩,λ_ _ ⟨t',e1⟩ k=>⟨t',k _ e1⟩⟩
def Rz {P:TU}(x:HOk P w H h)(y:H e=some (excN e C dd)):∃ t,h.get? e=some (newExcO C t dd):=(x e _ y).1
def unT (H:Hp)(e:Addr):Hp:=λb=>if b=e then none else H b
def Bj:unT H e e=none:=YG rfl
def Vg {b:Addr}(n:b≠e):unT H e b=H b:=YD n
def CXD (P:TU)(w:World):CXT:=λouter H s E e s'=>∃ (a:Addr) (cls:Value) (dd:TQ) (H':Hp) (B:Heap),e=.ref a/\s'.os=s.os/\AllBare s'.gens/\FlyD B outer a cls dd s'.heap ∧
 Un (frs outer) [] H H' s.heap s'.heap/\HOk P w H' B/\(∀ b o,s.heap.get? b=some o->b ∉ frs outer->(∃ o',B.get? b=some o')/\(H b=none->B.get? b=some o))/\E cls dd H'
section
variable {M:Model}{env:Env}
variable {nm q:Str}{N:Addr}{bs tl:TH}{hdct:Bool}{sn:TF}{sub:TH}{ab:Bool}{col:Option Bool}{k0 k1 k2 k3 k5:Option Value}{newId:String}
def Di {x:Sem Value}{Q:Flow->Shared->Prop}(j:tl.contains (.type "BaseException")=true)(f:A.handled=none)
  (h:wpAny M A x (λv s1=>∃ (e t:Addr) (dx:TQ),v=.ref e/\s1.heap.get? C=some (excClassObj nm q C N bs tl hdct sn sub ab col dd k0 k1 k2 k3 k5 newId)/\s1.heap.get? e=some (newExcO C t dx)/\E (.ref e) s1) E s) :
  wpAny M A (raiseStmt env (some x) none) Q E s:=by
 have b:(Value.ref C::tl).contains (.type "BaseException")=true:=by rw[Y1Z,j,Bool.or_true]
 unfold raiseStmt;refine YA (GO h (λv s1 h1=>?_) λ_ _ x=>x);obtain⟨e,t,dx,rfl,a,i,c⟩:=h1;obtain⟨hp,g,d,tk,os⟩:=s1
 repeat (first | with_reducible refine qX i ?_ | with_reducible refine qX a ?_ | (with_reducible refine Y0F a ?_;rw[b]) | wp_step)
 exact wpAny_raiseNew_none f c
end
section
variable {P:TU}{base:Heap}{N:TF}{outer:TN}{H:Hp}{E:XK}
def Wy {b:Addr}{o:Obj}(e:s.heap.get? b=some o)(a:b ∉ frs outer):b ∉ frs (wY qual scope s f cd::outer):=λz=>by
 rcases YU.mp (show b∈s.heap.objs.size::frs outer from z) with z | z
 ·rw[z] at e;exact absurd (YL e) (JA _)
 exact a z
theorem Po {σ:_L.St}{s2:Shared}(I:Inv (cxOf (CXD P w) P w K mg base N qual scope f cd A outer s H E) pins σ H2 s2)(h:H2 e=some (excN e C dd))(ne:∀ o,s.heap.get? e=some o->False)
  (q:E (.ref C) dd (unT H2 e)):(cxOf (CXD P w) P w K mg base N qual scope f cd A outer s H E).xe (.ref e) s2:=by
 obtain⟨t,k⟩:=Rz I.hok h;have nT:∀ b o,H2 b=some o->(∀ φ,o≠HO.ext φ)->b≠e:=λb o z d y=>by
  rw[y,h] at z
  cases z;exact d _ rfl
 have hB:∀ b o,s.heap.get? b=some o->b ∉ frs outer->(∃ o',(W.hideAll s2.heap (e::frs (wY qual scope s f cd::outer))).get? b=some o')/\(H b=none->(W.hideAll s2.heap (e::frs (wY qual scope s f cd::outer))).get? b=some o):=λb o z c=>by
  have nb:b ∉ e::frs (wY qual scope s f cd::outer):=λy=>by
   rcases YU.mp y with y | y
   ·exact ne o (by rw[<-y];exact z)
   exact Wy z c y
  refine⟨?_,λn=>?_⟩
  ·obtain⟨o',l⟩:=I.base.there b o z (by intro z;cases z);exact⟨o',Y19 _ l nb⟩
  exact Y19 _ (I.base.keep b o z n c (by intro z;cases z)) nb
 have un:Un (frs outer) [] H (unT H2 e) s.heap s2.heap:=by
  have u:Un (frs outer) [] H H2 s.heap s2.heap:=I.base;refine⟨u.keep,u.slot,λb o z n hx=>?_,u.there,λb xs z=>?_,λb o v z=>?_,λb ps z=>?_⟩
  ·unfold unT;split
   ·rfl
   exact u.free b o z n hx
  ·have y:=u.tups b xs z;rw[Vg (nT b _ y λφ d=>nomatch d)];exact y
  ·have y:=u.frzs b o v z;rw[Vg (nT b _ y λφ d=>nomatch d)];exact y
  obtain⟨m,y⟩:=u.tbls b ps z;exact⟨m,by rw[Vg (nT b _ y λφ d=>nomatch d)];exact y⟩
 have hok:HOk P w (unT H2 e) (W.hideAll s2.heap (e::frs (wY qual scope s f cd::outer))):=λa o z=>by
  have na:a≠e:=λy=>by rw[y,Bj] at z;cases z
  rw[Vg na] at z;have j:∀ b u,H2 b=some u->b≠e->b ∉ e::frs (wY qual scope s f cd::outer):=λb u y nb g=>by
   rcases YU.mp g with g | g
   ·exact nb g
   rw[I.stkFree b g] at y;cases y
  refine (I.hok a o z).stay (λb u c y=>Y19 _ y ?_) (λb y=>by rw[Vg (nT b _ y λφ d=>nomatch d)];exact y) λb xs y=>by rw[Vg (nT b _ y λφ d=>nomatch d)];exact y
  rcases c with rfl | c
  ·exact j _ _ z na
  exact j _ _ c (nT b _ c λφ d=>nomatch d)
 refine K5 (B:=W.hideAll s2.heap (e::frs (wY qual scope s f cd::outer))) I.ok.frames (W.funFrames_hide I.stack λenv z b c=>YV _ (Y0N.mpr ⟨env,z,c⟩)) (L:=s.heap.objs.size) rfl k (λb o z=>W.of_hideAll _ z)
  (W.hideAll_none _ XC) rfl rfl rfl λh2 i up=>?_
 refine⟨e,.ref C,dd,unT H2 e,_,rfl,I.os,I.bare,i,?_,hok,hB,q⟩;refine Kq (P:=P) (w:=w) un hB i.1 up λb c=>?_;obtain⟨_,o,z,d⟩:=I.funs.mem c;exact⟨o,z,d⟩
def tRaiseD (E:XK)(C:Addr)(sp:Sp)(t:TA):TS:=λ_ σ H=>t σ H λvs H1=>vs.length<=sizeLine/\∀ e,H1 e=none->sp (.ref e::vs) (upd H1 e (excN e C none)) (λv H2=>v=.non/\∃ dd,H2 e=some (excN e C dd)/\E (.ref C) dd (unT H2 e)) E0
theorem Dk {x:Str}{C fI:Addr}{fd:FuncData}{ps:TF}{sp:Sp}{k:Nat}{c:Expr}{rest:TL}{t:TA}{np cpos pos:Pos}(O:ExcI K mg x C fI)(F:FnOk P w K mg base CX0 k fI fd ps sp)(hb:Binds K fd ps [])
  (hr:Room (k+1) (A.deeper (wY qual scope s f cd)) true) (hg:Gl (cxOf (CXD P w) P w K mg base N qual scope f cd A outer s H E) x) (ha:PA (cxOf (CXD P w) P w K mg base N qual scope f cd A outer s H E) (c::rest) t)
  (S:starEach (c::rest) (wY qual scope s f cd)=(false,eval c (wY qual scope s f cd))::starEach rest (wY qual scope s f cd):=by rfl)
  (j:(backTo cpos (starEach rest (wY qual scope s f cd))).any (·.1)=false:=by rfl) (hd:(x == ("__debug__":Str))=false:=by decide) :
  PS (cxOf (CXD P w) P w K mg base N qual scope f cd A outer s H E) (.Raise (some (.Call (.Name x np) (c::rest) [] cpos)) none pos) (tRaiseD E C sp t):=by
 intro pins s1 σ H1 D I h;obtain⟨tl,NN,nm,q,bs,sn,sub,ab,col,dd,k0,k1,k2,k3,k5,mN,Z,hN,Q,T⟩:=O.own I.ok.mod.kin;rw[arm_exec_Raise];refine YA (jc (Di (C:=C) (nm:=nm) (q:=q) (N:=NN) (bs:=bs) (tl:=tl) (hdct:=true) (sn:=sn) (sub:=sub) (ab:=ab) (col:=col) (dd:=dd) (k0:=k0) (k1:=k1) (k2:=k2) (k3:=k3) (k5:=k5) (newId:="ValueError.__new__")
  (T.hasType qY.hasBase) (hr.hd rfl) (YA (GO (wpAny_Call_ofName (Vo I hg O.bd ?_ hd)) (λv s3 n=>YA (jc (YK n))) λ_ _ x=>x))))
 have h2:=ha cpos pins s1 σ H1 _ I h;replace h2:wpAny (model P w) (A.deeper (wY qual scope s f cd)) (spliced (backTo cpos (starEach (c::rest) (wY qual scope s f cd)))) _ _ s1:=h2;rw[S] at h2;show wpAny _ _ (callWith cpos (.ref C) [] (backTo cpos (starEach (c::rest) (wY qual scope s f cd))) (backToKw cpos (keywordEach [] (wY qual scope s f cd)))) _ _ _;unfold callWith;refine YA (JO (GO (?_:wpAny _ _ (evalArgs (.ref C) true (backTo cpos (starEach (c::rest) (wY qual scope s f cd))) []) (λa s2=>a.kw=[]/\∃ vs H2,Inv (cxOf (CXD P w) P w K mg base N qual scope f cd A outer s H E) pins σ H2 s2/\Vals vs a.pos/\vs.length<=sizeLine/\∀ e,H2 e=none->sp (.ref e::vs) (upd H2 e (excN e C none)) (λv H2=>v=.non/\∃ dd,H2 e=some (excN e C dd)/\E (.ref C) dd (unT H2 e)) E0) _ s1) (λa s2 n=>YA (jc ?_)) λ_ _ x=>x))
 ·rw[S];refine Calls.evalArgs_plain (GO h2 (λus s2 n=>?_) λ_ _ y=>y);obtain⟨vs,H2,l,r,hl,q⟩:=n;exact⟨rfl,vs,H2,l,r,hl,q⟩
 obtain⟨us,Y⟩:=a;obtain⟨U,vs,H2,l,r,hl,sq⟩:=n;obtain rfl:Y=[]:=U;obtain⟨hp,g,d,tk,os⟩:=s2;have R:(backTo cpos (starEach (c::rest) (wY qual scope s f cd))).any (·.1)=false:=by
  rw[S];show (false || (backTo cpos (starEach rest (wY qual scope s f cd))).any (·.1))=false;rw[j];rfl
 simp only [R];have p:=l.bk _ _ Z;refine YA (wpAny_keeperOf_exc p ?_);have W:(∃ oI,hp.get? fI=some oI/\oI.cls=.type "function"):=by
  have z:=GV.mp O.fn;obtain⟨o,ho,hc⟩:=Option.map_eq_some_iff.mp z;exact⟨o,l.kIn _ _ ho,hc⟩
 obtain⟨oI,L,X⟩:=W;have hl':us.length<=sizeLine:=by rw[<-r.length];exact hl
 have sz:s.heap.objs.size<=hp.objs.size:=l.sz;have B:=sq (hp.objs.size+1) (l.hok.fresh (zj _));have G:Inv (cxOf (CXD P w) P w K mg base N qual scope f cd A outer s H E) pins σ (upd H2 (hp.objs.size+1) (excN (hp.objs.size+1) C none)) ⟨excHeap hp C us,g,d,tk,os⟩ :=
  l.laid (t':=tk) (λb u e=>Xf e) (zj _) (Mp Pb)
 have r2:Vals (V.ref (hp.objs.size+1)::vs) (Value.ref (hp.objs.size+1)::us):=.cons rfl r;have m:(Value.ref (hp.objs.size+1)::us++[]).length=ps.length:=by
  rw[JT,<-r2.length];exact F.len _ _ _ _ B
 refine YA (Ba qY (T.keeps l.bk) p (hN.keeps l.bk) Q L X hl' (Y0o ?_));refine jj (F.run _ _ _ _ ⟨Value.ref (hp.objs.size+1)::us,[]⟩ (Value.ref (hp.objs.size+1)::us) _ _ E0 (hr.make C us []).loose ((G.env0 rfl).make C us []) (by have z:=hb ⟨excHeap hp C us,g,d,tk,os⟩ (Value.ref (hp.objs.size+1)::us) G.kIn m;rw[JT] at z;exact z) r2 B) λr' s' i=>?_
 cases r' with
 | error e=>exact False.elim i
 | ok fl =>
  cases fl with
  | ret u =>
   obtain⟨v,H',M,rv,ev,dx,q3,q4⟩:=G.after i;subst ev;obtain⟨t',J⟩:=Rz M.hok q3;refine⟨rv,YA (JO (wpAny_point (YK ⟨_,t',dx,rfl,M.bk _ _ Z,J,Po M q3 (λo z=>?_) q4⟩)))⟩;exact absurd (YQ (YL z) sz) (Y0q.mpr (zj _))
  | next=>exact False.elim i
  | brk=>exact False.elim i
  | cont=>exact False.elim i
end
def HasD (P:TU)(w:World)(K:TR)(mg:TB)(base:Heap)(k:Nat)(x:Str)(ps:TF)(sp:Sp):Prop :=
 ∃ (f:Addr) (fd:FuncData),FnOk P w K mg base (CXD P w) k f fd ps sp true/\mg x=some (.ref f)/\W.keepIn K (.ref f)=true/\Binds K fd ps []
def Def.hasD {P:TU}{base:Heap}{k:Nat}{x:Str}{N:TF}(D:Def K mg x st ps)(S:FnScope N ps (defScope st))(len:∀ vs H Q E,sp vs H Q E->vs.length=ps.length)
  (a:∀ (f:Addr) (cdv:Value) (A:Around) (outer:TN) (s:Shared) (H:Hp) (vs:TZ) (Q:VK) (E:XK),Room k (A.deeper (envOfC x (defScope st) s.heap.objs.size f cdv)) true->sp vs H Q E →
   ∃ t,PSs (cxOf (CXD P w) P w K mg base N x (defScope st) f cdv A outer s H E) (defBody st) t/\t { nx:=λ_ H'=>Q .non H',rt:=Q } (start N vs) H):HasD P w K mg base (k+1) x ps sp:=by
 obtain⟨f,fd,F,hm,b⟩:=D;refine⟨f,fd,?_,hm,F.kp,b⟩;obtain⟨oc,od,kV,doc,pm,an,cdv,ct,osl,rfl,lk,c⟩:=F.ex;exact Z2f lk c S len λA outer s H vs Q E hr d=>a f cdv A outer s H vs Q E hr d
def LandsD (X:Cx)(EX:_L.St->XK):Prop:=∀ (pins:TD) (σ:_L.St) (H:Hp) (s:Shared) (e:Value) (s':Shared),Inv X pins σ H s->CXD X.prog X.w X.stack H s (EX σ) e s'->X.xe e s'
section
variable {X:Cx}{k:Nat}{x:Str}{sp:Sp}{e:Expr}{es:TL}{t:TA}{p:Pos}{EX:_L.St->XK}
theorem M0 (h:HasD X.prog X.w X.K X.mg X.base k x ps sp)(hr:Room k X.A true)(hg:Gl X x)(hx:LandsD X EX)(ha:PA X (e::es) t)(c:(x == ("__debug__":Str))=false:=by decide)
  (d:starEach (e::es) X.env=(false,eval e X.env)::starEach es X.env:=by rfl) (b:(backTo pos (starEach es X.env)).any (·.1)=false:=by rfl) (hc:X.calm=true:=by rfl):PE X (.Call (.Name x p) (e::es) [] pos) (tUseX sp EX t):=by
 obtain⟨f,fd,F,hm,hk,i⟩:=h;intro pins s σ H Q I h;refine qk (Vo I hg hm ?_ c);refine W.callWith_K (h₀:=X.base) I.ok.mod.kin hk (thn (ha pos pins s σ H _ I h) λus s1 ⟨vs,H1,a,r,q⟩=>⟨a.kIn,?_⟩) d b;have hl:us.length=ps.length:=by rw[<-r.length];exact F.len _ _ _ _ q
 have bd:=i s1 us a.kIn (by rw[JT];exact hl);rw[JT] at bd;refine Y0o (jj (F.run X.A X.stack s1 H1 ⟨us,[]⟩ us vs Q (EX σ) hr (a.env0 hc) bd r q) λr' s' hq=>?_)
 cases r' with
 | error e=>exact hx pins σ H1 s1 e s' a hq
 | ok g =>
  cases g with
  | ret u=>exact a.after hq
  | next=>exact False.elim hq
  | brk=>exact False.elim hq
  | cont=>exact False.elim hq
end
section
variable {P:TU}{base:Heap}{N:TF}{outer:TN}{H:Hp}{E:XK}
theorem Qr:LandsD (cxOf (CXD P w) P w K mg base N qual scope f cd A outer s H E) (λ_=>E):=by
 intro pins σ H1 s1 e s' I hx;obtain⟨a,cls,dd,H',B,rfl,os,bare,i,un,hok,hB,q⟩:=hx;replace i:FlyD B (wY qual scope s f cd::outer) a cls dd s'.heap:=i;have u:Un (frs outer) [] H H1 s.heap s1.heap:=I.base;have h:∀ b o,s.heap.get? b=some o->b ∉ frs outer->(∃ o',B.get? b=some o')/\(H b=none->B.get? b=some o):=λb o z c=>by
  have nb:=Wy (qual:=qual) (scope:=scope) (f:=f) (cd:=cd) z c;obtain⟨o1,z1⟩:=u.there b o z (by intro z;cases z);refine⟨(hB b o1 z1 nb).1,λn=>?_⟩;exact (hB b o (u.keep b o z n c (by intro z;cases z)) nb).2 (u.free b o z n (by intro z;cases z))
 refine Jv I.ok.frames (L:=s.heap.objs.size) rfl i λh2 g up=>?_;refine⟨a,cls,dd,H',B,rfl,os.trans I.os,bare,g,?_,hok,h,q⟩;have l:∀ b∈frs outer,∃ o,s'.heap.get? b=some o/\∀ vs,o.data≠.fields vs:=λb c=>by
  obtain⟨_,o,z,d⟩:=i.2.2.1.mem (b:=b) (YV _ c);exact⟨o,z,d⟩
 refine Kq (P:=P) (w:=w) ⟨λb o z n c hx=>?_,λb o z n c hx=>?_,λb o z n hx=>?_,λb o z hx=>?_,λb xs z=>un.tups b xs (u.tups b xs z),λb o v z=>un.frzs b o v (u.frzs b o v z),λb ps z=>?_⟩ h g.1 up l
 ·exact un.keep b o (u.keep b o z n c hx) (u.free b o z n hx) (Wy z c) hx
 ·obtain⟨sl,z1⟩:=u.slot b o z n c hx;obtain⟨j,z2⟩:=un.slot b _ z1 (u.free b o z n hx) (YV _ c) hx;exact⟨j,z2⟩
 ·obtain⟨o1,z1⟩:=u.there b o z hx;exact un.free b o1 z1 (u.free b o z n hx) hx
 ·obtain⟨o1,z1⟩:=u.there b o z hx;exact un.there b o1 z1 hx
 obtain⟨m1,z1⟩:=u.tbls b ps z;obtain⟨k,z2⟩:=un.tbls b _ z1;exact⟨m1++k,by rw[z2,Y1U]⟩
end
section
variable {X:Cx}{σ:_L.St}{H:Hp}{a:Addr}
def Z29 {B:Heap}{s':Shared}{h2:Heap}{t':Nat}{cls:Value}(I:Inv X pins σ H s)(os:s'.os=s.os)(bare:AllBare s'.gens)(f:FlyD B X.stack a cls dd h2)(up:s'.heap.UpToSlots h2)(c:FlyD B X.stack a cls dd s'.heap)
  (un:Un (frs X.stack) [] H H' s.heap s'.heap) (hok:HOk X.prog X.w H' B) (hB:∀ b o,s.heap.get? b=some o->b ∉ frs X.stack->(∃ o',B.get? b=some o')/\(H b=none->B.get? b=some o)) :
  Inv X pins σ H' { s' with heap:=h2,toks:=t' }:=by
 refine Inv.call' (s':={ s' with heap:=h2,toks:=t' }) (ch:=[]) I os ?_ (hok.kept f.1) bare (λb z=>nomatch z);exact Kq (P:=X.prog) (w:=X.w) un hB f.1 up λb g=>by
  obtain⟨_,o,e,d⟩:=c.2.2.1.mem g;exact⟨o,e,d⟩
end
section
variable {X:Cx}{x:Str}{D:Addr}{body:TM}{b₀:Stmt}{suite:TM}{np hp:Pos}{tb:(_L.St->XK)->TS}{ts:TS}
def tTryD (C:Addr)(tb:(_L.St->XK)->TS)(ts:TS):TS:=λa σ H=>tb (λσ' cls _ H'=>cls=.ref C/\ts a σ' H') a σ H
theorem Z3w (f:X.stack=X.env::X.outer)(t:X.env.frame=some X.env.locals)(c:CatchBy X.K C D)(hm:X.mg x=some (.ref D))(hg:Gl X x)
  (P:∀ (pn:TD) (E:TC) (EX:_L.St->XK),LandsD (tryCx X pn E) EX->PSs (tryCx X pn E) body (tb EX)) (hs:∀ (a:Addr) (pn:TD) (E:TC),PSs (sutCx X a pn E) (b₀::suite) ts)
  (hd:(x == ("__debug__":Str))=false:=by decide):PS X (.Try body [.ExceptHandler (some (.Name x np)) none (b₀::suite) hp] [] [] pos) (tTryD C tb ts):=by
 intro pins L y N n I0 h;refine wpAny_Try_except ?_;refine thn (P (X.pn++pins) (λe k=>wX X (noteFrame e X.env) (λ_ j=>wX X (setFlight e none) (λ_ m=>wX X (handleBy e X.env [.ExceptHandler (some (.Name x np)) none (b₀::suite) hp]) (SP X pins n) X.xe m) X.xe j) X.xe k)
  (λσ' cls _ H'=>cls=.ref C/\ts n σ' H') ?_ [] L y N n (Z58 I0) h) λg s1 q=>?_
 ·intro pins' σ H s e s' I hx;obtain⟨a,cls,dd,H',B,rfl,os,bare,g,un,hok,hB,rfl,F⟩:=hx;have U:Inv X pins σ H s:=V8 I0.ok I;replace g:FlyD B X.stack a (.ref C) dd s'.heap:=g;have i:∀ h2 t',FlyD B X.stack a (.ref C) dd h2->s'.heap.UpToSlots h2->Inv X pins σ H' { s' with heap:=h2,toks:=t' }:=λh2 t' f2 Y=>Z29 U os bare f2 Y g un hok hB;have p:X.A.frames=some (X.env::X.outer):=by rw[<-f];exact I0.ok.frames
  have v:FlyD B (X.env::X.outer) a (.ref C) dd s'.heap:=by rw[<-f];exact g
  refine N6 p t v λh4 d R=>F8 d.1 d.2.1 d.2.2.1 d.2.2.2 λQ b W=>?_;have l:=R.trans W;rw[<-f] at b;have J:=i Q s'.toks b l;obtain⟨ob,_,r,w,_⟩:=b.2.2.2.obj;refine wpAny_handleBy_cons (codeAny_handlers_test (Vo (X:=sutCx X a (X.pn++pins) X.xe) (Fg J) hg hm ?_ hd)) (by intro z;cases z);obtain⟨Z,g1,d1,V,o1⟩:=s';refine Kf J.kIn c r w (codeAny_handlers_suite ?_);refine F8 b.1 b.2.1 b.2.2.1 b.2.2.2 λM G S=>?_;have T:=i M V G (l.trans S);refine thn (hs a (X.pn++pins) _ [] _ σ H' n (Fg T) F) λf2 s2 O=>?_;exact Bo I0.ok O
 have o:=Bn I0.ok q
 cases g with
 | next=>exact js o
 | brk=>exact o
 | cont=>exact o
 | ret u=>exact o
end
theorem _root_.L2.Room.mark {k:Nat}{A:Around}{sr:Bool}{h:Option Value}(r:Room k A sr):Room k (A.mark h):=⟨(λz=>nomatch z),r.dp,r.un⟩
open PySem.W (Looks findIn specialIn takesIn mroIn clsIn)
open Builtin Builtin.ObjectAttr
section
variable {P:TU}
def Be {t:Addr}{vs:TH}{Q:Fin->Shared->Prop}(a:s.heap.get? e=some (newExcO C t dd))(b:vs.length<=sizeLine)
  (h:Q (.done (.ret .none)) { s with heap:=(s.heap.push (newTupO vs)).update e (Obj.mapFields (·.setIfInBounds 0 (.ref s.heap.objs.size))) }):wpAny (model P w) A (Builtin.«BaseException.__init__» ⟨.ref e::vs,[]⟩) Q E s:=by
 unfold Builtin.«BaseException.__init__»;dsimp only;rw[YD J7];unfold newTuple Builtin.BaseException.bexcPut;have h1:=YB (h:=s.heap) (newTupO vs) a;refine YA (zJ (YA (YA (JE h1 rfl rfl (YA (GZ h1 rfl (by show 0<6;decide) ?_))))) (by size_fits));exact Y0Y (YK h)
end
structure BaseI (K:TR)(mg:TB)(x:Str)(D:Addr):Prop where
 bd:mg x=some (.ref D)
 rd:W.readsIn K D (.type "type")=true
 ty:W.typeIn K (.ref D)=some (.type "type")
 fc:W.findCls K (.ref D) (.type "type") "__init__"=some (.val (.builtin "ValueError.__init__"))
inductive tBaseI_i (K:TR) (mg:TB) (Q:VK) (vs:TZ) (H1:Hp):Prop
 | mk (e C fI:Addr) (dd:TQ) (xn:Str) (ws:TZ) (zz0:vs=.ref e::ws) (zz1:ws.length<=sizeLine) (zz2:H1 e=some (excN e C dd)) (zz3:ExcI K mg xn C fI) (zz4:Q .non H1)
def tBaseI (K:TR)(mg:TB)(t:TA):TE:=λσ H Q=>t σ H (tBaseI_i K mg Q)
def Bi {a:Addr}{o:HO}(h:H a=some o):upd H a o=H:=by
 funext b
 unfold upd;split
 ·rename_i z;rw[z,h]
 rfl
section
variable {X:Cx}{x:Str}{D:Addr}{e:Expr}{es:TL}{t:TA}{np apos:Pos}
theorem Z0z {pl:Sem Bool}(B:BaseI X.K X.mg x D)(hg:Gl X x)(ha:PA X (e::es) t)(hd:(x == ("__debug__":Str))=false:=by decide)
  (l:starEach (e::es) X.env=(false,eval e X.env)::starEach es X.env:=by rfl) (i:(backTo pos (starEach es X.env)).any (·.1)=false:=by rfl)
  (G:eval (.Call (.Attribute (.Name x np) "__init__" apos) (e::es) [] pos) X.env=(do
   let ov <-eval (.Name x np) X.env
   standAt apos.atName
   let (f,first) <-holding [ov] (getMethod ov "__init__" pl)
   callWith pos f first (backTo pos (starEach (e::es) X.env)) (backToKw pos (keywordEach [] X.env))):=by rfl) :
  PE X (.Call (.Attribute (.Name x np) "__init__" apos) (e::es) [] pos) (tBaseI X.K X.mg t):=by
 intro pins s σ H Q I h;refine W.methodCall_KW (pl:=pl) (Vo I hg B.bd ?_ hd) G;have A:=W.looks_typeIn (M:=model X.prog X.w) I.kIn B.ty;have c:findIn X.K (.type "type") "__getattribute__"=some (some (.builtin "type.__getattribute__")):=W.type_tga;unfold getMethod specialOf;refine YA (YA (A.at ((Y0O I.kIn c).at ?_)));dsimp only;rw[YG W.canon_tga];refine YA (GO (Q:=λv s'=>v=.builtin "ValueError.__init__"/\s'={ s with toks:=s.toks+1 }) (E:=X.xe) (W.cls_value I.kIn B.rd B.fc rfl ⟨rfl,rfl⟩) (λv s' ⟨z1,z2⟩=>YK ?_) λ_ _ z=>z);subst z1 z2;refine Y0p (thn (ha pos pins _ σ H _ (I.tok _) h) λus s1 ⟨vs,H1,m,r,q⟩=>?_) l i;obtain⟨ea,C,fI,dd,xn,ws,rfl,hl,j,O,q⟩:=q
 cases r with
 | @cons _ u _ us' r1 r2 =>
  cases (show u=Value.ref ea from r1);obtain⟨t0,a⟩:=Rz m.hok j;obtain⟨tl,L,nm,N,bs,sn,sub,ab,col,F,k0,k1,k2,k3,k5,mN,p,hN,y,T⟩:=O.own m.kIn;have hl':us'.length<=sizeLine:=by rw[<-r2.length];exact hl
  have k:=m;obtain⟨hp,g,d,tk,os⟩:=s1;refine Y0o (codeAny_call_builtin qY.init.plain qY.initEntry (wpAny_check_init_subT qY T p a rfl (Be a hl' ?_)));have e1:((hp.push (newTupO us')).update ea (Obj.mapFields (·.setIfInBounds 0 (.ref hp.objs.size)))).get? ea=some (newExcO C hp.objs.size dd):=by
   rw[JJ _ (YB _ a) rfl];rfl
  have n:=k.write (o:=excN ea C dd) (h':=(hp.push (newTupO us')).update ea (Obj.mapFields (·.setIfInBounds 0 (.ref hp.objs.size)))) (t':=tk) (x:=ea) (e:=ea) (by rw[j];trivial) (.inl rfl) (λb u J hu=>by
   rw[JB _ _ (XQ J)];exact YB _ hu) ⟨_,e1⟩ (Mp e1)
  rw[Bi j] at n;exact⟨.non,H1,n,rfl,q⟩
end
structure StoI (K:TR)(C:Addr)(f:Str):Prop where
 sa:findIn K (.ref C) "__setattr__"=some (some (.builtin "object.__setattr__"))
 na:findIn K (.ref C) f=some none
def Lj {h:Heap}{tl:TH}{v:Value}(T:OwnTail h bmV tl):refuseLoop v "__setattr__" tl=pure ():=by
 induction T with
 | base=>exact GI.passes v
 | own _ _ _ _ a=>rw[refuseLoop_ref];exact a
section
variable {P:TU}{g:Array GenState}{d:Drawn}{t:Nat}{os:OsState}{xn f:Str}{fI x t0:Addr}{v:Value}
theorem D4 {tk:Tok}{Q:Fin->Shared->Prop}(X:K.In h)(O:ExcI K mg xn C fI)(S:StoI K C f)(hx:h.get? x=some (newExcO C t0 none))
  (hq:∀ h' r,h'.get? x=some (newExcO C t0 (some h.objs.size))->h'.Ns1 h.objs.size (λy=>if y=f then some v else none)->(∀ b o,b≠x->h.get? b=some o->h'.get? b=some o)->Q (.done (.ret .none)) ⟨h',g,d,r,os⟩) :
  wpAny (model P w) A (Builtin.«object.__setattr__» ⟨[.ref x,.str f tk,v],[]⟩) Q E ⟨h,g,d,t,os⟩:=by
 obtain⟨tl,R,nm,V,bs,sn,sub,ab,col,N,k0,k1,k2,k3,k5,mN,D,hN,F,T⟩:=O.own X;have a:=Lj (v:=.ref x) T;have H:=Y0O (M:=model P w) X S.na;have B:=hx;generalize ho:newExcO C t0 none=o at hx;have hc:o.cls=.ref C:=by rw[<-ho]
 have s:o.dict=none:=by rw[<-ho]
 have m:∀ c,o.data≠.cls c:=λc z=>by rw[<-ho] at z;cases z
 unfold Builtin.«object.__setattr__»
 repeat (first | rw[refuse_eq] | (rw[refuseLoop_ref,a]) | (with_reducible refine qX hx ?_;rw[hc]) | with_reducible refine wpAny_mroOf_exc D ?_ | (refine YA (H.at ?_)) | wp_step)
 rw[s,YD (by simp[typeHasDict])];split
 ·rename_i z
  cases z
 split
 ·rename_i c z
  exact absurd z (m c)
 subst ho;have i:(h.push { cls:=.type "dict",data:=.dict #[] }).get? x=some (newExcO C t0 none):=YB _ hx;have k:x≠h.objs.size:=XB (YL hx);refine YA (wpAny_alloc' (YA (wpAny_update' i (YK ?_))));have J:((h.push { cls:=.type "dict",data:=.dict #[] }).update x λo=>{ cls:=o.cls,dict:=some h.objs.size,data:=o.data,slots:=o.slots }).get? h.objs.size=some { cls:=.type "dict",data:=.dict #[] }:=(Y0G _ _ _ _ k.symm).trans (Heap.get?_push_at rfl rfl);have nd:((h.push { cls:=.type "dict",data:=.dict #[] }).update x λo=>{ cls:=o.cls,dict:=some h.objs.size,data:=o.data,slots:=o.slots }).Ns h.objs.size (λ_=>none):=⟨_,#[],_,J,rfl,λe I=>absurd I J7,λ_=>rfl⟩;show wpAny _ _ (storeInDict h.objs.size (.str f tk) f v) _ _ _;unfold storeInDict newKeyGuard;refine YA (YK (YA (wpAny_nsSet1 (Heap.Ns1.of_empty nd) λh' j hs=>?_)));obtain⟨U,L,G,l,n,q⟩:=j.count (Within.cons f v Within.nil);refine YA (wpAny_lookBehind l (by rw[n];exact pastItsLine_dict (YM q (by rw[XW,ju,qq];omega))) ?_)
 wp_walk
 refine hq h' _ ?_ j λb ob p u=>?_
 ·refine (hs.2 x k).trans ((JJ _ i rfl).trans ?_);rfl
 exact (hs.2 b (XB (YL u))).trans ((Y0G _ _ _ _ p).trans (YB _ u))
theorem Cy {M:Model}{a:Value}{Q:Unit->Shared->Prop}(X:K.In h)(O:ExcI K mg xn C fI)(hx:h.get? x=some (newExcO C t0 none))(hq:Q () ⟨h,g,d,t,os⟩) :
  wpAny M A (checkBuiltinCall "object.__setattr__" ⟨[.ref x,a,v],[]⟩) Q E ⟨h,g,d,t,os⟩:=by
 obtain⟨tl,j,nm,k,bs,sn,sub,ab,col,f,k0,k1,k2,k3,k5,mN,c,hN,e,T⟩:=O.own X;have i:(Value.ref C::tl).contains (.type "object")=true:=by rw[Y1Z,T.hasType (b:=true) J8,Bool.or_true]
 have ha:=GI.args (.ref x) a v;simp only [checkBuiltinCall,GI.kind,GI.split];refine YA ?_;unfold isInstance
 repeat (first | (with_reducible refine qX hx ?_) | (with_reducible refine Y0F c ?_;rw[i]) | wp_step)
 exact hq
def Bm {Q:Unit->Shared->Prop}(X:K.In h)(O:ExcI K mg xn C fI)(S:StoI K C f)(hx:h.get? x=some (newExcO C t0 none))
  (hq:∀ h' e,h'.get? x=some (newExcO C t0 (some h.objs.size))->h'.Ns1 h.objs.size (λy=>if y=f then some v else none)->(∀ b o,b≠x->h.get? b=some o->h'.get? b=some o)->Q () ⟨h',g,d,e,os⟩) :
  wpAny (model P w) A (setAttr (.ref x) f v) Q E ⟨h,g,d,t,os⟩:=by
 have i:=Y0O (M:=model P w) X S.sa;have j:=GI.slot.bind (.ref x);unfold setAttr callSpecial? specialOf;refine YA (wpAny_mkText ?_);refine YA (YA (YA ?_))
 repeat (any_goals (first | assumption | (with_reducible refine qX hx ?_) | (refine YA (i.at ?_)) | (refine i.at ?_) | wp_step))
 refine codeAny_call_builtin GI.slot.plain GI.entry (Cy X O hx (D4 X O S hx λh' e a b c=>?_))
 repeat (any_goals (first | assumption | wp_step))
 exact hq h' e a b c
end
section
variable {X:Cx}{o value:Expr}{f:Str}{ta tv:TE}
inductive sFldX_i (K:TR) (mg:TB) (f:Str) (D:Ends) (σ:_L.St) (y:V) (x:V) (H2:Hp):Prop
 | mk (e C fI:Addr) (xn:Str) (zz0:x=.ref e) (zz1:H2 e=some (excN e C none)) (zz2:ExcI K mg xn C fI) (zz3:StoI K C f) (zz4:∀ d,H2 d=none->d≠e->D.nx σ (upd (upd H2 e (excN e C (some d))) d (.xd [(f,y)])))
def sFldX (K:TR)(mg:TB)(ta tv:TE)(f:Str):TS:=λD σ H=>tv σ H λy H1=>ta σ H1 (sFldX_i K mg f D σ y)
theorem Z3x (ha:PE X o ta)(G:PE X value tv)(hs:swapsWith value (some (.Attribute o f pos')) pos.line X.env=pure false):PS X (.Assign [.Attribute o f pos'] value pos) (sFldX X.K X.mg ta tv f):=by
 intro pins s σ H D I h;refine Y0k (thn (G pins s σ H _ I h) λu s1 ⟨y,H1,L,B,q⟩=>thn (ha pins s1 σ H1 _ L q) λov s2 ⟨x,H2,j,A,e,C,fI,xn,ex,ea,O,S,F⟩=>?_) hs;subst ex;obtain rfl:ov=Value.ref e:=A;obtain⟨t0,k⟩:=Rz j.hok ea;obtain⟨hp,g,d,tk,os⟩:=s2;refine Bm j.kIn O S k λh' n a b c=>?_;have l:hp.objs.size≠e:=GC (YL k);have E:=j.write (o:=excN e C (some hp.objs.size)) (h':=h') (t':=n) (x:=e) (e:=e) (by rw[ea];trivial) (.inl rfl) (λM u N hu=>c M u N hu) ⟨_,a⟩ (Mp a);have v:H2 hp.objs.size=none:=j.hok.fresh (YJ _);have t:upd H2 e (excN e C (some hp.objs.size)) hp.objs.size=none:=by rw[Zc l];exact v
 have J:ObjOk X.prog X.w (upd (upd H2 e (excN e C (some hp.objs.size))) hp.objs.size (.xd [(f,y)])) h' hp.objs.size (.xd [(f,y)]):=by
  refine⟨_,b,λz=>?_⟩;by_cases hz:z=f
  ·subst hz;rw[YG rfl];show RelO (List.lookup z [(z,y)]) (some u);rw[show List.lookup z [(z,y)]=some y from by simp[List.lookup]];exact B
  rw[YD hz];show RelO (List.lookup z [(f,y)]) none;rw[show List.lookup z [(f,y)]=none from by simp[List.lookup,JH.mpr hz]]
  trivial
 have R:Inv X pins σ (upd (upd H2 e (excN e C (some hp.objs.size))) hp.objs.size (.xd [(f,y)])) ⟨h',g,d,n,os⟩:=by
  refine Ch E t J (λob z=>?_) (λz=>?_) (λP cc z Q=>?_) (λp r z=>?_)
  ·exact absurd (YQ (YL z) j.sz) (JA _)
  ·obtain⟨m,⟨o',_,_,i,_⟩,_⟩:=j.loc;rw[<-z] at i;exact absurd (YL i) (JA _)
  ·obtain⟨v',o',i,_⟩:=j.cell P cc z;rw[Q] at i;exact absurd (YL i) (JA _)
  have e':=(j.pin p r).1;rw[z] at e';exact absurd (YL e') (JA _)
 exact⟨σ,_,R,F _ v l⟩
end
def ErrHere (K:TR)(mg:TB)(x q:Str)(st:Stmt):Prop:=∃ (C f:Addr) (fd:FuncData),ExcI K mg x C f/\Fun K "__init__" q st f fd/\Binds K fd UE []/\StoI K C "multiples"/\ExcRead K C
def Z80 {x q:Str}{sl:Array (Option Value)}{kV:Value}(X:K.In h)(G:h.Ns mainGlobals mg)(c:W.nsIn K mainGlobals x=some (some (.ref C)))
  (a1:W.findIn K (.ref C) "__init__"=some (some (.ref f))) (i1:W.isFn K (.ref f)=true) (b:K.lookup f=some ⟨oc,od,.func (W.fnOf "__init__" q (defArgs st) (defBody st) (defScope st) .none kV dc pm an cd ct),sl⟩) (a:W.codeIn K cd q=true) (k1:W.keepIn K (.ref f)=true)
  (sa:W.findIn K (.ref C) "__setattr__"=some (some (.builtin "object.__setattr__"))) (na:W.findIn K (.ref C) "multiples"=some none)
  (ga:W.findIn K (.ref C) "__getattribute__"=some (some (.builtin "BaseException.__getattribute__"))) (gh:W.findIn K (.ref C) "__getattr__"=some none) (cl:W.findIn K (.ref C) "__class__"=some (some (.builtin "object.__class__"))) (gt:W.specialIn K (.builtin "object.__class__") "__get__"=some (some (.builtin "getset_descriptor.__get__")))
  (tk:W.takesIn K (.builtin "object.__class__")=some true) (mo:W.mroIn K C (.type "object")=some true) (be:W.subIn K (.ref C) (.type "BaseException")=some true)
  (ok:excInI K C f=true) (bd:∀ (us:TH),us.length=2->bindArgs (W.fnOf "__init__" q (defArgs st) (defBody st) (defScope st) .none kV dc pm an cd ct) ⟨us,[]⟩=pure ((UE:List Str).zip us)):ErrHere K mg x q st :=
 ⟨C,f,_,⟨ok,i1,Y0J X G c⟩,U7 b a k1,Binds.all bd,⟨sa,na⟩,⟨ga,gh,cl,gt,tk,mo,be⟩⟩
def BaseHere (K:TR)(mg:TB)(x:Str):Prop:=∃ D,BaseI K mg x D
def Z5t {x:Str}{D:Addr}(X:K.In h)(G:h.Ns mainGlobals mg)(a:W.nsIn K mainGlobals x=some (some (.ref D)))(r:W.readsIn K D (.type "type")=true)(t:W.typeIn K (.ref D)=some (.type "type"))
  (f:W.findCls K (.ref D) (.type "type") "__init__"=some (.val (.builtin "ValueError.__init__"))):BaseHere K mg x:=⟨D,Y0J X G a,r,t,f⟩
def Z1w {x:Str}{a b:Addr}(h1:mg x=some (.ref a))(h2:mg x=some (.ref b)):a=b:=by
 rw[h1] at h2;injection h2 with h
 injection h
def CatchHere (K:TR)(mg:TB)(x y:Str):Prop:=∃ (C D:Addr),CatchBy K C D/\mg x=some (.ref C)/\mg y=some (.ref D)
def Z2v {x y:Str}{D:Addr}(X:K.In h)(G:h.Ns mainGlobals mg)(a:W.nsIn K mainGlobals x=some (some (.ref C)))(b:W.nsIn K mainGlobals y=some (some (.ref D)))
  (n:W.instIn K (.ref D) (.type "tuple")=some false) (be:W.subIn K (.ref D) (.type "BaseException")=some true) (i:W.kitOne K (.type "int") (.ref D)=some false) (k:W.subIn K (.ref C) (.ref D)=some true):CatchHere K mg x y :=
 ⟨C,D,⟨n,be,i,k⟩,Y0J X G a,Y0J X G b⟩
inductive spErrInit (K:TR) (C:Addr) (vs:TZ) (H:Hp) (Q:VK) (_z3:XK):Prop
 | mk (e l:Addr) (xs:TZ) (zz0:vs=[.ref e,.ref l]) (zz1:H e=some (excN e C none)) (zz2:SqL K H l xs) (zz3:∀ (d l':Addr) (H':Hp),H l'=none->H d=none->H' e=some (excN e C (some d))->H' d=some (.xd [("multiples",.ref l')])->H' l'=some (.lst xs)->(∀ b o,H b=some o->b≠e->H' b=some o)->Q .non H')
def Z2k {l' d:Addr}{Q:VK}(g:H e=some (excN e C none))(hl':H l'=none)(hd:upd H l' (.lst xs) d=none)(f:d≠e)
  (k:∀ (d l':Addr) (H':Hp),H l'=none->H d=none->H' e=some (excN e C (some d))->H' d=some (.xd [("multiples",.ref l')])->H' l'=some (.lst xs)->(∀ b o,H b=some o->b≠e->H' b=some o)->Q .non H') :
  Q .non (upd (upd (upd H l' (.lst xs)) e (excN e C (some d))) d (.xd [("multiples",.ref l')])):=by
 have ne:l'≠e:=λz=>by rw[z,g] at hl';cases hl'
 have nd:d≠l':=λz=>by rw[z,Za] at hd;cases hd
 rw[Zc nd] at hd;refine k d l' _ hl' hd ?_ Za ?_ λb o a c=>?_
 ·rw[Zc (XQ f),Za]
 ·rw[Zc (XQ nd),Zc ne,Za]
 rw[Zc (λz=>by rw[z,hd] at a;cases a),Zc c,Zc (λz=>by rw[z,hl'] at a;cases a)];exact a
def Pr {K:TR}(hK:X.K=K:=by rfl):CallR X (.type "list") (λxs H Q=>∃ p ys,xs=[.ref p]/\(SqL K H p ys \/ SqT K H p ys)/\∀ l,H l=none->Q (.ref l) (upd H l (.lst ys))):=hK ▸ Yw
open PySem.W (Looks findIn specialIn takesIn mroIn clsIn)
open PyProof.V
set_option maxRecDepth 100000
set_option maxHeartbeats 1000000
section
variable {M:Model}
def Z4x {x y:Str}{c:Addr}{v:Value}{qual:Str}{f:Addr}{cd:Value}{Q:Env->Shared->Prop}(hk:scope.kind=.function)(hx:scope.names.lookup x=some .cell)
  (j:∀ n,cellsFrom n scope.names [(y,c)]=[(x,n),(y,c)]) (i:∀ h,pushCells h scope.names=h.push { cls:=.type "cell",data:=.cell none })
  (p:∀ h1 tk,h1.Ns s.heap.objs.size (λ_=>none)->h1.IsCell (s.heap.objs.size+1) (some v)->(∀ b o,s.heap.get? b=some o->h1.get? b=some o) →
   Q (W.envX qual scope s.heap.objs.size f cd [(x,s.heap.objs.size+1),(y,c)]) { s with heap:=h1,toks:=tk }) :
  wpAny M A (newFunctionEnv scope mainGlobals [(y,c)] [(x,v)] (qual++".<locals>.") (some f) cd none builtinsNs) Q E s:=by
 simp only [newFunctionEnv,Y1T,XM,qo];refine YA (wpAny_alloc ?_);refine YA (wpAny_layCells _ (λname kind g=>by cases m:kind == NameKind.cell <;> simp) _ _ _ _ ?_);rw[j,show ({ s with heap:=s.heap.push { cls:=.type "frame",data:=.dict #[] } }:Shared).heap.objs.size=s.heap.objs.size+1 from JP ..];rw[i];have l:((s.heap.push { cls:=.type "frame",data:=.dict #[] }).push { cls:=.type "cell",data:=.cell none }).Ns s.heap.objs.size (λ_=>none) :=
  (Heap.Ns.new s.heap (.type "frame")).keeps λb o e=>YB _ e
 have k:((s.heap.push { cls:=.type "frame",data:=.dict #[] }).push { cls:=.type "cell",data:=.cell none }).IsCell (s.heap.objs.size+1) none:=by
  refine⟨{ cls:=.type "cell",data:=.cell none },?_,rfl⟩;have e:(s.heap.push { cls:=.type "frame",data:=.dict #[] }).objs.size=s.heap.objs.size+1:=JP ..;rw[<-e];exact YN _ rfl
 refine YA ?_;rw[jb];refine YA (YA (wpAny_storeName_cell (env:=W.envX qual scope s.heap.objs.size f cd [(x,s.heap.objs.size+1),(y,c)]) hk hx (c:=s.heap.objs.size+1) J7 k λh' d a=>YK ?_));show wpAny M A (forIn [] PUnit.unit _) _ _ _;rw[Y0e];refine YK (YK ?_);refine p h' s.toks (l.sameBut a (XB (ji _))) d λb o e=>?_;have q:b<s.heap.objs.size:=YL e;rw[a.2 b (XB (zK q))];exact YB _ (YB _ e)
end
structure LamScope (x y:Str)(sc:Scope):Prop where
 kind:sc.kind=.function
 co:sc.isCoroutine=false
 gen:sc.isGenerator=false
 ne:x≠y
 par:sc.names.lookup x=some .cell
 fre:sc.names.lookup y=some .free
 only:∀ z,sc.names.lookup z=some .cell \/ sc.names.lookup z=some .free->z=x \/ z=y
 cs:∀ n c,cellsFrom n sc.names [(y,c)]=[(x,n),(y,c)]
 pc:∀ h,pushCells h sc.names=h.push { cls:=.type "cell",data:=.cell none }
def cxLam (P:TU)(w:World)(K:TR)(mg:TB)(base:Heap)(x y:Str)(qual:Str)(scope:Scope)(f:Addr)(cd:Value)(c:Addr)(A:Around)(outer:TN)(s:Shared)(H:Hp):Cx where
 prog:=P
 w:=w
 K:=K
 mg:=mg
 base:=base
 A:=A.deeper (W.envX qual scope s.heap.objs.size f cd [(x,s.heap.objs.size+1),(y,c)])
 N:=[x,y]
 s₀:=s
 H₀:=H
 env:=W.envX qual scope s.heap.objs.size f cd [(x,s.heap.objs.size+1),(y,c)]
 outer:=outer
 stack:=W.envX qual scope s.heap.objs.size f cd [(x,s.heap.objs.size+1),(y,c)]::outer
 ex:=[]
 calm:=true
 fn:=λz=>z == x
 pn:=qpin A s.heap
 xe:=λ_ _=>False
def K2 {x y z:Str}{a b c:Addr}(h:([(x,a),(y,b)]:List (Str × Addr)).lookup z=some c):(z=x/\c=a) \/ (z=y/\c=b):=by
 rw[XX] at h
 cases hz:z == x with
 | true=>rw[hz] at h;cases h;exact .inl ⟨GV.mp hz,rfl⟩
 | false =>
  rw[hz] at h;have h:([(y,b)]:List (Str × Addr)).lookup z=some c:=h;rw[XX] at h
  cases d:z == y with
  | true=>rw[d] at h;cases h;exact .inr ⟨GV.mp d,rfl⟩
  | false=>rw[d] at h;cases h
theorem Z59 {P:TU}{w:World}{K:TR}{mg:TB}{base:Heap}{x y:Str}{qual:Str}{scope:Scope}{f:Addr}{cd:Value}{c:Addr}{A:Around}{outer:TN}{s:Shared}{H:Hp}{vx vy:V}{l j:Value}{h1:Heap}{tk:Nat}
  (S:LamScope x y scope) (e0:Env0 P w K mg base A outer s H) (k:A.depth+1+100<recursionLimit) (hc:s.heap.IsCell c (some j)) (g:H c=none) (t:RelV vx l) (q:RelV vy j)
  (r:h1.Ns s.heap.objs.size (λ_=>none)) (m:h1.IsCell (s.heap.objs.size+1) (some l)) (hk:∀ b o,s.heap.get? b=some o->h1.get? b=some o) :
  Inv (cxLam P w K mg base x y qual scope f cd c A outer s H) [] [some vx,some vy] H { s with heap:=h1,toks:=tk }:=by
 have a:c<s.heap.objs.size:=let ⟨_,e,_⟩:=hc;YL e;have d:∀ b:Addr,b ∉ (cxLam P w K mg base x y qual scope f cd c A outer s H).ex:=λb z=>absurd (show b∈([]:TJ) from z) J7;have lx:([(x,s.heap.objs.size+1),(y,c)]:List (Str × Addr)).lookup x=some (s.heap.objs.size+1):=J7
 have n:([(x,s.heap.objs.size+1),(y,c)]:List (Str × Addr)).lookup y=some c:=by
  rw[XX,show (y == x)=false from JH.mpr (XQ S.ne)];simp
 refine⟨⟨e0.mod,S.kind,rfl,rfl,YJ _,λB z c' h1 h2=>?_,λz hz=>?_,λz c' hf h=>?_,λ_=>e0.qt.pin,Around.frames_deeper e0.frames,.inr ⟨rfl,rfl⟩,λb z=>absurd z (d b),e0.bs,e0.bsz,λb _ _=>d b,λb z=>absurd z (d b),e0.funs,e0.frf,⟨e0.tree,_,_,rfl,S.gen,S.co,rfl,rfl⟩,k⟩,
  rfl,e0.bare,Un.kept hk,⟨_,r,λi z v h1 h2 u=>?_⟩,λz c' h=>?_,e0.hok.fresh (YJ _),λz c' h=>?_,λp hp=>?_,e0.hok.kept hk,rfl⟩
 ·rcases K2 h1 with ⟨a1,a2⟩ | ⟨a1,a2⟩ <;> rcases K2 h2 with ⟨b1,b2⟩ | ⟨b1,b2⟩
  ·rw[a1,b1]
  ·exact absurd (b2.symm.trans a2) (XB (zK a))
  ·exact absurd (a2.symm.trans b2) (XB (zK a))
  rw[a1,b1]
 ·rcases S.only z hz with rfl | rfl
  ·exact⟨_,lx⟩
  exact⟨_,n⟩
 ·rcases K2 h with ⟨a1,a2⟩ | ⟨a1,a2⟩
  ·rw[a2];exact zj _
  have:(z == x)=true:=hf;rw[GV] at this;exact absurd (this.symm.trans a1) S.ne
 ·match i,h1,h2 with
  | 0,h1,h2 =>
   cases h1;cases h2;exact⟨l,t,.inr ⟨.inl S.par,_,lx,m⟩⟩
  | 1,h1,h2 =>
   cases h1;cases h2;exact⟨j,q,.inr ⟨.inr S.fre,_,n,hc.keeps hk⟩⟩
 ·rcases K2 h with ⟨a1,a2⟩ | ⟨a1,a2⟩
  ·rw[a2];exact⟨_,m⟩
  rw[a2];exact⟨_,hc.keeps hk⟩
 ·rcases K2 h with ⟨a1,a2⟩ | ⟨a1,a2⟩
  ·rw[a2];exact e0.hok.fresh (zj _)
  rw[a2];exact g
 obtain⟨a1,a2,a3,a4⟩:=e0.qt.mem p ((XS.mp hp).elim id λz=>absurd z J7);exact⟨hk _ _ a1,a2,XB (YL a1),a3,a4⟩
theorem Z23 {P:TU}{base:Heap}{k:Nat}{x y:Str}{name:Str}{a:Arguments}{body:Expr}{c c':Addr}{g:Value}{outer:TN}{vx vy:V}{h m:Value}{Q:VK}
  (S:LamScope x y scope) (hr:Room (k+1) A) (e0:Env0 P w K mg base A outer s H) (ho:s.heap.get? f=some (W.kla_obj name qual a body scope [(y,c)] pm c' g)) (l:s.heap.CodeRec (.ref c') qual)
  (d:bindArgs (W.kla_fn name qual a body scope [(y,c)] pm (.ref c') g) ⟨[h],[]⟩=pure [(x,h)])
  (hc:s.heap.IsCell c (some m)) (i:H c=none) (C:RelV vx h) (n:RelV vy m)
  (B:∃ t,PE (cxLam P w K mg base x y qual scope f (.ref c') c A outer s H) body t/\t [some vx,some vy] H Q) :
  codeAny (model P w) A (.call (.ref f) ⟨[h],[]⟩) (CR CX0 outer P w H s Q E0) s:=by
 have j:s.heap.NoLimit:=e0.mod.nolimit.keeps λb o e=>(e0.bs b o e).1;refine W.kla_callFunE hr.depth ho rfl S.co S.gen rfl l ?_;rw[d];refine YK (Z4x S.kind S.par (S.cs · c) S.pc λh1 tk r p hk=>⟨j.keeps hk,W.kla_codeExpr ?_⟩);obtain⟨t,z,hq⟩:=B;have I:=Z59 (qual:=qual) (f:=f) (cd:=.ref c') (tk:=tk) S e0 (by have:=hr.dp;omega) hc i C n r p hk;refine GO (z [] _ _ H _ I hq) (λu s' hs=>?_) λe s' hs=>False.elim hs;obtain⟨v,H',J,rv,q⟩:=hs;exact⟨v,H',J.os,J.bare,J.base,J.hok,rv,q⟩
set_option maxRecDepth 100000
set_option maxHeartbeats 2000000
def Lq {α β:Type}{g:α->β}{l m:List β}(h:l.Perm m):∀ L:List α,m=L.map g->∃ c:List α,c.Perm L/\l=c.map g:=by
 induction h with
 | nil=>intro L e;exact⟨L,.refl _,e⟩
 | cons x _ k =>
  intro L e
  cases L with
  | nil=>cases e
  | cons y L =>
   rw[GR] at e;injection e with e1 e2
   obtain⟨c,p,q⟩:=k L e2;exact⟨y::c,p.cons y,by rw[GR,<-q,e1]⟩
 | swap x y l =>
  intro L e
  cases L with
  | nil=>cases e
  | cons a L =>
   cases L with
   | nil=>rw[GR] at e;injection e with e1 e2;cases e2
   | cons b L =>
    rw[GR,GR] at e;injection e with e1 e2
    injection e2 with e2 e3
    exact⟨b::a::L,List.Perm.swap ..,by rw[GR,GR,<-e1,<-e2,<-e3]⟩
 | trans _ _ f d =>
  intro L e;obtain⟨c,p,q⟩:=d L e;obtain⟨i,j,n⟩:=f c q;exact⟨i,j.trans p,n⟩
def SOut (kz:TV)(xs ys:TZ):Prop:=∃ ps:List (Int × V),ps.Perm (kz.zip xs)/\ys=ps.map Prod.snd/\ps.Pairwise (λp q=>p.1<=q.1)
theorem L8:∀ {xs:TZ} {vs:TH},Vals xs vs->∀ p∈xs.zip vs,RelV p.1 p.2
 | _,_,.nil,_,h=>by cases h
 | _,_,.cons r rs,p,h=>by
  rcases YU.mp h with rfl | h
  ·exact r
  exact L8 rs p h
theorem Sy:∀ (L:List (Int × V × Value)),(∀ t∈L,RelV t.2.1 t.2.2)->Vals (L.map λt=>t.2.1) (L.map λt=>t.2.2)
 | [],_=>.nil
 | t::L,h=>.cons (h t XC) (Sy L λu hu=>h u (YV _ hu))
theorem Z8a:∀ (kz:TV) (xs:TZ) (vs:TH),xs.length=vs.length->kz.zip vs=(kz.zip (xs.zip vs)).map (λt=>(t.1,t.2.2))/\kz.zip xs=(kz.zip (xs.zip vs)).map (λt=>(t.1,t.2.1))
 | [],_,_,_=>J7
 | k::kz,[],[],_=>J7
 | k::kz,x::xs,v::vs,h=>by
  obtain⟨a,b⟩:=Z8a kz xs vs (by simpa using h);simp only [Y0S,GR];exact⟨by rw[a],by rw[b]⟩
 | _::_,[],_::_,h=>by simp at h
 | _::_,_::_,[],h=>by simp at h
def Z34 {kz:TV}{vs c:TH}(r:Vals xs vs)(h:KskOut false kz vs c):∃ ys,SOut kz xs ys/\Vals ys c:=by
 obtain⟨ps,hp,ho,hs⟩:=h;obtain⟨z1,z2⟩:=Z8a kz xs vs r.length;obtain⟨L,d,e⟩:=Lq hp _ z1;refine⟨L.map λt=>t.2.1,⟨L.map (λt=>(t.1,t.2.1)),?_,?_,?_⟩,?_⟩
 ·rw[z2];exact d.map _
 ·rw[qh];rfl
 ·rw[e] at hs;rw[GX] at hs ⊢;exact hs.imp λ{a b} q=>by simpa using q
 rw[ho,e,qh];refine Sy L λt f=>?_;have:=d.mem_iff.mp f;obtain⟨k,p⟩:=t;exact L8 r p (Y0y this).2
section
variable {a kS:Addr}{vs:TH}{kz:TV}{keys:Array Value}{e e1:Nat}{P:PySem.Fin->Shared->Prop}
def Bl {st:SortSt}(k:s.heap.get? kS=some (seqObj "list" keys e))(ha:s.heap.get? a=some (seqObj "list" #[] e1))(l:kS≠a)
  (hk:IntsAre keys.toList kz) (o:kz.length=vs.length) (p:vs.length<64) (hp:(arrOf st).Perm (keys.zip vs.toArray)) (hs:SortedTo (arrOf st) (arrOf st).size) (m:failedOf st=none)
  (h:∀ h' i c,(∀ b,b≠kS->b≠a->h'.get? b=s.heap.get? b)->h'.get? a=some (seqObj "list" i c)->KskOut false kz vs i.toList->P (.done (.ret .none)) { s with heap:=h' }) :
  wpAny (model prog w) A (ksk_tail a false e1 (.ref kS) st) P E s:=by
 have f:keys.size=vs.length:=by
  have h1:=hk.length;rw[GU] at h1;omega
 have g:(arrOf st).size=vs.length:=by rw[hp.size_eq,Array.size_zip,f,YS,Nat.min_self]
 have s1:=JG s.heap kS (Obj.mapSeq λ_=>(#[]:Array Value));have d:(s.heap.update kS (Obj.mapSeq λ_=>(#[]:Array Value))).get? a=some (seqObj "list" #[] e1):=(s1.2 a l.symm).trans ha;have s2:=JG (s.heap.update kS (Obj.mapSeq λ_=>(#[]:Array Value))) a (Obj.mapSeq λ_=>(arrOf st).map (·.2));obtain⟨j,n⟩:∃ j,((s.heap.update kS (Obj.mapSeq λ_=>(#[]:Array Value))).update a (Obj.mapSeq λ_=>(arrOf st).map (·.2))).get? a=some (seqObj "list" ((arrOf st).map (·.2)) j) :=
  ⟨_,get?_update_seq d λ_=>(arrOf st).map (·.2)⟩
 unfold ksk_tail
 try dsimp only
 refine YA (Y1e k rfl ?_ (by rw[f,qq];omega) (JF _));refine YA (Y0Y ?_);refine YA (seqEpoch_at d rfl ?_);refine YA (Y1e d rfl ?_ (JF _) (YM (Y08 (by simp[g])) (show vs.length<=_ by rw[qq];omega)));rw[m];simp only [bne_self_eq_false,XM,qo];exact YK (h _ _ j (λb h1 h2=>(s2.2 b h2).trans (s1.2 b h1)) n (ksk_out (b:=false) hk hp hs))
def Z98 (l:s.heap.get? kS=some (seqObj "list" keys e))(ha:s.heap.get? a=some (seqObj "list" #[] e1))(m:kS≠a)
  (hk:IntsAre keys.toList kz) (f:kz.length=vs.length) (k:vs.length<64)
  (h:∀ h' o c,(∀ b,b≠kS->b≠a->h'.get? b=s.heap.get? b)->h'.get? a=some (seqObj "list" o c)->KskOut false kz vs o.toList->P (.done (.ret .none)) { s with heap:=h' }) :
  wpAny (model prog w) A (ksk_end a false vs.toArray e1 (.ref kS) keys) P E s:=by
 have n:keys.size=vs.length:=by
  have h1:=hk.length;rw[GU] at h1;omega
 have g:(keys.zip vs.toArray).size=vs.length:=by rw[Array.size_zip,n,YS,Nat.min_self]
 unfold ksk_end
 try dsimp only
 simp only [XM,qo];by_cases h2:vs.toArray.size<2
 ·rw[YG h2,YG h2];refine YA (YK ?_);rw[StateT.run_pure];refine YA (YK ?_)
  try dsimp only
  refine Bl (st:=SortSt.mk' general' (keys.zip vs.toArray) #[] 7 none) l ha m hk f k (Array.Perm.refl _) ?_ rfl h;intro i j q hj;have p:j<(keys.zip vs.toArray).size:=hj;rw[g] at p;rw[YS] at h2;have:i=j:=J5
  subst this;exact Y1F _
 rw[YD h2,YD h2];rw[YS] at h2;rw[ksk_kind hk (by rw[n];omega)];refine YA (YK ?_);refine YA (GO (wpS_sortRuns (a₀:=keys.zip vs.toArray) (st:=SortSt.mk' oneType' (keys.zip vs.toArray) #[] 7 none)
  (Q:=λ_ d=>(arrOf d).Perm (keys.zip vs.toArray)/\failedOf d=none/\SortedTo (arrOf d) (keys.zip vs.toArray).size)
  (ksk_intKeys hk) ⟨Array.Perm.refl _,rfl,rfl,rfl⟩ (by rw[g];omega) (by rw[g];exact k) λd a1 a2 a3=>⟨a1,a2,a3⟩) ?_ λ_ _ e=>e)
 rintro ⟨⟨⟩,d⟩ s' ⟨rfl,hp,hf,hs⟩
 try dsimp only
 exact Bl l ha m hk f k hp (by rw[hp.size_eq];exact hs) hf h
end
set_option maxRecDepth 100000
set_option maxHeartbeats 2000000
section
variable {X:Cx}{σ:_L.St}{H:Hp}{a kS:Addr}{vs:TH}{xs:TZ}{kz:TV}{e1:Nat}{P:PySem.Fin->Shared->Prop}{R:Hp->Prop}
theorem Z70 (I:Inv X ((kS,seqObj "list" #[] 0)::(a,seqObj "list" #[] e1)::pins) σ H s)(G:kS≠a)(O:X.s₀.heap.objs.size<=kS)(U:X.s₀.heap.objs.size<=a)(C:∀ p∈X.pn++pins,p.1≠kS/\p.1≠a)
  (rv:Vals xs vs) (a8:kz.length=xs.length) (a9:xs.length<64) (hR:R H)
  (K:∀ (i:Nat) (v:V) (u:Value) (k:Int) (pins':TD) (s':Shared) (H':Hp),xs[i]?=some v->kz[i]?=some k->RelV v u->(∀ p∈pins,p∈pins')->Inv X pins' σ H' s'->R H' →
   wpAny (model X.prog X.w) A (call (.ref f) [u]) (EP X pins' σ (λr H''=>r=.int k/\R H'')) (λ_ _=>False) s')
  (h:∀ (s':Shared) (H':Hp) (ys:TZ),Inv X pins σ (upd H' a (.lst ys)) s'->R H'->H' a=none->SOut kz xs ys->P (.done (.ret .none)) s') :
  wpAny (model X.prog X.w) A (ksk_rest a (.ref f) false vs.toArray e1 (.ref kS)) P E s:=by
 have lv:=rv.length;have g:∀ {pl:TD} {H':Hp} {s':Shared} {p:Addr × Obj},Inv X pl σ H' s'->p∈pl->∀ x c,X.env.cells.lookup x=some c->c≠p.1:=λ{pl H' s' p} J hp x c hc q=>by
  obtain⟨v,o,ho,hd⟩:=J.cell x c hc;obtain⟨g1,_,_,_,g5⟩:=J.pin p (YX _ hp);rw[q,g1] at ho
  cases ho;exact g5 _ hd
 unfold ksk_rest;refine YA (zy ?_)
 first
  | rw[List.forIn_toArray]
  | (rw[<-ja];simp only [List.toList_toArray])
  | rw[<-ja]
 refine YA (ksk_fold (λi s'=>∃ H' y e,Inv X ((kS,seqObj "list" y e)::(a,seqObj "list" #[] e1)::pins) σ H' s'/\R H'/\IntsAre y.toList (kz.take i)) vs 0 s
  ⟨H,#[],0,I,hR,by simpa using IntsAre.nil⟩ ?step ?done)
 case step =>
  rintro j x s' hx ⟨H',y,e,J,T,hk⟩;simp only [Nat.zero_add] at hk ⊢;have hj:j<vs.length:=(YH.mp hx).1;obtain⟨k,S⟩:∃ k,kz[j]?=some k:=⟨_,XT J5⟩;obtain⟨v,M⟩:∃ v,xs[j]?=some v:=⟨_,XT J5⟩;obtain⟨u,hu,ru⟩:=rv.get M;rw[hx] at hu
  cases hu;have hz:y.size<=vs.length:=by
   have h1:=hk.length;rw[GU,JX] at h1;omega
  refine YA (zP (GO (K j v x k _ s' H' M S ru (λp hp=>YV _ (YV _ hp)) J T) (λr l he=>?_) λ_ _ hF=>hF.elim));obtain⟨r',H2,Q,rr,rfl,R2⟩:=he;obtain⟨F,rfl⟩:∃ t,r=.int k t:=rr
  try dsimp only
  obtain⟨k1,k2,k3,k4,k5⟩:=Q.pin (kS,seqObj "list" y e) (YX _ (.head _));obtain⟨a1,a2,a3,a4,a5⟩:=Q.pin (a,seqObj "list" #[] e1) (YX _ (.tail _ (.head _)));have s1:=JG l.heap kS (Obj.mapSeq (·.push (.int k F)));obtain⟨W,a7⟩:∃ W,(l.heap.update kS (Obj.mapSeq (·.push (.int k F)))).get? kS=some (seqObj "list" (y.push (.int k F)) W):=⟨_,get?_update_seq k1 (·.push (.int k F))⟩;have ek:kz.take (j+1)=kz.take j++[k]:=by rw[GW,S];simp
  have ea:(y.push (Value.int k F)).toList=y.toList++[Value.int k F]:=J7
  refine YA (Y1e k1 rfl ?_ (by rw[qq];omega) (YM (Y08 (Array.size_push ..)) (by rw[qq];omega)));have N:Inv X ((a,seqObj "list" #[] e1)::pins) σ H2 l:=Q.pins_of λp hp=>Q.pin p (YX _ (.tail _ hp));have J4:Inv X ((a,seqObj "list" #[] e1)::pins) σ H2 { l with heap:=l.heap.update kS (Obj.mapSeq (·.push (.int k F))) }:=by
   refine N.turned (t':=l.toks) (it:=kS) (λb o B e=>(s1.2 b B).trans e) k2 k3 (.inr O) (λx c hc=>g Q (.head _) x c hc) λp hp=>?_;rcases XS.mp hp with hp | hp
   ·exact (C p (XJ _ hp)).1
   rcases YU.mp hp with rfl | hp
   ·exact λq=>G q.symm
   exact (C p (YX _ hp)).1
  refine YK ⟨rfl,H2,y.push (.int k F),W,J4.pins_of λp hp=>?_,R2,by rw[ea,ek];exact ksk_snoc hk⟩;rcases YU.mp hp with rfl | hp
  ·exact⟨a7,k2,k3,k4,λv z=>nomatch z⟩
  exact J4.pin p (YX _ hp)
 case done =>
  rintro s' ⟨H',y,e,J,T,hk⟩;have Z:IntsAre y.toList kz:=by
   have e3:kz.take (0+vs.length)=kz:=YW J5;rw[e3] at hk;exact hk
  obtain⟨k1,k2,k3,k4,k5⟩:=J.pin (kS,seqObj "list" y e) (YX _ (.head _));obtain⟨a1,a2,a3,a4,a5⟩:=J.pin (a,seqObj "list" #[] e1) (YX _ (.tail _ (.head _)))
  try dsimp only
  refine YA (listItems_at k1 rfl ?_);refine Z98 (vs:=vs) k1 a1 G Z J5 J5 λh' a0 c d L ho=>?_;obtain⟨ys,so,ry⟩:=Z34 rv ho;have lo:ys.length<=sizeLine:=by
   obtain⟨ps,p1,p2,_⟩:=so;have:=p1.length_eq;rw[List.length_zip] at this;rw[p2,YC,qq];omega
  refine h _ H' ys ?_ T a2 so;have N:Inv X pins σ H' s':=J.pins_of λp hp=>J.pin p (YX _ (.tail _ (.tail _ hp)));have D:∀ b u,H' b=some u->b≠a/\b≠kS:=λb u q=>by
   have Y:H' a=none:=a2;have a6:H' kS=none:=k2;constructor
   ·intro z;rw[z,Y] at q;cases q
   intro z;rw[z,a6] at q;cases q
  refine N.step (g':=s'.gens) (d':=s'.drawn) (t':=s'.toks) (ch:=[kS,a]) (λb B=>?_) (λb o _ _ hc e _=>?_) (λb o _ _ hc e _=>?_) (λb o hc _ n=>?_) (λb o hc e=>?_) (λb xs e=>?_) (λb o u e=>?_) (λb ps e=>?_) (λm hm=>?_) (λb u e=>?_) N.bare
  ·rcases YU.mp B with rfl | B
   ·exact⟨.inr O,k3,λx c hc=>g J (.head _) x c hc,λp hp=>(C p hp).1⟩
   rw[XH.mp B];exact⟨.inr U,a3,λx c hc=>g J (.tail _ (.head _)) x c hc,λp hp=>(C p hp).2⟩
  ·exact (d b (λz=>hc (by simp[z])) (λz=>hc (by simp[z]))).trans e
  ·exact⟨o.slots,(d b (λz=>hc (by simp[z])) (λz=>hc (by simp[z]))).trans e⟩
  ·rw[Zc (λz=>hc (by simp[z]))];exact n
  ·exact⟨o,(d b (λz=>hc (by simp[z])) (λz=>hc (by simp[z]))).trans e⟩
  ·rw[Zc (D b _ e).1];exact e
  ·rw[Zc (D b _ e).1];exact e
  ·exact⟨#[],by rw[Zc (D b _ e).1,e];simp⟩
  ·obtain⟨o,es,ep,ho,r⟩:=hm;exact⟨o,es,ep,(d _ (XQ k3) (XQ a3)).trans ho,r⟩
  by_cases B:b=a
  ·subst B;rw[Za] at e
   cases e;exact⟨lo,a0.toList,c,ry,by rw[L,Array.toArray_toList]⟩
  rw[Zc B] at e;refine (N.hok b u e).stay (λc v hc q=>?_) (λc q=>?_) λc xs q=>?_
  ·have hh:c≠kS/\c≠a:=by
    rcases hc with z | z
    ·rw[z];exact⟨(D b u e).2,B⟩
    exact⟨(D c _ z).2,(D c _ z).1⟩
   exact (d c hh.1 hh.2).trans q
  ·rw[Zc (D c _ q).1];exact q
  rw[Zc (D c _ q).1];exact q
end
set_option maxRecDepth 100000
set_option maxHeartbeats 2000000
section
variable {X:Cx}{σ:_L.St}{H:Hp}{l:Addr}{vs:TH}{xs:TZ}{kz:TV}{Q:TC}{R:Hp->Prop}
def Bp (I:Inv X pins σ H s)(hl:s.heap.IsList l vs.toArray)(rv:Vals xs vs)(F:kz.length=xs.length)(M:xs.length<64)(S:R H)
  (B:∀ (i:Nat) (v:V) (u:Value) (k:Int) (pins':TD) (s':Shared) (H':Hp),xs[i]?=some v->kz[i]?=some k->RelV v u->(∀ p∈pins,p∈pins')->Inv X pins' σ H' s'->R H' →
   wpAny (model X.prog X.w) A.in1.in1 (call (.ref f) [u]) (EP X pins' σ (λr H''=>r=.int k/\R H'')) (λ_ _=>False) s')
  (h:∀ (a:Addr) (s':Shared) (H':Hp) (ys:TZ),Inv X pins σ (upd H' a (.lst ys)) s'->R H'->H' a=none->SOut kz xs ys->Q (.ref a) s') :
  wpAny (model X.prog X.w) A (call (.builtin "sorted") [.ref l] [(Str.ofString "key",.ref f)]) Q E s:=by
 have T:=rv.length;refine call_function_entry_kw kind_sorted plain_sorted entry_sorted (ksk_s1 _ _) ?_;unfold Builtin.«sorted»;refine YA (m:=checkCount "sorted" 1 1 _) (YK ?_);refine YA (collect_list hl ?_ (by rw[qq];omega));refine YA (wpAny_newList ?_ (by rw[qq];omega));have t:((s.heap.push (seqObj "list" #[] 0)).update s.heap.objs.size (Obj.mapSeq (·++vs.toArray))).objs.size=s.heap.objs.size+1:=by
  rw[Heap.size_update,size_push']
 have j:(((s.heap.push (seqObj "list" #[] 0)).update s.heap.objs.size (Obj.mapSeq (·++vs.toArray))).push (seqObj "list" vs.toArray 0)).get? (s.heap.objs.size+1)=some (seqObj "list" vs.toArray 0):=by
  rw[<-t];exact YN _ rfl
 have keep:∀ b o,s.heap.get? b=some o->(((s.heap.push (seqObj "list" #[] 0)).update s.heap.objs.size (Obj.mapSeq (·++vs.toArray))).push (seqObj "list" vs.toArray 0)).get? b=some o:=λb o q=>by
  have c:b<s.heap.objs.size:=YL q;rw[Heap.get?_push_ne _ _ _ (by rw[t];exact XB (zK c)),Y0G _ _ _ _ (XB c),Heap.get?_push_ne _ _ _ (XB c)];exact q
 show wpAny _ _ _ _ _ { s with heap:=((s.heap.push (seqObj "list" #[] 0)).update s.heap.objs.size (Obj.mapSeq (·++vs.toArray))).push (seqObj "list" vs.toArray 0) };rw[t];refine YA (JO (wpAny_call_entry_kw slot_list_sort ⟨_,j,rfl⟩ entry_list_sort ?body (ksk_l1 _ _)))
 case body =>
  show wpAny (model X.prog X.w) A.in1.in1 (Builtin.«list.sort» ⟨[.ref (s.heap.objs.size+1)],[(Str.ofString "key",.ref f)]⟩) _ _ _;rw[ksk_t1];have P:Inv X pins σ H { s with heap:=((s.heap.push (seqObj "list" #[] 0)).update s.heap.objs.size (Obj.mapSeq (·++vs.toArray))).push (seqObj "list" vs.toArray 0) }:=I.kept (t':=s.toks) keep;have G:(((s.heap.push (seqObj "list" #[] 0)).update s.heap.objs.size (Obj.mapSeq (·++vs.toArray))).push (seqObj "list" vs.toArray 0)).objs.size=s.heap.objs.size+2:=by rw[size_push',t]
  generalize hg:((s.heap.push (seqObj "list" #[] 0)).update s.heap.objs.size (Obj.mapSeq (·++vs.toArray))).push (seqObj "list" vs.toArray 0)=g at j keep P G;have s1:=JG g (s.heap.objs.size+1) (Obj.mapSeq λ_=>(#[]:Array Value));obtain⟨e1,C⟩:∃ e1,(g.update (s.heap.objs.size+1) (Obj.mapSeq λ_=>(#[]:Array Value))).get? (s.heap.objs.size+1)=some (seqObj "list" #[] e1):=⟨_,get?_update_seq j λ_=>#[]⟩;unfold ksk_tree;refine YA (listItems_at j rfl ?_);refine YA (Y1e j rfl ?_ (by rw[YS,qq];omega) (JF _));refine YA (seqEpoch_at C rfl ?_);refine YA (wpAny_newTuple ?_ (by show vs.length<=_;rw[qq];omega));refine YA (wpAny_newList ?_ (JF _));refine JO ?_;have e:((g.update (s.heap.objs.size+1) (Obj.mapSeq λ_=>(#[]:Array Value))).push (seqObj "tuple" vs.toArray 0)).objs.size=s.heap.objs.size+3:=by rw[size_push',Heap.size_update,G]
  have y:∀ b o,s.heap.get? b=some o->(((g.update (s.heap.objs.size+1) (Obj.mapSeq λ_=>(#[]:Array Value))).push (seqObj "tuple" vs.toArray 0)).push (seqObj "list" #[] 0)).get? b=some o:=λb o q =>
   YB _ (YB _ ((s1.2 b (XB (zK (YL q)))).trans (keep b o q)))
  have O:Inv X pins σ H { s with heap:=((g.update (s.heap.objs.size+1) (Obj.mapSeq λ_=>(#[]:Array Value))).push (seqObj "tuple" vs.toArray 0)).push (seqObj "list" #[] 0) }:=I.kept (t':=s.toks) y;have L:(((g.update (s.heap.objs.size+1) (Obj.mapSeq λ_=>(#[]:Array Value))).push (seqObj "tuple" vs.toArray 0)).push (seqObj "list" #[] 0)).get? (s.heap.objs.size+3)=some (seqObj "list" #[] 0):=by
   rw[<-e];exact YN _ rfl
  have N:(((g.update (s.heap.objs.size+1) (Obj.mapSeq λ_=>(#[]:Array Value))).push (seqObj "tuple" vs.toArray 0)).push (seqObj "list" #[] 0)).get? (s.heap.objs.size+1)=some (seqObj "list" #[] e1) :=
   YB _ (YB _ C)
  have K:=I.lt;have D:=I.sz;have x:∀ d:Nat,H (s.heap.objs.size+d)=none:=λd=>I.hok.fresh (GJ _ _);refine Z70 (s:={ s with heap:=((g.update (s.heap.objs.size+1) (Obj.mapSeq λ_=>(#[]:Array Value))).push (seqObj "tuple" vs.toArray 0)).push (seqObj "list" #[] 0) }) (a:=s.heap.objs.size+1) (kS:=((g.update (s.heap.objs.size+1) (Obj.mapSeq λ_=>(#[]:Array Value))).push (seqObj "tuple" vs.toArray 0)).objs.size) (R:=R) (H:=H) (pins:=pins) (σ:=σ)
   ?_ (by rw[e];exact GC (Nat.add_lt_add_left J6 _)) (by rw[e];exact YM D (GJ _ _)) (YM D (GJ _ _)) (λp hp=>?_) rv F M S B λs' H' ys J r n o=>⟨_,rfl,YK ⟨_,rfl,h _ s' H' ys J r n o⟩⟩
  ·rw[e];refine O.pins_of λp hp=>?_;rcases YU.mp hp with rfl | hp
   ·exact⟨L,x 3,GC (YQ K (GJ _ _)),I.nofs (GJ _ _),λv z=>nomatch z⟩
   rcases YU.mp hp with rfl | hp
   ·exact⟨N,x 1,GC (YQ K (GJ _ _)),I.nofs (GJ _ _),λv z=>nomatch z⟩
   exact O.pin p (YX _ hp)
  have c:=YL (I.pin p hp).1;rw[e];exact⟨XB (YQ c (GJ _ _)),XB (YQ c (GJ _ _))⟩
end
set_option maxRecDepth 100000
set_option maxHeartbeats 2000000
def BltIn (mg:TB)(base:Heap):Prop:=∃ bm ob,mg "__builtins__"=some (.ref bm)/\bm≠builtinsNs/\base.get? bm=some ob/\ob.cls=.type "module"/\ob.dict=some builtinsNs/\ob.data=.plain
section
variable {X:Cx}{σ:_L.St}{H:Hp}{Q:TC}
def codeO (c:Addr)(q:Str):HO:=.ext λh=>h.CodeRec (.ref c) q
inductive LamAt (H:Hp) (P:Addr) (lp:Pos) (q:Str):Prop
 | fresh (h:H P=some (.tbl #[]))
 | made (c:Addr) (h:H P=some (.tbl #[rawInt lp.line,rawInt lp.col,.ref c])) (hc:H c=some (codeO c q))
theorem LamAt.tbl {H:Hp}{P:Addr}{lp:Pos}{q:Str}(t:LamAt H P lp q):∃ ps,H P=some (.tbl ps):=by
 cases t with
 | fresh h=>exact⟨_,h⟩
 | made c h hc=>exact⟨_,h⟩
def LamAt.same {H H':Hp}{P:Addr}{lp:Pos}{q:Str}(t:LamAt H P lp q)(S:∀ b o,H b=some o->H' b=some o):LamAt H' P lp q:=by
 cases t with
 | fresh h=>exact .fresh (S _ _ h)
 | made c h hc=>exact .made c (S _ _ h) (S _ _ hc)
theorem Inv.grown {P c':Addr}{ps more:Array Value}{φ:Heap->Prop}{t':Nat}(I:_L.Inv X pins σ H s)(i:H P=some (.tbl ps))(hc:s.heap.objs.size<=c')(k:∀ b o,b≠P->s.heap.get? b=some o->h'.get? b=some o)(hn:h'.get? P=some { cls:=.none,data:=.fields (ps++more) })
  (l:φ h') (t:∃ o,h'.get? c'=some o) (p:∀ h1 h2:Heap,φ h1->(∀ o,h1.get? c'=some o->h2.get? c'=some o)->φ h2) :
  _L.Inv X pins σ (upd (upd H P (.tbl (ps++more))) c' (.ext φ)) { s with heap:=h',toks:=t' }:=by
 have hf:H c'=none:=I.hok.fresh hc;have f:∀ b,H b=none->b≠P:=λb n z=>by rw[z,i] at n;cases n
 have d:∀ b u,H b=some u->(∀ q,u≠.tbl q)->b≠P:=λb u e n z=>by rw[z,i] at e;cases e;exact n _ rfl
 have a:∀ b u,H b=some u->b≠c':=λb u e z=>by rw[z,hf] at e;cases e
 have j:∀ b o,s.heap.get? b=some o->b≠c':=λb o e=>XB (YQ (YL e) hc);refine I.step (g':=s.gens) (d':=s.drawn) (ch:=[]) (λb z=>nomatch z) (λb o _ _ _ e n=>k b o (f b n) e) (λb o _ _ _ e n=>⟨o.slots,k b o (f b n) e⟩) (λb o _ e n=>by rw[Zc (j b o e),Zc (f b n)];exact n)
  (λb o _ e=>?_) (λb xs e=>by rw[Zc (a b _ e),Zc (d b _ e λq z=>nomatch z)];exact e) (λb o u e=>by rw[Zc (a b _ e),Zc (d b _ e λq z=>nomatch z)];exact e) (λb qs e=>?_) (λm hm=>?_) (λb u e=>?_) I.bare
 ·by_cases g:b=P
  ·exact⟨_,g ▸ hn⟩
  exact⟨o,k b o g e⟩
 ·by_cases g:b=P
  ·subst g;have:=a b _ e;rw[i] at e
   cases e;exact⟨more,by rw[Zc this];exact Za⟩
  exact⟨#[],by rw[Zc (a b _ e),Zc g,e];simp⟩
 ·obtain⟨o,es,ep,ho,r⟩:=hm;exact⟨o,es,ep,k _ o (f _ I.free) ho,r⟩
 by_cases h:b=c'
 ·subst h;rw[Za] at e
  cases e;exact⟨l,t,p⟩
 rw[Zc h] at e;by_cases g:b=P
 ·subst g;rw[Za] at e
  cases e;exact hn
 rw[Zc g] at e;refine (I.hok b u e).stay (λc v hc q=>k c v ?_ q) (λc q=>?_) λc xs q=>?_
 ·rcases hc with z | z
  ·rw[z];exact g
  exact d c _ z λq z=>nomatch z
 ·rw[Zc (a c _ q),Zc (d c _ q λq z=>nomatch z)];exact q
 rw[Zc (a c _ q),Zc (d c _ q λq z=>nomatch z)];exact q
def Z92 {a:Arguments}{body:Expr}{scope:Scope}{pos:Pos}{cc P:Addr}{cl:List (Str × Addr)}(I:_L.Inv X pins σ H s)(u:defaultsOf a X.env=([],[]))(O:closureFor scope X.env=pure cl)
  (i:X.env.code=.ref cc) (C:W.CodeHd X.base cc P) (Z:LamAt H P pos (X.env.qual++"<lambda>")) (D:BltIn X.mg X.base)
  (h:∀ f c' g H' s',_L.Inv X ((f,W.kla_obj "<lambda>" (X.env.qual++"<lambda>") a body scope cl ((X.mg "__name__").getD .none) c' g)::pins) σ H' s'->SameX P H H'->H' P=some (.tbl #[rawInt pos.line,rawInt pos.col,.ref c'])->H' c'=some (codeO c' (X.env.qual++"<lambda>"))->Q (.ref f) s') :
  wpAny (model X.prog X.w) A (eval (.Lambda a body scope pos) X.env) Q E s:=by
 obtain⟨a0,G⟩:=Z.tbl;have hg:s.heap.Ns mainGlobals X.mg:=I.mod.glob.keeps I.bk;have U:mainGlobals≠P:=λq=>by
  obtain⟨o,es,ep,e,hd,_⟩:=I.mod.glob;have:=(I.bs _ _ e).2;rw[q,G] at this;cases this
 obtain⟨bm,ob,b1,b2,K,b4,Y,S⟩:=D;have J:bm≠P:=λq=>by
  have:=(I.bs _ _ K).2;rw[q,G] at this;cases this
 have N:bm≠mainGlobals:=λq=>by
  obtain⟨o,es,ep,e,hd,_⟩:=I.mod.glob;rw[q,e] at K;cases K;rw[hd] at S;cases S
 cases Z with
 | fresh F =>
  have l:s.heap.get? P=some (W.tabObj #[]):=I.hok P _ F;have m:P<s.heap.objs.size:=YL l;refine W.kla_eval u (W.kla_makeFunction (mg:=X.mg) O I.ok.glob hg i (C.keeps I.bk) l trivial rfl U ⟨bm,ob,b1,b2,N,J,I.bk _ _ K,b4,Y,S⟩ λc' g h' tk hx j M x V=>?_);have d:s.heap.objs.size<=h'.objs.size:=YM j (JC M);have L:=Inv.grown (t':=tk) (c':=c') (φ:=λh=>h.CodeRec (.ref c') (X.env.qual++"<lambda>")) (h':=h'.push (W.kla_obj "<lambda>" (X.env.qual++"<lambda>") a body scope cl ((X.mg "__name__").getD .none) c' g)) (more:=#[rawInt pos.line,rawInt pos.col,.ref c']) I F j (λb o D e=>YB _ (hx b o D e)) (YB _ V) (x.push _)
   (by obtain⟨R,oc,vs,t,e2,y,_⟩:=x;cases e2;exact⟨oc,YB _ y⟩) λh1 h2 ⟨R,oc,vs,t,e2,y,r⟩ k=>by cases e2;exact⟨c',oc,vs,t,rfl,k _ y,r⟩
  have T:P≠c':=XB (YQ m j);have fr:∀ b,s.heap.objs.size<=b->b≠c'->upd (upd H P (.tbl (#[]++#[rawInt pos.line,rawInt pos.col,.ref c']))) c' (codeO c' (X.env.qual++"<lambda>")) b=none:=λb D B=>by
   rw[Zc B,Zc (GC (YQ m D))];exact I.hok.fresh D
  refine h h'.objs.size c' g _ _ (L.pins_of λp hp=>?_) (λb o e n=>?_) (by rw[Zc T];exact Za) Za
  ·rcases YU.mp hp with rfl | hp
   ·exact⟨YN _ rfl,fr _ d (GC M),GC (YQ I.lt d),I.nofs d,λv z=>nomatch z⟩
   exact L.pin p (YX _ hp)
  have B:b≠c':=λz=>by rw[z,I.hok.fresh j] at e;cases e
  rw[Zc B,Zc n];exact e
 | made c' F hc =>
  have l:s.heap.get? P=some (W.tabObj #[rawInt pos.line,rawInt pos.col,.ref c']):=I.hok P _ F;refine W.kla_eval u (W.kla_makeFunctionHit (mg:=X.mg) O I.ok.glob hg i (C.keeps I.bk) l trivial (cv:=.ref c') (by exact codeAmong_snoc (pos:=pos) (c:=.ref c') [] trivial rfl) ⟨bm,ob,b1,b2,N,J,I.bk _ _ K,b4,Y,S⟩ λg h' tk hk d=>?_);have L:_L.Inv X pins σ H { s with heap:=h'.push (W.kla_obj "<lambda>" (X.env.qual++"<lambda>") a body scope cl ((X.mg "__name__").getD .none) c' g),toks:=tk }:=I.kept (t':=tk) λb o e=>YB _ (hk b o e);refine h h'.objs.size c' g _ _ (L.pins_of λp hp=>?_) (λb o e n=>e) F hc;rcases YU.mp hp with rfl | hp
  ·exact⟨YN _ rfl,I.hok.fresh d,GC (YQ I.lt d),I.nofs d,λv z=>nomatch z⟩
  exact L.pin p (YX _ hp)
end
set_option maxRecDepth 100000
set_option maxHeartbeats 2000000
inductive tSortL_i (K:TR) (tb:TE) (P:Addr) (lp:Pos) (q:Str) (iy:Nat) (σ:_L.St) (Q:VK) (v:V) (H1:Hp):Prop
 | mk (l:Addr) (xs:TZ) (kz:TV) (vy:V) (z0:v=.ref l) (z1:H1 l=some (.lst xs)) (z2:kz.length=xs.length) (z3:xs.length<64) (z4:σ[iy]?=some (some vy)) (z5:LamAt H1 P lp q)
  (z9:∀ (i:Nat) (x:V) (k:Int) (H':Hp),xs[i]?=some x->kz[i]?=some k->SameX P H1 H'->tb [some x,some vy] H' (λr H''=>r=.int k/\Same H' H''))
  (za:∀ (a:Addr) (H':Hp) (ys:TZ),SameX P H1 H'->LamAt H' P lp q->H' a=none->SOut kz xs ys->Q (.ref a) (upd H' a (.lst ys)))
def tSortL (K:TR)(te tb:TE)(P:Addr)(lp:Pos)(q:Str)(iy:Nat):TE:=λσ H Q=>te σ H (tSortL_i K tb P lp q iy σ Q)
theorem Z0x {X:Cx}{x y:Str}{b:Arguments}{body e:Expr}{scope:Scope}{p pos lp kp:Pos}{te tb:TE}{k iy:Nat}{c cc P:Addr}(S:LamScope x y scope)(hr:Room (k+3) X.A)(hg:Gl X "sorted")(hm:X.mg "sorted"=none)(he:PE X e te)
  (O:defaultsOf b X.env=([],[])) (a1:closureFor scope X.env=pure [(y,c)]) (G:X.env.cells.lookup y=some c) (M:X.env.kindOf y=some .cell) (a0:X.N[iy]?=some y) (q:X.env.code=.ref cc) (C:W.CodeHd X.base cc P) (hb:BltIn X.mg X.base) (hc:X.calm=true)
  (B:∀ (c c':Addr) (pm L u:Value),bindArgs (W.kla_fn "<lambda>" (X.env.qual++"<lambda>") b body scope [(y,c)] pm (.ref c') L) ⟨[u],[]⟩=pure [(x,u)])
  (g:∀ (A:Around) (outer:TN) (s:Shared) (H:Hp) (f c':Addr),Room k (A.deeper (W.envX (X.env.qual++"<lambda>") scope s.heap.objs.size f (.ref c') [(x,s.heap.objs.size+1),(y,c)])) →
   PE (cxLam X.prog X.w X.K X.mg X.base x y (X.env.qual++"<lambda>") scope f (.ref c') c A outer s H) body tb)
  (hs:starEach [e] X.env=(false,eval e X.env)::starEach [] X.env:=by rfl) (V:backTo pos (starEach [e] X.env)=(false,eval e X.env)::backTo pos (starEach [] X.env):=by rfl) (Z:(backTo pos (starEach [e] X.env)).any (·.1)=false:=by rfl) :
  PE X (.Call (.Name "sorted" p) [e] [⟨some "key",.Lambda b body scope lp,kp⟩] pos) (tSortL X.K te tb P lp (X.env.qual++"<lambda>") iy):=by
 intro pins s σ H Q I h;have rm:Room (k+1) X.A.in1.in1:=(Room.in1 (k:=k+2) hr).in1;refine qk (Wq I hg hm (u:=.builtin "sorted") J8 ?_ J6 J6);refine PyProof.Rows.callWith_kw ?_ V Z rfl rfl;have ha:PA X [e] (tCons te tNil):=Z0 he Z7 hs;refine thn (ha pos pins s σ H (λvs H1=>∃ v,vs=[v]/\tSortL_i X.K tb P lp (X.env.qual++"<lambda>") iy σ Q v H1) I ?_) λus s1 ⟨vs,H1,I1,r1,v,ev,q1⟩=>?_
 ·exact (by
   have h':te σ H (tSortL_i X.K tb P lp (X.env.qual++"<lambda>") iy σ Q):=h;show te σ H _;have:(tSortL_i X.K tb P lp (X.env.qual++"<lambda>") iy σ Q)=(λx H1=>tNil σ H1 λxs H2=>∃ v,x::xs=[v]/\tSortL_i X.K tb P lp (X.env.qual++"<lambda>") iy σ Q v H2):=by
    funext x H1
    refine propext ⟨λz=>⟨x,rfl,z⟩,?_⟩;rintro ⟨v,e1,z⟩
    cases e1;exact z
   rw[this] at h';exact h')
 subst ev;obtain⟨u,rfl,ru⟩:=Vv r1;obtain⟨l,xs,kz,vy,rfl,z1,z2,z3,z4,z5,z9,za⟩:=q1;obtain rfl:u=.ref l:=ru;refine PyProof.Rows.kws_cons (thn (Q:=λv d=>wX X (call (.builtin "sorted") [.ref l] [(Str.ofString "key",v)]) (EP X pins σ Q) X.xe d) (Z92 I1 O a1 q C z5 hb λf c' L H2 s' I2 S2 U T=>?_) λv d F=>PyProof.Rows.kws_nil F);have Y:l≠P:=λz=>by
  obtain⟨ps,e⟩:=z5.tbl;rw[z,e] at z1;cases z1
 obtain⟨its,rv,pl,_⟩:=I2.list (SqL.of (S2 _ _ z1 Y));refine Bp I2 pl.isList rv z2 z3 (R:=λH'=>Same H2 H') (Same.refl _) (λi xv xu kk pins' o H' e1 e2 e3 D J j=>?_) λa o H' ys J j n so=>⟨.ref a,_,J.pins_of λp hp=>J.pin p (YX _ (.tail _ hp)),rfl,za a H' ys (S2.trans (SameX.of j)) (.made c' (j _ _ U) (j _ _ T)) n so⟩;obtain⟨f1,f2,f3,f4,f5⟩:=J.pin _ (YX _ (D _ (.head _)));have g1:o.heap.CodeRec (.ref c') (X.env.qual++"<lambda>"):=(J.hok c' _ (j _ _ T)).1;obtain⟨m,hn,hl⟩:=J.loc;obtain⟨uy,ry,lk⟩:=hl iy y vy a0 z4 (.inr (.inl M));have t:o.heap.IsCell c (some uy):=by
  rcases lk with ⟨k1,_⟩ | ⟨_,c2,k2,k3⟩
  ·have E:X.env.kindOf y=some .local:=k1;rw[M] at E;cases E
  rw[G] at k2;cases k2;exact k3
 refine Y0o (jj (Z23 (k:=k) (vx:=xv) (Q:=λr H''=>r=.int kk/\Same H' H'') S rm (J.env0 hc).in1.in1 f1 g1 (B _ _ _ _ _) t (J.freeC y c G) e3 ry ⟨tb,g _ _ _ _ _ _ (rm.deeper _),z9 i xv kk H' e1 e2 (S2.trans (SameX.of j))⟩) λr s3 hq=>?_)
 cases r with
 | error e=>exact hq
 | ok fl =>
  cases fl with
  | ret u =>
   obtain⟨v3,H3,J3,r3,q3,S3⟩:=J.after hq;exact⟨v3,H3,J3,r3,q3,j.trans S3⟩
  | next=>exact False.elim hq
  | brk=>exact False.elim hq
  | cont=>exact False.elim hq
set_option maxRecDepth 100000
set_option maxHeartbeats 2000000
def OnlyT (P:Addr)(H:Hp):Prop:=H P=some (.tbl #[])/\∀ b,b≠P->H b=none \/ ∃ o xs,H b=some (.frz o (.lst xs))
theorem Cb {P:TU}{w:World}{K:TR}{mg mb:TB}{CX:CXT}{k:Nat}{fa a T cc:Addr}{fd:FuncData}{x:Str}{sp:Sp}{c:Shared}{vs:TH}{ns:TV}
  (KX:K.In c.heap) (G:c.heap.Ns mainGlobals mg) (i:c.heap.Ns builtinsNs mb) (Q:∀ x:Str,x≠"__name__"->mb x=bootBuiltins x) (J:c.heap.NoLimit) (l:c.heap.NoSeer) (y:P.given.tree=none) (hg:c.gens=#[])
  (Y:BltIn mg c.heap) (A:c.heap.get? T=some (W.tabObj #[])) (X:K.lookup T=none) (hcc:W.codeHdIn K cc T=true)
  (ha:c.heap.get? a=some { cls:=.type "list",data:=.seq vs.toArray }) (hi:IntsAre vs ns) (hl:ns.length<=sizeLine) {sr:Bool} (hr:Room k callerA sr)
  (F:∀ base:Heap,K.In base->base.Ns mainGlobals mg->BltIn mg base->FnOk P w K mg base CX k fa fd [x] sp sr) (B:∀ (s:Shared) (u:Value),BindsTo s fd ⟨[u],[]⟩ [(x,u)])
  (R:∀ H:Hp,OnlyT T H->SqL K H a (ns.map V.int)->sp [.ref a] H (λv _=>v=.bl true) λ_ _ _=>False)
  (L:∀ H e s',CX [] H c (λ_ _ _=>False) e s'->False) :
  codeAny (model P w) callerA (.call (.ref fa) ⟨[.ref a],[]⟩) (λr s'=>r=.ok (.ret (.bool true))/\OldK c.heap s'.heap/\s'.os=c.os/\AllBare s'.gens) c:=by
 have rv:=Ps hi;have D:=hi.length;have aT:a≠T:=λz=>by rw[z,A] at ha;cases ha
 have t:∀ H:Hp,OnlyT T H->SqL K H a (ns.map V.int)->HOk P w H c.heap->(∀ b,H b≠none->b=a \/ b=T)->(H a≠none->K.lookup a=none) →
   codeAny (model P w) callerA (.call (.ref fa) ⟨[.ref a],[]⟩) (λr s'=>r=.ok (.ret (.bool true))/\OldK c.heap s'.heap/\s'.os=c.os/\AllBare s'.gens) c:=by
  intro H hO hS hok O hK;have f:∀ {b:Addr} {o:Obj},c.heap.get? b=some o->H b=none->(hidT c.heap H).get? b=some o:=λe n=>Z2b e n;have I:∀ {b:Addr} {o:Obj},c.heap.get? b=some o->(∀ xs n,o.data≠.seq xs n)->(∀ ps,o.data≠.fields ps)->H b=none:=λ{b o} e d1 d2=>by
   cases q:H b with
   | none=>rfl
   | some u =>
    rcases O b (by rw[q];simp) with e' | e'
    ·subst e';rw[ha] at e;cases e;exact absurd rfl (d1 _ _)
    subst e';rw[A] at e;cases e;exact absurd rfl (d2 _)
  have S:∀ {b:Addr} {o:Obj},c.heap.get? b=some o->o.cls=.type "module"->H b=none:=λ{b o} e d=>by
   cases q:H b with
   | none=>rfl
   | some u =>
    rcases O b (by rw[q];simp) with e' | e'
    ·subst e';rw[ha] at e
     cases e;injection d with z
     exact absurd z J6
    subst e';rw[A] at e
    cases e
    cases d
  have j:∀ {b:Addr} {m:TB},c.heap.Ns b m->(hidT c.heap H).Ns b m:=λ{b m} ⟨o,es,ep,e,d,r⟩=>⟨o,es,ep,f e (I e (λxs n z=>by rw[d] at z;cases z) λps z=>by rw[d] at z;cases z),d,r⟩;have C:K.In (hidT c.heap H):=λb o e=>f (KX b o e) (by
   cases q:H b with
   | none=>rfl
   | some u =>
    rcases O b (by rw[q];simp) with e' | e'
    ·subst e';rw[hK (by rw[q];simp)] at e;cases e
    subst e';rw[X] at e;cases e)
  have hB:BltIn mg (hidT c.heap H):=by
   obtain⟨bm,ob,b1,b2,Z,b4,b5,U⟩:=Y;exact⟨bm,ob,b1,b2,f Z (I Z (λxs n z=>by rw[U] at z;cases z) λps z=>by rw[U] at z;cases z),b4,b5,U⟩
  have hM:Mod K mg (hidT c.heap H):=⟨C,j G,⟨mb,j i,Q⟩,let ⟨mc,h1,h2⟩:=J;⟨mc,j h1,h2⟩,⟨let ⟨mc,a1,a2⟩:=l.statics;⟨mc,j a1,a2⟩,let ⟨mc,a1,a2⟩:=l.mods;⟨mc,j a1,a2⟩,let ⟨mc,a1,a2⟩:=l.imp;⟨mc,j a1,a2⟩,let ⟨mg',bm,ob,a1,a2,a3,a4,a5⟩:=l.main;⟨mg',bm,ob,j a1,a2,f a3 (S a3 a4),a4,a5⟩⟩⟩;have e0:Env0 P w K mg (hidT c.heap H) callerA [] c H:=⟨rfl,hM,λb o e=>Z4w e,Y08 (Cj _ _),trivial,λb i=>absurd (show b∈([]:TJ) from i) J7,hok,.of_eq hg,.inl rfl,y⟩;refine jj ((F _ C (j G) hB).run callerA [] c H ⟨[.ref a],[]⟩ [.ref a] [.ref a] _ _ hr e0 (B c (.ref a)) (.cons rfl .nil) (R H hO hS)) λr s' h=>?_
  cases r with
  | error e=>exact (L H e s' h).elim
  | ok fl =>
   cases fl with
   | next=>exact False.elim h
   | brk=>exact False.elim h
   | cont=>exact False.elim h
   | ret u =>
    obtain⟨v,H',os,bare,un,p,r',q⟩:=h;have q':v=.bl true:=q;subst q';obtain rfl:u=Value.bool true:=r';have E:∃ more,s'.heap.get? T=some { cls:=.none,data:=.fields (#[]++more) }:=by
     obtain⟨more,e⟩:=un.tbls T #[] hO.1;exact⟨more,p T _ e⟩
    refine⟨rfl,⟨λb o e=>?_,λb o e=>un.there b o e J7⟩,os,bare⟩;by_cases g:b=T
    ·subst g;rw[A] at e
     cases e;obtain⟨more,e2⟩:=E;exact .inr (.inl ⟨((W.codeHd_of_K KX hcc).tab A).isCodeTable,rfl,#[],more,rfl,e2⟩)
    refine .inl ?_
    cases q:H b with
    | none=>exact un.keep b o e q (by intro z;exact absurd (show b∈([]:TJ) from z) J7) J7
    | some u =>
     rcases hO.2 b g with z | ⟨ob,xs,z⟩
     ·rw[q] at z;cases z
     have z2:=un.frzs b ob _ z;obtain⟨e1,_⟩:=hok b _ z;obtain⟨e2,_⟩:=p b _ z2;rw[e] at e1;cases e1;exact e2
 cases hk:K.lookup a with
 | some o =>
  have e:=KX a o hk;rw[ha] at e
  cases e;refine t (upd (λ_=>none) T (.tbl #[])) ⟨Za,λb i=>.inl (by rw[Zc i])⟩ (.inr ⟨_,vs.toArray,_,hk,rfl,rfl,rfl,by rw[YS,D];exact hl,by simpa using rv⟩) (λb u z=>?_) (λb z=>?_) λz=>absurd (by rw[Zc aT]) z
  ·by_cases i:b=T
   ·subst i;rw[Za] at z;cases z;exact A
   rw[Zc i] at z;cases z
  by_cases i:b=T
  ·exact .inr i
  exact absurd (by rw[Zc i]) z
 | none =>
  have M:upd (λb=>if b=a then some (.frz { cls:=.type "list",data:=.seq vs.toArray } (.lst (ns.map V.int))) else none) T (.tbl #[]) a=some (.frz { cls:=.type "list",data:=.seq vs.toArray } (.lst (ns.map V.int))):=by rw[Zc aT,YG rfl]
  refine t (upd (λb=>if b=a then some (.frz { cls:=.type "list",data:=.seq vs.toArray } (.lst (ns.map V.int))) else none) T (.tbl #[])) ⟨Za,λb g=>?_⟩ (.inl (.inr ⟨{ cls:=.type "list",data:=.seq vs.toArray },M⟩)) (λb u z=>?_) (λb z=>?_) λ_=>hk
  ·rw[Zc g];by_cases i:b=a
   ·exact .inr ⟨_,_,YG i⟩
   exact .inl (YD i)
  ·by_cases g:b=T
   ·subst g;rw[Za] at z;cases z;exact A
   rw[Zc g] at z;by_cases i:b=a
   ·have N:=(YG i).symm.trans z
    cases N;subst i;exact⟨ha,by rw[YC];exact hl,vs,_,rv,ha⟩
   have N:=(YD i).symm.trans z
   cases N
  by_cases g:b=T
  ·exact .inr g
  rw[Zc g] at z;by_cases i:b=a
  ·exact .inl i
  exact absurd (YD i) z
def Bh {l:W.OpenLaw}{n k:Nat}{q:TU}{j:TF}{I:(Str->Option Value)->Heap->Prop}{D:World->Heap->Prop}{d:DefRec}{K:Params->W.Frag}{CX:World->CXT}{sp:World->Sp}{x:Str}{T:Addr}
  (hn:l.most=some n) (B:n<=sizeLine) (hq:PyProof.Rows.importsNone q=true) (t:l.prog.given.tree=none) (A:d.params.defaults=[]) {sr:Bool} (hr:Room k callerA sr)
  (J:∀ (w:World) (h:Heap),D w h->(K w.params).In h/\h.get? T=some (W.tabObj #[])) (y:∀ w:World,(K w.params).lookup T=none) (hcc:∀ w:World,∃ cc,W.codeHdIn (K w.params) cc T=true)
  (F:∀ (w:World) (mg:TB) (fa:Addr) (h:Heap),(K w.params).In h->h.Ns mainGlobals mg->mg d.name=some (.ref fa) →
   ∃ fd:FuncData,(∀ (s:Shared) (u:Value),BindsTo s fd ⟨[u],[]⟩ [(x,u)]) ∧
    ∀ base:Heap,(K w.params).In base->base.Ns mainGlobals mg->BltIn mg base->FnOk l.prog w (K w.params) mg base (CX w) k fa fd [x] (sp w) sr)
  (C:∀ (w:World) (H:Hp) (a:Addr) (ns:TV),ns.length<=n->OnlyT T H->SqL (K w.params) H a (ns.map V.int)->sp w [.ref a] H (λv _=>v=.bl true) λ_ _ _=>False)
  (r:∀ (w:World) (H:Hp) (s:Shared) (e:Value) (s':Shared),CX w [] H s (λ_ _ _=>False) e s'->False) :
  W.WalkO q j I D l.row.toRowW d [] (λf vs=>PySem.call f vs):=by
 refine Att.attach_call hn A λw s₀ p mg mb fa o pm cd doc a vs ns G Y ho hd L hmg m i c hg=>?_;obtain⟨KX,N⟩:=J w _ Y;obtain⟨cc,z⟩:=hcc w;obtain⟨fd,M,E⟩:=F w mg fa _ KX G.T.g hmg;exact Cb KX G.T.g G.T.b G.T.builtins G.T.nolimit (G.T.seer hq) t hg G.T.bmain N (y w) z m i (YM c B) hr E M (λH hO hS=>C w H a ns c hO hS) λH e s'=>r w H p e s'
end _b
namespace _b
open PySem PySem.Spec PyProof.Rows _L
open PySem.Sem (wp)
section
def RowItems (prog:TU)(w:World)(h:Heap):List (List Int)->List Value->Prop:=Paired λk v=>∃ b,v=.ref b/\IsTupleKey (intKind prog w) h k b
def IsRowKey (prog:TU)(w:World)(h:Heap)(ks:List (List Int))(a:Addr):Prop:=∃ o items n,h.get? a=some o/\o.cls=.type "tuple"/\o.data=.seq items n/\RowItems prog w h ks items.toList
def IsRowKey.typeIs {ks:List (List Int)}{a:Addr}(x:IsRowKey prog w s.heap ks a):s.TypeIs (.ref a) "tuple":=let ⟨o,_,_,ho,hc,_⟩:=x;⟨o,ho,hc⟩
theorem RowItems.inj {h:Heap}:∀ {x y:List (List Int)} {vs:TH},RowItems prog w h x vs->RowItems prog w h y vs->x=y:=by
 intro x y vs hx;unfold RowItems at *
 induction hx generalizing y with
 | nil=>intro a;cases a;rfl
 | cons h1 _ d =>
  intro a
  cases a with
  | cons h2 c =>
   obtain⟨b,rfl,k1⟩:=h1;obtain⟨f,e,k2⟩:=h2
   cases e;rw[k1.inj k2,d c]
theorem IsRowKey.inj {h:Heap}{a:Addr}{x y:List (List Int)}(hx:IsRowKey prog w h x a)(f:IsRowKey prog w h y a):x=y:=by
 obtain⟨o,items,n,ho,_,hd,hi⟩:=hx;obtain⟨o',c,n',e,_,b,d⟩:=f;obtain rfl:o=o':=YR (ho.symm.trans e);rw[hd] at b;injection b with h1 _
 subst h1;exact hi.inj d
theorem RowItems.imp {h h':Heap}(f:∀ k b,IsTupleKey (intKind prog w) h k b->IsTupleKey (intKind prog w) h' k b){x:List (List Int)}{vs:TH}(hx:RowItems prog w h x vs):RowItems prog w h' x vs:=by
 unfold RowItems at *
 induction hx with
 | nil=>exact .nil
 | cons h1 _ a =>
  obtain⟨b,e,k⟩:=h1;exact .cons ⟨b,e,f _ _ k⟩ a
theorem IsRowKey.keeps {h h':Heap}{ks:List (List Int)}{a d:Addr}{o:Obj}{es ep}(x:IsRowKey prog w h ks a)(ho:h.get? d=some o)(hd:o.data=.dict es ep)(hs:Heap.SameBut d h h'):IsRowKey prog w h' ks a:=by
 obtain⟨o',items,n,e,hc,c,hi⟩:=x;have f:a≠d:=by
  rintro rfl;obtain rfl:o'=o:=YR (e.symm.trans ho);rw[hd] at c;exact nomatch c
 exact⟨o',items,n,(hs.2 a f).trans e,hc,c,hi.imp λk b q=>q.keeps ho hd hs⟩
def rowKeyHash (prog:TU)(w:World)(ks:List (List Int)):Int:=reduceHash (Builtin.Tuple.tupleHashOf (ks.map (tupleKeyHash (intKind prog w))))
def rowDraws (ks:List (List Int)):Nat:=(ks.map λk=>k.length+1).sum+1
def Sa {ks:List (List Int)}{a:Addr}{Q:Int->Shared->Prop}(hu:A.units+4<cLine)(hk:IsRowKey prog w s.heap ks a)(h:Q (rowKeyHash prog w ks) { s with toks:=s.toks+rowDraws ks }) :
  wpAny (model prog w) A (pyHash (.ref a)) Q E s:=by
 have e:=hk.typeIs;obtain⟨o,items,n,ho,_,hd,hi⟩:=hk;unfold pyHash
 first | unfold pyHashByItsType | skip
 first | refine YA (wpAny_cRoomFor_or (.inr J5) ?_) | skip
 refine YA (jr e Y0h.lookup ?_);show wpAny _ _ (if (some (Value.builtin "tuple.__hash__") == some Value.none)=true then _ else _) Q E s;rw[YD (by rw[beq_builtin_none];exact YO)];refine YA (jr e Y0h.lookup ?_);show wpAny _ _ (callSpecialIfBoundUnlessNone? (.ref a) "__hash__" _ >>= _) Q E s;refine YA (wpAny_callSpecialIfBoundUnlessNone?_slot e Y0h (JW Y0h e F.entry_tuple_hash ?_ (F.args_tuple_hash_1 _)));show wpAny _ _ (Builtin.Tuple.tupleItemsOf (.ref a) >>= _) _ _ s;refine YA (Y0T ho hd ?_);refine YA ?_;rw[<-ja];refine Y0s _
  (λrest (b:Array Int) s'=>∃ done c,ks=done++c/\RowItems prog w s.heap c rest/\b.toList=done.map (tupleKeyHash (intKind prog w))/\s'={ s with toks:=s.toks+(done.map λk=>k.length+1).sum })
  _ ?_ ?_ _ _ ⟨[],ks,rfl,hi,rfl,rfl⟩
 ·rintro x rest b s' ⟨done,c,rfl,hl,d,rfl⟩;unfold RowItems at hl
  cases hl with
  | @cons k _ ks' _ h1 hl' =>
   obtain⟨f,rfl,k1⟩:=h1;refine YA (wpAny_pyHash_tuple (knd:=intKind prog w) ?_ k1 ?_)
   ·show A.units+1<cLine;omega
   first
   | exact YK ⟨done++[k],ks',J7,hl',by simp[d],by simp[zR]⟩
   | exact YA (YK (YK ⟨done++[k],ks',J7,hl',by simp[d],by simp[zR]⟩))
 rintro b s' ⟨done,c,rfl,hl,d,rfl⟩;unfold RowItems at hl
 cases hl;rw[JT] at h;show wpAny _ _ (retInt (Builtin.Tuple.tupleHashOf b.toList)) _ _ _;rw[d];refine wpAny_ret_mkInt ?_;show wpAny _ _ (if (decide (-(2:Int) ^ 63<=Builtin.Tuple.tupleHashOf (done.map (tupleKeyHash (intKind prog w)))) && decide (Builtin.Tuple.tupleHashOf (done.map (tupleKeyHash (intKind prog w)))<2 ^ 63))=true then _ else _) Q E _;unfold rowKeyHash rowDraws reduceHash at h;by_cases hr:(decide (-(2:Int) ^ 63<=Builtin.Tuple.tupleHashOf (done.map (tupleKeyHash (intKind prog w)))) && decide (Builtin.Tuple.tupleHashOf (done.map (tupleKeyHash (intKind prog w)))<2 ^ 63))=true
 ·rw[YG hr];rw[YG hr] at h;exact YK (by simpa [zR] using h)
 rw[YD hr];rw[YD hr] at h;exact YA (zy (YK (by simpa [zR] using h)))
theorem Li {x y:List (List Int)}{a b:Addr}{P:Fin->Shared->Prop}(hu:A.units+2<cLine)(hx:IsRowKey prog w s.heap x a)(B:IsRowKey prog w s.heap y b)(h:P (.done (.ret (.bool (decide (x=y))))) s) :
  wpAny (model prog w) A (Builtin.«tuple.__eq__» ⟨[.ref a,.ref b],[]⟩) P E s:=by
 have m:=B.typeIs;obtain⟨F,xs,na,n,_,q,p⟩:=hx;obtain⟨ob,ys,nb,z,_,o,t⟩:=B;show wpAny _ _ (isInstance (.ref b) (.type "tuple") >>= _) _ _ s;refine YA (ze m Y0l ?_);simp only [zQ,XM,qo];refine YA (Y0T n q ?_);refine YA (Y0T z o ?_);refine YA ?_;refine Y0s _
  (λrest r s'=>r.1=none/\s'=s/\∃ k l f ys',rest=List.zip f ys'/\RowItems prog w s.heap k f/\RowItems prog w s.heap l ys'/\decide (k=l)=decide (x=y)/\(f.length == ys'.length)=(xs.size == ys.size))
  _ ?_ ?_ _ _ ⟨rfl,rfl,x,y,xs.toList,ys.toList,rfl,p,t,rfl,J7⟩
 ·rintro ⟨u,v⟩ rest r s' ⟨hr,rfl,k,l,f,ys',hz,g,d,c,e⟩;unfold RowItems at g d
  cases g with
  | nil=>simp at hz
  | @cons k1 u' x'' xs'' h1 hx'' =>
   cases d with
   | nil=>simp at hz
   | @cons k2 v' y'' ys'' h2 hy'' =>
    simp only [Y0S,List.cons.injEq,Prod.mk.injEq] at hz;obtain⟨⟨rfl,rfl⟩,rfl⟩:=hz;obtain⟨b1,rfl,D⟩:=h1;obtain⟨b2,rfl,C⟩:=h2;refine YA (wpAny_eqBool_tuple (knd:=intKind prog w) J5 D C ?_);by_cases hk:k1=k2
    ·subst hk;rw[XE rfl];simp only [zQ,XM,qo];refine YK ⟨rfl,rfl,x'',y'',xs'',ys'',rfl,hx'',hy'',?_,by simpa using e⟩;rw[<-c];by_cases j:x''=y''
     ·simp[j]
     simp[j]
    rw[XN hk];simp only [Bool.not_false,Y10];have hf:decide (x=y)=false:=by rw[<-c];simp[hk]
    rw[hf] at h;exact YA (YK (YK (YK h)))
 rintro ⟨r1,r2⟩ s' ⟨hr,rfl,k,l,f,ys',hz,g,d,c,e⟩;simp only at hr;subst hr;refine YK ?_;have i:(xs.size == ys.size)=decide (x=y):=by
  rw[<-c,<-e];unfold RowItems at g d
  cases g with
  | nil =>
   cases d with
   | nil=>simp
   | cons _ _=>simp
  | cons _ _ =>
   cases d with
   | nil=>simp
   | cons _ _=>simp at hz
 show P (.done (.ret (.bool (xs.size == ys.size)))) s';rw[i];exact h
def Sc {x y:List (List Int)}{a b:Addr}{Q:Bool->Shared->Prop}(hu:A.units+4<cLine)(hx:IsRowKey prog w s.heap x a)(d:IsRowKey prog w s.heap y b)(h:Q (decide (x=y)) s) :
  wpAny (model prog w) A (eqBool (.ref a) (.ref b)) Q E s:=by
 unfold eqBool
 try with_reducible refine JO ?_
 show wpAny _ _ (if (Value.ref a == Value.ref b)=true then _ else _) Q E s;by_cases c:(Value.ref a == Value.ref b)=true
 ·rw[YG c];have e:a=b:=by have:=eq_of_beq c;injection this
  subst e;obtain rfl:=hx.inj d;exact YA (zy (YK (by simpa using h)))
 rw[YD c];exact YA (wpAny_richCompare_same_room (op:=.Eq) hx.typeIs d.typeIs Y0C
  (JW Y0C hx.typeIs F.entry_tuple_eq (Li (by show A.units+1+2<cLine;omega) hx d ⟨_,rfl,(λe=>nomatch e),qy h⟩) (F.args_tuple_eq_2 _ _)) J5)
theorem Ta {ks:TV}{a:Addr}{Q:Bool->Shared->Prop}(n:Nat)(hk:IsTupleKey (intKind prog w) s.heap ks a)(h:Q true s):wpAny (model prog w) A (eqIsQuiet (n+1) (.ref a)) Q E s:=by
 have d:=hk.typeIs;obtain⟨o,items,n,ho,_,hd,hi⟩:=hk;unfold eqIsQuiet;refine YA (jr d Y0C.lookup ?_);show wpAny _ _ (isInstance (.ref a) (.type "tuple") >>= _) _ _ s;refine YA (ze d Y0l ?_);simp only [zQ,XM,qo];refine YA (GE ho hd ?_);refine YA ?_;show wpAny _ _ (forIn items _ _) _ _ s;rw[<-ja];refine Y0s _ (λrest r s'=>r.1=none/\s'=s/\∀ v∈rest,carriedByValue v=true) _ ?_ ?_ _ _ ⟨rfl,rfl,hi.byValue⟩
 ·rintro v rest r s' ⟨hr,rfl,b⟩;rw[eqIsQuiet_byValue _ (b v XC)];refine YA (YK ?_);simp only [zQ,XM,qo];exact YK ⟨rfl,rfl,λu c=>b u (YV _ c)⟩
 rintro ⟨r1,r2⟩ s' ⟨hr,rfl,_⟩;simp only at hr;subst hr;exact YK h
theorem Rn {ks:List (List Int)}{a:Addr}{Q:Bool->Shared->Prop}(hk:IsRowKey prog w s.heap ks a)(h:Q true s):wpAny (model prog w) A (eqIsQuiet 8 (.ref a)) Q E s:=by
 have d:=hk.typeIs;obtain⟨o,items,n,ho,_,hd,hi⟩:=hk;unfold eqIsQuiet;refine YA (jr d Y0C.lookup ?_);show wpAny _ _ (isInstance (.ref a) (.type "tuple") >>= _) _ _ s;refine YA (ze d Y0l ?_);simp only [zQ,XM,qo];refine YA (GE ho hd ?_);refine YA ?_;show wpAny _ _ (forIn items _ _) _ _ s;rw[<-ja];refine Y0s _ (λrest r s'=>r.1=none/\s'=s/\∃ c,RowItems prog w s.heap c rest) _ ?_ ?_ _ _ ⟨rfl,rfl,ks,hi⟩
 ·rintro v rest r s' ⟨hr,rfl,c,hl⟩;unfold RowItems at hl
  cases hl with
  | @cons k _ ks' _ h1 hl' =>
   obtain⟨b,rfl,q⟩:=h1;refine YA (Ta 6 q ?_);simp only [zQ,XM,qo];exact YK ⟨rfl,rfl,ks',hl'⟩
 rintro ⟨r1,r2⟩ s' ⟨hr,rfl,_⟩;simp only at hr;subst hr;exact YK h
end
def rowKind (prog:TU)(w:World):HeapKind prog w (List (List Int)) where
 is:=IsRowKey prog w
 hash:=rowKeyHash prog w
 draws:=rowDraws
 room:=λA=>A.units+4<cLine
 inj:=λhx a=>hx.inj a
 keeps:=λx ho hd hs=>x.keeps ho hd hs
 pyHash:=λhu hk h=>Sa hu hk h
 eqBool:=λhu hx a h=>Sc hu hx a h
 quiet:=λhk h=>Rn hk h
section
def Uz {a:Addr}{o:Obj}{xs:Array Value}{k:Nat}{name:Str}{Q:Option Value->Shared->Prop}
  (hx:s.heap.get? a=some o) (hc:o.cls=.type "list") (b:o.data=.seq xs k) (hd:o.dict=none) (i:typeLookup (.type "list") name=pure none) (f:(["__module__","__name__","__qualname__","__doc__","__annotations__"]:List Str).contains name=false) (p:A.handled=none)
  (h:∀ h' tk e,Heap.NewExcOf s.heap h' e "AttributeError"->Q none { s with heap:=h',toks:=tk }) (m:name.length+100<=sizeLine:=by size_fits) :
  wpAny (model prog w) A (getAttr? (.ref a) name) Q E s:=by
 obtain⟨c,q,r,sl⟩:=o;simp only at hc b hd;subst hc b hd;obtain⟨hp,g,d,tk,os⟩:=s;have n:∀ l,(⟨hp,g,d,l,os⟩:Shared).TypeIs (.ref a) "list":=λ_=>⟨_,hx,rfl⟩;have f1:=sub_AttributeError;have x:=jq.lookup;have u:=jq.bind (.ref a);have t:=am_list_getattr_none;unfold getAttr? getAttrBy? getAttrBy
 repeat (any_goals (first | assumption | exact n _ | ((with_reducible show wpAny _ _ (call (Value.builtin "list.__getattribute__") _ _) _ _ _);refine jz jq (n _) am_entry_list_getattribute (F.args_list_getattribute_2 _ _) (meets_getattribute_miss_list a xs k sl name _ i f m) ⟨hx,p,λh' l e j=>?_⟩) | wp_step))
 obtain⟨t',u',v⟩:=j.there;show wpAny _ _ (getattributeRaised _ _ _ _ _ _ _) _ _ _;unfold getattributeRaised
 repeat (any_goals (first | assumption | wp_step))
 exact h _ _ _ j.of
def L9 {k:TV}{a:Addr}(f:∀ b o,h.get? b=some o->h'.get? b=some o)(x:IsTupleKey (intKind prog w) h k a):IsTupleKey (intKind prog w) h' k a:=by
 obtain⟨o,items,n,ho,hc,hd,hi⟩:=x;exact⟨o,items,n,f _ _ ho,hc,hd,hi⟩
def R9 {k:List (List Int)}{a:Addr}(f:∀ b o,h.get? b=some o->h'.get? b=some o)(x:IsRowKey prog w h k a):IsRowKey prog w h' k a:=by
 obtain⟨o,items,n,ho,hc,hd,hi⟩:=x;exact⟨o,items,n,f _ _ ho,hc,hd,hi.imp λk b q=>L9 f q⟩
def Vu:entryFor table "dict.update.loop"=some Builtin.«dict.update.loop»:=entryFor_of_tree (by kernel_rfl)
def Xg:plainId "dict.update.loop"=true:=by decide +kernel
def PairAt (prog:TU)(w:World)(h:Heap)(v:Value)(x:List (List Int) × Addr × Value):Prop:=∃ t o n,v=.ref t/\h.get? t=some o/\o.cls=.type "tuple"/\o.data=.seq #[.ref x.2.1,x.2.2] n/\IsRowKey prog w h x.1 x.2.1
def La {xs:List (List (List Int) × Addr × Value)}(nd:(xs.map (·.1)).Nodup){i:Nat}{x:List (List Int) × Addr × Value}(hx:xs[i]?=some x):storedH (xs.take i) x.1 x.2.1 x.2.2=xs.take (i+1):=by
 rw[storedH_new (atKey_none_of_get λj p hj=>?_),List.take_succ,hx]
 ·rfl
 have a:j<i:=by
  have:=(YH.mp hj).1;rw[JX] at this;omega
 rw[Y1a a] at hj;exact absurd (idxH_unique nd hj (q:=x.2) (by rw[hx])) J5
def Mt {d:Addr}{xs:List (List (List Int) × Addr × Value)}(hm:h.DictOfH (rowKind prog w) d xs)(b:∀ o,h.get? d=some o->h'.get? d=some o)(ks:∀ x∈xs,IsRowKey prog w h' x.1 x.2.1):h'.DictOfH (rowKind prog w) d xs:=by
 obtain⟨o,es,ep,ho,c,hd,a,_,hn⟩:=hm;exact⟨o,es,ep,b o ho,c,hd,a,ks,hn⟩
def F9 {h h':Heap}{vs:TH}{xs:List (List (List Int) × Addr × Value)}(hx:Paired (PairAt prog w h) vs xs)(f:∀ b o,h.get? b=some o->h'.get? b=some o):∀ x∈xs,IsRowKey prog w h' x.1 x.2.1:=by
 induction hx with
 | nil=>intro x hx;cases hx
 | cons h1 _ a =>
  intro x hx;rcases YU.mp hx with rfl | hx
  ·obtain⟨_,_,_,_,_,_,_,k⟩:=h1;exact R9 f k
  exact a x hx
theorem Cs {R:Result->Shared->Prop}{h0:Heap}{l I d:Addr}{items:Array Value}{xs:List (List (List Int) × Addr × Value)}{res:Value}(G:A.handled=none)(hu:A.units+10<cLine)(F:h0.get? I=none)(hd:h0.get? d=none)(hdI:d≠I)(hl:h0.IsList l items)(hz:xs.length<=sizeLine)
  (hx:Paired (PairAt prog w h0) items.toList xs) (nd:(xs.map (·.1)).Nodup) :
  ∀ (k i:Nat) (s:Shared) (u:Tok),xs.length - i=k->i<=xs.length->s.heap.IsListIter I l i->s.heap.DictOfH (rowKind prog w) d (xs.take i)->(∀ b o,h0.get? b=some o->s.heap.get? b=some o) →
  (∀ h' tk,h'.DictOfH (rowKind prog w) d xs->(∀ b o,b≠I->b≠d->s.heap.get? b=some o->h'.get? b=some o)->R (.ok (.ret res)) { s with heap:=h',toks:=tk }) →
  codeAny (model prog w) A (.builtin "dict.update.loop" ⟨[.ref d,.ref I,.int i u,res],[]⟩) R s:=by
 have p:l≠I:=λe=>by
  obtain⟨o,ho,_⟩:=hl;rw[e,F] at ho
  cases ho
 have O:l≠d:=λe=>by
  obtain⟨o,ho,_⟩:=hl;rw[e,hd] at ho
  cases ho
 have len:items.size=xs.length:=by have:=YY hx;simpa using this
 intro k
 induction k with
 | zero =>
  intro i s u hk hi hit hm kp D;have r:i=xs.length:=J5
  subst r;refine Y1w Vu ?_;rw[Around.under_plainId Xg _];show wpAny _ A.in1 (pyNext (.ref I) >>= _) _ _ s;have W:=Walks.listQ (prog:=prog) (w:=w) (A:=A.in1) (qs:=[]) (.inl G) I l p J7 items;refine YA (W.done s _ _ (by rw[len];exact⟨hit,hl.at λo e=>kp _ _ e,J7⟩) λh' tk a=>?_);rw[GA] at hm;refine YA (YK (YK (D h' tk ?_ λb o N _ e=>a b o (by simpa using N) e)));exact Mt hm (λo e=>a d o (by simpa using hdI) e) (F9 hx λb o e=>a b o (by simpa using λz:b=I=>by rw[z,F] at e;cases e) (kp b o e))
 | succ k M =>
  intro i s u hk hi hit hm kp D;have g:i<xs.length:=J5
  refine Y1w Vu ?_;rw[Around.under_plainId Xg _];show wpAny _ A.in1 (pyNext (.ref I) >>= _) _ _ s;have W:=Walks.listQ (prog:=prog) (w:=w) (A:=A.in1) (qs:=[]) (.inl G) I l p J7 items;refine YA (W.item i s _ _ J5 ⟨hit,hl.at λo e=>kp _ _ e,J7⟩ λv h' tk L st a=>?_);have j:items.toList[i]?=some v:=by simpa using L
  obtain⟨t,o,n,rfl,ho,hc,y,m⟩:=Paired.getB hx j (show xs[i]?=some xs[i] by simp[g]);have c:∀ b o,h0.get? b=some o->h'.get? b=some o:=λb o e=>a b o (by simpa using λz:b=I=>by rw[z,F] at e;cases e) (kp b o e);have q:=Mt hm (λo e=>a d o (by simpa using hdI) e) λx E=>F9 hx c x (Y1H E);have J:=c _ _ ho;show wpAny _ _ (holding [.ref t] _ >>= _) _ _ _;refine YA (JO (YA (wpAny_tryCatch ?_)));unfold Builtin.Dict.pairItems;refine YA (Y1p (T:="tuple") ⟨o,J,hc⟩ ?_);rw[YG J6];refine YA (GE J y (YK ?_));show wpAny _ _ (holding [.ref xs[i].2.1,xs[i].2.2] (dictSet d (.ref xs[i].2.1) xs[i].2.2)) _ _ _;refine JO (wpAny_dictSet_heap (knd:=rowKind prog w) (by show A.units+1+4<cLine;omega) (R9 c m) q (λh2 h f=>?_) (by rw[JX];omega));rw[La nd (by simp[g])] at h;refine YK ⟨Y18 Xg _,?_⟩;refine M (i+1) _ _ J5 g (st.1.at λo e=>(f.2 I (XQ hdI)).trans e) h (λb o e=>(f.2 b (λz=>by rw[z,hd] at e;cases e)).trans (c b o e)) λK B C k3=>?_;exact D K B C λb o H bd e=>k3 b o H bd ((f.2 b bd).trans (a b o (by simpa using H) e))
theorem Rt {l:Addr}{items:Array Value}{xs:List (List (List Int) × Addr × Value)}{Q:TC}(q:A.handled=none)(hu:A.units+14<cLine)(hl:PlainL s.heap l items)(hz:xs.length<=sizeLine)(hx:Paired (PairAt prog w s.heap) items.toList xs)(nd:(xs.map (·.1)).Nodup)
  (h:∀ h' tk,h'.DictOfH (rowKind prog w) s.heap.objs.size xs->(∀ b o,s.heap.get? b=some o->h'.get? b=some o)->Q (.ref s.heap.objs.size) { s with heap:=h',toks:=tk }) :
  wpAny (model prog w) A (call (.type "dict") [.ref l]) Q E s:=by
 refine callType_codes (Q₁:=λobj d=>obj=.ref s.heap.objs.size/\d={ s with heap:=s.heap.push { cls:=.type "dict",data:=.dict #[] } }) F.kt_called_dict (F.kt_typeCall_dict_1 _) F.entry_dict_init (kt_code_dict_new _ ⟨rfl,rfl⟩) ?_;rintro obj d ⟨rfl,rfl⟩;have c:(s.heap.push { cls:=.type "dict",data:=.dict #[] }).DictOfH (rowKind prog w) s.heap.objs.size []:=Heap.DictOfH.new s.heap;refine⟨c.typeIs,F.args_dict_init_2 _ _,?_⟩;unfold Builtin.«dict.__init__»;refine YA ?_;unfold Builtin.Dict.selfAndRest;refine YA (wpAny_notOrdered_dict c.typeIs ?_);show wpAny _ _ (pure (s.heap.objs.size,[Value.ref l])) _ _ _;refine YK ?_;show wpAny _ _ (Builtin.Dict.updateFrom "dict.__init__" s.heap.objs.size (.ref l) [] .none) _ _ _;unfold Builtin.Dict.updateFrom;obtain⟨u,nl,ho,hc,n,m⟩:=id hl;have i:=YB { cls:=.type "dict",data:=.dict #[] } ho;refine YA (Y1p (T:="list") ⟨_,i,hc⟩ ?_);rw[YG J6];refine YA (Uz (o:=u) i hc m n (by rw[typeLookup_type,builtinLookup_eq_fast];kernel_rfl) J8 q λh1 t e1 g=>?_);rw[YG (show (none:Option Value).isNone=true from rfl)];refine YA (zy ?_);have f:∀ b o,s.heap.get? b=some o->h1.get? b=some o:=λb o e=>g.keeps b o (YB _ e);have k:h1.IsList l items:=hl.isList.at λo e=>f _ _ e;refine YA (zL k ?_);have p:h1.get? s.heap.objs.size=some { cls:=.type "dict",data:=.dict #[] }:=g.keeps _ _ (YN _ rfl);have gt:s.heap.objs.size<h1.objs.size:=YL p;have a:∀ b,s.heap.objs.size<=b->s.heap.get? b=none:=λb r=>by
  cases e:s.heap.get? b with
  | none=>rfl
  | some o=>exact absurd (YL e) (Y0q.mpr r)
 refine YK ⟨Y18 Xg _,?_⟩;refine Cs (A:=A.in1) (h0:=s.heap) (items:=items) (xs:=xs) q (by show A.units+1+10<cLine;omega) (a _ J5) (a _ (YJ _)) (XB gt) hl.isList hz hx nd xs.length 0 _ _ rfl (JF _) ?_ ?_ (λb o e=>YB _ (f b o e)) λh' tk j k'=>?_
 ·exact⟨_,YN _ rfl,rfl,rfl⟩
 ·rw[Y1I];exact Mt c (λo e=>YB _ (g.keeps _ _ e)) J7
 exact⟨rfl,h h' tk j λb o e=>k' b o (λz=>by rw[z,a _ J5] at e;cases e) (λz=>by rw[z,a _ (YJ _)] at e;cases e) (YB _ (f b o e))⟩
end
section
variable {d:Addr}{ep:Nat}{od:Obj}{es:Array DictEntry}
theorem Kh {Q:TC}(hd:(d == sysModules)=false)(ho:s.heap.get? d=some od)(c:od.ExactDict)(a:od.data=.dict es ep)
  (b:Q (.ref s.heap.objs.size) { s with heap:=s.heap.push { cls:=.type "dict_keyiterator",data:=.fields #[.ref d,.int 0 0,.int es.size 0,.int ep 0] } }):wpAny (model prog w) A (pyIter (.ref d)) Q E s:=by
 have T:s.TypeIs (.ref d) "dict":=⟨od,ho,c.1⟩;refine wpAny_pyIter_slot T F.slot_dict_iter (JW F.slot_dict_iter T F.entry_dict_iter ?_ (F.args_dict_iter_1 _));unfold Builtin.«dict.__iter__»;refine YA ?_;unfold Builtin.Dict.dictSlotNone;refine YA (wpAny_notOrdered_dict T (YK (show wpAny _ _ (Builtin.Dict.showsAll d >>= _) _ _ s from ?_)));unfold Builtin.Dict.showsAll;rw[YD (by rw[hd];exact YO)];refine YA (YK (YA (Y13 ho a (YA (Y1y ho a ?_)))));refine YA (zJ (YK ⟨_,rfl,"dict_keyiterator",_,⟨_,YN _ rfl,rfl⟩,qi.lookup,?_⟩));simpa [rawInt] using b
def Jw {Q:Option Value->Shared->Prop}(hit:s.heap.IsKeyIter it d i es.size ep)(ho:s.heap.get? d=some od)(c:od.data=.dict es ep)(f:i<es.size)
  (e:∀ h',h'.IsKeyIter it d (i+1) es.size ep->Heap.SameBut it s.heap h'->Q (some es[i].key) { s with heap:=h' }):wpAny (model prog w) A (pyNext (.ref it)) Q E s:=by
 obtain⟨o,b,hc,hd⟩:=id hit;have ty:=hit.typeIs;unfold pyNext;refine YA (zP (JR (name:=Str.ofString "__next__") ty qi (JW qi ty Y0v ?_ (Y0t _))));refine YA (YK (YA (YA ?_)));(first | refine YA (zl ty (YK ?_)) | refine YA (zS ty (YK ?_)));refine YA (wpAny_fieldsOf b hd ?_);simp only [show Builtin.Dict_items.ownsTuple "dict_keyiterator"=false by decide,XM,qo];show wpAny _ _ (if (Value.ref d == Value.none)=true then _ else _) _ _ s;rw[YD (show ¬ ((Value.ref d == Value.none)=true) from YO)];refine YA (YK (YA (Y13 ho c ?_)));rw[YD J7];refine YA (YK (YA (Y1y ho c ?_)));rw[YD J7];refine YK ?_;simp only [show ¬ ((i:Int)<0) from by omega,qo,zo,zC f];refine YA ?_;(first | refine YA (zl ty (YK ?_)) | refine YA (zS ty (YK ?_)));refine YA (wpAny_isOneOf_keyiter ty ?_);show wpAny _ _ (setField (.ref it) 1 (rawInt ((i:Int)+1)) >>= _) _ _ s;refine YA (GZ b hd J7 ?_);have a:(s.heap.update it (Obj.mapFields (·.setIfInBounds 1 (rawInt ((i:Int)+1))))).IsKeyIter it d (i+1) es.size ep:=⟨_,JJ _ b (zB (qj hd _)),(Y06 ..).trans hc,by rw[qj hd];simp[rawInt]⟩;refine YA (JO (YA (wpAny_isOneOf_keyiter (s:={ s with heap:=s.heap.update it (Obj.mapFields (·.setIfInBounds 1 (rawInt ((i:Int)+1)))) }) a.typeIs (show wpAny _ _ (pure es[i].key) _ _ _ from ?_))));exact YK (YK ⟨_,rfl,YK (e _ a (JG ..))⟩)
theorem Ce {Q:Option Value->Shared->Prop}(hq:Qt A s.heap)(hit:s.heap.IsKeyIter it d i es.size ep)(ho:s.heap.get? d=some od)(c:od.data=.dict es ep)(ge:es.size<=i)
  (g:∀ h',Heap.ExtBut it s.heap h'->Q none { s with heap:=h' }):wpAny (model prog w) A (pyNext (.ref it)) Q E s:=by
 obtain⟨o,a,hc,hd⟩:=id hit;have ty:=hit.typeIs;unfold pyNext;refine YA (zP (JR (name:=Str.ofString "__next__") ty qi (JW qi ty Y0v ?_ (Y0t _))));refine YA (YK (YA (YA ?_)));(first | refine YA (zl ty (YK ?_)) | refine YA (zS ty (YK ?_)));refine YA (wpAny_fieldsOf a hd ?_);simp only [show Builtin.Dict_items.ownsTuple "dict_keyiterator"=false by decide,XM,qo];show wpAny _ _ (if (Value.ref d == Value.none)=true then _ else _) _ _ s;rw[YD (show ¬ ((Value.ref d == Value.none)=true) from YO)];refine YA (YK (YA (Y13 ho c ?_)));rw[YD J7];refine YA (YK (YA (Y1y ho c ?_)));rw[YD J7];refine YK ?_;simp only [show ¬ ((i:Int)<0) from by omega,qo,zo,Y1t ge];refine YA ?_;(first | refine YA (zl ty (YK ?_)) | refine YA (zS ty (YK ?_)));show wpAny _ _ (setField (.ref it) 0 .none >>= _) _ _ s;refine YA (GZ a hd J7 ?_);refine Se (hq:=(hq.but a λn=>?_)) λh' e k f=>?_
 ·obtain⟨vs,e1,e2⟩:=n;rw[hd] at e1
  cases e1;simp at e2
 obtain⟨oe,h1,h2⟩:=f;refine YA (ze (T:="StopIteration") (b:=true) ⟨_,h1,h2⟩ Y07 (YK (g _ λb o h e=>k b o ((JG ..).extBut b o h e))))
end
def rowK (r:UA):List (List Int):=r.map λq=>[q.1,q.2]
theorem Q9:∀ {r s:UA},rowK r=rowK s->r=s
 | [],[],_=>rfl
 | [],_::_,h=>by cases h
 | _::_,[],h=>by cases h
 | a::r,b::s,h=>by
  have h:[a.1,a.2]::rowK r=[b.1,b.2]::rowK s:=h;injection h with h1 h2
  rw[Q9 h2,show a=b from Y2a (Y1S h1).1 (Y1S (Y1S h1).2).1]
def dcO (P:TU)(w:World)(d:Addr)(es:List (List Rat × Addr × Addr))(ep:Nat):HO:=.ext λh=>∃ o ds,h.get? d=some o/\o.ExactDict/\o.data=.dict ds ep/\ds.toList=es.map (λe=>entryOfKey (rowKind P w) (rowK e.1,e.2.1,.ref e.2.2))/\(d == sysModules)=false
structure DcAt (P:TU)(w:World)(K:TR)(H:Hp)(d:Addr)(es:List (List Rat × Addr × Addr))(ep:Nat):Prop where
 ob:H d=some (dcO P w d es ep)
 ks:∀ e∈es,RowAt K H e.2.1 e.1
 nd:(es.map (·.1)).Nodup
theorem DcAt.same {P:TU}{w:World}{K:TR}{H H':Hp}{d:Addr}{es:List (List Rat × Addr × Addr)}{ep:Nat}(h:DcAt P w K H d es ep)(S:Same H H'):DcAt P w K H' d es ep:=⟨S _ _ h.ob,λe a=>(h.ks e a).ext (Ext.same S),h.nd⟩
section
variable {X:Cx}{σ:_L.St}{H:Hp}
def Z5a (I:Inv X pins σ H s):sysModules<s.heap.objs.size:=by
 have hg:mainGlobals<s.heap.objs.size:=(I.mod.glob.keeps I.bk).lt;exact Nat.lt_trans (show sysModules<mainGlobals by decide) hg
def Z6l (I:Inv X pins σ H s){a:Addr}{p q:Int}(h:SqT X.K H a [.int p,.int q]):IsTupleKey (intKind X.prog X.w) s.heap [p,q] a:=by
 obtain⟨its,r,⟨o,ho,hc,n,hd⟩,_⟩:=I.tuple h;refine⟨o,its.toArray,n,ho,hc,hd,?_⟩
 cases r with
 | cons r1 t =>
  cases t with
  | cons r2 b =>
   cases b;obtain⟨c,rfl⟩:=r1;obtain⟨b,rfl⟩:=r2;exact .cons (by simp[intKind,Value.isInt]) (.cons (by simp[intKind,Value.isInt]) .nil)
theorem Nt (I:Inv X pins σ H s){a:Addr}{rs:UA}(h:RowAt X.K H a rs):IsRowKey X.prog X.w s.heap (rowK rs) a:=by
 obtain⟨xs,hx,hr⟩:=h;obtain⟨its,r,⟨o,ho,hc,n,hd⟩,_⟩:=I.tuple hx;refine⟨o,its.toArray,n,ho,hc,hd,?_⟩;have key:∀ {rs:UA} {xs:TZ} {its:TH},Rs X.K H rs xs->Vals xs its->RowItems X.prog X.w s.heap (rowK rs) its:=by
  intro rs xs its hr;unfold Rs at hr
  induction hr generalizing its with
  | nil=>intro v;cases v;exact .nil
  | cons h1 _ d =>
   intro v
   cases v with
   | cons r1 t =>
    obtain⟨b,rfl,c⟩:=h1
    cases r1;exact .cons ⟨b,rfl,Z6l I c⟩ (d t)
 exact key hr r
def Z5o (I:Inv X pins σ H s){d:Addr}{es:List (List Rat × Addr × Addr)}{ep:Nat}(h:DcAt X.prog X.w X.K H d es ep):s.heap.DictOfH (rowKind X.prog X.w) d (es.map λe=>(rowK e.1,e.2.1,Value.ref e.2.2))/\(d == sysModules)=false:=by
 obtain⟨⟨o,ds,ho,f,hd,c,hs⟩,_⟩:=(show ObjOk X.prog X.w H s.heap d (dcO X.prog X.w d es ep) from I.hok d _ h.ob);refine⟨⟨o,ds,ep,ho,f,hd,by rw[c,qh];rfl,λx hx=>?_,?_⟩,hs⟩
 ·obtain⟨e,b,rfl⟩:=YT.mp hx;exact Nt I (h.ks e b)
 rw[qh,show ((λx:List (List Int) × Addr × Value=>x.1) ∘ λe:List Rat × Addr × Addr=>(rowK e.1,e.2.1,Value.ref e.2.2))=λe=>rowK e.1 from rfl];have:=h.nd;rw[XU,GX] at this ⊢;exact this.imp λa z=>a (Q9 z)
inductive rDict (P:TU) (w:World) (K:TR) (xs:TZ) (H:Hp) (Q:VK):Prop
 | mk (p:Addr) (ys:TZ) (es:List (List Rat × Addr × Addr)) (a0:xs=[.ref p]) (a1:SqL K H p ys) (a2:Paired (λv e=>∃ t,v=V.ref t/\SqT K H t [.ref e.2.1,.ref e.2.2]/\RowAt K H e.2.1 e.1) ys es) (a3:(es.map (·.1)).Nodup) (a4:∀ d ep,H d=none->Q (.ref d) (upd H d (dcO P w d es ep)))
theorem Pk (f:X.A.handled=none)(hu:X.A.units+64<cLine)(hK:X.K=K:=by rfl):CallR X (.type "dict") (rDict X.prog X.w K):=by
 subst hK;intro pins s σ H xs us Q I r h;obtain⟨p,ys,es,rfl,hq,hp,nd,q⟩:=h;obtain⟨u,rfl,y⟩:=Vv r
 cases y;obtain⟨its,r',pl,hz⟩:=I.list hq;have lp:=YY hp;have C:=r'.length;have a:Paired (PairAt X.prog X.w s.heap) its.toArray.toList (es.map λe=>(rowK e.1,e.2.1,Value.ref e.2.2)):=by
  have key:∀ {ys:TZ} {es:List (List Rat × Addr × Addr)} {its:TH},Paired (λv e=>∃ t,v=V.ref t/\SqT X.K H t [.ref e.2.1,.ref e.2.2]/\RowAt X.K H e.2.1 e.1) ys es->Vals ys its->Paired (PairAt X.prog X.w s.heap) its (es.map λe=>(rowK e.1,e.2.1,Value.ref e.2.2)):=by
   intro ys es its hp
   induction hp generalizing its with
   | nil=>intro v;cases v;exact .nil
   | cons h1 _ l =>
    intro v
    cases v with
    | cons r1 t =>
     obtain⟨b,rfl,j,row⟩:=h1
     cases r1;obtain⟨i,r2,⟨o,ho,hc,n,hd⟩,_⟩:=I.tuple j;obtain⟨D,B,rfl,e1,e2⟩:=Vals.two r2
     cases e1
     cases e2;exact .cons ⟨b,o,n,rfl,ho,hc,hd,Nt I row⟩ (l t)
  exact key hp r'
 refine Rt f J5 pl (by rw[YC];omega) a ?_ λh' tk hm kp=>?_
 ·rw[qh,show ((λx:List (List Int) × Addr × Value=>x.1) ∘ λe:List Rat × Addr × Addr=>(rowK e.1,e.2.1,Value.ref e.2.2))=λe=>rowK e.1 from rfl];rw[XU,GX] at nd ⊢;exact nd.imp λd z=>d (Q9 z)
 obtain⟨o,ds,ep,ho,m,hd,g,_,_⟩:=hm;have c:(s.heap.objs.size == sysModules)=false:=by
  have h:=Z5a I;exact beq_false_of_ne (GC h)
 refine⟨.ref s.heap.objs.size,_,I.laid (t':=tk) kp (YJ _) (show ObjOk X.prog X.w _ h' _ (dcO X.prog X.w s.heap.objs.size es ep) from ⟨⟨o,ds,ho,m,hd,by rw[g,qh];rfl,c⟩,⟨o,ho⟩,?_⟩),rfl,q _ _ (I.hok.fresh (YJ _))⟩;rintro h1 h2 ⟨o,ds,ho,r⟩ k;exact⟨o,ds,k _ ho,r⟩
inductive rIxD (P:TU) (w:World) (K:TR) (x y:V) (H:Hp) (Q:VK):Prop
 | mk (d a:Addr) (es:List (List Rat × Addr × Addr)) (i:Nat) (e:List Rat × Addr × Addr) (a0:x=.ref d) (a1:y=.ref a) (ep:Nat) (a2:DcAt P w K H d es ep) (a3:es[i]?=some e) (a4:RowAt K H a e.1) (a5:Q (.ref e.2.2) H)
theorem Z56 (hu:X.A.units+64<cLine)(hK:X.K=K:=by rfl):IxR X (rIxD X.prog X.w K):=by
 subst hK;intro value b pins s σ H x y v u Q I g c h hs;obtain⟨d,a,es,i,e,rfl,rfl,ep,hd,f,ha,q⟩:=h
 cases g
 cases c;obtain⟨hm,_⟩:=Z5o I hd;have hn:((es.map λe=>(rowK e.1,e.2.1,Value.ref e.2.2)).map (·.1)).Nodup:=let ⟨_,_,_,_,_,_,_,_,hn⟩:=hm;hn;refine Y09 (x:=.ref e.2.2) hm.typeIs F.slot_dict_getitem.lookup (wpAny_getItem_heap (knd:=rowKind X.prog X.w) (by show X.A.units+1+4<cLine;omega) (Nt I ha) hm (atKey_of_get hn (i:=i) (p:=(e.2.1,.ref e.2.2)) (by rw[YI,f];rfl)) ?_) hs;exact⟨rfl,.ref e.2.2,H,I.tok _,rfl,q⟩
def Itd (P:TU)(w:World)(K:TR)(d:Addr)(es:List (List Rat × Addr × Addr))(ep:Nat):It:=⟨λi H=>DcAt P w K H d es ep/\i<es.length,λi H x H'=>H'=H/\∃ e,es[i]?=some e/\x=.ref e.2.1,λi H=>DcAt P w K H d es ep/\es.length<=i⟩
theorem Fw {P:TU}(d it:Addr)(es:List (List Rat × Addr × Addr))(ep:Nat):Turn P w K tg (Itd P w K d es ep) [it] it (λi h=>h.IsKeyIter it d i es.length ep) where
 mem:=J7
 obj:=λi h st b a=>by
  obtain rfl:b=it:=by simpa using a
  obtain⟨o,e,c,q⟩:=st;exact⟨o,e,λv z=>by rw[q] at z;cases z⟩
 keep:=λi h h' st k=>let ⟨o,e,r⟩:=st;⟨o,k it J7 o e,r⟩
 item:=by
  intro X t hw hK hc i pins s σ H E I hf st ⟨hd,l⟩;subst t hw hK;obtain⟨⟨o,ds,ho,C,x,j,hs⟩,_⟩:=(show ObjOk X.prog X.w H s.heap d (dcO X.prog X.w d es ep) from I.hok d _ hd.ob);have g:ds.size=es.length:=by have:=congrArg List.length j;simpa using this
  obtain⟨n,f1,f2,u,p,m⟩:=hf it J7;refine Jw (es:=ds) (i:=i) (by rw[g];exact st) ho x J5 λh' f A=>?_;rw[g] at f;have B:Inv X pins σ H { s with heap:=h' }:=I.turned (t':=s.toks) (λb o a e=>(A.2 b a).trans e) n f1 u p m;obtain⟨oi,e,c,q⟩:=id f;have D:ds[i].key=.ref (es[i]'l).2.1:=by
   have h1:ds.toList[i]?=some ds[i]:=J7
   rw[j,YI,XT l] at h1;rw[<-YR h1];rfl
  exact⟨_,rfl,Fi (s:={ s with heap:=h' }) e c q J6 ⟨.ref (es[i]'l).2.1,H,B,D,⟨rfl,_,XT l,rfl⟩,f,λb a=>(hf b a).1⟩⟩
 done:=by
  intro X t hw hK hc i pins s σ H E I hf st ⟨hd,ge⟩;subst t hw hK;obtain⟨⟨o,ds,ho,C,x,j,hs⟩,_⟩:=(show ObjOk X.prog X.w H s.heap d (dcO X.prog X.w d es ep) from I.hok d _ hd.ob);have g:ds.size=es.length:=by have:=congrArg List.length j;simpa using this
  obtain⟨n,f1,f2,u,p,m⟩:=hf it J7;exact Ce (es:=ds) (i:=i) (I.qt hc) (by rw[g];exact st) ho x J5 λh' y=>⟨rfl,I.turned (t':=s.toks) (λb o a e=>y b o a e) n f1 u p m⟩
 self:=λ_ _ _ _ _ st h=>wpAny_pyIter_keyiter st h
inductive iDict_i (P:TU) (w:World) (K:TR) (R:It->Hp->Prop) (x:V) (H:Hp):Prop
 | mk (d:Addr) (es:List (List Rat × Addr × Addr)) (ep:Nat) (a0:x=.ref d) (a1:DcAt P w K H d es ep) (a2:R (Itd P w K d es ep) H)
def iDict (P:TU)(w:World)(K:TR)(tl:TE):TI:=λσ H R=>tl σ H (iDict_i P w K R)
theorem Z3z {l:Expr}(hl:PE X l tl)(hK:X.K=K:=by rfl):PI X tg l (iDict X.prog X.w K tl):=by
 subst hK;intro pins s σ H R I h;refine thn (hl pins s σ H _ I h) λv s1 z=>?_;obtain⟨x,H1,a,r1,d,es,ep,rfl,hd,q⟩:=z
 cases r1;obtain⟨⟨o,ds,ho,i,j,f,hs⟩,_⟩:=(show ObjOk X.prog X.w H1 s1.heap d (dcO X.prog X.w d es ep) from a.hok d _ hd.ob);have c:ds.size=es.length:=by have:=congrArg List.length f;simpa using this
 refine Kh hs ho i j ?_;refine⟨s1.heap.objs.size,[s1.heap.objs.size],_,_,H1,rfl,a.kept (t':=s1.toks) λb o e=>YB _ e,Fw d _ es ep,⟨_,YN _ rfl,rfl,by rw[<-c];rfl⟩,λb g=>?_,q⟩;obtain rfl:b=s1.heap.objs.size:=by simpa using g
 exact a.fpOk (YJ _) (a.hok.fresh (YJ _))
end
open PySem.Builtin PySem.Builtin.Str
def Bf (bs:List Bool):(List.range bs.length).all (λi=>bs.getD i false)=bs.all id:=by
 induction bs with
 | nil=>rfl
 | cons b r a =>
  rw[XW,List.range_succ_eq_map,Y1b,Y25,Y1b,<-a];rfl
section
variable {X:Cx}
inductive rAll (K:TR) (xs:TZ) (H:Hp) (Q:VK):Prop
 | mk (p:Addr) (bs:List Bool) (a0:xs=[.ref p]) (a1:SqL K H p (bs.map V.bl)) (a2:Q (.bl (bs.all id)) H)
theorem Bc (hc:X.calm=true)(hK:X.K=K:=by rfl):CallR X (.builtin "all") (rAll K):=by
 subst hK;intro pins s σ H xs us Q I r h;obtain⟨p,bs,rfl,hs,q⟩:=h;obtain⟨u,e0,t⟩:=Vv r
 cases (show u=Value.ref p from t);subst e0;obtain⟨its,rv,pl,hz⟩:=I.list hs;have hl:=rv.length;rw[YC] at hl;have lp:s.heap.IsList p its.toArray:=pl.isList;have l:p<s.heap.objs.size:=by
  obtain⟨o,e,_⟩:=lp;exact YL e
 have d:∀ p∈X.pn,s.heap.get? p.1=some p.2:=λp hp=>(I.pin p (XJ _ hp)).1;refine call_all_walk (zL lp ?_);refine⟨s.heap.objs.size,_,_,_,_,_,λi=>bs.getD i false,rfl,Walks.listQ (A:=X.A.in1) (I.ok.hd hc) s.heap.objs.size p (XB l) (λp hp=>XB (YL (d p hp))) its.toArray,⟨⟨_,YN _ rfl,rfl,rfl⟩,lp.at λo e=>YB _ e,λp hp=>YB _ (d p hp)⟩,?_,λh' tk k=>?_⟩
 ·intro i v s' n x f a;have hi:i<its.length:=by
   have:=(qz.mp f).1
   simpa using this
  have g:i<bs.length:=J5
  have e1:(bs.map V.bl)[i]?=some (V.bl bs[i]):=by simp[g]
  obtain⟨w,e2,c⟩:=rv.get e1;have e3:its[i]?=some v:=by simpa using f
  rw[e2] at e3
  cases e3
  cases (show v=Value.bool bs[i] from c);have j:bs.getD i false=bs[i]:=by simp[List.getD,g]
  replace a:n (bs.getD i false) s':=a;rw[j] at a;exact qy a
 have e:(List.range its.toArray.size).all (λi=>bs.getD i false)=bs.all id:=by
  rw[YS,<-hl];exact Bf bs
 rw[e];refine⟨.bl (bs.all id),H,?_,rfl,q⟩;exact I.kept (t':=tk) λb o z=>k b o (by
  intro m;have:b=s.heap.objs.size:=by simpa using m
  rw[this] at z;exact absurd (YL z) (JA _)) (YB _ z)
end
theorem Z5v (rs ss:UA):((List.range (min rs.length ss.length)).all (λj=>decide (rs.getD j (0,1)=ss.getD j (0,1))) && rs.length == ss.length)=decide (rs=ss):=by
 rw[GF];simp only [JY,jk,XO,GV,zN];constructor
 ·rintro ⟨h,l⟩;refine Y1m l λi h1 h2=>?_;have:=h i J5
  simpa [List.getD,h1,h2] using this
 rintro rfl;exact⟨λ_ _=>rfl,rfl⟩
section
variable {X:Cx}{σ:_L.St}{H:Hp}{a b:Addr}
def Nm (I:Inv X pins σ H s){xs ys:TZ}(h1:SqT X.K H a xs)(h2:SqT X.K H a ys):xs=ys:=by
 obtain⟨i1,r1,f,_⟩:=I.tuple h1;obtain⟨i2,r2,g,_⟩:=I.tuple h2;obtain⟨o,e1,_,n,d1⟩:=f;obtain⟨o',c,_,n',b⟩:=g;rw[e1] at c
 cases c;rw[d1] at b;injection b with d
 have e:i1=i2:=by simpa using d
 subst e;exact Vals.inj r1 r2
theorem Z0h (I:Inv X pins σ H s):∀ {rs ss:UA} {xs:TZ},Rs X.K H rs xs->Rs X.K H ss xs->rs=ss
 | _,_,_,.nil,.nil=>rfl
 | r::_,q::_,_,.cons h t,.cons h' t'=>by
  rw[Z0h I t t'];obtain⟨a,rfl,d⟩:=h;obtain⟨b,e,c⟩:=h'
  cases e;have z:=Nm I d c;injection z with z1 z2
  injection z2 with z2 z3
  injection z1 with z1
  injection z2 with z2
  rw[show r=q from Y2a z1 z2]
theorem Gi (I:Inv X pins σ H s){rs ss:UA}(h1:RowAt X.K H a rs)(h2:RowAt X.K H a ss):rs=ss:=by
 obtain⟨xs,c,r1⟩:=h1;obtain⟨ys,b,r2⟩:=h2
 cases Nm I c b;exact Z0h I r1 r2
theorem Z5i (I:Inv X pins σ H s)(hu:A.units<cLine){ns ms:TV}(ha:SqT X.K H a (ns.map V.int))(k:SqT X.K H b (ms.map V.int)):SeqAt.EqAt A s (.ref a) (.ref b) (decide (ns=ms)):=by
 by_cases e:a=b
 ·subst e;have z:=Nm I ha k;have o:ns=ms:=by
   have:=congrArg (List.map λv=>match v with | V.int i=>i | _=>0) z
   simpa [qh,Y14] using this
  rw[XE o];exact zG _
 obtain⟨its,r1,m,_⟩:=I.tuple ha;obtain⟨c,r2,n,_⟩:=I.tuple k;have g:=r1.length;have l:=r2.length;rw[YC] at g l;have h:=Y0g (A:=A) (s:=s) (e:=λj=>ns.getD j 0 == ms.getD j 0) m n hu (λj h1 h2=>by
  obtain⟨t,e1⟩:=Ug r1 (j:=j) (by simpa using h1);obtain⟨t',e2⟩:=Ug r2 (j:=j) (by simpa using h2);have d:its.toArray[j]=Value.int (ns.getD j 0) t:=by simpa using e1
  have f:c.toArray[j]=Value.int (ms.getD j 0) t':=by simpa using e2
  rw[d,f];exact zA _ _ _ _)
 rw[YS,YS,<-g,<-l,Ga] at h;exact Y0R e h
theorem Z5h (I:Inv X pins σ H s)(hu:A.units+1<cLine){rs ss:UA}(ha:RowAt X.K H a rs)(r:RowAt X.K H b ss):SeqAt.EqAt A s (.ref a) (.ref b) (decide (rs=ss)):=by
 by_cases e:a=b
 ·subst e;rw[XE (Gi I ha r)];exact zG _
 obtain⟨xs,x,hr⟩:=ha;obtain⟨ys,v,hs⟩:=r;obtain⟨its,r1,t,_⟩:=I.tuple x;obtain⟨f,r2,y,_⟩:=I.tuple v;have w:=r1.length;have C:=r2.length;have k1:=hr.len;have k2:=hs.len;have h:=Y0g (A:=A) (s:=s) (e:=λj=>decide (rs.getD j (0,1)=ss.getD j (0,1))) t y J5 (λj h1 h2=>by
  have p:j<rs.length:=by simp at h1;omega
  have o:j<ss.length:=by simp at h2;omega
  have D:rs[j]?=some rs[j]:=by simp[p]
  have es:ss[j]?=some ss[j]:=by simp[o]
  obtain⟨x1,ex,c,rfl,sc⟩:=hr.at D;obtain⟨G,B,d,rfl,u⟩:=hs.at es;obtain⟨E,g,i⟩:=r1.get ex;obtain⟨F,n,k⟩:=r2.get B
  cases (show E=Value.ref c from i)
  cases (show F=Value.ref d from k);have l:its.toArray[j]=Value.ref c:=by
   have:its.toArray[j]?=some (Value.ref c):=by simpa using g
   rw[zC h1] at this;exact YR this
  have m:f.toArray[j]=Value.ref d:=by
   have:f.toArray[j]?=some (Value.ref d):=by simpa using n
   rw[zC h2] at this;exact YR this
  rw[l,m];have q:=Z5i (A:=A.in1) I hu (ns:=[rs[j].1,rs[j].2]) (ms:=[ss[j].1,ss[j].2]) sc u;have z:decide ([rs[j].1,rs[j].2]=[ss[j].1,ss[j].2])=decide (rs.getD j (0,1)=ss.getD j (0,1)):=by
   rw[jm];simp[List.getD,p,o,Prod.ext_iff]
  rw[z] at q;exact q)
 rw[YS,YS,<-w,<-C,<-k1,<-k2,Z5v] at h;exact Y0R e h
open Classical in
inductive rInR (K:TR) (neg:Bool) (x y:V) (H:Hp) (Q:VK):Prop
 | mk (a l:Addr) (rs:UA) (as:TJ) (rss:UB) (z0:x=.ref a) (z1:y=.ref l) (z2:RowAt K H a rs) (z3:SqL K H l (as.map V.ref)) (z4:Paired (RowAt K H) as rss) (z5:Q (.bl (if neg then !decide (rs∈rss) else decide (rs∈rss))) H)
theorem Kp {I:Inv X pins σ H s}{rs:UA}(e:Value->Bool)(a:∀ (b:Addr) (ss:UA),RowAt X.K H b ss->e (.ref b)=decide (ss=rs)):∀ {as:TJ} {rss:UB} {us:TH},Paired (RowAt X.K H) as rss->Vals (as.map V.ref) us->us.any e=decide (rs∈rss)
 | _,_,_,.nil,.nil=>J7
 | b::as,ss::rss,u::us,.cons h t,.cons r rt=>by
  cases (show u=Value.ref b from r);rw[Y1O,a b ss h,Kp (I:=I) e a t rt];rw[GF,Bool.or_eq_true,GQ,GQ,GQ,YU];exact⟨λz=>z.imp Eq.symm id,λz=>z.imp Eq.symm id⟩
open Classical in
theorem Z5b (I:Inv X pins σ H s)(hu:X.A.units+64<cLine){l:Addr}{rs:UA}{as:TJ}{rss:UB}(h2:RowAt X.K H a rs)(m:SqL X.K H l (as.map V.ref))(d:Paired (RowAt X.K H) as rss) :
  ∃ (its:Array Value) (e:Value->Bool),s.heap.IsList l its/\(∀ y,y∈its->SeqAt.EqAt X.A.in1 s y (.ref a) (e y))/\its.any e=decide (rs∈rss):=by
 obtain⟨its,r,pl,_⟩:=I.list m;have g:∀ (b:Addr) (ss:UA),RowAt X.K H b ss->(λu:Value=>match u with | .ref b=>decide (RowAt X.K H b rs) | _=>false) (.ref b)=decide (ss=rs):=λb ss h=>by
  rw[GF];simp only [zN];exact⟨λz=>Gi I h z,λz=>z ▸ h⟩
 refine⟨its.toArray,λu=>match u with | .ref b=>decide (RowAt X.K H b rs) | _=>false,pl.isList,λy n=>?_,?_⟩
 ·have c:y∈its:=by simpa using n
  obtain⟨j,i⟩:=XL c;have f:j<as.length:=by
   have:=(YH.mp i).1;have z:=r.length;rw[YC] at z;omega
  have ea:(as.map V.ref)[j]?=some (V.ref as[j]):=by simp[f]
  obtain⟨u,k,ru⟩:=r.get ea;rw[i] at k
  cases k
  cases (show y=Value.ref as[j] from ru);have o:=YY d;have hs:=Paired.getB d (show as[j]?=some as[j] by simp[f]) (show rss[j]?=some rss[j] by simp);generalize rss[j]=ss at hs;rw[g _ ss hs];exact Z5h (A:=X.A.in1) I (by show X.A.units+1+1<cLine;omega) hs h2
 rw[show its.toArray.any (λu:Value=>match u with | .ref b=>decide (RowAt X.K H b rs) | _=>false)=its.any (λu:Value=>match u with | .ref b=>decide (RowAt X.K H b rs) | _=>false) by simp];exact Kp (I:=I) _ g d r
theorem Dp (hu:X.A.units+64<cLine)(hK:X.K=K:=by rfl):OpR X (compareOp .NotIn) (rInR K true):=by
 subst hK;intro pins s σ H x y v u Q I j d h;obtain⟨a,l,rs,as,rss,rfl,rfl,h2,c,i,q⟩:=h
 cases j
 cases d;obtain⟨its,e,b,f,g⟩:=Z5b I hu h2 c i;refine SeqAt.notIn_listAt e b f ⟨.bl _,H,I,rfl,?_⟩;rw[g];exact q
end
/-- a def's promise by its body alone -/
def Def.h9 {P:TU}{base:Heap}{k:Nat}{x:Str}{N:TF}(D:Def K mg x st ps)(S:FnScope N ps (defScope st))
  (a:∀ {f:Addr} {cdv:Value} {A:Around} {outer:TN} {s:Shared} {vs:TZ} {E:XK} (H:Hp) (Q:VK),Room k (A.deeper (envOfC x (defScope st) s.heap.objs.size f cdv)) sr->sp vs H Q E->N.Nodup →
   ∃ t,PSs (cxOf CX0 P w K mg base N x (defScope st) f cdv A outer s H E).nox (defBody st) t/\t { nx:=λ_ H'=>Q .non H',rt:=Q } (start N vs) H)
  (len:∀ vs H Q E,sp vs H Q E->vs.length=ps.length:=by intro _ _ _ _ h;first | (cases h;subst_vars;rfl) | ((repeat (obtain⟨_,h⟩:=h));subst_vars;rfl)):Has P w K mg base (k+1) x ps sp sr :=
 D.has λ_ _ F=>F.ok S len λ_ _ _ _ H _ Q _ hr h=>a H Q hr h S.nd
def Def.hD9 {P:TU}{base:Heap}{k:Nat}{x:Str}{N:TF}(D:Def K mg x st ps)(S:FnScope N ps (defScope st))
  (a:∀ {f:Addr} {cdv:Value} {A:Around} {outer:TN} {s:Shared} {vs:TZ} (H:Hp) (Q:VK) (E:XK),Room k (A.deeper (envOfC x (defScope st) s.heap.objs.size f cdv)) true->sp vs H Q E->N.Nodup →
   ∃ t,PSs (cxOf (CXD P w) P w K mg base N x (defScope st) f cdv A outer s H E) (defBody st) t/\t { nx:=λ_ H'=>Q .non H',rt:=Q } (start N vs) H)
  (len:∀ vs H Q E,sp vs H Q E->vs.length=ps.length:=by intro _ _ _ _ h;first | (cases h;subst_vars;rfl) | ((repeat (obtain⟨_,h⟩:=h));subst_vars;rfl)):HasD P w K mg base (k+1) x ps sp :=
 D.hasD S len λ_ _ _ _ _ H _ Q E hr h=>a H Q E hr h S.nd
end _b
namespace _b
open PySem _L
def top (i:Nat):Stmt:=PySem.Challenge.pw_surebook_k44_whole_corners_price.main.body.getD i (.Pass ⟨0,0,0,0⟩)
abbrev i9:Stmt:=top 8
abbrev iJ:Stmt:=top 9
abbrev jJ:Stmt:=top 10
abbrev jH:Stmt:=top 11
abbrev kC:Stmt:=top 12
abbrev j0:Stmt:=top 13
abbrev jU:Stmt:=top 14
abbrev i6:Stmt:=top 15
abbrev jT:Stmt:=top 16
abbrev iO:Stmt:=top 17
abbrev i3:Stmt:=top 18
abbrev j9:Stmt:=top 20
abbrev iP:Stmt:=top 21
abbrev jE:Stmt:=top 22
abbrev kD:Stmt:=top 23
abbrev kG:Stmt:=top 24
abbrev kT:Stmt:=top 25
abbrev i7:Stmt:=top 26
abbrev kH:Stmt:=top 32
abbrev iZ:Stmt:=top 33
abbrev jY:Stmt:=top 34
abbrev j5:Stmt:=top 35
abbrev i5:Stmt:=top 37
abbrev iK:Stmt:=top 38
abbrev iY:Stmt:=top 39
abbrev jQ:Stmt:=top 40
abbrev jB:Stmt:=top 41
abbrev jG:Stmt:=top 42
abbrev jD:Stmt:=top 43
abbrev iQ:Stmt:=top 46
abbrev jK:Stmt:=top 47
abbrev j8:Stmt:=top 48
abbrev iV:Stmt:=top 49
abbrev jC:Stmt:=top 50
abbrev iS:Stmt:=top 51
abbrev iW:Stmt:=top 52
abbrev iU:Stmt:=top 53
abbrev j6:Stmt:=top 54
abbrev iT:Stmt:=top 55
abbrev jP:Stmt:=top 56
abbrev iR:Stmt:=top 58
abbrev jV:Stmt:=top 59
abbrev iI:Stmt:=top 60
abbrev jW:Stmt:=top 61
abbrev jO:Stmt:=top 64
abbrev iL:Stmt:=top 65
abbrev jS:Stmt:=top 67
abbrev j1:Stmt:=top 68
abbrev jF:Stmt:=top 70
abbrev iN:Stmt:=top 71
abbrev i8:Stmt:=top 72
abbrev kK:Stmt:=top 74
abbrev jR:Stmt:=top 75
abbrev kU:Stmt:=top 76
abbrev kB:Stmt:=top 77
abbrev kP:Stmt:=top 78
abbrev j2:Stmt:=top 79
abbrev jN:Stmt:=top 80
abbrev jM:Stmt:=top 81
abbrev jA:Stmt:=top 82
abbrev j4:Stmt:=top 83
abbrev jL:Stmt:=top 84
abbrev jI:Stmt:=top 85
abbrev j3:Stmt:=top 86
abbrev kF:Stmt:=top 87
abbrev jX:Stmt:=top 88
abbrev kL:Stmt:=top 89
abbrev i4:Stmt:=top 90
abbrev j7:Stmt:=top 91
abbrev kO:Stmt:=top 92
abbrev jZ:Stmt:=top 93
abbrev iX:Stmt:=top 94
abbrev kJ:Stmt:=top 95
abbrev kR:Stmt:=top 96
abbrev iM:Stmt:=inClass (top 4) 0
abbrev iH:Stmt:=inClass (top 45) 0
structure Blt (mg:TB):Prop where
 len:mg "len"=none
 abs:mg "abs"=none
 isinstance:mg "isinstance"=none
 int:mg "int"=none
 bool:mg "bool"=none
 tuple:mg "tuple"=none
 range:mg "range"=none
 zip:mg "zip"=none
 enumerate:mg "enumerate"=none
 any:mg "any"=none
 sum:mg "sum"=none
 list:mg "list"=none
 min:mg "min"=none
def Fp {ns:TV}{k:Int}(h0:0<=k)(h1:k<((ns.map V.int).length:Int)):∃ z,atI (ns.map V.int) k=some (.int z):=by
 obtain⟨j,rfl⟩:=Y1n h0;rw[YC] at h1;have hj:j<ns.length:=J5
 exact⟨ns[j],Zh (by simp[hj])⟩
def Z88 {k:Int}(h0:0<=k)(h1:k<(xs.length:Int)):∃ v,atI xs k=some v/\v∈xs:=by
 obtain⟨j,rfl⟩:=Y1n h0;have hj:j<xs.length:=J5
 exact⟨xs[j],Zh (by simp[hj]),XR hj⟩
def Z24 {n:Nat}{k:Int}(h0:0<=k)(h1:k<(n:Int)):ixN n k=some k.toNat:=by
 unfold ixN;rw[YG h0,YG h1]
def Rg {j:Int}(h:(0:Int)<j):(0:Int)<j:=h
def Z5q {j:Int}(h0:0<=j)(h1:j<=1000):CPow 10 j:=⟨h0,by omega,by decide⟩
def Ua (t:Int):-(2 ^ 64)<t % 65537/\t % 65537<2 ^ 64:=by omega
section
variable {P:TU}{base:Heap}
inductive spCell (K:TR) (vs:TZ) (H:Hp) (Q:VK) (_z3:XK):Prop
 | mk (a:Addr) (k:Int) (ns:TV) (zz0:vs=[.ref a,.int k]) (zz1:SqL K H a (ns.map V.int)) (zz2:0<=k) (zz3:k<=100000) (zz4:∀ z:Int,Q (.int z) H)
def Z7o (D:Def K mg "_law_cell" kK UF)(T:Blt mg):Has P w K mg base 1 "_law_cell" UF (spCell K):=by
 refine D.h9 (N:=["_law_script","_law_k","_law_seed","_law_some"]) fsc λH Q hr h nd=>?_;obtain⟨a,k,ns,rfl,hS,hk,c,q⟩:=h;refine⟨_,(Z8 (Y9 (Zn Rf (pv 1) (Zw Zx rfl T.len zm (Z0 (pv 0) Z7)) (Zq _))
   (Zb (Zg (Zf Zt (pv 0) (pv 1))))
   Zv)
  (Z8 (Zi (i:=2) nd rfl xj (Zl Zp (pv 1) Z9))
  (Z8 (Y9 (Zn N4 (Zw Zx rfl T.len zm (Z0 (pv 0) Z7)) Z9 (Zq _))
   (Zb (Zi (i:=2) nd rfl xj (Zl X2 (pv 2) (Zl Wk (Zf Zt (pv 0) (Zl Wk (pv 1) (Zw Zx rfl T.len zm (Z0 (pv 0) Z7)))) Z9))))
   Zv)
  (Z8 (Zi (i:=3) nd rfl xj (Zl Wk (Zl Zp (pv 2) Z9) Z9))
  (Zb (Zg (Zl Wk (Zl Wc (Zl Zp (pv 3) (Zl X2 (Zl X2 (pv 3) (Zl Zp Z9 (pv 1))) Z9)) Z9) Z9))))))),?_⟩
 refine⟨_,rfl,_,rfl,a,_,rfl,.inl hS,_,_,rfl,rfl,_,rfl,?_⟩;refine Xt (λh=>?_) (λh=>?_)
 ·have h':=XI h;obtain⟨z,hz⟩:=Fp hk h';exact⟨_,rfl,_,rfl,a,_,_,_,rfl,rfl,hS,hz,q z⟩
 refine⟨_,rfl,_,_,rfl,rfl,C4 J6 J6,?_⟩;refine⟨_,rfl,a,_,rfl,.inl hS,_,_,rfl,rfl,_,rfl,?_⟩;refine Xt (λh2=>?_) (λh2=>?_)
 ·have b:=XI h2;obtain⟨z,hz⟩:=Fp (ns:=ns) (k:=k % ((ns.map V.int).length:Int)) (jv _ J5) (Y00 _ b);refine⟨_,rfl,_,rfl,_,rfl,_,rfl,a,_,rfl,.inl hS,_,_,rfl,rfl,b,a,_,_,_,rfl,rfl,hS,hz,_,_,rfl,rfl,Rg J6,_,_,rfl,rfl,?_⟩;refine⟨_,rfl,_,_,rfl,rfl,C4 J6 J6,_,_,rfl,rfl,Rg J6,?_⟩;exact⟨_,rfl,_,rfl,_,rfl,_,_,rfl,rfl,C5 J6 J6,_,_,rfl,rfl,_,_,rfl,rfl,_,_,rfl,rfl,C5 (Ua _).1 (Ua _).2,_,_,rfl,rfl,⟨J6,J8⟩,_,_,rfl,rfl,Rg J6,q _⟩
 refine⟨_,rfl,_,_,rfl,rfl,C4 J6 J6,_,_,rfl,rfl,Rg J6,?_⟩;exact⟨_,rfl,_,rfl,_,rfl,_,_,rfl,rfl,C5 J6 J6,_,_,rfl,rfl,_,_,rfl,rfl,_,_,rfl,rfl,C5 (Ua _).1 (Ua _).2,_,_,rfl,rfl,⟨J6,J8⟩,_,_,rfl,rfl,Rg J6,q _⟩
inductive spLow (vs:TZ) (H:Hp) (Q:VK) (_z3:XK):Prop
 | mk (p q:Int) (zz0:vs=[.int p,.int q]) (zz1:0<q) (zz2:q.natAbs.log2<450000) (zz3:∀ a H',H a=none->Same H H'->H' a=some (.tup [.int (nT p q),.int (nB p q)])->Q (.ref a) H')
def Np {p q:Int}(h:q≠0)(k:q.natAbs.log2<450000):(sg p q).natAbs.log2<450000:=by
 have h1:=Z8e (p:=p) h;have h0:=Pz (p:=p) h;have h2:(sg p q).natAbs≠0:=J5
 have a:q.natAbs≠0:=J5
 exact (Y1D h2).mpr (JK h1 ((Y1D a).mp k))
def muLow (σ:St)(_:Hp):Nat:=match σ with
 | [_,_,_,some (.int y),_]=>y.toNat
 | _=>0
abbrev Z1 (P:TU)(w:World)(K:TR)(mg:TB)(base:Heap):Prop:=Has P w K mg base 2 "_law_low" ["_law_top","_law_bottom"] spLow
theorem Z8r (D:Def K mg "_law_low" kP ["_law_top","_law_bottom"])(T:Blt mg):Z1 P w K mg base:=by
 refine D.h9 (N:=["_law_top","_law_bottom","_law_one","_law_other","_law_rest"]) fsc λH Q hr h nd=>?_;obtain⟨p,q,rfl,hq,c,k⟩:=h;refine⟨_,(Z8 (Zi (i:=2) nd rfl xj (Zw Ko rfl T.abs Y1A (Z0 (pv 0) Z7)))
  (Z8 (Zi (i:=3) nd rfl xj (pv 1))
  (Z8 (Qd JL (Zn N4 (pv 3) Z9 (Zq _))
   (Z8 (Zi (i:=4) nd rfl xj (Zl Wk (pv 2) (pv 3)))
   (Z8 (Zi (i:=2) nd rfl xj (pv 3))
   (Zb (Zi (i:=3) nd rfl xj (pv 4))))))
  (Zb (Zg (Yl (Z0 (Zl Wc (pv 0) (pv 2)) (Z0 (Zl Wc (pv 1) (pv 2)) Z7)))))))),?_⟩
 refine⟨_,rfl,_,rfl,_,rfl,?_⟩;have b:q≠0:=J5
 have g:Int.gcd (if p<0 then -p else p) q=Int.gcd p q:=by split <;> simp
 refine L7 (λσ H'=>H'=H/\∃ (x y:Int) (r:Option V),σ=[some (.int p),some (.int q),some (.int x),some (.int y),r]/\0<=x/\0<=y/\Int.gcd x y=Int.gcd p q) muLow ⟨rfl,_,q,none,rfl,(by split <;> omega),J5,g⟩ ?_
  (λσ H Q l f ⟨v,e,i,j,e1,e2,k,e3,z⟩=>⟨v,e,i,j,e1,e2,k,e3,f _ _ z⟩)
 rintro σ H' ⟨rfl,x,y,r,rfl,hx,d,hg⟩;refine⟨_,rfl,_,_,rfl,rfl,_,rfl,?_⟩;refine Xt (λh=>?_) (λh=>?_)
 ·have h':0<y:=XI h;refine⟨_,rfl,_,rfl,_,_,rfl,rfl,h',?_⟩;refine⟨_,rfl,_,rfl,⟨rfl,y,x % y,_,rfl,d,jv _ J5,gcd_step.trans hg⟩,?_⟩;show (x % y).toNat<y.toNat;have:=Y00 x h';have:=jv x (show y≠0 by omega);omega
 have h':¬ 0<y:=λz=>h (XE z);have e:=Z7y x y hx J5;rw[hg] at e;have es:x=sg p q:=by
  unfold sg gI;rw[YD J5,<-e]
 subst es;refine⟨_,rfl,_,rfl,_,_,rfl,rfl,⟨Pz b,Np b c⟩,_,rfl,_,rfl,_,_,rfl,rfl,⟨Pz b,Np b c⟩,sz2,λa ha=>?_⟩;exact k a _ ha (Same.new ha) Za
inductive spBagA (K:TR) (vs:TZ) (H:Hp) (Q:VK) (_z3:XK):Prop
 | mk (a:Addr) (at_:Nat) (ns:TV) (zz0:vs=[.ref a,.int (at_:Int)]) (zz1:SqL K H a (ns.map V.int)) (zz2:at_<=100) (zz3:∀ b H',H b=none->Same H H'->BagAt H' b 101->Q (.ref b) H')
theorem Z7p (D:Def K mg "_law_bag" kU UG)(e:Has P w K mg base 1 "_law_cell" UF (spCell K)):Has P w K mg base 2 "_law_bag" UG (spBagA K):=by
 refine D.h9 (N:=["_law_script","_law_at","_law_cell_here"]) fsc λH Q hr h nd=>?_;obtain⟨a,at_,ns,rfl,hS,c,k⟩:=h;refine⟨_,(Z8 (Zi (i:=2) nd rfl xj (Ze e hr (Z0 (pv 0) (Z0 (pv 1) Z7))))
  (Z8 (Y9 (PW.pt (Re (Zn Z8o (pv 2) (Zl Mc Z9 Z9) (Zq _)) (Uu (Zn Z66 (pv 2) (Vs W8 (Zl Mc Z9 Z9)) (Zq _)))))
   (Zb (Zg (Xs (Z0 (pv 2) (Z0 Z9 Z7)))))
   Zv)
  (Zb (Zg (Xs (Z0 (Zl Wk (pv 2) Z9) (Z0 (Zl X2 (pv 1) Z9) Z7))))))),?_⟩
 refine⟨_,rfl,_,rfl,a,_,ns,rfl,hS,J5,J5,λz=>?_⟩;have b:∀ (x y:Int),0<=y->y<=101->∀ d,H d=none->Q (.ref d) (upd H d (.lst [.int x,.int y])):=λx y y0 f d hd=>k d _ hd (Same.new hd) ⟨x,y,Za,y0,J5⟩;refine⟨_,rfl,_,_,rfl,rfl,Z5q J6 J6,_,_,rfl,rfl,_,rfl,?_⟩;refine Xt (λh1=>?_) (λh1=>?_)
 ·exact⟨_,rfl,sz2,λd hd=>b _ _ J6 J6 d hd⟩
 refine⟨_,rfl,_,_,rfl,rfl,Z5q J6 J6,_,rfl,_,_,rfl,rfl,_,rfl,?_⟩;refine Xt (λh2=>?_) (λh2=>?_)
 ·exact⟨_,rfl,sz2,λd hd=>b _ _ J6 J6 d hd⟩
 exact⟨_,rfl,_,_,rfl,rfl,Rg J6,_,rfl,_,_,rfl,rfl,sz2,λd hd=>b _ _ J5 J5 d hd⟩
inductive spTake (vs:TZ) (H:Hp) (Q:VK) (_z3:XK):Prop
 | mk (b:Addr) (m:Int) (n:Nat) (zz0:vs=[.ref b,.int m]) (zz1:BagAt H b n) (zz2:n<=1000000000) (zz3:0<m) (zz4:m.natAbs.log2<450000) (zz5:∀ (r:Int) (H':Hp),0<=r->r<m->BagAt H' b (n+1)->SameX b H H'->Q (.int r) H')
abbrev Z2 (P:TU)(w:World)(K:TR)(mg:TB)(base:Heap):Prop:=Has P w K mg base 1 "_law_take" ["_law_bag_here","_law_many"] spTake
theorem Z7d (D:Def K mg "_law_take" kB ["_law_bag_here","_law_many"]):Z2 P w K mg base:=by
 refine D.h9 (N:=["_law_bag_here","_law_many","_law_some"]) fsc λH Q hr h nd=>?_;obtain⟨b,m,n,rfl,⟨x,y,e,d,f⟩,hn,hm,c,q⟩:=h;have a:SqL K H b [.int x,.int y]:=SqL.of e;refine⟨_,(Z8 (Y9 (Zn Xm (Zf Fc (pv 0) Z9) Z9 (Zq _))
   (Z8 (Zi (i:=2) nd rfl xj (Zl Wk (Zf Fd (pv 0) Z9) (pv 1)))
   (Z8 (U0 (Zl Wc (Zf Fd (pv 0) Z9) (pv 1)) (Uv (pv 0) Z9 Wi))
   (Zb (Zg (pv 2)))))
   Zv)
  (Z8 (U0 (Zl Wk (Zl X2 (Zl X2 (Zl Zp (Zf Fd (pv 0) Z9) Z9) (Zl Zp (Zl Zp Z9 (Zf Fc (pv 0) Z9)) (Zf Fc (pv 0) Z9))) Z9) Z9) (Uv (pv 0) Z9 Wi))
  (Z8 (U0 (Zl X2 (Zf Fc (pv 0) Z9) Z9) (Uv (pv 0) Z9 Wi))
  (Zb (Zg (Zl Wk (Zl Wk (Zl Zp (Zf Fd (pv 0) Z9) Z9) Z9) (pv 1))))))),?_⟩
 refine⟨_,rfl,b,_,_,rfl,rfl,a,rfl,_,rfl,?_⟩;refine Xt (λh=>?_) (λh=>?_)
 ·refine⟨_,rfl,b,_,_,rfl,rfl,a,_,rfl,_,_,rfl,rfl,hm,?_⟩;refine⟨_,rfl,b,_,_,rfl,rfl,a,_,rfl,_,_,rfl,rfl,⟨J5,c⟩,_,rfl,b,_,_,0,rfl,rfl,e,rfl,?_⟩;refine⟨_,rfl,?_⟩;exact q _ _ (jv _ J5) (Y00 _ hm) ⟨_,y,Za,d,J5⟩ (SameX.upd b H _)
 refine⟨_,rfl,b,_,_,rfl,rfl,a,_,_,rfl,rfl,C4 J6 J6,_,rfl,b,_,_,rfl,rfl,a,_,_,rfl,rfl,C5 J6 J6,_,rfl,b,_,_,rfl,rfl,a,_,_,rfl,rfl,C4 J5 J5,_,_,rfl,rfl,_,_,rfl,rfl,_,_,rfl,rfl,Rg J6,_,rfl,b,_,_,0,rfl,rfl,e,rfl,?_⟩;refine⟨_,rfl,b,_,_,rfl,rfl,SqL.of Za,_,_,rfl,rfl,_,rfl,b,_,_,1,rfl,rfl,Za,rfl,?_⟩;refine⟨_,rfl,b,_,_,rfl,rfl,SqL.of Za,_,_,rfl,rfl,C4 J6 J6,_,_,rfl,rfl,Rg J6,_,rfl,_,_,rfl,rfl,hm,?_⟩;exact q _ _ (jv _ J5) (Y00 _ hm) ⟨_,y+1,Za,J5,J5⟩ ((SameX.upd b H _).trans (SameX.upd b _ _))
inductive spGcd (vs:TZ) (H:Hp) (Q:VK) (_z3:XK):Prop
 | mk (a b:Int) (zz0:vs=[.int a,.int b]) (zz1:Q (.int (Int.gcd a b:Nat)) H)
def Z8h:FnScope ["one","other","rest"] UH (defScope iJ):=fsc
def muGcd (σ:St)(_:Hp):Nat:=match σ with
 | [_,some (.int y),_]=>y.natAbs
 | _=>0
def Z4y {y:Int}(h:(!decide (V.int y=V.int 0))=true):y≠0:=by
 intro z;subst z;simp at h
def Z5g {y:Int}(h:¬ (!decide (V.int y=V.int 0))=true):y=0:=by
 apply YF;intro z;apply h;have:¬ V.int y=V.int 0:=λq=>z (V.int.inj q);simp[this]
theorem Z8t (D:Def K mg "common_divisor" iJ UH)(T:Blt mg):Has P w K mg base 1 "common_divisor" UH spGcd:=by
 refine D.h9 Z8h λH Q hr h nd=>?_;obtain⟨a,b,rfl,q⟩:=h;refine⟨_,(Z8 (Qd JL (Zn Gz (pv 1) Z9 (Zq _))
   (Z8 (Zi (i:=2) nd rfl xj (Zl Z44 (pv 0) (pv 1)))
   (Z8 (Zi (i:=0) nd rfl xj (pv 1))
   (Zb (Zi (i:=1) nd rfl xj (pv 2))))))
  (Zb (Zg (Zw Ko rfl T.abs Y1A (Z0 (pv 0) Z7))))),?_⟩
 refine L7 (λσ H'=>H'=H/\∃ (x y:Int) (r:Option V),σ=[some (.int x),some (.int y),r]/\Int.gcd x y=Int.gcd a b) muGcd ⟨rfl,a,b,none,rfl,rfl⟩ ?_
  (λσ H Q c f ⟨v,e,e1,k,e3,z⟩=>⟨v,e,e1,k,e3,f _ _ z⟩)
 rintro σ H' ⟨rfl,x,y,r,rfl,hg⟩;refine⟨_,rfl,rfl,_,rfl,?_⟩;refine Xt (λh=>?_) (λh=>?_)
 ·have h':y≠0:=Z4y h;refine⟨_,rfl,_,rfl,_,_,rfl,rfl,h',?_⟩;refine⟨_,rfl,_,rfl,⟨rfl,y,x.fmod y,_,rfl,(Cl x y).trans hg⟩,?_⟩;exact Z2g x h'
 have h':y=0:=Z5g h;subst h';refine⟨_,rfl,_,rfl,?_⟩;have e:(if x<0 then -x else x)=((Int.gcd a b:Nat):Int):=by
  rw[<-hg];simp;split <;> omega
 rw[e];exact q
inductive spLowest (vs:TZ) (H:Hp) (Q:VK) (_z3:XK):Prop
 | mk (p q:Int) (zz0:vs=[.int p,.int q]) (zz1:q≠0) (zz2:q.natAbs.log2<450000) (zz3:∀ a H',H a=none->Same H H'->H' a=some (.tup [.int (nT p q),.int (nB p q)])->Q (.ref a) H')
abbrev Z3 (P:TU)(w:World)(K:TR)(mg:TB)(base:Heap):Prop:=Has P w K mg base 2 "lowest" UI spLowest
theorem Z1g (D:Def K mg "lowest" jJ UI)(c:Has P w K mg base 1 "common_divisor" UH spGcd):Z3 P w K mg base:=by
 refine D.h9 (N:=["top","bottom","divisor"]) fsc λH Q hr h nd=>?_;obtain⟨p,q,rfl,hq,b,k⟩:=h;refine⟨_,(Z8 (Zi (i:=2) nd rfl xj (Ze c hr (Z0 (pv 0) (Z0 (pv 1) Z7))))
  (Z8 (Uc (Y9 (Zn Rf (pv 1) Z9 (Zq _))
   (Zb (Zi (i:=2) nd rfl xj (Vs W8 (pv 2))))
   Zv))
  (Zb (Zg (Yl (Z0 (Zl Wc (pv 0) (pv 2)) (Z0 (Zl Wc (pv 1) (pv 2)) Z7))))))),?_⟩
 refine⟨_,rfl,_,rfl,_,_,rfl,?_⟩;refine⟨λσ H'=>H'=H/\σ=[some (.int p),some (.int q),some (.int (sg p q))],?_,?_⟩
 ·refine⟨_,rfl,_,_,rfl,rfl,_,rfl,?_⟩;refine Xt (λh=>?_) (λh=>?_)
  ·have h':q<0:=XI h;refine⟨_,rfl,_,rfl,rfl,?_⟩;have e:sg p q=-((Int.gcd p q:Nat):Int):=by unfold sg gI;rw[YG h']
   rw[e];rfl
  have h':¬ q<0:=λz=>h (XE z);refine⟨rfl,?_⟩;have e:sg p q=((Int.gcd p q:Nat):Int):=by unfold sg gI;rw[YD h']
  rw[e];rfl
 rintro σ H' ⟨rfl,rfl⟩;refine⟨_,rfl,_,rfl,_,_,rfl,rfl,⟨Pz hq,Np hq b⟩,_,rfl,_,rfl,_,_,rfl,rfl,⟨Pz hq,Np hq b⟩,sz2,λa ha=>?_⟩;exact k a _ ha (Same.new ha) Za
inductive spTwo (K:TR) (op:Rat->Rat->Rat) (vs:TZ) (H:Hp) (Q:VK) (_z3:XK):Prop
 | mk (a b:Addr) (r s:Rat) (n:Nat) (zz0:vs=[.ref a,.ref b]) (zz1:SqT K H a [.int r.1,.int r.2]) (zz2:SqT K H b [.int s.1,.int s.2]) (zz3:Good n r) (zz4:Good n s) (zz5:n<=200000) (zz6:∀ c H',H c=none->Same H H'->H' c=some (.tup [.int (op r s).1,.int (op r s).2])->Q (.ref c) H')
def Wu {n:Nat}{x y:Int}(h:Bd n x)(k:Bd n y)(hn:n<=200000):(x*y).natAbs.log2<450000:=Bd.log (h.mul k) J5
theorem Z4l (D:Def K mg "_law_plus" j2 UJ)(e:Z1 P w K mg base):Has P w K mg base 3 "_law_plus" UJ (spTwo K addR):=by
 refine D.h9 (N:=UJ) fsc λH Q hr h nd=>?_;obtain⟨a,b,r,s,n,rfl,d,hB,c,gs,hn,k⟩:=h;refine⟨_,(Zb (Zg (Ze e hr (Z0 (Zl X2 (Zl Zp (Zf Yu (pv 0) Z9) (Zf Yi (pv 1) Z9)) (Zl Zp (Zf Yu (pv 1) Z9) (Zf Yi (pv 0) Z9))) (Z0 (Zl Zp (Zf Yi (pv 0) Z9) (Zf Yi (pv 1) Z9)) Z7))))),?_⟩;exact⟨_,rfl,_,_,_,rfl,rfl,d,_,rfl,_,_,_,rfl,rfl,hB,_,_,rfl,rfl,c.b1.mulOk gs.b2 J5 J5,_,rfl,_,_,_,rfl,rfl,hB,_,rfl,_,_,_,rfl,rfl,d,_,_,rfl,rfl,gs.b1.mulOk c.b2 J5 J5,_,_,rfl,rfl,_,rfl,_,_,_,rfl,rfl,d,_,rfl,_,_,_,rfl,rfl,hB,_,_,rfl,rfl,c.b2.mulOk gs.b2 J5 J5,_,_,rfl,XG c.pos gs.pos,Wu c.b2 gs.b2 hn,k⟩
theorem Z1k (D:Def K mg "_law_minus" jN UJ)(e:Z1 P w K mg base):Has P w K mg base 3 "_law_minus" UJ (spTwo K subR):=by
 refine D.h9 (N:=UJ) fsc λH Q hr h nd=>?_;obtain⟨a,b,r,s,n,rfl,d,hB,c,gs,hn,k⟩:=h;refine⟨_,(Zb (Zg (Ze e hr (Z0 (Zl U3 (Zl Zp (Zf Yu (pv 0) Z9) (Zf Yi (pv 1) Z9)) (Zl Zp (Zf Yu (pv 1) Z9) (Zf Yi (pv 0) Z9))) (Z0 (Zl Zp (Zf Yi (pv 0) Z9) (Zf Yi (pv 1) Z9)) Z7))))),?_⟩;exact⟨_,rfl,_,_,_,rfl,rfl,d,_,rfl,_,_,_,rfl,rfl,hB,_,_,rfl,rfl,c.b1.mulOk gs.b2 J5 J5,_,rfl,_,_,_,rfl,rfl,hB,_,rfl,_,_,_,rfl,rfl,d,_,_,rfl,rfl,gs.b1.mulOk c.b2 J5 J5,_,_,rfl,rfl,_,rfl,_,_,_,rfl,rfl,d,_,rfl,_,_,_,rfl,rfl,hB,_,_,rfl,rfl,c.b2.mulOk gs.b2 J5 J5,_,_,rfl,XG c.pos gs.pos,Wu c.b2 gs.b2 hn,k⟩
theorem Z1j (D:Def K mg "_law_times" jM UJ)(e:Z1 P w K mg base):Has P w K mg base 3 "_law_times" UJ (spTwo K mulR'):=by
 refine D.h9 (N:=UJ) fsc λH Q hr h nd=>?_;obtain⟨a,b,r,s,n,rfl,d,hB,c,gs,hn,k⟩:=h;refine⟨_,(Zb (Zg (Ze e hr (Z0 (Zl Zp (Zf Yu (pv 0) Z9) (Zf Yu (pv 1) Z9)) (Z0 (Zl Zp (Zf Yi (pv 0) Z9) (Zf Yi (pv 1) Z9)) Z7))))),?_⟩;exact⟨_,rfl,_,_,_,rfl,rfl,d,_,rfl,_,_,_,rfl,rfl,hB,_,_,rfl,rfl,c.b1.mulOk gs.b1 J5 J5,_,rfl,_,_,_,rfl,rfl,d,_,rfl,_,_,_,rfl,rfl,hB,_,_,rfl,rfl,c.b2.mulOk gs.b2 J5 J5,_,_,rfl,XG c.pos gs.pos,Wu c.b2 gs.b2 hn,k⟩
end
def p6:(10:Int) ^ (6:Int).toNat=1000000:=by decide +kernel
def lg6:(2*(10:Int) ^ (6:Int).toNat+1).natAbs.log2<450000:=by decide +kernel
def Z87 {x:Int}(h1:-2000000<x)(h2:x<2000000):Bd 21 x:=by
 unfold Bd;have e:(2:Nat) ^ 21=2097152:=J6
 rw[e];omega
def Zy {n:Nat}(h:n<=1000):n<=sizeLine:=YM h J6
def Qk {r:Rat}(hp:0<r.2)(hc:Int.gcd r.1 r.2=1):nrm r.1 r.2=r:=by
 have e:=Wt r.1 r.2;have hq:r.2≠0:=J5
 refine Vj (Mf hq) hp (Z1v hq) hc ?_;exact e
section
variable {P:TU}{base:Heap}
inductive spWhole (vs:TZ) (H:Hp) (Q:VK) (_z3:XK):Prop
 | mk (i:Int) (zz0:vs=[.int i]) (zz1:Q (.bl true) H)
def Z48 (D:Def K mg "_law_whole" jR UK)(T:Blt mg):Has P w K mg base 1 "_law_whole" UK spWhole:=by
 refine D.h9 (N:=UK) fsc λH Q hr h nd=>?_;obtain⟨i,rfl,q⟩:=h;refine⟨_,(Zb (Zg (Jf (Zw W5 rfl T.isinstance JU (Z0 (pv 0) (Z0 (Qg T.int Y1B) Z7))) (M3 (Z0y (Zw W5 rfl T.isinstance JU (Z0 (pv 0) (Z0 (Qg T.bool Y1u) Z7)))))))),?_⟩;refine⟨_,rfl,_,_,_,_,rfl,TyOf.int i,U5,_,rfl,U6 ?_⟩;exact⟨_,rfl,_,_,_,_,rfl,TyOf.int i,Tu,_,rfl,q⟩
inductive spIsRt (K:TR) (vs:TZ) (H:Hp) (Q:VK) (_z3:XK):Prop
 | mk (a:Addr) (r:Rat) (n:Nat) (zz0:vs=[.ref a]) (zz1:SqT K H a [.int r.1,.int r.2]) (zz2:Good n r) (zz3:n<=400000) (zz4:∀ H',Same H H'->Q (.bl true) H')
theorem Z7j (D:Def K mg "_law_is_ratio" jA UK)(T:Blt mg)(f:Has P w K mg base 1 "_law_whole" UK spWhole)(i:Z1 P w K mg base):Has P w K mg base 3 "_law_is_ratio" UK (spIsRt K):=by
 refine D.h9 (N:=UK) fsc λH Q hr h nd=>?_;obtain⟨a,r,n,rfl,b,g,hn,k⟩:=h;have l:=jf (Z2a hr);refine⟨_,(Z8 (Y9 (PW.pt (Re (Vl (Yz (Zw Tz rfl T.isinstance JU (Z0 (pv 0) (Z0 (Qg T.tuple XY) Z7))))) (Uu (Zn Gz (Zw Zx rfl T.len zm (Z0 (pv 0) Z7)) Z9 (Zq _)))))
   (Zb (Zg Uk))
   Zv)
  (Z8 (Y9 (PW.pt (Re (Vl (Yz (Ze f hr (Z0 (Zf Yu (pv 0) Z9) Z7)))) (Re (Vl (Yz (Ze f hr (Z0 (Zf Yi (pv 0) Z9) Z7)))) (Uu (Zn Rf (Zf Yi (pv 0) Z9) Z9 (Zq _))))))
   (Zb (Zg Uk))
   Zv)
  (Zb (Zg (Xi (Z15 (K:=K) l) (Ze i hr (Z0 (Zf Yu (pv 0) Z9) (Z0 (Zf Yi (pv 0) Z9) Z7))) (pv 0) (Zq _)))))),?_⟩
 refine⟨_,rfl,_,_,_,_,rfl,b,U5,_,rfl,Xn ?_⟩;refine⟨_,rfl,a,_,rfl,.inr b,rfl,_,rfl,Z27 rfl ?_⟩;refine⟨_,rfl,_,_,_,rfl,rfl,b,_,rfl,_,rfl,Xn ?_⟩;refine⟨_,rfl,_,_,_,rfl,rfl,b,_,rfl,_,rfl,Xn ?_⟩;refine⟨_,rfl,_,_,_,rfl,rfl,b,_,_,rfl,rfl,_,rfl,?_⟩;have pos:=g.pos;have e0:decide (r.2<1)=false:=XN J5;rw[e0];refine Xn ?_;refine⟨_,rfl,_,_,_,rfl,rfl,b,_,rfl,_,_,_,rfl,rfl,b,_,_,rfl,pos,g.b2.log J5,λc H2 fc S2 e2=>?_⟩;have j:=Qk pos g.cop;have e:H2 c=some (.tup ([r.1,r.2].map V.int)):=by
  rw[e2];show some (HO.tup [.int (nrm r.1 r.2).1,.int (nrm r.1 r.2).2])=_;rw[j];rfl
 have d:SqT K H2 a ([r.1,r.2].map V.int):=Zo S2 b;refine⟨_,rfl,c,a,[r.1,r.2],[r.1,r.2],rfl,rfl,SqT.of e,d,?_⟩;rw[XE rfl];exact k _ S2
inductive spParted (K:TR) (vs:TZ) (H:Hp) (Q:VK) (_z3:XK):Prop
 | mk (a b:Addr) (r s:Rat) (n:Nat) (zz0:vs=[.ref a,.ref b]) (zz1:SqT K H a [.int r.1,.int r.2]) (zz2:SqT K H b [.int s.1,.int s.2]) (zz3:Good n r) (zz4:Good n s) (zz5:0<s.1) (zz6:n<=200000) (zz7:∀ c H',H c=none->Same H H'->H' c=some (.tup [.int (nrm (r.1*s.2) (r.2*s.1)).1,.int (nrm (r.1*s.2) (r.2*s.1)).2])->Q (.ref c) H')
theorem Z1e (D:Def K mg "_law_parted" jI UJ)(e:Z1 P w K mg base):Has P w K mg base 3 "_law_parted" UJ (spParted K):=by
 refine D.h9 (N:=["_law_one","_law_other","_law_top","_law_bottom"]) fsc λH Q hr h nd=>?_;obtain⟨a,b,r,s,n,rfl,d,hB,c,gs,hs,hn,k⟩:=h;refine⟨_,(Z8 (Zi (i:=2) nd rfl xj (Zl Zp (Zf Yu (pv 0) Z9) (Zf Yi (pv 1) Z9)))
  (Z8 (Zi (i:=3) nd rfl xj (Zl Zp (Zf Yi (pv 0) Z9) (Zf Yu (pv 1) Z9)))
  (Z8 (Y9 (Zn Rf (pv 3) Z9 (Zq _))
   (Zb (Zg (Ze e hr (Z0 (Vs W8 (pv 2)) (Z0 (Vs W8 (pv 3)) Z7)))))
   Zv)
  (Zb (Zg (Ze e hr (Z0 (pv 2) (Z0 (pv 3) Z7)))))))),?_⟩
 have hp:=XG c.pos hs;refine⟨_,rfl,_,_,_,rfl,rfl,d,_,rfl,_,_,_,rfl,rfl,hB,_,_,rfl,rfl,c.b1.mulOk gs.b2 J5 J5,?_⟩;refine⟨_,rfl,_,_,_,rfl,rfl,d,_,rfl,_,_,_,rfl,rfl,hB,_,_,rfl,rfl,c.b2.mulOk gs.b1 J5 J5,?_⟩;refine⟨_,rfl,_,_,rfl,rfl,_,rfl,?_⟩;refine Xt (λh=>?_) (λh=>?_)
 ·have:=XI h;omega
 exact⟨_,rfl,_,rfl,_,_,rfl,hp,Wu c.b2 gs.b1 hn,k⟩
end
section
variable {H:Hp}{a:Addr}{rs:UA}
theorem RowAt.same {H':Hp}(h:RowAt K H a rs)(S:Same H H'):RowAt K H' a rs:=h.ext (Ext.same S)
end
def Z8x {z m:Int}(h0:0<=z)(h1:z<m):∃ i:Nat,z=(i:Int)/\(i:Int)<m:=⟨z.toNat,by omega,by omega⟩
def Z51 {c:Nat}(h:c<=1000):(c:Int).natAbs.log2<450000:=by
 have e:(c:Int).natAbs=c:=J5
 rw[e];rcases Y1W c with z | z
 ·subst z;decide
 exact JK (Nat.log2_le_self c) J5
def bdS {n:Nat}{x:Int}(h:x.natAbs<2 ^ n):Bd n x:=h
section
variable {P:TU}{base:Heap}
def Dw (D:Def K mg "is_whole" i9 ["value"])(T:Blt mg):Has P w K mg base 1 "is_whole" ["value"] spWhole:=by
 refine D.h9 (N:=["value"]) fsc λH Q hr h nd=>?_;obtain⟨i,rfl,q⟩:=h;refine⟨_,(Zb (Zg (Jf (Zw W5 rfl T.isinstance JU (Z0 (pv 0) (Z0 (Qg T.int Y1B) Z7))) (M3 (Z0y (Zw W5 rfl T.isinstance JU (Z0 (pv 0) (Z0 (Qg T.bool Y1u) Z7)))))))),?_⟩;refine⟨_,rfl,_,_,_,_,rfl,TyOf.int i,U5,_,rfl,U6 ?_⟩;exact⟨_,rfl,_,_,_,_,rfl,TyOf.int i,Tu,_,rfl,q⟩
def Z1d (D:Def K mg "ratio" jH UI)(b:Has P w K mg base 1 "is_whole" ["value"] spWhole)(c:Z3 P w K mg base):Has P w K mg base 3 "ratio" UI spLowest:=by
 refine D.h9 (N:=UI) fsc λH Q hr h nd=>?_;obtain⟨p,q,rfl,hq,a,k⟩:=h;refine⟨_,(Z8 (Y9 (PW.pt (Re (Vl (Yz (Ze b hr (Z0 (pv 0) Z7)))) (Uu (Vl (Yz (Ze b hr (Z0 (pv 1) Z7)))))))
   (Zb V6)
   Zv)
  (Z8 (Y9 (Zn Xm (pv 1) Z9 (Zq _))
   (Zb V6)
   Zv)
  (Zb (Zg (Ze c hr (Z0 (pv 0) (Z0 (pv 1) Z7))))))),?_⟩
 refine⟨_,rfl,p,rfl,_,rfl,Xn ⟨_,rfl,q,rfl,_,rfl,Xn ?_⟩⟩;refine⟨_,rfl,rfl,_,rfl,Qv (λz=>hq (V.int.inj z)) ?_⟩;exact⟨_,rfl,_,rfl,p,q,rfl,hq,a,k⟩
end
def fldsT (a b c d e:V):List (Str × V):=putF "lack" e (putF "bottom" d (putF "heads" c (putF "owners" b (putF "lines" a []))))
section
variable {a b c d e:V}
def Xz:(fldsT a b c d e).lookup ("lines":Str)=some a:=by
 unfold fldsT;rw[Zz,YD J8,Zz,YD J8,Zz,YD J8,Zz,YD J8,Zz,YG rfl]
def X7:(fldsT a b c d e).lookup ("owners":Str)=some b:=by
 unfold fldsT;rw[Zz,YD J8,Zz,YD J8,Zz,YD J8,Zz,YG rfl]
def V9:(fldsT a b c d e).lookup ("heads":Str)=some c:=by
 unfold fldsT;rw[Zz,YD J8,Zz,YD J8,Zz,YG rfl]
def Va:(fldsT a b c d e).lookup ("bottom":Str)=some d:=by
 unfold fldsT;rw[Zz,YD J8,Zz,YG rfl]
def Mo:(fldsT a b c d e).lookup ("lack":Str)=some e:=by
 unfold fldsT;rw[Zz,YG rfl]
end
def ownI (m:Nat)(T:UC):List Int:=(List.range m).map λi=>(T.own i:Int)
def hdI (n:Nat)(T:UC):List Int:=(List.range n).map λj=>(T.hd j:Int)
def lineI (n:Nat)(T:UC)(i:Nat):List Int:=(List.range (n+1)).map λj=>T.L i j
def Vm {m:Nat}(h:i<m):(ownI m T)[i]?=some (T.own i:Int):=by unfold ownI;simp[h]
def Uy {n:Nat}(h:j<n):(hdI n T)[j]?=some (T.hd j:Int):=by unfold hdI;simp[h]
def Xy {n:Nat}(h:j<=n):(lineI n T i)[j]?=some (T.L i j):=by unfold lineI;simp[show j<n+1 by omega]
def U2 (m:Nat)(T:UC):(ownI m T).length=m:=by unfold ownI;simp
def Vp (n:Nat)(T:UC):(hdI n T).length=n:=by unfold hdI;simp
def Yq (n:Nat)(T:UC)(i:Nat):(lineI n T i).length=n+1:=by unfold lineI;simp
def Xb {xs:TV}{z:Int}(h:xs[i]?=some z):(xs.map V.int)[i]?=some (V.int z):=by rw[YI,h];rfl
def TabAt (C:Addr)(H:Hp)(p:Addr)(m n lk:Nat)(T:UC):Prop:=∃ (dx la c ha:Addr) (las:TJ),H p=some (.ins C dx (fldsT (.ref la) (.ref c) (.ref ha) (.int T.b) (.int (lk:Int))))/\H la=some (.lst (las.map V.ref))/\las.length=m ∧
 (∀ (i:Nat) (a:Addr),las[i]?=some a->H a=some (.lst ((lineI n T i).map V.int)))/\H c=some (.lst ((ownI m T).map V.int))/\H ha=some (.lst ((hdI n T).map V.int))
def TabAt.same {p:Addr}{m n lk:Nat}(h:TabAt C H p m n lk T)(S:Same H H'):TabAt C H' p m n lk T:=by
 obtain⟨dx,la,d,ha,las,h1,h2,c,g,b,f⟩:=h;exact⟨dx,la,d,ha,las,S _ _ h1,S _ _ h2,c,λi a e=>S _ _ (g i a e),S _ _ b,S _ _ f⟩
structure TabOk (m n:Nat)(T:UC):Prop where
 oi:∀ i k,i<m->k<m->T.own i=T.own k->i=k
 hi:∀ i k,i<n->k<n->T.hd i=T.hd k->i=k
 ne:∀ i j,i<m->j<n->T.own i≠T.hd j
def TabOk.of {m n:Nat}{col:Nat->_v.Vec}{rhs:_v.Vec}(I:_v.Inv m n col rhs T):TabOk m n T:=⟨λ_ _ h1 h2 e=>I.ownInj h1 h2 e,λ_ _ h1 h2 e=>I.hdInj h1 h2 e,λ_ _ h1 h2=>I.ne h1 h2⟩
structure TabC (K:TR)(mg:TB)(C:Addr):Prop where
 cl:Cls K C
 nL:NoAttr K C "lines"
 nO:NoAttr K C "owners"
 nH:NoAttr K C "heads"
 nB:NoAttr K C "bottom"
 nK:NoAttr K C "lack"
 mgC:mg "Table"=some (.ref C)
def Ml {a:Addr}{ns:TV}{z:Int}{Q:VK}(h:H a=some (.lst (ns.map V.int)))(q:Q (.bl (decide (z∈ns))) H):rIn K false (.int z) (.ref a) H Q:=by
 refine⟨a,_,rfl,.inl (SqL.of h),rfl,Ss _,?_⟩;show Q (.bl (inV (.int z) (ns.map V.int))) H;rw[Qz];exact q
def mem_ownI {m v:Nat}:((v:Int)∈ownI m T) ↔ ∃ i,i<m/\T.own i=v:=by
 unfold ownI;simp only [YT,XO];constructor
 ·rintro ⟨i,hi,e⟩;exact⟨i,hi,J5⟩
 rintro ⟨i,hi,e⟩;exact⟨i,hi,J5⟩
def mem_hdI {n v:Nat}:((v:Int)∈hdI n T) ↔ ∃ i,i<n/\T.hd i=v:=by
 unfold hdI;simp only [YT,XO];constructor
 ·rintro ⟨i,hi,e⟩;exact⟨i,hi,J5⟩
 rintro ⟨i,hi,e⟩;exact⟨i,hi,J5⟩
section
variable {P:TU}{base:Heap}
inductive spLineOf (C:Addr) (vs:TZ) (H:Hp) (Q:VK) (_z3:XK):Prop
 | mk (p:Addr) (m n lk i:Nat) (T:UC) (zz0:vs=[.ref p,.int (T.own i:Int)]) (zz1:TabAt C H p m n lk T) (zz2:TabOk m n T) (zz3:i<m) (zz4:m<=1000) (zz5:∀ a,H a=some (.lst ((lineI n T i).map V.int))->Q (.ref a) H)
theorem Z1i (D:Def K mg "line_of" jK UL)(tc:TabC K mg C):Has P w K mg base 1 "line_of" UL (spLineOf C):=by
 refine D.h9 (N:=UL) fsc λH Q hr h nd=>?_;obtain⟨p,m,n,lk,i,T,rfl,⟨dx,la,b,ha,las,h1,h2,d,c,a,f⟩,ok,hi,hm,k⟩:=h;refine⟨_,(Zb (Zg (Zf Zt (Yb (pv 0) rfl) (Vt XZ Y03 Y04 (Qm (K:=K)) (Yb (pv 0) rfl) (Z0 (pv 1) Z7))))),?_⟩;have ea:las[i]?=some (las[i]'J5):=J7
 refine⟨_,rfl,p,C,dx,_,_,rfl,h1,tc.cl,tc.nL,Xz,_,rfl,p,C,dx,_,_,rfl,h1,tc.cl,tc.nO,X7,.inl ⟨rfl,_,SqL.of a⟩,_,rfl,?_⟩;refine⟨b,ownI m T,_,i,rfl,rfl,SqL.of a,Vm hi,λk hk e=>?_,by rw[U2];exact hm,?_⟩
 ·rw[Vm J5] at e;have:=ok.oi k i J5 hi (by have:=YR e;omega);omega
 exact⟨la,_,_,_,rfl,rfl,SqL.of h2,Zh (by rw[YI,ea];rfl),k _ (c i _ ea)⟩
inductive spEndOf (C:Addr) (vs:TZ) (H:Hp) (Q:VK) (_z3:XK):Prop
 | mk (p:Addr) (m n lk v:Nat) (T:UC) (zz0:vs=[.ref p,.int (v:Int)]) (zz1:TabAt C H p m n lk T) (zz2:TabOk m n T) (zz3:m<=1000) (zz4:n<=1000) (zz5:Q (.int (_v.endOf m n T v)) H)
def TabOk.endO {m n:Nat}(h:TabOk m n T){i:Nat}(hi:i<m):_v.endOf m n T (T.own i)=T.L i n:=by
 unfold _v.endOf;rw[_v.sm_one (k:=i) hi λk hk a=>YD λz=>a (h.oi k i hk hi z),YG rfl]
def TabOk.numH {m n:Nat}(h:TabOk m n T){i j:Nat}(hj:j<n):_v.numAt n T i (T.hd j)=T.L i j:=by
 unfold _v.numAt;rw[_v.sm_one (k:=j) hj λk hk a=>YD λz=>a (h.hi k j hk hj z),YG rfl]
def L5 {n:Nat}:atI ((lineI n T i).map V.int) (-1)=some (V.int (T.L i n)):=by
 unfold atI ixN;rw[YC,Yq,YD J6,YG J5];show ((lineI n T i).map V.int)[(-1+((n+1:Nat):Int)).toNat]?=_;have:(-1+((n+1:Nat):Int)).toNat=n:=J5
 rw[this];exact Xb (Xy (YJ n))
theorem Z4t (D:Def K mg "end_of" j8 UM)(tc:TabC K mg C)(d:Has P w K mg base 1 "line_of" UL (spLineOf C)):Has P w K mg base 2 "end_of" UM (spEndOf C):=by
 refine D.h9 (N:=UM) fsc λH Q hr h nd=>?_;obtain⟨p,m,n,lk,v,T,rfl,b,ok,hm,hn,q⟩:=h;obtain⟨dx,la,g,ha,las,h1,h2,f,k,c,j⟩:=id b;refine⟨_,(Zb (Zg (U1 (Zn We (pv 1) (Yb (pv 0) rfl) rfl) (Zf Zt (Ze d hr (Z0 (pv 0) (Z0 (pv 1) Z7))) (Vs W8 Z9)) Z9))),?_⟩;refine⟨_,rfl,_,rfl,p,C,dx,_,_,rfl,h1,tc.cl,tc.nO,X7,Ml c ⟨_,rfl,?_⟩⟩;refine Xt (λh=>?_) (λh=>?_)
 ·obtain⟨i,hi,e⟩:=mem_ownI.mp (XI h);subst e;refine⟨_,rfl,_,rfl,p,m,n,lk,i,T,rfl,b,ok,hi,hm,λa ea=>⟨_,rfl,?_⟩⟩;refine⟨a,_,_,_,rfl,rfl,SqL.of ea,L5,?_⟩;rw[ok.endO hi] at q;exact q
 have:_v.endOf m n T v=0:=_v.sm_zero λi hi=>YD λz=>h (XE (mem_ownI.mpr ⟨i,hi,z⟩));rw[this] at q;exact q
inductive spNumAt (C:Addr) (vs:TZ) (H:Hp) (Q:VK) (_z3:XK):Prop
 | mk (p:Addr) (m n lk i v:Nat) (T:UC) (zz0:vs=[.ref p,.int (T.own i:Int),.int (v:Int)]) (zz1:TabAt C H p m n lk T) (zz2:TabOk m n T) (zz3:i<m) (zz4:m<=1000) (zz5:n<=1000) (zz6:Q (.int (_v.numAt n T i v)) H)
theorem Z4i (D:Def K mg "number_at" iV UN)(tc:TabC K mg C)(d:Has P w K mg base 1 "line_of" UL (spLineOf C)):Has P w K mg base 2 "number_at" UN (spNumAt C):=by
 refine D.h9 (N:=UN) fsc λH Q hr h nd=>?_;obtain⟨p,m,n,lk,i,v,T,rfl,b,ok,hi,hm,hn,q⟩:=h;obtain⟨dx,la,l,ha,las,h1,h2,g,o,f,c⟩:=id b;refine⟨_,(Zb (Zg (U1 (Zn We (pv 2) (Yb (pv 0) rfl) rfl) (Zf Zt (Ze d hr (Z0 (pv 0) (Z0 (pv 1) Z7))) (Vt XZ Y03 Y04 (Qm (K:=K)) (Yb (pv 0) rfl) (Z0 (pv 2) Z7))) Z9))),?_⟩;refine⟨_,rfl,_,rfl,p,C,dx,_,_,rfl,h1,tc.cl,tc.nH,V9,Ml c ⟨_,rfl,?_⟩⟩;refine Xt (λh=>?_) (λh=>?_)
 ·obtain⟨j,hj,e⟩:=mem_hdI.mp (XI h);subst e;refine⟨_,rfl,_,rfl,p,m,n,lk,i,T,rfl,b,ok,hi,hm,λa ea=>?_⟩;refine⟨_,rfl,p,C,dx,_,_,rfl,h1,tc.cl,tc.nH,V9,.inl ⟨rfl,_,SqL.of c⟩,_,rfl,ha,hdI n T,_,j,rfl,rfl,SqL.of c,Uy hj,λk hk e=>?_,by rw[Vp];exact hn,?_⟩
  ·rw[Uy J5] at e;have:=ok.hi k j J5 hj (by have:=YR e;omega);omega
  refine⟨a,_,_,_,rfl,rfl,SqL.of ea,Zh (Xb (Xy (JC hj))),?_⟩;rw[ok.numH hj] at q;exact q
 have:_v.numAt n T i v=0:=_v.sm_zero λj hj=>YD λz=>h (XE (mem_hdI.mpr ⟨j,hj,z⟩));rw[this] at q;exact q
def helps (lk:Nat)(T:UC)(i j:Nat):Bool:=decide (0<T.L i j) && !decide (T.hd j=lk)
def foundI (n lk:Nat)(T:UC)(i:Nat):List Int:=((List.range n).filter λj=>helps lk T i j).map λj=>(T.hd j:Int)
def Rl (n lk:Nat)(T:UC)(i:Nat):foundI (n+1) lk T i=foundI n lk T i++if helps lk T i n then [(T.hd n:Int)] else []:=by
 unfold foundI;rw[zH,GD,XF]
 congr 1
 cases h:helps lk T i n <;> simp[h]
inductive spHelping (C:Addr) (vs:TZ) (H:Hp) (Q:VK) (_z3:XK):Prop
 | mk (p:Addr) (m n lk i:Nat) (T:UC) (zz0:vs=[.ref p,.int (T.own i:Int)]) (zz1:TabAt C H p m n lk T) (zz2:TabOk m n T) (zz3:i<m) (zz4:m<=1000) (zz5:n<=1000) (zz6:∀ H',Same H H'->(∀ c,c<n->helps lk T i c=true->(∀ j,j<n->helps lk T i j=true->T.hd c<=T.hd j)->Q (.int (c:Int)) H')/\((∀ j,j<n->helps lk T i j=false)->Q .non H'))
theorem Dx (D:Def K mg "helping" jC UL)(T0:Blt mg)(tc:TabC K mg C)(O:Has P w K mg base 1 "line_of" UL (spLineOf C)):Has P w K mg base 2 "helping" UL (spHelping C):=by
 refine D.h9 (N:=["table","owner","found"]) fsc λH Q hr h nd=>?_;obtain⟨p,m,n,lk,i,Tb,rfl,s,ok,hi,hm,hn,k⟩:=h;obtain⟨dx,la,W,ha,las,h1,h2,S,X,U,l⟩:=id s;have T:=T0;have t:(["head","number","table"]:List Str).Nodup:=J8
 refine⟨_,(Z8 (X6 (i:=2) (ox:=none) (N:=["head","number","table"]) (k:=2) (fv:=[0]) nd rfl xj rfl (Nz rfl T.zip (Z0 (Yb (pv 0) rfl) (Z0 (Ze O hr (Z0 (pv 0) (Z0 (pv 1) Z7))) Z7)))
  (λ_ _ _ _ _=>Wb (n:=2) rfl (Y3 (Zj (i:=0) t rfl (Or.inl rfl)) (Y3 (Zj (i:=1) t rfl (Or.inl rfl)) Xh))) (λ_ _ _ _ _=>Xu (PW.pt (Z0r (Zn N4 (pv 1) Z9 (Zq _)) (Go (Zn Gz (pv 0) (M7 (K:=K) (pv 2) rfl) (Zq _)))))) (λ_ _ _ _ _=>(pv 0)) Xp)
  (Zb (Zg (U1 (Z0s (pv 2) (λ_=>rfl)) (Vt XZ Y03 Y04 (Qm (K:=K)) (Yb (pv 0) rfl) (Z0 (Zw (Cz (K:=K) rfl) rfl T.min PyProof.Rows.boot_min (Z0 (pv 2) Z7)) Z7)) Xr)))),?_⟩
 refine⟨_,rfl,p,C,dx,_,_,rfl,h1,tc.cl,tc.nH,V9,_,rfl,_,rfl,p,m,n,lk,i,Tb,rfl,s,ok,hi,hm,λa ea=>?_⟩;refine⟨ha,a,rfl,⟨_,SqL.of l⟩,⟨_,SqL.of ea⟩,λd hd=>?_⟩;refine⟨n,λj ys H2=>Same H H2/\ys=(foundI j lk Tb i).map V.int,Zy hn,⟨Same.new hd,rfl⟩,?_,?_⟩
 ·rintro j ys H2 hj ⟨S2,rfl⟩ f;refine⟨⟨_,_,SqL.of (S2 _ _ l),SqL.of (S2 _ _ ea),by rw[YC,Vp];exact hj,by rw[YC,Yq];omega⟩,?_⟩;rintro x R ⟨y,x0,y0,rfl,hp,rfl,G,I⟩;have ex:x0=V.int (Tb.hd j:Int):=by
   have:=G _ (SqL.of (S2 _ _ l));rw[Xb (Uy hj)] at this;exact (YR this).symm
  have F:y0=V.int (Tb.L i j):=by
   have:=I _ (SqL.of (S2 _ _ ea));rw[Xb (Xy (JC hj))] at this;exact (YR this).symm
  subst ex F;have v:Same H2 (upd H2 y (.tup [.int (Tb.hd j:Int),.int (Tb.L i j)])):=Same.new hp;have u:=v _ _ f;have up:∀ zs,Same H (upd (upd H2 y (.tup [.int (Tb.hd j:Int),.int (Tb.L i j)])) d (.lst zs)):=λzs q o e=>by
   rw[Zc (Zd e hd)];exact v _ _ (S2 _ _ e)
  refine Z13 (SqT.of Za) ?_;have no:helps lk Tb i j=false->upd H2 y (.tup [.int (Tb.hd j:Int),.int (Tb.L i j)]) d=some (.lst ((foundI j lk Tb i).map V.int))/\Same H (upd H2 y (.tup [.int (Tb.hd j:Int),.int (Tb.L i j)]))/\(foundI j lk Tb i).map V.int=(foundI (j+1) lk Tb i).map V.int:=λe=>by
   refine⟨u,S2.trans v,?_⟩;rw[Rl,e];simp
  refine⟨_,rfl,_,_,rfl,rfl,_,rfl,?_⟩;refine Xt (λh=>?_) (λh=>?_)
  ·have g:0<Tb.L i j:=XI h;refine⟨_,rfl,_,rfl,p,C,dx,_,_,rfl,v _ _ (S2 _ _ h1),tc.cl,tc.nK,Mo,rfl,_,rfl,?_⟩;by_cases hl:Tb.hd j=lk
   ·refine Z27 (by rw[hl]) ?_;exact no (by unfold helps;simp[hl])
   refine Z26 (λz=>hl (by have:=V.int.inj z;omega)) ?_;have e:helps lk Tb i j=true:=by unfold helps;simp[hl,g]
   refine⟨_,rfl,u,up _,?_⟩;rw[Rl,e,XF];rfl
  have g:¬ 0<Tb.L i j:=λz=>h (XE z);exact no (by unfold helps;simp[g])
 rintro ys H2 ⟨S2,rfl⟩ f;refine⟨⟨_,_,SqL.of (S2 _ _ l),SqL.of (S2 _ _ ea),by rw[YC,Vp]⟩,?_⟩;obtain⟨k1,k0⟩:=k H2 S2;have b:∀ z,z∈foundI n lk Tb i ↔ ∃ j,j<n/\helps lk Tb i j=true/\(Tb.hd j:Int)=z:=λz=>by
  unfold foundI;simp only [YT,XA,XO];constructor
  ·rintro ⟨j,⟨hj,r⟩,e⟩;exact⟨j,hj,r,e⟩
  rintro ⟨j,hj,r,e⟩;exact⟨j,⟨hj,r⟩,e⟩
 refine⟨_,rfl,!((foundI n lk Tb i).map V.int).isEmpty,?_,?_⟩
 ·exact .inl ⟨_,SqL.of f,rfl⟩
 refine Xt (λh=>?_) (λh=>?_)
 ·have A:foundI n lk Tb i≠[]:=λz=>by rw[z] at h;simp at h
  refine⟨_,rfl,p,C,dx,_,_,rfl,S2 _ _ h1,tc.cl,tc.nH,V9,.inl ⟨rfl,_,SqL.of (S2 _ _ l)⟩,_,rfl,d,_,rfl,SqL.of f,A,λM J B=>?_⟩;obtain⟨c,hc,r,rfl⟩:=(b M).mp J;refine⟨ha,hdI n Tb,_,c,rfl,rfl,SqL.of (S2 _ _ l),Uy hc,λk hk e=>?_,by rw[Vp];exact hn,?_⟩
  ·rw[Uy J5] at e;have:=ok.hi k c J5 hc (by have:=YR e;omega);omega
  exact k1 c hc r λj hj E=>by
   have:=B _ ((b _).mpr ⟨j,hj,E,rfl⟩);omega
 refine k0 λj hj=>?_
 cases e:helps lk Tb i j with
 | false=>rfl
 | true =>
  exfalso;have:=(b _).mpr ⟨j,hj,e,rfl⟩;apply h
  cases q:foundI n lk Tb i with
  | nil=>rw[q] at this;cases this
  | cons=>rfl
end
structure Six (r:Rat):Prop where
 g:Good 21 r
 d:r.2 ∣ 6
def Z7q (p q:Int):nB p q ∣ q:=⟨sg p q,(Si p q).symm⟩
def Rv {p q:Int}(h1:-2000000<p)(h2:p<2000000)(hq:q=1 \/ q=2 \/ q=3):Six (nrm p q):=by
 refine⟨Wl (Z87 h1 h2) (Z87 J5 J5) J5,Y1R (Z7q p q) ?_⟩;rcases hq with rfl | rfl | rfl
 ·exact⟨6,rfl⟩
 ·exact⟨3,rfl⟩
 exact⟨2,rfl⟩
def Six.rep {r:Rat}(h:Six r):r.1*6=(r.1*(6:Int).fdiv r.2)*r.2/\Bd 24 (r.1*(6:Int).fdiv r.2):=by
 refine⟨Vf h.d,?_⟩;have:Bd 3 ((6:Int).fdiv r.2):=by
  refine Bd.of_le (Mn J6 h.g.pos) ?_;show (6:Int).natAbs<2 ^ 3
  decide
 exact h.g.b1.mul this
def Vr {n:Nat}{x:Int}(m:Nat)(h:x.natAbs<2 ^ m)(k:m<=n):Bd n x:=Bd.mono (m:=m) h k
def RepL.six (h:∀ r∈rs,Six r):RepL 24 6 (wholeB rs 6) rs:=by
 refine⟨J6,Vr 3 J6 J6,by unfold wholeB;rw[YC],λi W r a hr=>?_⟩;unfold wholeB at a;rw[YI,hr] at a
 cases a;have:=h r (YE hr);exact⟨this.rep.1,this.rep.2,this.g.low⟩
section
variable {P:TU}{base:Heap}
inductive spSmall6 (K:TR) (vs:TZ) (H:Hp) (Q:VK) (_z3:XK):Prop
 | mk (b:Addr) (n:Nat) (zz0:vs=[.ref b]) (zz1:BagAt H b n) (zz2:n<=1000000) (zz3:∀ (a:Addr) (H':Hp) (r:Rat),BagAt H' b (n+3)->SameX b H H'->H' a=some (.tup [.int r.1,.int r.2])->Six r->Q (.ref a) H')
theorem Z1b (D:Def K mg "_law_small" jX ["_law_bag_here"])(f:Z2 P w K mg base)(u:Z1 P w K mg base) :
  Has P w K mg base 3 "_law_small" ["_law_bag_here"] (spSmall6 K):=by
 refine D.h9 (N:=["_law_bag_here","_law_bottom"]) fsc λH Q hr h nd=>?_;obtain⟨b,n,rfl,hB,hn,k⟩:=h;refine⟨_,(Z8 (Zi (i:=1) nd rfl xj (Zf Zt (Xs (Z0 Z9 (Z0 Z9 (Z0 Z9 (Z0 Z9 Z7))))) (Ze f hr (Z0 (pv 0) (Z0 Z9 Z7)))))
  (Z8 (Y9 (Zn Xm (Ze f hr (Z0 (pv 0) (Z0 Z9 Z7))) Z9 (Zq _))
   (Zb (Zg (Ze u hr (Z0 (Zl U3 (Ze f hr (Z0 (pv 0) (Z0 (Zl X2 (Zl Zp Z9 (Zl Mc Z9 Z9)) Z9) Z7))) (Zl Mc Z9 Z9)) (Z0 (pv 1) Z7)))))
   Zv)
  (Zb (Zg (Ze u hr (Z0 (Zl U3 (Ze f hr (Z0 (pv 0) (Z0 Z9 Z7))) Z9) (Z0 (pv 1) Z7))))))),?_⟩
 refine⟨sz4,λl hl=>?_⟩;have r:Same H (upd H l (.lst [.int 1,.int 1,.int 2,.int 3])):=Same.new hl;have e0:upd H l (.lst [.int 1,.int 1,.int 2,.int 3]) l=some (.lst [.int 1,.int 1,.int 2,.int 3]):=Za;generalize upd H l (.lst [.int 1,.int 1,.int 2,.int 3])=F at *
 have m:l≠b:=by
  obtain⟨ys,e⟩:=hB.lst;exact (Zd e hl).symm
 refine⟨_,rfl,b,_,n,rfl,hB.same r,J5,J6,J8,λr1 H1 y B A S1=>?_⟩;obtain⟨q,eq,hq⟩:∃ q:Int,atI [V.int 1,.int 1,.int 2,.int 3] r1=some (.int q)/\(q=1 \/ q=2 \/ q=3):=by
  have h:r1=0 \/ r1=1 \/ r1=2 \/ r1=3:=J5
  rcases h with rfl | rfl | rfl | rfl
  ·exact⟨1,Zh (j:=0) rfl,.inl rfl⟩
  ·exact⟨1,Zh (j:=1) rfl,.inl rfl⟩
  ·exact⟨2,Zh (j:=2) rfl,.inr (.inl rfl)⟩
  exact⟨3,Zh (j:=3) rfl,.inr (.inr rfl)⟩
 refine⟨l,_,_,_,rfl,rfl,SqL.of (S1 _ _ e0 m),eq,?_⟩;have x:Bd 21 q:=Z87 J5 J5;refine⟨_,rfl,b,_,n+1,rfl,A,J5,J6,J8,λr2 H2 C E v S2=>⟨rfl,_,rfl,?_⟩⟩;refine Xt (λh=>?_) (λh=>?_)
 ·refine⟨_,rfl,_,_,rfl,rfl,Z5q J6 J6,_,_,rfl,rfl,C5 J6 J6,_,_,rfl,rfl,b,_,n+1+1,rfl,v,J5,by rw[p6];decide,lg6,λp z t d g o=>?_⟩;rw[p6] at d;refine⟨_,_,rfl,rfl,Z5q J6 J6,_,_,rfl,rfl,_,rfl,_,_,rfl,J5,x.log J6,λa s fa c e=>?_⟩;rw[p6] at e;exact k a s (nrm (p - 1000000) q) (g.same c) (((((SameX.of r).trans S1).trans S2).trans o).trans (SameX.of c)) e (Rv J5 J5 hq)
 refine⟨_,rfl,b,_,n+1+1,rfl,v,J5,J6,J8,λp z t d g o=>⟨_,_,rfl,rfl,_,rfl,?_⟩⟩;refine⟨_,_,rfl,J5,x.log J6,λa s fa c e=>?_⟩;exact k a s (nrm (p - 8) q) (g.same c) (((((SameX.of r).trans S1).trans S2).trans o).trans (SameX.of c)) e (Rv J5 J5 hq)
inductive spRow6 (K:TR) (vs:TZ) (H:Hp) (Q:VK) (_z3:XK):Prop
 | mk (b:Addr) (c n:Nat) (zz0:vs=[.ref b,.int c]) (zz1:BagAt H b n) (zz2:n<=100000) (zz3:c<=1000) (zz4:∀ (a:Addr) (H':Hp) (rs:UA),BagAt H' b (n+3*c)->SameX b H H'->RowAt K H' a rs->rs.length=c->(∀ r∈rs,Six r)->Q (.ref a) H')
def Bx:FnScope UO UO (defScope kL):=fsc
theorem Z7e (D:Def K mg "_law_row" kL UO)(T:Blt mg)(L:Has P w K mg base 3 "_law_small" ["_law_bag_here"] (spSmall6 K)):Has P w K mg base 4 "_law_row" UO (spRow6 K):=by
 refine D.has λf fd F=>F.ok Bx (λvs H Q E h=>?_) (λcdv A outer s H vs Q E hr h=>?_)
 ·obtain⟨b,c,n,rfl,_⟩:=h;rfl
 obtain⟨b,c,n,rfl,hB,hn,hc,k⟩:=h;have sc:=Bx;have C:(UP:List Str).Nodup:=J8
 refine⟨_,(Zb (Zg (Y6 Ya rfl T.tuple XY (Z0 (Yd (ox:=none) (N:=UP) (k:=1) (fv:=[0]) rfl (Yy rfl T.range (Z0 (pv 1) Z7))
  (λ_ _ _ _ _=>Zj (i:=0) C rfl xj) (λ_ _ _ _ _=>Y8) (λ_ _ _ _ _=>(Ze L hr (Z0 (pv 1) Z7))) Zu) Z7)))),?_⟩
 have G:=hB.lst;refine⟨_,rfl,(c:Int),rfl,J5,J5,λd hd=>?_⟩;have g:d≠b:=by
  obtain⟨ys,e⟩:=G;exact (Zd e hd).symm
 have M:(c:Int).toNat=c:=J5
 rw[M];refine⟨c,λi ys H2=>∃ rs,Rs K H2 rs ys/\rs.length=i/\(∀ r∈rs,Six r)/\BagAt H2 b (n+3*i)/\SameX b H H2,Zy hc,?_,?_,?_⟩
 ·exact⟨[],.nil,rfl,(λ_ h=>nomatch h),hB.upd (XQ g),SameX.of (Same.new hd)⟩
 ·rintro i ys H2 hi ⟨rs,h1,h2,u,p,t⟩ j;refine⟨hi,?_⟩;rintro x U ⟨rfl,rfl⟩;refine Ym ?_;refine⟨_,rfl,b,n+3*i,rfl,p,J5,λa B r S y J O=>?_⟩;have R:=Ext.bag y p;have m:B d=some (.lst ys):=y _ _ j g;have I:Ext B (upd B d (.lst (ys++[.ref a]))):=Ext.upd m;refine⟨m,rs++[r],(h1.ext (R.trans I)).snoc ⟨a,rfl,I.sq (SqT.of J)⟩,by rw[XD,h2];rfl,λr' v=>?_,(S.upd (XQ g)).mono J5,?_⟩
  ·rcases XS.mp v with z | z
   ·exact u r' z
   rw[XH.mp z];exact O
  exact λq o e ne=>by
   have e2:=y q o (t q o e ne) ne;rw[Zc (Zd e hd)];exact e2
 rintro ys H2 ⟨rs,h1,h2,u,p,t⟩ j;refine⟨YJ _,d,ys,rfl,.inl ⟨SqL.of j,λl hl=>?_⟩⟩;have E:=Ext.new (o:=.tup ys) hl;exact k l _ rs (p.same (Same.new hl)) (t.trans (SameX.of (Same.new hl))) ⟨ys,SqT.of Za,h1.ext E⟩ h2 u
structure WtsR (c:Nat)(Ws:TV)(rs:UA):Prop where
 len:rs.length=c
 nn:∀ W∈Ws,0<=W
 pos:0<Ws.sum
 rep:RepL 10 Ws.sum Ws rs
inductive spWeightsR (K:TR) (vs:TZ) (H:Hp) (Q:VK) (_z3:XK):Prop
 | mk (b:Addr) (c n:Nat) (zz0:vs=[.ref b,.int c]) (zz1:BagAt H b n) (zz2:n<=100000) (zz3:1<=c) (zz4:c<=100) (zz5:∀ (a:Addr) (H':Hp) (Ws:TV) (rs:UA),BagAt H' b (n+c+1)->SameX b H H'->RowAt K H' a rs->WtsR c Ws rs->Q (.ref a) H')
theorem Jh (D:Def K mg "_law_weights" i4 UO)(T:Blt mg)(Y:Z2 P w K mg base)(eC:Z1 P w K mg base) :
  Has P w K mg base 3 "_law_weights" UO (spWeightsR K):=by
 refine D.h9 (N:=["_law_bag_here","_law_count","_law_parts"]) fsc λH Q hr h nd=>?_;obtain⟨b,c,n,rfl,hB,hn,a1,hc,k⟩:=h;have J:(UP:List Str).Nodup:=J8
 have I:(["_law_part","_law_parts"]:List Str).Nodup:=J8
 refine⟨_,(Z8 (Zi (i:=2) nd rfl (Or.inr rfl) (Yd (ox:=none) (N:=UP) (k:=1) (fv:=[0]) rfl (Yy rfl T.range (Z0 (pv 1) Z7))
  (λ_ _ _ _ _=>Zj (i:=0) J rfl xj) (λ_ _ _ _ _=>Y8) (λ_ _ _ _ _=>(Ze Y hr (Z0 (pv 1) (Z0 Z9 Z7)))) Zu))
  (Z8 (Uc (Y9 (Zn Xm (Zw (Sx (K:=K) rfl) rfl T.sum Y0m (Z0 (pv 2) Z7)) Z9 (Zq _))
   (Zb (U0 Z9 (Uv (pv 2) (Ze Y hr (Z0 (pv 0) (Z0 (pv 1) Z7))) Wi)))
   Zv))
  (Zb (Zg (Y6 Ya rfl T.tuple XY (Z0 (Yd (ox:=none) (N:=["_law_part","_law_parts"]) (k:=1) (fv:=[2]) rfl (Yk (pv 2))
  (λ_ _ _ _ _=>Zj (i:=0) I rfl xj) (λ_ _ _ _ _=>Y8) (λ_ _ _ _ _=>(Ze eC hr (Z0 (pv 0) (Z0 (Zw (Sx (K:=K) rfl) rfl T.sum Y0m (Z0 (pv 1) Z7)) Z7)))) Zu) Z7)))))),?_⟩
 have S:=hB.lst;refine⟨_,rfl,(c:Int),rfl,J5,J5,λd hd=>?_⟩;have g:d≠b:=by
  obtain⟨ys,e⟩:=S;exact (Zd e hd).symm
 have et:(c:Int).toNat=c:=J5
 rw[et];refine⟨c,λi ys H2=>∃ ns:List Int,ys=ns.map V.int/\ns.length=i/\(∀ z∈ns,0<=z/\z<=4)/\BagAt H2 b (n+i)/\SameX b H H2,Zy J5,?_,?_,?_⟩
 ·exact⟨[],rfl,rfl,(λ_ h=>nomatch h),hB.upd (XQ g),SameX.of (Same.new hd)⟩
 ·rintro i ys H2 hi ⟨ns,rfl,h2,B,C,S2⟩ f;refine⟨hi,?_⟩;rintro x H3 ⟨rfl,rfl⟩;refine Ym ?_;refine⟨_,rfl,b,_,_,rfl,C,J5,J6,J8,λr R r0 r1 U A=>?_⟩;have u:R d=some (.lst (ns.map V.int)):=A _ _ f g;refine⟨u,ns++[r],by rw[XF];rfl,by rw[XD,h2];rfl,λz hz=>?_,(U.upd (XQ g)).mono J5,?_⟩
  ·rcases XS.mp hz with M | M
   ·exact B z M
   rw[XH.mp M];omega
  exact λq o e ne=>by
   have e2:=A q o (S2 q o e ne) ne;rw[Zc (Zd e hd)];exact e2
 rintro ys H2 ⟨ns,rfl,h2,B,C,S2⟩ f;refine⟨YJ _,?_⟩;refine⟨λσ H'=>σ=[some (.ref b),some (.int c),some (.ref d)]/\∃ ms:List Int,ms.length=c/\(∀ z∈ms,0<=z/\z<=4)/\1<=ms.sum/\H' d=some (.lst (ms.map V.int))/\BagAt H' b (n+c+1)/\SameX b H H',?_,?_⟩
 ·refine⟨_,rfl,d,ns,rfl,SqL.of f,rfl,_,rfl,?_⟩;refine Xt (λh=>?_) (λh=>?_)
  ·refine⟨_,rfl,_,rfl,_,rfl,b,_,_,rfl,C,J5,J5,Z51 J5,λr R r0 r1 U A=>?_⟩;obtain⟨j,rfl,hj⟩:=Z8x r0 r1;have u:R d=some (.lst (ns.map V.int)):=A _ _ f g;have L:j<ns.length:=J5
   refine⟨d,_,_,j,rfl,rfl,u,?_,?_⟩
   ·rw[YC];exact Z24 J5 J5
   have em:(ns.map V.int).set j (V.int 1)=(ns.set j 1).map V.int:=by rw[Y0i]
   rw[em];have y:∀ z∈ns.set j 1,0<=z/\z<=4:=λz hz=>by
    rcases List.mem_or_eq_of_mem_set hz with e | e
    ·exact B z e
    omega
   refine⟨rfl,ns.set j 1,by rw[zF];exact h2,y,?_,Za,(U.upd (XQ g)).mono J5,λq o e ne=>?_⟩
   ·exact Ge _ (λz hz=>(y z hz).1) ⟨1,by
     refine List.mem_iff_getElem?.mpr ⟨j,?_⟩;rw[JI (by simpa using L)],J5⟩
   rw[Zc (Zd e hd)];exact A q o (S2 q o e ne) ne
  have h0:ns.sum≠0:=λz=>h (XE (by rw[z]));have:=(Ku ns 4 B).1;exact⟨rfl,ns,h2,B,J5,f,C.mono J5,S2⟩
 rintro σ H5 ⟨rfl,ms,X,y,s1,a,Z,S5⟩;have s2:ms.sum<=4*(c:Int):=by
  have:=(Ku _ 4 y).2;rw[X] at this;exact this
 refine⟨_,rfl,d,rfl,⟨_,SqL.of a⟩,λe O=>?_⟩;have a0:d≠e:=Zd a O;refine⟨c,λi ys H2=>Same H5 H2/\Rs K H2 ((ms.map λm=>nrm m ms.sum).take i) ys,Zy J5,⟨Same.new O,.nil⟩,?_,?_⟩
 ·rintro i ys H6 hi ⟨p,E⟩ t;have s:i<ms.length:=J5
  refine⟨⟨_,V.int ms[i],SqL.of (p _ _ a),by simp[s]⟩,?_⟩;rintro x H7 ⟨rfl,fx⟩;have ex:x=V.int ms[i]:=by
   have:=fx _ (SqL.of (p _ _ a));rw[YI,show ms[i]?=some ms[i] by simp[s]] at this;exact (YR this).symm
  subst ex;refine Ym ?_;have b2:Bd 10 ms.sum:=bdS J5;refine⟨_,rfl,_,rfl,d,ms,rfl,SqL.of (p _ _ a),ms[i],ms.sum,rfl,J5,b2.log J6,λa8 H8 f8 G e8=>?_⟩;have v:=G _ _ t;refine⟨v,λq o' e'=>?_,?_⟩
  ·rw[Zc (Zd e' O)];exact G _ _ (p _ _ e')
  rw[Ye (show (ms.map λm=>nrm m ms.sum)[i]?=some (nrm ms[i] ms.sum) by rw[YI,show ms[i]?=some ms[i] by simp[s]];rfl)];exact (E.ext ((Ext.same G).trans (Ext.upd v))).snoc ⟨a8,rfl,(Ext.upd v).sq (SqT.of e8)⟩
 rintro ys H6 ⟨p,E⟩ t;refine⟨⟨_,SqL.of (p _ _ a),by rw[YC];omega⟩,e,ys,rfl,.inl ⟨SqL.of t,λl hl'=>?_⟩⟩;rw[YW (by rw[YC];omega)] at E;refine k l _ ms _ (((Z.same p).same (Same.new hl')).mono J5) ((S5.trans (SameX.of p)).trans (SameX.of (Same.new hl'))) ⟨ys,SqT.of Za,E.ext (Ext.new hl')⟩ ⟨by rw[YC];exact X,λW F=>(y W F).1,J5,⟨J5,bdS J5,by rw[YC],λi W r F hr=>?_⟩⟩;rw[YI,F] at hr
 cases hr;have:=y W (YE F);exact⟨Nv J5,bdS J5,Yp J5⟩
end
end _b
namespace _b
open _v (sm Y1 Wh Yv sm_zero Y2 Y0 Tf)
def N5 {c:Nat}(h:i<c):(List.replicate c (1:Int)).getD i 0=1:=by simp[List.getD,h]
def Q7 {c:Nat}{o:TW}(a:Ws.length=c)(nn:∀ W∈Ws,0<=W):0<=(List.zipWith (·*·) Ws (cutZ o (List.replicate c 1))).sum ∧
  ∀ i,i<c->0<=Ws.getD i 0*(cutZ o (List.replicate c 1)).getD i 0:=by
 have h:∀ i,i<c->0<=Ws.getD i 0*(cutZ o (List.replicate c 1)).getD i 0:=λi hi=>by
  rw[Wf,N5 hi];have:0<=Ws.getD i 0:=by
   have e:Ws.getD i 0=Ws[i]'J5:=by simp[List.getD,show i<Ws.length by omega]
   rw[e];exact nn _ (XR _)
  split
  ·omega
  simp
 refine⟨?_,h⟩;rw[Ve c _ _ a (by rw[W0];simp)];exact Y2 h
def Ky {c:Nat}{Ro:TV}{o:TW}(a:Ws.length=c)(b:Ro.length=c)(nn:∀ W∈Ws,0<=W)(h0:(List.zipWith (·*·) Ws (cutZ o (List.replicate c 1))).sum=0):(List.zipWith (·*·) Ws (cutZ o Ro)).sum=0:=by
 have h:=(Q7 (o:=o) a nn).2;rw[Ve c _ _ a (by rw[W0];simp)] at h0;rw[Ve c _ _ a (by rw[W0];exact b)];refine sm_zero λi hi=>?_;have hz:Ws.getD i 0*(cutZ o (List.replicate c 1)).getD i 0=0:=by
  rw[Y0 (k:=i) hi] at h0;have h1:0<=sm c (λj=>if j=i then 0 else Ws.getD j 0*(cutZ o (List.replicate c 1)).getD j 0):=Y2 λj hj=>by
   split
   ·omega
   exact h j hj
  have:=h i hi;omega
 rw[Wf,N5 hi] at hz;rw[Wf];split
 ·rename_i q
  rw[YG q] at hz;have:Ws.getD i 0=0:=J5
  rw[this];simp
 simp
open PySem _L
def Mm {n:Nat}{Zs:TV}(h:∀ z∈Zs,Bd n z)(k:Nat):Bd n (Zs.getD k 0):=by
 simp only [List.getD]
 cases e:Zs[k]? with
 | none=>exact bd0 n
 | some z=>exact h z (YE e)
def RepL.scale {n:Nat}{D:Int}{Zs:TV}{rs:UA}(h:RepL n D Zs rs){k:Int}{m:Nat}(hk:0<k)(bk:Bd m k):RepL (n+m) (D*k) (Zs.map λz=>z*k) rs:=by
 refine⟨XG h.pos hk,h.bD.mul bk,by rw[YC,h.len],λi W r a hr=>?_⟩;rw[YI] at a
 cases e:Zs[i]? with
 | none=>rw[e] at a;cases a
 | some z =>
  rw[e] at a
  cases a;obtain⟨a1,a2,a3⟩:=h.at_ i z r e hr;exact⟨V5 k a1,a2.mul bk,a3⟩
structure TabBd (N m n:Nat)(T:UC):Prop where
 l:∀ i j,i<m->j<=n->Bd N (T.L i j)
 b:Bd N T.b
def Fj {a b c x y z:Int}(d:0<y)(hx:0<x)(hz:0<z)(h1:a*y<=b*x)(h2:b*z<=c*y):a*z<=c*x:=by
 have e1:a*y*z<=b*x*z:=JZ h1 J5;have e2:b*z*x<=c*y*x:=JZ h2 J5;have:y*(a*z)<=y*(c*x):=by
  have f1:y*(a*z)=a*y*z:=ZJ
  have f2:y*(c*x)=c*y*x:=ZJ
  have e:b*x*z=b*z*x:=ZJ
  omega
 exact Y0W this d
def Kb {a b c x y z:Int}(d:0<y)(hx:0<x)(hz:0<z)(h1:a*y<b*x)(h2:b*z<=c*y):a*z<c*x:=by
 have e1:a*y*z<b*x*z:=jg h1 hz;have e2:b*z*x<=c*y*x:=JZ h2 J5;have:y*(a*z)<y*(c*x):=by
  have f1:y*(a*z)=a*y*z:=ZJ
  have f2:y*(c*x)=c*y*x:=ZJ
  have e:b*x*z=b*z*x:=ZJ
  omega
 exact zD this J5
def Z2c {a b c x y z:Int}(d:0<y)(hx:0<x)(hz:0<z)(h1:a*y<=b*x)(h2:b*z<c*y):a*z<c*x:=by
 have e1:a*y*z<=b*x*z:=JZ h1 J5;have e2:b*z*x<c*y*x:=jg h2 hx;have:y*(a*z)<y*(c*x):=by
  have f1:y*(a*z)=a*y*z:=ZJ
  have f2:y*(c*x)=c*y*x:=ZJ
  have e:b*x*z=b*z*x:=ZJ
  omega
 exact zD this J5
def Ahead (n c:Nat)(T:UC)(a b:Nat):Prop:=T.L a n*T.L b c<T.L b n*T.L a c \/ (T.L a n*T.L b c=T.L b n*T.L a c/\T.own a<=T.own b)
def Ahead.trans {n c:Nat}{a b k:Nat}(ha:0<T.L a c)(d:0<T.L b c)(hk:0<T.L k c)(h1:Ahead n c T a b)(h2:Ahead n c T b k):Ahead n c T a k:=by
 rcases h1 with h1 | ⟨h1,o1⟩
 ·rcases h2 with h2 | ⟨h2,_⟩
  ·exact .inl (Kb d ha hk h1 J5)
  exact .inl (Kb d ha hk h1 J5)
 rcases h2 with h2 | ⟨h2,o2⟩
 ·exact .inl (Z2c d ha hk J5 h2)
 refine .inr ⟨?_,J5⟩;have e1:=Fj d ha hk (show T.L a n*T.L b c<=T.L b n*T.L a c by omega) (show T.L b n*T.L k c<=T.L k n*T.L b c by omega);have e2:=Fj d hk ha (show T.L k n*T.L b c<=T.L b n*T.L k c by omega) (show T.L b n*T.L a c<=T.L a n*T.L b c by omega);omega
def elig (lk c:Nat)(T:UC)(k:Nat):Prop:=T.own k<=lk/\0<T.L k c
section
variable {P:TU}{base:Heap}
def goB (n c:Nat)(T:UC)(a b:Nat):Bool:=if T.L a n*T.L b c=T.L b n*T.L a c then decide (T.own a<T.own b) else decide (T.L a n*T.L b c<T.L b n*T.L a c)
inductive spGoes (C:Addr) (vs:TZ) (H:Hp) (Q:VK) (_z3:XK):Prop
 | mk (p:Addr) (m n lk c a b N:Nat) (T:UC) (zz0:vs=[.ref p,.int (c:Int),.int (a:Int),.int (b:Int)]) (zz1:TabAt C H p m n lk T) (zz2:a<m) (zz3:b<m) (zz4:c<n) (zz5:TabBd N m n T) (zz6:N<=400000) (zz7:Q (.bl (goB n c T a b)) H)
theorem Z7l (D:Def K mg "goes_ahead" iS UQ)(tc:TabC K mg C):Has P w K mg base 1 "goes_ahead" UQ (spGoes C):=by
 refine D.h9 (N:=["table","column","one","other","mine","theirs"]) fsc λH Q hr h nd=>?_;obtain⟨p,m,n,lk,c,a,b,N,T,rfl,⟨dx,la,o,ha,las,h1,h2,t,s,k,u⟩,j,hB,hc,bd,hN,q⟩:=h;refine⟨_,(Z8 (Zi (i:=4) nd rfl xj (Zl Zp (Zf Zt (Zf Zt (Yb (pv 0) rfl) (pv 2)) (Vs W8 Z9)) (Zf Zt (Zf Zt (Yb (pv 0) rfl) (pv 3)) (pv 1))))
  (Z8 (Zi (i:=5) nd rfl xj (Zl Zp (Zf Zt (Zf Zt (Yb (pv 0) rfl) (pv 3)) (Vs W8 Z9)) (Zf Zt (Zf Zt (Yb (pv 0) rfl) (pv 2)) (pv 1))))
  (Z8 (Y9 (Zn Xm (pv 4) (pv 5) (Zq _))
   (Zb (Zg (Xi Rf (Zf Zt (Yb (pv 0) rfl) (pv 2)) (Zf Zt (Yb (pv 0) rfl) (pv 3)) (Zq _))))
   Zv)
  (Zb (Zg (Xi Rf (pv 4) (pv 5) (Zq _))))))),?_⟩
 have ea:las[a]?=some (las[a]'J5):=J7
 have r:las[b]?=some (las[b]'J5):=J7
 have d:=s a _ ea;have f:=s b _ r;have va:(las.map V.ref)[a]?=some (V.ref (las[a]'J5)):=by rw[YI,ea];rfl
 have vb:(las.map V.ref)[b]?=some (V.ref (las[b]'J5)):=by rw[YI,r];rfl
 have g:∀ i,atI ((lineI n T i).map V.int) (c:Int)=some (V.int (T.L i c)):=λi=>Zh (Xb (Xy (JC hc)));refine⟨_,rfl,p,C,dx,_,_,rfl,h1,tc.cl,tc.nL,Xz,_,rfl,la,_,_,_,rfl,rfl,SqL.of h2,Zh va,_,rfl,_,_,_,_,rfl,rfl,SqL.of d,L5,?_⟩;refine⟨_,rfl,p,C,dx,_,_,rfl,h1,tc.cl,tc.nL,Xz,_,rfl,la,_,_,_,rfl,rfl,SqL.of h2,Zh vb,_,rfl,_,_,_,_,rfl,rfl,SqL.of f,g b,_,_,rfl,rfl,(bd.l a n j (YJ n)).mulOk (bd.l b c hB (JC hc)) J5 J5,?_⟩;refine⟨_,rfl,p,C,dx,_,_,rfl,h1,tc.cl,tc.nL,Xz,_,rfl,la,_,_,_,rfl,rfl,SqL.of h2,Zh vb,_,rfl,_,_,_,_,rfl,rfl,SqL.of f,L5,?_⟩;refine⟨_,rfl,p,C,dx,_,_,rfl,h1,tc.cl,tc.nL,Xz,_,rfl,la,_,_,_,rfl,rfl,SqL.of h2,Zh va,_,rfl,_,_,_,_,rfl,rfl,SqL.of d,g a,_,_,rfl,rfl,(bd.l b n hB (YJ n)).mulOk (bd.l a c j (JC hc)) J5 J5,?_⟩;refine⟨_,rfl,_,rfl,rfl,_,rfl,?_⟩;unfold goB at q;refine Xt (λh=>?_) (λh=>?_)
 ·have e:T.L a n*T.L b c=T.L b n*T.L a c:=V.int.inj (XI h);rw[YG e] at q;refine⟨_,rfl,p,C,dx,_,_,rfl,h1,tc.cl,tc.nO,X7,_,rfl,o,_,_,_,rfl,rfl,SqL.of k,Zh (Xb (Vm j)),_,rfl,p,C,dx,_,_,rfl,h1,tc.cl,tc.nO,X7,_,rfl,o,_,_,_,rfl,rfl,SqL.of k,Zh (Xb (Vm hB)),_,_,rfl,rfl,?_⟩;have e2:decide ((T.own a:Int)<(T.own b:Int))=decide (T.own a<T.own b):=J7
  show Q (.bl (decide ((T.own a:Int)<(T.own b:Int)))) H;rw[e2];exact q
 have e:¬ T.L a n*T.L b c=T.L b n*T.L a c:=λz=>h (XE (by show V.int _=V.int _;rw[z]));rw[YD e] at q;exact⟨_,rfl,_,rfl,_,_,rfl,rfl,q⟩
inductive spGoing (C:Addr) (vs:TZ) (H:Hp) (Q:VK) (_z3:XK):Prop
 | mk (p:Addr) (m n lk c N:Nat) (T:UC) (zz0:vs=[.ref p,.int (c:Int)]) (zz1:TabAt C H p m n lk T) (zz2:c<n) (zz3:m<=1000) (zz4:TabBd N m n T) (zz5:N<=400000) (zz6:(∃ k,k<m/\elig lk c T k)) (zz7:∀ (H':Hp) (b:Nat),Same H H'->b<m->elig lk c T b->(∀ k,k<m->elig lk c T k->Ahead n c T b k)->Q (.int (b:Int)) H')
theorem Z4n (D:Def K mg "going_out" iW ["table","column"])(T0:Blt mg)(tc:TabC K mg C)(X:Has P w K mg base 1 "goes_ahead" UQ (spGoes C)):Has P w K mg base 2 "going_out" ["table","column"] (spGoing C):=by
 refine D.h9 (N:=["table","column","first","place","owner"]) fsc λH Q hr h nd=>?_;obtain⟨p,m,n,lk,c,N,Tb,rfl,A,hc,hm,bd,hN,M,k⟩:=h;obtain⟨dx,la,W,ha,las,h1,h2,h3,Z,U,h6⟩:=id A;have T:=T0;refine⟨_,(Z8 (Zi (i:=2) nd rfl xj Xr)
  (Z8 (Xq JL rfl (Tk rfl T.enumerate (Z0 (Yb (pv 0) rfl) Z7)) (Wb (n:=2) rfl (Y3 (Zj (i:=3) nd rfl (Or.inl rfl)) (Y3 (Zj (i:=4) nd rfl (Or.inl rfl)) Xh)))
   (Zb (Y9 (PW.pt (Z0r (Zn Z66 (pv 4) (Yb (pv 0) rfl) (Zq _)) (Go (Zn N4 (Zf Zt (Zf Zt (Yb (pv 0) rfl) (pv 3)) (pv 1)) Z9 (Zq _)))))
    (Zb (Y9 (PW.pt (Re (Zn Md (pv 2) Xr (Zq _)) (Uu (Yz (Ze X hr (Z0 (pv 0) (Z0 (pv 1) (Z0 (pv 3) (Z0 (pv 2) Z7)))))))))
     (Zb (Zi (i:=2) nd rfl xj (pv 3)))
     Zv))
    Zv)))
  (Zb (Zg (pv 2))))),?_⟩
 have S:=U2 m Tb;refine⟨_,rfl,p,C,dx,_,_,rfl,h1,tc.cl,tc.nO,X7,W,rfl,⟨_,SqL.of U⟩,Sr (K:=K) (a:=W) (xs:=(ownI m Tb).map V.int) (λi σ H'=>Same H H'/\∃ x y:Option V,((∀ k,k<i->¬ elig lk c Tb k)/\σ=[some (.ref p),some (.int (c:Int)),some .non,x,y]) \/ ∃ b,b<i/\b<m/\elig lk c Tb b/\(∀ k,k<i->elig lk c Tb k->Ahead n c Tb b k)/\σ=[some (.ref p),some (.int (c:Int)),some (.int (b:Int)),x,y]) ⟨Same.refl _,none,none,.inl ⟨λk hk=>J5,rfl⟩⟩ (λi σ H' _ h=>SqL.of (h.1 _ _ U)) ?_ ?_⟩
 ·rintro i v σ H1 J hi ⟨S1,x,y,inv⟩ hp;have g:i<m:=by
   have:=(YH.mp hi).1;rw[YC,S] at this;exact this
  rw[Xb (Vm g)] at hi
  cases hi;have S2:Same H1 (upd H1 J (.tup [.int (i:Int),.int (Tb.own i:Int)])):=Same.new hp;have f:=S1.trans S2;have t:∃ fv:V,σ=[some (.ref p),some (.int (c:Int)),some fv,x,y]:=by
   rcases inv with ⟨_,e⟩ | ⟨b,_,_,_,_,e⟩
   ·exact⟨_,e⟩
   exact⟨_,e⟩
  obtain⟨fv,t⟩:=t;subst t;refine⟨J,_,rfl,SqT.of Za,rfl,_,_,rfl,_,_,rfl,rfl,?_⟩;generalize upd H1 J (.tup [.int (i:Int),.int (Tb.own i:Int)])=H2 at *
  have r:((∀ k,k<i->¬ elig lk c Tb k)/\fv=.non) \/ ∃ b,b<i/\b<m/\elig lk c Tb b/\(∀ k,k<i->elig lk c Tb k->Ahead n c Tb b k)/\fv=.int (b:Int):=by
   rcases inv with ⟨h,e⟩ | ⟨b,E,l,g3,o,e⟩
   ·injection e with _ e
    injection e with _ e
    injection e with e _
    injection e with e
    exact .inl ⟨h,e⟩
   injection e with _ e
   injection e with _ e
   injection e with e _
   injection e with e
   exact .inr ⟨b,E,l,g3,o,e⟩
  have skip:¬ elig lk c Tb i->Same H H2/\∃ x y:Option V,((∀ k,k<i+1->¬ elig lk c Tb k)/\[some (V.ref p),some (V.int (c:Int)),some fv,some (V.int (i:Int)),some (V.int (Tb.own i:Int))]=[some (.ref p),some (.int (c:Int)),some .non,x,y]) \/ ∃ b,b<i+1/\b<m/\elig lk c Tb b/\(∀ k,k<i+1->elig lk c Tb k->Ahead n c Tb b k)/\[some (V.ref p),some (V.int (c:Int)),some fv,some (V.int (i:Int)),some (V.int (Tb.own i:Int))]=[some (.ref p),some (.int (c:Int)),some (.int (b:Int)),x,y]:=λu=>by
   refine⟨f,some (.int (i:Int)),some (.int (Tb.own i:Int)),?_⟩;rcases r with ⟨h,rfl⟩ | ⟨b,E,l,g3,o,rfl⟩
   ·refine .inl ⟨λk hk=>?_,rfl⟩;by_cases q:k=i
    ·subst q;exact u
    exact h k J5
   refine .inr ⟨b,J5,l,g3,λk hk d=>?_,rfl⟩;by_cases q:k=i
   ·subst q;exact absurd d u
   exact o k J5 d
  refine⟨_,rfl,_,rfl,p,C,dx,_,_,rfl,f _ _ h1,tc.cl,tc.nK,Mo,_,_,rfl,rfl,_,rfl,?_⟩;refine Xt (λh=>?_) (λh=>?_)
  ·have G:Tb.own i<=lk:=by have:=XI h;omega
   have R:las[i]?=some (las[i]'J5):=J7
   refine⟨_,rfl,p,C,dx,_,_,rfl,f _ _ h1,tc.cl,tc.nL,Xz,_,rfl,la,_,_,_,rfl,rfl,SqL.of (f _ _ h2),Zh (show (las.map V.ref)[i]?=_ by rw[YI,R];rfl),_,rfl,_,_,_,_,rfl,rfl,SqL.of (f _ _ (Z i _ R)),Zh (Xb (Xy (JC hc))),_,_,rfl,rfl,_,rfl,?_⟩;refine Xt (λh'=>?_) (λh'=>?_)
   ·have j:0<Tb.L i c:=XI h';have B:elig lk c Tb i:=⟨G,j⟩;rcases r with ⟨s,rfl⟩ | ⟨b,E,l,g3,o,rfl⟩
    ·refine⟨_,rfl,rfl,_,rfl,K6 rfl ⟨_,rfl,f,_,_,.inr ⟨i,J5,g,B,λk hk d=>?_,rfl⟩⟩⟩;by_cases q:k=i
     ·subst q;exact .inr ⟨rfl,YJ _⟩
     exact absurd d (s k J5)
    refine⟨_,rfl,rfl,_,rfl,Qv (λz=>nomatch z) ?_⟩;refine⟨_,rfl,_,rfl,_,rfl,_,rfl,p,m,n,lk,c,i,b,N,Tb,rfl,A.same f,g,l,hc,bd,hN,_,rfl,?_⟩;refine Z57 (λhg=>?_) (λhg=>?_)
    ·have F:Ahead n c Tb i b:=by
      unfold goB at hg;split at hg
      ·rename_i e
       have:=XI hg;exact .inr ⟨e,J5⟩
      exact .inl (XI hg)
     refine⟨_,rfl,f,_,_,.inr ⟨i,J5,g,B,λk hk d=>?_,rfl⟩⟩;by_cases q:k=i
     ·subst q;exact .inr ⟨rfl,YJ _⟩
     exact Ahead.trans j g3.2 d.2 F (o k J5 d)
    have O:Ahead n c Tb b i:=by
     unfold goB at hg;split at hg
     ·rename_i e
      have:=Y20 hg;exact .inr ⟨e.symm,J5⟩
     rename_i e
     have:=Y20 hg;exact .inl J5
    refine⟨f,_,_,.inr ⟨b,J5,l,g3,λk hk d=>?_,rfl⟩⟩;by_cases q:k=i
    ·subst q;exact O
    exact o k J5 d
   exact skip λz=>h' (XE z.2)
  exact skip λz=>h (XE (by have:=z.1;omega))
 rintro σ H1 ⟨S1,x,y,inv⟩;rw[YC,S] at inv;rcases inv with ⟨s,rfl⟩ | ⟨b,E,l,g3,o,rfl⟩
 ·obtain⟨k',I,Y⟩:=M;exact absurd Y (s k' I)
 exact⟨_,rfl,k H1 b S1 l g3 o⟩
inductive spReplaced (vs:TZ) (H:Hp) (Q:VK) (_z3:XK):Prop
 | mk (a:Addr) (i:Nat) (v:V) (xs:TZ) (zz0:vs=[.ref a,.int (i:Int),v]) (zz1:H a=some (.lst xs)) (zz2:i<xs.length) (zz3:∀ (d:Addr) (H':Hp),H d=none->Same H H'->H' d=some (.lst (xs.set i v))->Q (.ref d) H')
theorem Ji (D:Def K mg "replaced" iU UR)(T:Blt mg):Has P w K mg base 1 "replaced" UR spReplaced:=by
 refine D.h9 (N:=["numbers","place","number","told"]) fsc λH Q hr h nd=>?_;obtain⟨a,i,v,xs,rfl,ha,hi,k⟩:=h;refine⟨_,(Z8 (Zi (i:=3) nd rfl xj (Y6 Yw rfl T.list JN (Z0 (pv 0) Z7)))
  (Z8 (U0 (pv 2) (Uv (pv 3) (pv 1) Wi))
  (Zb (Zg (pv 3))))),?_⟩
 refine⟨_,rfl,a,_,rfl,.inl (SqL.of ha),λd hd=>?_⟩;refine⟨_,rfl,_,rfl,_,rfl,d,_,_,i,rfl,rfl,Za,Z24 J5 J5,?_⟩;refine⟨_,rfl,k d _ hd (λq o e=>?_) Za⟩;rw[Zc (Zd e hd),Zc (Zd e hd)];exact e
def freedI (xs zs:TV)(c:Nat)(b:Int):List Int:=((List.range xs.length).map λj=>(xs.getD j 0*zs.getD c 0 - xs.getD c 0*zs.getD j 0).fdiv b).set c (-xs.getD c 0)
inductive spFreed (vs:TZ) (H:Hp) (Q:VK) (_z3:XK):Prop
 | mk (a k:Addr) (c N:Nat) (b:Int) (xs zs:TV) (zz0:vs=[.ref a,.ref k,.int (c:Int),.int b]) (zz1:H a=some (.lst (xs.map V.int))) (zz2:H k=some (.lst (zs.map V.int))) (zz3:xs.length=zs.length) (zz4:c<xs.length) (zz5:xs.length<=1000) (zz6:(∀ z∈xs,Bd N z)) (zz7:(∀ z∈zs,Bd N z)) (zz8:Bd N b) (zz9:0<b) (zz10:N<=400000) (zz11:∀ (d:Addr) (H':Hp),H d=none->Same H H'->H' d=some (.lst ((freedI xs zs c b).map V.int))->Q (.ref d) H')
theorem Z4o (D:Def K mg "freed" j6 US)(T:Blt mg)(B:Has P w K mg base 1 "replaced" UR spReplaced):Has P w K mg base 2 "freed" US spFreed:=by
 refine D.h9 (N:=["line","key_line","column","bottom","key","by","told"]) fsc λH Q hr h nd=>?_;obtain⟨a,k,c,N,b,xs,zs,rfl,ha,hk,hl,hc,g,F,z,E,I,hN,kk⟩:=h;have m:(["number","other","bottom","key","by"]:List Str).Nodup:=J8
 refine⟨_,(Z8 (Zi (i:=4) nd rfl (Or.inr rfl) (Zf Zt (pv 1) (pv 2)))
  (Z8 (Zi (i:=5) nd rfl (Or.inr rfl) (Zf Zt (pv 0) (pv 2)))
  (Z8 (X6 (i:=6) (ox:=none) (N:=["number","other","bottom","key","by"]) (k:=2) (fv:=[3,4,5]) nd rfl xj rfl (Nz rfl T.zip (Z0 (pv 0) (Z0 (pv 1) Z7)))
  (λ_ _ _ _ _=>Wb (n:=2) rfl (Y3 (Zj (i:=0) m rfl (Or.inl rfl)) (Y3 (Zj (i:=1) m rfl (Or.inl rfl)) Xh))) (λ_ _ _ _ _=>Y8) (λ_ _ _ _ _=>(Zl Wc (Zl U3 (Zl Zp (pv 0) (pv 3)) (Zl Zp (pv 4) (pv 1))) (pv 2))) Xp)
  (Zb (Zg (Ze B hr (Z0 (pv 6) (Z0 (pv 2) (Z0 (Vs W8 (pv 5)) Z7))))))))),?_⟩
 have ex:∀ j,j<xs.length->xs[j]?=some (xs.getD j 0):=λj hj=>by simp[List.getD,hj]
 have s:∀ j,j<xs.length->zs[j]?=some (zs.getD j 0):=λj hj=>by simp[List.getD,show j<zs.length by omega]
 have l:∀ j,Bd N (xs.getD j 0):=Mm F;have p:∀ j,Bd N (zs.getD j 0):=Mm z;refine⟨_,rfl,_,rfl,k,_,_,_,rfl,rfl,SqL.of hk,Zh (Xb (s c hc)),?_⟩;refine⟨_,rfl,_,rfl,a,_,_,_,rfl,rfl,SqL.of ha,Zh (Xb (ex c hc)),?_⟩;refine⟨_,rfl,_,rfl,a,k,rfl,⟨_,SqL.of ha⟩,⟨_,SqL.of hk⟩,λd hd=>?_⟩;refine⟨xs.length,λj ys H2=>Same H H2/\ys=(((List.range xs.length).map λj=>(xs.getD j 0*zs.getD c 0 - xs.getD c 0*zs.getD j 0).fdiv b).take j).map V.int,Zy g,⟨Same.new hd,rfl⟩,?_,?_⟩
 ·rintro j ys H2 hj ⟨S2,rfl⟩ f;refine⟨⟨_,_,SqL.of (S2 _ _ ha),SqL.of (S2 _ _ hk),by rw[YC];exact hj,by rw[YC];omega⟩,?_⟩;rintro x t ⟨G,x0,y0,rfl,hp,rfl,y,C⟩;have e1:x0=V.int (xs.getD j 0):=by
   have:=y _ (SqL.of (S2 _ _ ha));rw[Xb (ex j hj)] at this;exact (YR this).symm
  have e2:y0=V.int (zs.getD j 0):=by
   have:=C _ (SqL.of (S2 _ _ hk));rw[Xb (s j hj)] at this;exact (YR this).symm
  subst e1 e2;have r:d≠G:=Zd f hp;refine Tl (SqT.of Za) ?_;refine⟨_,rfl,_,rfl,_,_,rfl,rfl,(l j).mulOk (p c) J5 J5,_,rfl,_,rfl,_,_,rfl,rfl,(l c).mulOk (p j) J5 J5,_,_,rfl,rfl,_,rfl,_,_,rfl,rfl,⟨J5,E.log J5⟩,by rw[Zc r];exact f,λq o e=>?_,?_⟩
  ·have:=S2 _ _ e;rw[Zc (Zd e hd),Zc (Zd this hp)];exact this
  rw[Tc _ (show (List.range xs.length)[j]?=some j by simp[hj]),XF];rfl
 rintro ys H2 ⟨S2,rfl⟩ f;rw[YW J7] at f;refine⟨⟨_,_,SqL.of (S2 _ _ ha),SqL.of (S2 _ _ hk),by rw[YC]⟩,?_⟩;refine⟨_,rfl,_,rfl,_,rfl,_,rfl,d,c,_,_,rfl,f,by simp;exact hc,λv t u A e3=>?_⟩;refine kk v t ?_ (S2.trans A) ?_
 ·cases q:H v with
  | none=>rfl
  | some o=>rw[S2 _ _ q] at u;cases u
 rw[e3];unfold freedI;rw[Y0i]
end
end _b
namespace _v
section
variable {m n lk i0:Nat}{col:Nat->Vec}{rhs:Vec}{K:Nat}{S:Nat->Tab}{P C:TX}
def Run.more (R:Run m n lk i0 col rhs K S P C){p c:Nat}(s:Step m n lk i0 (S K) p c)(h:p≠i0) :
  ∃ a b C',Run m n lk i0 col rhs (K+1) a b C'/\a (K+1)=piv (S K) p c:=by
 refine⟨λt=>if t<=K then S t else piv (S K) p c,λt=>if t<K then P t else p,λt=>if t<K then C t else c,⟨R.h0,?_,?_,λk hk=>?_,λk hk=>?_,λk hk=>?_⟩,?_⟩
 ·show Inv m n col rhs (if 0<=K then S 0 else _);rw[YG J5];exact R.I0
 ·show Feas m n lk (if 0<=K then S 0 else _);rw[YG J5];exact R.F0
 ·show Step m n lk i0 (if k<=K then S k else _) (if k<K then P k else p) (if k<K then C k else c);rw[YG J5];by_cases q:k<K
  ·rw[YG q,YG q];exact R.st k q
  have:k=K:=J5
  subst this;rw[YD q,YD q];exact s
 ·show (if k<K then P k else p)≠i0;by_cases q:k<K
  ·rw[YG q];exact R.stay k q
  rw[YD q];exact h
 ·show (if k+1<=K then S (k+1) else piv (S K) p c)=piv (if k<=K then S k else _) (if k<K then P k else p) (if k<K then C k else c);by_cases q:k<K
  ·rw[YG J5,YG J5,YG q,YG q];exact R.nx k q
  have:k=K:=J5
  subst this;rw[YD J5,YG J5,YD q,YD q]
 show (if K+1<=K then _ else _)=_;rw[YD J5]
def Run.start (h0:i0<m){T:Tab}(I:Inv m n col rhs T)(F:Feas m n lk T):Run m n lk i0 col rhs 0 (λ_=>T) (λ_=>0) (λ_=>0) :=
 ⟨h0,I,F,λk hk=>J5,λk hk=>J5,λk hk=>J5⟩
end
end _v
namespace _b
open PySem _L
section
variable {P:TU}{base:Heap}
theorem Xc (f:Str)(v:V):∀ fs:List (Str × V),(putF f v fs).length<=fs.length+1
 | []=>YJ _
 | (g,x)::r=>by
  have:=Xc f v r;unfold putF;split
  ·simp
  simp only [XW];omega
inductive spInitT (C:Addr) (vs:TZ) (H:Hp) (Q:VK) (_z3:XK):Prop
 | mk (p dx:Addr) (a b c d e:V) (zz0:vs=[.ref p,a,b,c,d,e]) (zz1:H p=some (.ins C dx [])) (zz2:∀ H',H' p=some (.ins C dx (fldsT a b c d e))->(∀ q o,H q=some o->q≠p->H' q=some o)->Q .non H')
def Z3a:FnScope UT UT (defScope iH):=fsc
theorem Z4b (F:Fun K "__init__" "Table.__init__" iH f fd)(tc:TabC K mg C):FnOk P w K mg base CX0 1 f fd UT (spInitT C):=by
 refine F.ok Z3a (λvs H Q E h=>?_) (λcdv A outer s H vs Q E hr h=>?_)
 ·obtain⟨p,dx,a,b,c,d,e,rfl,_⟩:=h;rfl
 obtain⟨p,dx,a,b,c,d,e,rfl,hp,k⟩:=h;refine⟨_,Z8 (Qe (pv 0) (pv 1) rfl) (Z8 (Qe (pv 0) (pv 2) rfl) (Z8 (Qe (pv 0) (pv 3) rfl) (Z8 (Qe (pv 0) (pv 4) rfl) (Zb (Qe (pv 0) (pv 5) rfl))))),?_⟩;refine⟨_,rfl,_,rfl,p,C,dx,_,rfl,hp,tc.cl,tc.nL,(by show 0<1000;decide),?_⟩;refine⟨_,rfl,_,rfl,p,C,dx,_,rfl,Za,tc.cl,tc.nO,(by show 1<1000;decide),?_⟩;refine⟨_,rfl,_,rfl,p,C,dx,_,rfl,Za,tc.cl,tc.nH,?_,?_⟩
 ·have z1:=Xc "owners" b (putF "lines" a []);have z2:=Xc "lines" a [];simp only [ju] at z2;omega
 refine⟨_,rfl,_,rfl,p,C,dx,_,rfl,Za,tc.cl,tc.nB,?_,?_⟩
 ·have z1:=Xc "owners" b (putF "lines" a []);have z2:=Xc "lines" a [];have z3:=Xc "heads" c (putF "owners" b (putF "lines" a []));simp only [ju] at z2;omega
 refine⟨_,rfl,_,rfl,p,C,dx,_,rfl,Za,tc.cl,tc.nK,?_,?_⟩
 ·have z1:=Xc "owners" b (putF "lines" a []);have z2:=Xc "lines" a [];have z3:=Xc "heads" c (putF "owners" b (putF "lines" a []));have z4:=Xc "bottom" d (putF "heads" c (putF "owners" b (putF "lines" a [])));simp only [ju] at z2;omega
 refine k _ Za λq o e hq=>?_;rw[Zc hq,Zc hq,Zc hq,Zc hq,Zc hq];exact e
def HasT (P:TU)(w:World)(K:TR)(mg:TB)(base:Heap)(C:Addr):Prop:=∃ (f:Addr) (fd:FuncData),Mk K C f/\FnOk P w K mg base CX0 1 f fd UT (spInitT C)/\Binds K fd UT []
def Vb {n:Nat}{xs:TV}{f:TY}(hl:xs.length=n)(h:∀ i,i<n->xs[i]?=some (f i)):xs=(List.range n).map f:=by
 apply Y15;intro i;by_cases q:i<n
 ·rw[h i q];simp[q]
 rw[je J5,je (by simp;omega)]
def Z42 {m p c:Nat}(hp:p<m):(ownI m T).set p (T.hd c:Int)=ownI m (_v.piv T p c):=by
 refine Vb (by rw[zF,U2]) λi hi=>?_;show _=some ((_v.up T.own p (T.hd c) i:Nat):Int);unfold _v.up;by_cases e:i=p
 ·subst e;rw[JI (by rw[U2];exact hi),YG rfl]
 rw[qu (XQ e),Vm hi,YD e]
def Z7x {n p c:Nat}(hc:c<n):(hdI n T).set c (T.own p:Int)=hdI n (_v.piv T p c):=by
 refine Vb (by rw[zF,Vp]) λi hi=>?_;show _=some ((_v.up T.hd c (T.own p) i:Nat):Int);unfold _v.up;by_cases e:i=c
 ·subst e;rw[JI (by rw[Vp];exact hi),YG rfl]
 rw[qu (XQ e),Uy hi,YD e]
def Z55 {n p c:Nat}(hc:c<n):(lineI n T p).set c T.b=lineI n (_v.piv T p c) p:=by
 refine Vb (by rw[zF,Yq]) λj hj=>?_;show _=some (_v.newL T p c p j);unfold _v.newL;rw[YG rfl];by_cases e:j=c
 ·subst e;rw[JI (by rw[Yq];exact hj),YG rfl]
 rw[qu (XQ e),Xy J5,YD e]
def Wp {n:Nat}(h:j<=n):(lineI n T i).getD j 0=T.L i j:=by
 simp only [List.getD,Xy h];rfl
def Z21 {n p c:Nat}(hc:c<n)(h:i≠p):freedI (lineI n T i) (lineI n T p) c T.b=lineI n (_v.piv T p c) i:=by
 unfold freedI;refine Vb (by rw[zF];simp[Yq]) λj hj=>?_;show _=some (_v.newL T p c i j);unfold _v.newL;rw[YD h,Yq];by_cases e:j=c
 ·subst e;rw[JI (by simpa using hj),YG rfl,Wp J5]
 rw[qu (XQ e),YD e];simp only [YI,show (List.range (n+1))[j]?=some j by simp[hj],jt];rw[Wp J5,Wp J5,Wp J5,Wp J5]
theorem K4 {N m n:Nat}(h:TabBd N m n T)(hi:i<m):∀ z∈lineI n T i,Bd N z:=λz hz=>by
 unfold lineI at hz;obtain⟨j,hj,rfl⟩:=YT.mp hz;exact h.l i j hi (by have:=XO.mp hj;omega)
inductive spExch (C:Addr) (vs:TZ) (H:Hp) (Q:VK) (_z3:XK):Prop
 | mk (p:Addr) (m n lk pl c N:Nat) (T:UC) (zz0:vs=[.ref p,.int (pl:Int),.int (c:Int)]) (zz1:TabAt C H p m n lk T) (zz2:pl<m) (zz3:c<n) (zz4:m<=900) (zz5:n<=900) (zz6:TabBd N m n T) (zz7:N<=400000) (zz8:0<T.b) (zz9:∀ (q:Addr) (H':Hp),Same H H'->TabAt C H' q m n lk (_v.piv T pl c)->Q (.ref q) H')
theorem Z7n (D:Def K mg "exchanged" iT UU)(tc:TabC K mg C)(hT:HasT P w K mg base C)(g9:Has P w K mg base 2 "freed" US spFreed)(I:Has P w K mg base 1 "replaced" UR spReplaced):Has P w K mg base 3 "exchanged" UU (spExch C):=by
 refine D.h9 (N:=["table","place","column","key_line","lines"]) fsc λH Q hr h nd=>?_;obtain⟨p,m,n,lk,pl,c,N,T,rfl,S,hp,hc,hm,hn,bd,hN,hb,k⟩:=h;obtain⟨dx,la,oa,ha,las,h1,h2,h3,h4,h5,h6⟩:=id S;obtain⟨fI,fdI,f,u,s⟩:=hT;have g:=tc.mgC;have U:(["line","table","column","key_line"]:List Str).Nodup:=J8
 refine⟨_,(Z8 (Zi (i:=3) nd rfl (Or.inr rfl) (Zf Zt (Yb (pv 0) rfl) (pv 1)))
  (Z8 (X6 (i:=4) (ox:=none) (N:=["line","table","column","key_line"]) (k:=1) (fv:=[0,2,3]) nd rfl xj rfl (Yk (Yb (pv 0) rfl))
  (λ_ _ _ _ _=>Zj (i:=0) U rfl xj) (λ_ _ _ _ _=>Y8) (λ_ _ _ _ _=>(Ze g9 hr (Z0 (pv 0) (Z0 (pv 3) (Z0 (pv 2) (Z0 (M7 (K:=K) (pv 1) rfl) Z7)))))) Zu)
  (Zb (Zg (Gs f u (hr.mono J6) rfl g s .nil Gv (Z0 (Ze I hr (Z0 (pv 4) (Z0 (pv 1) (Z0 (Ze I hr (Z0 (pv 3) (Z0 (pv 2) (Z0 (Yb (pv 0) rfl) Z7)))) Z7)))) (Z0 (Ze I hr (Z0 (Yb (pv 0) rfl) (Z0 (pv 1) (Z0 (Zf Zt (Yb (pv 0) rfl) (pv 2)) Z7)))) (Z0 (Ze I hr (Z0 (Yb (pv 0) rfl) (Z0 (pv 2) (Z0 (Zf Zt (Yb (pv 0) rfl) (pv 1)) Z7)))) (Z0 (Zf Zt (pv 3) (pv 2)) (Z0 (Yb (pv 0) rfl) Z7)))))))))),?_⟩
 have ep:las[pl]?=some (las[pl]'J5):=J7
 have E:=h4 pl _ ep;generalize las[pl]'J5=L at *
 refine⟨_,rfl,p,C,dx,_,_,rfl,h1,tc.cl,tc.nL,Xz,_,rfl,la,_,_,_,rfl,rfl,SqL.of h2,Zh (show (las.map V.ref)[pl]?=some (V.ref L) by rw[YI,ep];rfl),?_⟩;refine⟨_,rfl,p,C,dx,_,_,rfl,h1,tc.cl,tc.nL,Xz,la,rfl,⟨_,SqL.of h2⟩,λd hd=>?_⟩;refine⟨m,λi ys H2=>Same H H2/\∃ ns:List Addr,ys=ns.map V.ref/\ns.length=i/\∀ (t:Nat) (a:Addr),ns[t]?=some a->a≠d/\H2 a=some (.lst ((freedI (lineI n T t) (lineI n T pl) c T.b).map V.int)),Zy J5,⟨Same.new hd,[],rfl,rfl,λt a e=>by simp at e⟩,?_,?_⟩
 ·rintro i ys H2 hi ⟨S2,ns,rfl,l2,W⟩ l;have ei:las[i]?=some (las[i]'J5):=J7
  refine⟨⟨_,V.ref (las[i]'J5),SqL.of (S2 _ _ h2),J7⟩,?_⟩;rintro x H3 ⟨rfl,fx⟩;have ex:x=V.ref (las[i]'J5):=by
   have:=fx _ (SqL.of (S2 _ _ h2));rw[YI,ei] at this;exact (YR this).symm
  subst ex;refine Ym ?_;refine⟨_,rfl,_,rfl,_,rfl,_,rfl,p,C,dx,_,_,rfl,S2 _ _ h1,tc.cl,tc.nB,Va,?_⟩;refine⟨_,L,c,N,T.b,lineI n T i,lineI n T pl,rfl,S2 _ _ (h4 i _ ei),S2 _ _ E,by rw[Yq,Yq],by rw[Yq];omega,by rw[Yq];omega,K4 bd hi,K4 bd hp,bd.b,hb,hN,λa4 H4 O A X=>?_⟩;have a0:=A _ _ l;refine⟨a0,λq o e=>?_,ns++[a4],by rw[XF];rfl,by rw[XD,l2];rfl,λt a e=>?_⟩
  ·rw[Zc (Zd e hd)];exact A _ _ (S2 _ _ e)
  by_cases q:t<ns.length
  ·rw[JS q] at e;have:=W t a e;refine⟨this.1,?_⟩;rw[Zc this.1];exact A _ _ this.2
  rw[JQ J5] at e;have R:t - ns.length=0:=by
   have:=(YH.mp e).1;simp at this;omega
  rw[R] at e
  cases e;have Z:t=i:=J5
  subst Z;have y:a4≠d:=λz=>by rw[z] at O;rw[O] at l;cases l
  refine⟨y,?_⟩;rw[Zc y];exact X
 rintro ys H2 ⟨S2,ns,rfl,l2,W⟩ l;refine⟨⟨_,SqL.of (S2 _ _ h2),by simp[h3]⟩,?_⟩;refine⟨_,rfl,_,rfl,_,rfl,_,rfl,_,rfl,p,C,dx,_,_,rfl,S2 _ _ h1,tc.cl,tc.nB,Va,L,c,_,_,rfl,S2 _ _ E,by rw[YC,Yq];omega,λd1 H3 f3 M e3=>?_⟩;refine⟨d,pl,_,_,rfl,M _ _ l,by rw[YC];omega,λd2 H4 O A X=>?_⟩;have j:=(S2.trans M).trans A;refine⟨_,rfl,p,C,dx,_,_,rfl,j _ _ h1,tc.cl,tc.nO,X7,_,rfl,_,rfl,p,C,dx,_,_,rfl,j _ _ h1,tc.cl,tc.nH,V9,_,rfl,ha,_,_,_,rfl,rfl,SqL.of (j _ _ h6),Zh (Xb (Uy hc)),oa,pl,_,_,rfl,j _ _ h5,by rw[YC,U2];omega,λd3 H5 f5 J e5=>?_⟩;have r:=j.trans J;refine⟨_,rfl,p,C,dx,_,_,rfl,r _ _ h1,tc.cl,tc.nH,V9,_,rfl,_,rfl,p,C,dx,_,_,rfl,r _ _ h1,tc.cl,tc.nO,X7,_,rfl,oa,_,_,_,rfl,rfl,SqL.of (r _ _ h5),Zh (Xb (Vm hp)),ha,c,_,_,rfl,r _ _ h6,by rw[YC,Vp];omega,λd6 Y f6 G e6=>?_⟩;have B:=r.trans G;refine⟨_,rfl,_,rfl,L,_,_,_,rfl,rfl,SqL.of (B _ _ E),Zh (Xb (Xy (JC hc))),_,rfl,p,C,dx,_,_,rfl,B _ _ h1,tc.cl,tc.nK,Mo,λx v hx a1 y=>?_⟩;have SU:Same Y (upd (upd Y v (.own x)) x (.ins C v [])):=λq o e=>by
  rw[Zc (Zd e hx),Zc (Zd e a1)];exact e
 refine⟨x,v,_,_,_,_,_,rfl,Za,λH7 e7 S7=>⟨rfl,?_⟩⟩;have F:Same Y H7:=λq o e=>S7 q o (SU q o e) (Zd e hx);refine k x H7 (B.trans F) ⟨v,d2,d3,d6,ns.set pl d1,e7,F _ _ (G _ _ (J _ _ (by rw[X,Y0i]))),by rw[zF];exact l2,λi a e=>?_,F _ _ (G _ _ (by rw[e5,<-Z42 hp,Y0i])),F _ _ (by rw[e6,<-Z7x hc,Y0i])⟩;by_cases q:i=pl
 ·subst q;rw[JI J5] at e
  cases e;refine F _ _ (G _ _ (J _ _ (A _ _ ?_)));rw[e3,<-Z55 hc,Y0i]
 rw[qu (XQ q)] at e;refine F _ _ (G _ _ (J _ _ (A _ _ (M _ _ ?_))));rw[(W i a e).2,Z21 hc q]
inductive spFirst (C:Addr) (vs:TZ) (H:Hp) (Q:VK) (_z3:XK):Prop
 | mk (la:Addr) (m n:Nat) (las:TJ) (T:UC) (zz0:vs=[.ref la]) (zz1:H la=some (.lst (las.map V.ref))) (zz2:las.length=m+2) (zz3:(∀ (i:Nat) (a:Addr),las[i]?=some a->H a=some (.lst ((lineI n T i).map V.int)))) (zz4:m<=900) (zz5:n<=900) (zz6:T.b=1) (zz7:(∀ i,T.own i=n+i)) (zz8:(∀ j,T.hd j=j)) (zz9:∀ (q:Addr) (H':Hp),Same H H'->TabAt C H' q (m+2) n (n+m) T->Q (.ref q) H')
theorem Z4p (D:Def K mg "first_table" iQ ["lines"])(T0:Blt mg)(tc:TabC K mg C)(W:HasT P w K mg base C):Has P w K mg base 3 "first_table" ["lines"] (spFirst C):=by
 refine D.h9 (N:=["lines","width","owners"]) fsc λH Q hr h nd=>?_;obtain⟨la,m,n,las,Tb,rfl,h2,F,I,hm,hn,U,ho,L,k⟩:=h;obtain⟨fI,fdI,c,b,f⟩:=W;have d:=tc.mgC;have T:=T0;refine⟨_,(Z8 (Zi (i:=1) nd rfl xj (Zl U3 (Zw Zx rfl T.len zm (Z0 (Zf Zt (pv 0) Z9) Z7)) Z9))
  (Z8 (Zi (i:=2) nd rfl xj (Dm rfl rfl T.list rfl T.range (Z0 (pv 1) (Z0 (Zl X2 (pv 1) (Zw Zx rfl T.len zm (Z0 (pv 0) Z7))) Z7))))
  (Zb (Zg (Gs c b (hr.mono J6) rfl d f .nil Gv (Z0 (pv 0) (Z0 (pv 2) (Z0 (Dn rfl rfl T.list rfl T.range (Z0 (pv 1) Z7)) (Z0 Z9 (Z0 (Zf Zt (pv 2) (Vs W8 Z9)) Z7)))))))))),?_⟩
 have e0:las[0]?=some (las[0]'J5):=J7
 have B:=I 0 _ e0;generalize las[0]'J5=E at *
 have G:((((lineI n Tb 0).map V.int).length:Nat):Int) - 1=(n:Int):=by rw[YC,Yq];omega
 refine⟨_,rfl,la,_,_,_,rfl,rfl,SqL.of h2,Zh (show (las.map V.ref)[0]?=some (V.ref E) by rw[YI,e0];rfl),E,_,rfl,.inl (SqL.of B),?_⟩;refine⟨_,_,rfl,rfl,_,rfl,_,rfl,_,rfl,la,_,rfl,.inl (SqL.of h2),_,_,rfl,rfl,n,m+2,?_,J5,J5,λo p=>?_⟩
 ·show [V.int _,V.int (_+_)]=_;rw[G,YC,F];rfl
 refine⟨_,rfl,_,rfl,_,rfl,n,(by show [V.int _]=_;rw[G]),J5,λe s=>?_⟩;have l:o≠e:=λz=>by rw[<-z,Za] at s;cases s
 have S:(List.map (λk=>V.int ((n+k:Nat):Int)) (List.range (m+2))).length=m+2:=J7
 refine⟨_,rfl,_,rfl,o,_,_,_,rfl,rfl,SqL.of ((Zc l).trans Za),(show atI _ (-2)=some (V.int ((n+m:Nat):Int)) from ?_),λx g hx v R=>?_⟩
 ·unfold atI ixN;rw[S,YD J6,YG J5];show (List.map (λk=>V.int ((n+k:Nat):Int)) (List.range (m+2)))[(-2+((m+2:Nat):Int)).toNat]?=_;have:(-2+((m+2:Nat):Int)).toNat=m:=J5
  rw[this];simp
 have S2:Same H (upd (upd H o (.lst ((List.range (m+2)).map λk=>V.int ((n+k:Nat):Int)))) e (.lst ((List.range n).map λ(k:Nat)=>V.int (k:Int)))):=λq z y=>by
  rw[Zc (Zd (show upd H o _ q=some z by rw[Zc (Zd y p)];exact y) s),Zc (Zd y p)];exact y
 have t:upd (upd H o (.lst ((List.range (m+2)).map λk=>V.int ((n+k:Nat):Int)))) e (.lst ((List.range n).map λ(k:Nat)=>V.int (k:Int))) o=some (.lst ((ownI (m+2) Tb).map V.int)):=by
  rw[Zc l,Za];unfold ownI;simp[ho,Y14]
 have A:upd (upd H o (.lst ((List.range (m+2)).map λk=>V.int ((n+k:Nat):Int)))) e (.lst ((List.range n).map λ(k:Nat)=>V.int (k:Int))) e=some (.lst ((hdI n Tb).map V.int)):=by
  rw[Za];unfold hdI;simp[L,Y14]
 generalize upd (upd H o (.lst ((List.range (m+2)).map λk=>V.int ((n+k:Nat):Int)))) e (.lst ((List.range n).map λ(k:Nat)=>V.int (k:Int)))=u at *
 have M:Same u (upd (upd u g (.own x)) x (.ins C g [])):=λq o e=>by
  rw[Zc (Zd e hx),Zc (Zd e v)];exact e
 refine⟨x,g,_,_,_,_,_,rfl,Za,λJ O X=>⟨rfl,?_⟩⟩;have r:Same u J:=λq o e=>X q o (M q o e) (Zd e hx);have j:=S2.trans r;exact k x J j ⟨g,la,o,e,las,by rw[U];exact O,j _ _ h2,F,λi a y=>j _ _ (I i a y),r _ _ t,r _ _ A⟩
def DrEnd (m n lk i0 v:Nat)(col:Nat->_v.Vec)(rhs:_v.Vec)(Ex:_v.Tab->Prop)(T:UC):Prop :=
 _v.Inv m n col rhs T/\_v.Feas m n lk T/\Ex T/\((T.own i0=v/\∀ j,j<n->T.hd j≠lk->T.L i0 j<=0) \/ ∃ a c,a.own i0=v/\_v.Inv m n col rhs a/\_v.Step m n lk i0 a i0 c/\T=_v.piv a i0 c)
inductive spDriven (C:Addr) (vs:TZ) (H:Hp) (Q:VK) (_z3:XK):Prop
 | mk (p:Addr) (m n lk i0 N v:Nat) (col:Nat->_v.Vec) (rhs:_v.Vec) (Ex:_v.Tab->Prop) (T:UC) (zz0:vs=[.ref p,.int (v:Int)]) (zz1:TabAt C H p m n lk T) (zz2:i0<m) (zz3:m<=900) (zz4:n<=900) (zz5:N<=400000) (zz6:_v.Inv m n col rhs T) (zz7:_v.Feas m n lk T) (zz8:Ex T) (zz9:T.own i0=v) (zz10:(∀ T',_v.Inv m n col rhs T'->TabBd N m n T')) (zz11:(∀ T' c,_v.Inv m n col rhs T'->_v.Feas m n lk T'->Ex T'->T'.own i0=v->c<n->T'.hd c≠lk->0<T'.L i0 c->∃ k,k<m/\elig lk c T' k)) (zz12:(∀ T' pl c,_v.Inv m n col rhs T'->Ex T'->_v.Step m n lk i0 T' pl c->Ex (_v.piv T' pl c))) (zz13:∀ (q:Addr) (H':Hp) (T':UC),Same H H'->TabAt C H' q m n lk T'->DrEnd m n lk i0 v col rhs Ex T'->Q (.ref q) H')
theorem Z1n (D:Def K mg "driven" jP UL)(tc:TabC K mg C)(gK:Has P w K mg base 2 "helping" UL (spHelping C))(fU:Has P w K mg base 3 "exchanged" UU (spExch C))(gD:Has P w K mg base 2 "going_out" ["table","column"] (spGoing C)):Has P w K mg base 4 "driven" UL (spDriven C):=by
 refine D.h9 (N:=["table","owner","column"]) fsc λH Q hr h nd=>?_;obtain⟨p,m,n,lk,i0,N,v,col,rhs,Ex,T,rfl,J,s,hm,hn,hN,I0,F0,X0,hv,y,O,A,kk⟩:=h;refine⟨_,(Z8 (Qd JL (Zn We (pv 1) (Yb (pv 0) rfl) rfl)
   (Z8 (Zi (i:=2) nd rfl xj (Ze gK hr (Z0 (pv 0) (Z0 (pv 1) Z7))))
   (Z8 (Y9 (Zn Md (pv 2) Xr (Zq _))
    (Zb (Zg (pv 0)))
    Zv)
   (Zb (Zi (i:=0) nd rfl xj (Ze fU hr (Z0 (pv 0) (Z0 (Ze gD hr (Z0 (pv 0) (Z0 (pv 2) Z7))) (Z0 (pv 2) Z7)))))))))
  (Zb (Zg (pv 0)))),?_⟩
 refine⟨λX σ H'=>Same H H'/\∃ (q:Addr) (T':UC) (x:Option V),σ=[some (.ref q),some (.int (v:Int)),x]/\TabAt C H' q m n lk T'/\((∃ k S P Cc,_v.Run m n lk i0 col rhs k S P Cc/\T'=S k/\T'.own i0=v/\Ex T'/\X=(n+m) ^ m - k) \/ (X=0/\T'.own i0≠v/\(∃ c,c<n/\T'.hd c=v)/\DrEnd m n lk i0 v col rhs Ex T')),⟨_,Same.refl _,p,T,none,rfl,J,.inl ⟨0,_,_,_,_v.Run.start s I0 F0,rfl,hv,X0,rfl⟩⟩,?_⟩;rintro X σ H1 ⟨S1,q,T',x,rfl,d,inv⟩;obtain⟨dx,la,oa,ha,las,h1,h2,h3,h4,h5,h6⟩:=id d;refine⟨_,rfl,_,rfl,q,C,dx,_,_,rfl,h1,tc.cl,tc.nO,X7,Ml h5 ?_⟩;refine⟨_,rfl,?_⟩;rcases inv with ⟨k,S,PP,Cc,R,rfl,a,E,U⟩ | ⟨U,a,⟨c,hc,G⟩,g⟩
 ·have a1:=R.short;obtain⟨f,I⟩:=R.inv k (YJ k);refine Xt (λ_=>?_) (λh=>absurd (XE (mem_ownI.mpr ⟨i0,s,a⟩)) h);refine⟨λσ' H'=>_,λσ' H' h=>h,?_⟩;refine⟨_,rfl,_,rfl,q,m,n,lk,i0,S k,by rw[a];rfl,d,TabOk.of f,s,J5,J5,λH2 S2=>⟨λc hc hh hf=>?_,λM=>?_⟩⟩
  ·have o:=d.same S2;have hd:∀ j,helps lk (S k) i0 j=true ↔ 0<(S k).L i0 j/\(S k).hd j≠lk:=λj=>by unfold helps;simp
   obtain⟨l,u⟩:=(hd c).mp hh;refine⟨_,rfl,rfl,_,rfl,Qv (by intro z;cases z) ?_⟩;refine⟨_,rfl,_,rfl,_,rfl,q,m,n,lk,c,N,S k,rfl,o,hc,J5,y _ f,hN,O _ c f I E a hc u l,λH3 b Z B t W=>?_⟩;refine⟨_,rfl,q,m,n,lk,b,c,N,S k,rfl,o.same Z,B,hc,hm,hn,y _ f,hN,f.pos,λq2 H4 S4 r=>?_⟩;have st:_v.Step m n lk i0 (S k) b c:=⟨B,hc,u,l,λj hj Y F=>hf j hj ((hd j).mpr ⟨F,Y⟩),t.1,t.2,λi hi h1 h2=>W i hi ⟨h1,h2⟩⟩;have SS:=((S1.trans S2).trans Z).trans S4;by_cases e:b=i0
   ·subst e;refine⟨0,J5,SS,q2,_,_,rfl,r,.inr ⟨rfl,λz=>?_,⟨c,hc,?_⟩,f.piv B hc t.2,st.feas f I,A _ _ _ f E st,.inr ⟨S k,c,a,f,st,rfl⟩⟩⟩
    ·rw[_v.own_p] at z;exact f.ne B hc (a.trans z.symm)
    show _v.up (S k).hd c ((S k).own b) c=v;unfold _v.up;rw[YG rfl];exact a
   obtain⟨S',P',C',R',e'⟩:=R.more st e;have a0:=R'.short;refine⟨(n+m) ^ m - (k+1),J5,SS,q2,_,_,rfl,r,.inl ⟨k+1,S',P',C',R',e'.symm,?_,A _ _ _ f E st,rfl⟩⟩;rw[_v.own_ne (XQ e)];exact a
  refine⟨_,rfl,rfl,_,rfl,K6 rfl ⟨_,rfl,kk q H2 (S k) (S1.trans S2) (d.same S2) ⟨f,I,E,.inl ⟨a,λj hj hl=>?_⟩⟩⟩⟩;have:=M j hj;unfold helps at this;simp[hl] at this;exact this
 refine Xt (λh=>?_) (λh=>?_)
 ·obtain⟨i,hi,e⟩:=mem_ownI.mp (XI h);exact absurd (e.trans G.symm) (g.1.ne hi hc)
 exact⟨_,rfl,kk q H1 T' S1 d g⟩
end
section
variable {P:TU}{base:Heap}
inductive spIsIn (K:TR) (vs:TZ) (H:Hp) (Q:VK) (_z3:XK):Prop
 | mk (i c:Nat) (o:TW) (v:V) (zz0:vs=[.int i,v]) (zz1:EvAt K H c o v) (zz2:i<c) (zz3:Q (.bl (inE o i)) H)
def Z95 {H:Hp}{c i:Nat}{o:TW}{v:V}{Q:VK}(h:EvAt K H c o v)(hi:i<c)(q:Q (.bl (inE o i)) H) :
  if decide (v=V.non)=true then Q (.bl true) H else rIn K false (.int i) v H Q:=by
 cases o with
 | none =>
  have e:v=.non:=h;exact K6 e q
 | some p =>
  obtain⟨a,rfl,h⟩:=h;refine Qv (by intro z;cases z) ⟨a,_,rfl,.inr h,rfl,Ss _,?_⟩;show Q (.bl (inV (.int (i:Int)) ((evI c p).map V.int))) H;rw[Qz];have e:decide ((i:Int)∈evI c p)=p i:=by
   rw[GF,zN,F6];simp[hi]
  rw[e];exact q
theorem Z7k (D:Def K mg "is_in" kG UV):Has P w K mg base 1 "is_in" UV (spIsIn K):=by
 refine D.h9 (N:=UV) fsc λH Q hr h nd=>?_;obtain⟨i,c,o,v,rfl,a,hi,q⟩:=h;refine⟨_,(Zb (Zg (Z8n (Xi Md (pv 1) Xr (Zq _)) (M3 (Xi We (pv 0) (pv 1) rfl))))),?_⟩;refine⟨_,rfl,rfl,_,rfl,?_⟩;have:=Z95 (Q:=Q) a hi q;refine Z57 (λe=>?_) (λe=>?_)
 ·rw[e] at this;rw[YG rfl] at this;exact this
 rw[e] at this;rw[YD YO] at this;exact⟨_,rfl,_,rfl,this⟩
inductive spCut (K:TR) (vs:TZ) (H:Hp) (Q:VK) (_z3:XK):Prop
 | mk (a:Addr) (v:V) (rs:UA) (o:TW) (zz0:vs=[.ref a,v]) (zz1:RowAt K H a rs) (zz2:EvAt K H rs.length o v) (zz3:rs.length<=1000) (zz4:∀ p H',Same H H'->RowAt K H' p (cutR o rs)->Q (.ref p) H')
theorem Z8v (D:Def K mg "cut" kT UW)(T:Blt mg)(M:Has P w K mg base 1 "is_in" UV (spIsIn K))(F:Con K mg "NOUGHT" (0,1)):Has P w K mg base 2 "cut" UW (spCut K):=by
 refine D.h9 (N:=UW) fsc λH Q hr h nd=>?_;obtain⟨a,v,rs,o,rfl,⟨xs,z,t⟩,G,hl,k⟩:=h;obtain⟨b,c,f⟩:=F;have s:(["world","worth","event"]:List Str).Nodup:=J8
 refine⟨_,(Zb (Zg (Y6 Ya rfl T.tuple XY (Z0 (Yd (ox:=none) (N:=["world","worth","event"]) (k:=2) (fv:=[1]) rfl (Z3y rfl T.enumerate (Z0 (pv 0) Z7))
  (λ_ _ _ _ _=>Wb (n:=2) rfl (Y3 (Zj (i:=0) s rfl (Or.inl rfl)) (Y3 (Zj (i:=1) s rfl (Or.inl rfl)) Xh))) (λ_ _ _ _ _=>Y8) (λ_ _ _ _ _=>(U1 (Yz (Ze M hr (Z0 (pv 0) (Z0 (pv 2) Z7)))) (pv 1) (Yt (v:=.ref b) rfl c rfl))) Xp) Z7)))),?_⟩
 refine⟨_,rfl,a,rfl,⟨_,z⟩,λd hd=>?_⟩;have lx:=t.len;refine⟨rs.length,λi ys H2=>Same H H2/\Rs K H2 ((cutR o rs).take i) ys,Zy hl,⟨Same.new hd,.nil⟩,?_,?_⟩
 ·rintro i ys H2 hi ⟨S2,R2⟩ g;refine⟨⟨xs,Zo S2 z,J5⟩,?_⟩;rintro x O ⟨p,x0,rfl,hp,rfl,E⟩;obtain⟨r,L,J⟩:=t.back (E xs (Zo S2 z));have j:Same H2 (upd H2 p (.tup [.int (i:Int),x0])):=Same.new hp;have A:=J.ext ((Ext.same S2).trans (Ext.same j));refine Tl (SqT.of Za) ?_;refine⟨_,rfl,_,rfl,i,rs.length,o,v,rfl,(G.same S2).same j,hi,_,rfl,?_⟩;have I:d≠p:=Zd g hp;have u:upd H2 p (.tup [.int (i:Int),x0]) d=some (.lst ys):=j _ _ g;have m:∀ y,IsR K (upd H2 p (.tup [.int (i:Int),x0])) (if inE o i then r else (0,1)) y →
    upd H2 p (.tup [.int (i:Int),x0]) d=some (.lst ys)/\Same H (upd (upd H2 p (.tup [.int (i:Int),x0])) d (.lst (ys++[y])))/\Rs K (upd (upd H2 p (.tup [.int (i:Int),x0])) d (.lst (ys++[y]))) ((cutR o rs).take (i+1)) (ys++[y]):=λy C=>by
   refine⟨u,λq o' e=>?_,?_⟩
   ·rw[Zc (Zd e hd)];exact j _ _ (S2 _ _ e)
   rw[Ye (Ww L)];have B:Ext (upd H2 p (.tup [.int (i:Int),x0])) (upd (upd H2 p (.tup [.int (i:Int),x0])) d (.lst (ys++[y]))):=Ext.upd u;exact (R2.ext ((Ext.same j).trans B)).snoc (C.ext B)
  refine Z57 (λe=>?_) (λe=>?_)
  ·exact⟨_,rfl,m _ (by rw[e,YG rfl];exact A)⟩
  exact m _ (by rw[e,YD YO];exact⟨_,rfl,f _⟩)
 rintro ys H2 ⟨S2,R2⟩ g;refine⟨⟨xs,Zo S2 z,J5⟩,d,ys,rfl,.inl ⟨SqL.of g,λl hl'=>?_⟩⟩;rw[YW (by rw[Yo];omega)] at R2;exact k l _ (S2.trans (Same.new hl')) ⟨ys,SqT.of Za,R2.ext (Ext.new hl')⟩
inductive spLCut (K:TR) (vs:TZ) (H:Hp) (Q:VK) (_z3:XK):Prop
 | mk (a:Addr) (v:V) (xs:TZ) (rs:UA) (o:TW) (zz0:vs=[.ref a,v]) (zz1:(SqL K H a xs \/ SqT K H a xs)) (zz2:Rs K H rs xs) (zz3:EvAt K H rs.length o v) (zz4:rs.length<=1000) (zz5:∀ p H',Same H H'->RowAt K H' p (cutR o rs)->Q (.ref p) H')
def Ph (rs:UA):cutR none rs=rs:=by
 apply Y15;intro i
 cases e:rs[i]? with
 | none=>rw[je (by rw[Yo];exact (List.getElem?_eq_none_iff.mp e))]
 | some r=>rw[Ww e];rfl
theorem Z7i (D:Def K mg "_law_cut" kF UX)(T:Blt mg):Has P w K mg base 2 "_law_cut" UX (spLCut K):=by
 refine D.h9 (N:=UX) fsc λH Q hr h nd=>?_;obtain⟨a,v,xs,rs,o,rfl,f,c,y,hl,k⟩:=h;have s:(["_law_k","_law_row_here","_law_event_here"]:List Str).Nodup:=J8
 refine⟨_,(Z8 (Y9 (Zn Md (pv 1) Xr (Zq _))
   (Zb (Zg (Y6 Ya rfl T.tuple XY (Z0 (pv 0) Z7))))
   Zv)
  (Zb (Zg (Y6 Ya rfl T.tuple XY (Z0 (Yd (ox:=none) (N:=["_law_k","_law_row_here","_law_event_here"]) (k:=1) (fv:=[0,1]) rfl (Yy rfl T.range (Z0 (Zw Zx rfl T.len zm (Z0 (pv 0) Z7)) Z7))
  (λ_ _ _ _ _=>Zj (i:=0) s rfl xj) (λ_ _ _ _ _=>Y8) (λ_ _ _ _ _=>(U1 (Zn (Jg (K:=K)) (pv 0) (pv 2) rfl) (Zf (Z94 (K:=K)) (pv 1) (pv 0)) (Yl (Z0 Z9 (Z0 Z9 Z7))))) Zu) Z7))))),?_⟩
 have lx:=c.len;refine⟨_,rfl,rfl,_,rfl,?_⟩
 cases o with
 | none =>
  have e:v=.non:=y;refine K6 e ?_;refine⟨_,rfl,a,xs,rfl,?_⟩;rcases f with f | f
  ·exact .inl ⟨f,λl hl'=>k l _ (Same.new hl') ⟨xs,SqT.of Za,by rw[Ph];exact c.ext (Ext.new hl')⟩⟩
  exact .inr ⟨f,k a H (Same.refl _) ⟨xs,f,by rw[Ph];exact c⟩⟩
 | some p =>
  obtain⟨B,rfl,t⟩:=y;refine Qv (by intro z;cases z) ?_;refine⟨_,rfl,a,xs,rfl,f,(xs.length:Int),rfl,J5,J5,λd hd=>?_⟩;have A:(xs.length:Int).toNat=xs.length:=J5
  rw[A];refine⟨xs.length,λi ys H2=>Same H H2/\Rs K H2 ((cutR (some p) rs).take i) ys,Zy J5,⟨Same.new hd,.nil⟩,?_,?_⟩
  ·rintro i ys H2 hi ⟨S2,R2⟩ b;refine⟨hi,?_⟩;rintro x m ⟨rfl,rfl⟩;have e0:(0+(i:Int))=((i:Nat):Int):=J5
   rw[e0];refine Ym ?_;have j:i<rs.length:=J5
   have u:rs[i]?=some rs[i]:=by simp[j]
   obtain⟨x0,ex,C⟩:=c.at u;have r:SqL K m a xs \/ SqT K m a xs:=f.elim (λz=>.inl (X9 S2 z)) λz=>.inr (Zo S2 z);refine⟨_,rfl,_,rfl,B,_,rfl,.inr (Zo S2 t),rfl,Ss _,_,rfl,?_⟩;have ev:inV (.int (i:Int)) ((evI rs.length p).map V.int)=inE (some p) i:=by
    rw[Qz,GF,zN,F6];show _ ↔ p i=true;simp[j]
   show if inV (.int (i:Int)) ((evI rs.length p).map V.int)=true then _ else _
   rw[ev];refine Z57 (λe=>?_) (λe=>?_)
   ·refine⟨_,rfl,_,rfl,a,xs,_,_,rfl,rfl,r,Zh ex,b,λq o' e=>?_,?_⟩
    ·rw[Zc (Zd e hd)];exact S2 _ _ e
    rw[Ye (Ww u),e,YG rfl];exact (R2.ext (Ext.upd b)).snoc ((C.ext (Ext.same S2)).ext (Ext.upd b))
   refine⟨sz2,λp hp=>?_⟩;have n:Same m (upd m p (.tup [.int 0,.int 1])):=Same.new hp;have g:=n _ _ b;refine⟨g,λq o' e=>?_,?_⟩
   ·rw[Zc (Zd e hd)];exact n _ _ (S2 _ _ e)
   rw[Ye (Ww u),e,YD YO];exact (R2.ext ((Ext.same n).trans (Ext.upd g))).snoc ⟨p,rfl,(Ext.upd g).sq (SqT.of Za)⟩
  rintro ys H2 ⟨S2,R2⟩ b;refine⟨YJ _,d,ys,rfl,.inl ⟨SqL.of b,λl hl'=>?_⟩⟩;rw[YW (by rw[Yo];omega)] at R2;exact k l _ (S2.trans (Same.new hl')) ⟨ys,SqT.of Za,R2.ext (Ext.new hl')⟩
inductive spPaper (K:TR) (vs:TZ) (H:Hp) (Q:VK) (_z3:XK):Prop
 | mk (c:Nat) (v:V) (o:TW) (zz0:vs=[.int c,v]) (zz1:EvAt K H c o v) (zz2:1<=c) (zz3:c<=1000) (zz4:∀ p H',Same H H'->RowAt K H' p (cutR o (List.replicate c (1,1)))->Q (.ref p) H')
theorem Rs.rep {H:Hp}{r:Rat}{v:V}(h:IsR K H r v):∀ n:Nat,Rs K H (List.replicate n r) (List.replicate n v)
 | 0=>.nil
 | n+1=>.cons h (Rs.rep h n)
theorem Z4h (D:Def K mg "paper_of" i7 UY)(g:Has P w K mg base 2 "cut" UW (spCut K))(r:Con K mg "ONE" (1,1)):Has P w K mg base 3 "paper_of" UY (spPaper K):=by
 refine D.h9 (N:=UY) fsc λH Q hr h nd=>?_;obtain⟨c,v,o,rfl,l,h2,hl,k⟩:=h;obtain⟨a,d,b⟩:=r;refine⟨_,(Zb (Zg (Ze g hr (Z0 (Zl Z43 (Yl (Z0 (Yt (v:=.ref a) rfl d rfl) Z7)) (pv 0)) (Z0 (pv 1) Z7))))),?_⟩;refine⟨sz1,λt m=>⟨_,rfl,t,c,[.ref a],rfl,rfl,SqT.of Za,J5,J7,by simpa using hl,λp H1 e f=>?_⟩⟩;have S1:Same H (upd H t (.tup [.ref a])):=Same.new m;have j:(c:Int).toNat=c:=J5
 have q:(List.replicate (c:Int).toNat [V.ref a]).flatten=List.replicate c (V.ref a):=by rw[j];simp
 rw[q] at f;have S2:=S1.trans e;refine⟨_,rfl,p,v,List.replicate c (1,1),o,rfl,⟨_,f,Rs.rep ⟨a,rfl,b _⟩ c⟩,?_,by simpa using hl,λi H' s n=>k i H' (S2.trans s) n⟩;rw[GY];exact l.same S2
inductive spCommon (K:TR) (vs:TZ) (H:Hp) (Q:VK) (_z3:XK):Prop
 | mk (a:Addr) (xs:TZ) (rs:UA) (n:Nat) (D:Int) (Ws:TV) (zz0:vs=[.ref a]) (zz1:(SqL K H a xs \/ SqT K H a xs)) (zz2:Rs K H rs xs) (zz3:RepL n D Ws rs) (zz4:n<=200000) (zz5:Q (.int (lcmB rs)) H)
abbrev Z4 (P:TU)(w:World)(K:TR)(mg:TB)(base:Heap):Prop:=Has P w K mg base 2 "common_bottom" ["several"] (spCommon K)
theorem Z1p (D:Def K mg "common_bottom" iO ["several"])(k:Has P w K mg base 1 "common_divisor" UH spGcd):Z4 P w K mg base:=by
 refine D.h9 (N:=["several","least","one"]) fsc λH Q hr h nd=>?_;obtain⟨a,xs,rs,n,D,Ws,rfl,j,c,rep,hn,q⟩:=h;refine⟨_,(Z8 (Zi (i:=1) nd rfl xj Z9)
  (Z8 (Xq JL rfl (Z75 (pv 0)) (Zj (i:=2) nd rfl (Or.inl rfl))
   (Zb (Zi (i:=1) nd rfl xj (Zl Wc (Zl Zp (pv 1) (Zf Yi (pv 2) Z9)) (Ze k hr (Z0 (pv 1) (Z0 (Zf Yi (pv 2) Z9) Z7)))))))
  (Zb (Zg (pv 1))))),?_⟩
 have lx:=c.len;refine⟨_,rfl,Z5e (K:=K) (a:=a) (xs:=xs) (λi σ H'=>H'=H/\∃ x:Option V,σ=[some (.ref a),some (.int (lcmB (rs.take i))),x]) j ⟨rfl,none,rfl⟩ (λi σ H' _ h=>by rw[h.1];exact Same.refl _) ?_ ?_⟩
 ·rintro i x σ H1 hi ⟨rfl,x0,rfl⟩;obtain⟨r,f,b,rfl,e⟩:=c.back hi;have g:=rep.good r (YE f);have lo:=(rep.take i).least;have hg:((Int.gcd (lcmB (rs.take i)) r.2:Nat):Int)≠0:=by
   have:=Y0K r.2 (show lcmB (rs.take i)≠0 by have:=lo.pos;omega);omega
  have d:Bd n ((Int.gcd (lcmB (rs.take i)) r.2:Nat):Int):=g.b2.of_le' (Xe g.pos (Y0d _ _));refine⟨_,rfl,_,rfl,b,_,_,rfl,rfl,e,_,_,rfl,rfl,lo.bD.mulOk g.b2 J5 J5,_,rfl,_,rfl,b,_,_,rfl,rfl,e,_,_,rfl,_,_,rfl,rfl,⟨hg,d.log J5⟩,?_⟩;refine⟨rfl,some (.ref b),?_⟩;rw[C9 f];rfl
 rintro σ H1 ⟨rfl,x0,rfl⟩;rw[<-lx,YW (YJ _)];exact⟨_,rfl,q⟩
inductive spWholeBy (K:TR) (vs:TZ) (H:Hp) (Q:VK) (_z3:XK):Prop
 | mk (a:Addr) (D:Int) (xs:TZ) (rs:UA) (n:Nat) (zz0:vs=[.ref a,.int D]) (zz1:(SqL K H a xs \/ SqT K H a xs)) (zz2:Rs K H rs xs) (zz3:(∀ r∈rs,Good n r)) (zz4:Bd n D) (zz5:0<D) (zz6:n<=200000) (zz7:rs.length<=1000) (zz8:∀ (d:Addr) (H':Hp),H d=none->Same H H'->H' d=some (.lst ((wholeB rs D).map V.int))->Q (.ref d) H')
theorem Dq (D:Def K mg "whole_by" i3 UZ):Has P w K mg base 1 "whole_by" UZ (spWholeBy K):=by
 refine D.h9 (N:=UZ) fsc λH Q hr h nd=>?_;obtain⟨a,D,xs,rs,n,rfl,s,f,g,bD,v,hn,hl,k⟩:=h;have l:(["one","bottom"]:List Str).Nodup:=J8
 refine⟨_,(Zb (Zg (Yd (ox:=none) (N:=["one","bottom"]) (k:=1) (fv:=[1]) rfl (Z76 (pv 0))
  (λ_ _ _ _ _=>Zj (i:=0) l rfl xj) (λ_ _ _ _ _=>Y8) (λ_ _ _ _ _=>(Zl Zp (Zf (Z7w (K:=K)) (pv 0) Z9) (Zl Wc (pv 1) (Zf (Z7v (K:=K)) (pv 0) Z9)))) Zu))),?_⟩
 have lx:=f.len;refine⟨_,rfl,a,xs,rfl,s,λJ G d hd=>?_⟩;refine⟨xs.length,λi ys H2=>Same H H2/\ys=((wholeB rs D).take i).map V.int,Zy J5,⟨Same.new hd,rfl⟩,?_,?_⟩
 ·rintro i ys H2 hi ⟨S2,rfl⟩ c;refine⟨G.go i H2 S2 hi,?_⟩;intro x t p;obtain⟨rfl,ex⟩:=G.yld i H2 x t S2 p;obtain⟨r,o,u⟩:=f.back ex;obtain⟨b,rfl,m⟩:=u.ext (Ext.same S2);have j:=g r (YE o);refine Ym ?_;refine⟨_,rfl,b,_,_,rfl,rfl,m,_,rfl,_,rfl,b,_,_,rfl,rfl,m,_,_,rfl,rfl,⟨by have:=j.pos;omega,j.b2.log J5⟩,_,_,rfl,rfl,j.b1.mulOk (bD.of_le' (Mn v j.pos)) J5 J5,c,λq o' e=>?_,?_⟩
  ·rw[Zc (Zd e hd)];exact S2 _ _ e
  have:(wholeB rs D)[i]?=some (r.1*D.fdiv r.2):=by unfold wholeB;rw[YI,o];rfl
  rw[Ye this,XF];rfl
 rintro ys H2 ⟨S2,rfl⟩ c;refine⟨G.stop H2 S2,?_⟩;rw[YW (by unfold wholeB;rw[YC];omega)] at c;exact k d H2 hd S2 c
def rowZ (rs:UA):List Int:=wholeB rs (lcmB rs)
def V4 (rs:UA):(rowZ rs).length=rs.length:=by unfold rowZ wholeB;rw[YC]
inductive spWholeLine (K:TR) (vs:TZ) (H:Hp) (Q:VK) (_z3:XK):Prop
 | mk (a:Addr) (e:Int) (xs:TZ) (rs:UA) (n:Nat) (D:Int) (Ws:TV) (zz0:vs=[.ref a,.int e]) (zz1:(SqL K H a xs \/ SqT K H a xs)) (zz2:Rs K H rs xs) (zz3:RepL n D Ws rs) (zz4:n<=200000) (zz5:rs.length<=900) (zz6:∀ (d:Addr) (H':Hp),H d=none->Same H H'->H' d=some (.lst ((rowZ rs++[e]).map V.int))->Q (.ref d) H')
theorem Lv (D:Def K mg "whole_line" iR ["row","end"])(i:Z4 P w K mg base)(l:Has P w K mg base 1 "whole_by" UZ (spWholeBy K)):Has P w K mg base 3 "whole_line" ["row","end"] (spWholeLine K):=by
 refine D.h9 (N:=["row","end"]) fsc λH Q hr h nd=>?_;obtain⟨a,e,xs,rs,n,D,Ws,rfl,g,b,rep,hn,hl,k⟩:=h;refine⟨_,(Zb (Zg (Zl Z16 (Ze l hr (Z0 (pv 0) (Z0 (Ze i hr (Z0 (pv 0) Z7)) Z7))) (Xs (Z0 (pv 1) Z7))))),?_⟩;have le:=rep.least;refine⟨_,rfl,_,rfl,a,xs,rs,n,D,Ws,rfl,g,b,rep,hn,a,lcmB rs,xs,rs,n,rfl,g,b,rep.good,le.bD,le.pos,hn,J5,λd H1 j S1 e1=>?_⟩;refine⟨_,rfl,sz1,λp hp=>?_⟩;have c:upd H1 p (.lst [.int e]) d=some (.lst ((rowZ rs).map V.int)):=by rw[Zc (Zd e1 hp)];exact e1
 refine⟨d,p,_,_,rfl,rfl,c,Za,?_,λq hq=>?_⟩
 ·rw[YC,V4];exact Zy (show rs.length+1<=1000 by omega)
 have f:H q=none:=by
  cases z:H q with
  | none=>rfl
  | some o =>
   have z2:=S1 _ _ z;rw[Zc (Zd z2 hp)] at hq;rw[z2] at hq
   cases hq
 refine k q _ f (λx o z=>?_) ?_
 ·have z2:=S1 _ _ z;rw[Zc (Zd (show upd H1 p (.lst [.int e]) x=some o by rw[Zc (Zd z2 hp)];exact z2) hq),Zc (Zd z2 hp)];exact z2
 rw[Za,XF];rfl
end
section
variable {P:TU}{base:Heap}
def AOf (rss:UB)(k v:Nat):Int:=(rowZ (rss.getD k [])).getD v 0
def rowF (rs:UA)(v:Nat):Int:=(rowZ rs).getD v 0
def papR (c:Nat)(o:TW):List Rat:=cutR o (List.replicate c (1,1))
def T0S (c:Nat)(rss:UB)(o:TW)(gs:UA):_v.Tab:=_v.T0 c rss.length (AOf rss) (rowF (papR c o)) (rowF gs)
inductive spStart (K:TR) (C:Addr) (vs:TZ) (H:Hp) (Q:VK) (_z3:XK):Prop
 | mk (l g:Addr) (ve:V) (c n:Nat) (rss:UB) (o:TW) (gs:UA) (zz0:vs=[.int (c:Int),.ref l,ve,.ref g]) (zz1:RowsAt K H l rss) (zz2:EvAt K H c o ve) (zz3:RowAt K H g gs) (zz4:gs.length=c) (zz5:(∀ rs∈rss,rs.length=c/\∃ D Ws,RepL n D Ws rs)) (zz6:(∃ D Ws,RepL n D Ws gs)) (zz7:1<=n) (zz8:n<=200000) (zz9:1<=c) (zz10:c<=800) (zz11:rss.length<=800) (zz12:∀ (q:Addr) (H':Hp),Same H H'->TabAt C H' q (rss.length+2) c (c+rss.length) (T0S c rss o gs)->Q (.ref q) H')
def U4 {c:Nat}{e:Int}{F:TY}(hl:rs.length=c)(h:∀ j,j<c->F j=(rowZ rs).getD j 0)(a:F c=e):rowZ rs++[e]=(List.range (c+1)).map F:=by
 refine Vb (by simp[V4,hl]) λi hi=>?_;by_cases q:i<c
 ·rw[JS (by rw[V4];omega),h i q];simp[List.getD,show i<(rowZ rs).length by rw[V4];omega]
 have:i=c:=J5
 subst this;rw[JQ (by rw[V4];omega),a];simp[V4,hl]
theorem Z4c (D:Def K mg "start" jV VA)(eR:Has P w K mg base 3 "whole_line" ["row","end"] (spWholeLine K))(eO:Has P w K mg base 3 "paper_of" UY (spPaper K))(fR:Has P w K mg base 3 "first_table" ["lines"] (spFirst C)):Has P w K mg base 4 "start" VA (spStart K C):=by
 refine D.h9 (N:=["count","rows","event","goal","lines"]) fsc λH Q hr h nd=>?_;obtain⟨l,g,ve,c,n,rss,o,gs,rfl,⟨as,hl,hp⟩,hv,hg,gl,J,⟨Dg,Wg,rg⟩,a3,hn,a5,hc,hm,k⟩:=h;have X:(["row"]:TF).Nodup:=J8
 refine⟨_,(Z8 (X6 (i:=4) (ox:=none) (N:=["row"]) (k:=1) (fv:=[]) nd rfl xj rfl (Yk (pv 1))
  (λ_ _ _ _ _=>Zj (i:=0) X rfl xj) (λ_ _ _ _ _=>Y8) (λ_ _ _ _ _=>(Ze eR hr (Z0 (pv 0) (Z0 Z9 Z7)))) Zu)
  (Z8 (Xl (Vt XZ GK GL Xk (pv 4) (Z0 (Ze eR hr (Z0 (Ze eO hr (Z0 (pv 0) (Z0 (pv 2) Z7))) (Z0 Z9 Z7))) Z7)))
  (Z8 (Xl (Vt XZ GK GL Xk (pv 4) (Z0 (Ze eR hr (Z0 (pv 3) (Z0 Z9 Z7))) Z7)))
  (Zb (Zg (Ze fR hr (Z0 (pv 4) Z7))))))),?_⟩
 have lx:=YY hp;refine⟨_,rfl,l,rfl,⟨_,SqL.of hl⟩,λd hd=>?_⟩;refine⟨as.length,λi ys H2=>Same H H2/\∃ ns:List Addr,ys=ns.map V.ref/\ns.length=i/\∀ (t:Nat) (a:Addr),ns[t]?=some a->a≠d/\H2 a=some (.lst ((rowZ (rss.getD t [])++[0]).map V.int)),Zy J5,⟨Same.new hd,[],rfl,rfl,λt a e=>by simp at e⟩,?_,?_⟩
 ·rintro i ys H2 hi ⟨S2,ns,rfl,l2,q2⟩ b;have ei:as[i]?=some (as[i]'hi):=J7
  have O:rss[i]?=some (rss[i]'J5):=J7
  refine⟨⟨_,V.ref (as[i]'hi),SqL.of (S2 _ _ hl),J7⟩,?_⟩;rintro x H3 ⟨rfl,fx⟩;have ex:x=V.ref (as[i]'hi):=by
   have:=fx _ (SqL.of (S2 _ _ hl));rw[YI,ei] at this;exact (YR this).symm
  subst ex;refine Ym ?_;obtain⟨xs,h1,h2⟩:=(Paired.getB hp ei O).same S2;obtain⟨a7,Dr,Wr,rr⟩:=J _ (YE O);refine⟨_,rfl,_,_,xs,_,n,Dr,Wr,rfl,.inr h1,h2,rr,hn,J5,λa4 L E v e4=>?_⟩;have A:=v _ _ b;have I:a4≠d:=λz=>by rw[z] at E;rw[E] at b;cases b
  refine⟨A,λq o e=>?_,ns++[a4],by rw[XF];rfl,by rw[XD,l2];rfl,λt a e=>?_⟩
  ·rw[Zc (Zd e hd)];exact v _ _ (S2 _ _ e)
  by_cases q:t<ns.length
  ·rw[JS q] at e;have:=q2 t a e;refine⟨this.1,?_⟩;rw[Zc this.1];exact v _ _ this.2
  rw[JQ J5] at e;have f:t - ns.length=0:=by
   have:=(YH.mp e).1;simp at this;omega
  rw[f] at e
  cases e;have a2:t=i:=J5
  subst a2;refine⟨I,?_⟩;rw[Zc I];have eg:rss.getD t []=rss[t]'J5:=by simp[List.getD,show t<rss.length by omega]
  rw[eg];exact e4
 rintro ys H2 ⟨S2,ns,rfl,l2,q2⟩ b;refine⟨⟨_,SqL.of (S2 _ _ hl),J7⟩,?_⟩;have r:RepL n 1 (cutZ o (List.replicate c 1)) (papR c o):=((RepL.ones c).cut o).mono a3;have F:(papR c o).length=c:=by
  have:=r.len;rw[W0] at this
  simpa using this.symm
 refine⟨_,rfl,.inl ⟨rfl,_,SqL.of b⟩,_,rfl,_,rfl,c,ve,o,rfl,hv.same S2,a5,J5,λp H3 M rp=>?_⟩;obtain⟨xp,U,R⟩:=rp;refine⟨p,1,xp,papR c o,n,_,_,rfl,.inr U,R,r,hn,J5,λa4 L E v e4=>?_⟩;have A:=v _ _ (M _ _ b);have u:a4≠d:=λz=>by rw[z] at E;rw[M _ _ b] at E;cases E
 refine⟨d,_,_,rfl,rfl,A,?_,?_⟩
 ·rw[YC];exact Zy (show ns.length+1<=1000 by omega)
 have G:Same H (upd L d (.lst (ns.map V.ref++[.ref a4]))):=λq z y=>by
  rw[Zc (Zd y hd)];exact v _ _ (M _ _ (S2 _ _ y))
 have q4:∀ (t:Nat) (a:Addr),(ns++[a4])[t]?=some a->a≠d/\upd L d (.lst (ns.map V.ref++[.ref a4])) a=some (.lst ((if t<as.length then rowZ (rss.getD t [])++[0] else rowZ (papR c o)++[1]).map V.int)):=λt a e=>by
  by_cases q:t<ns.length
  ·rw[JS q] at e;have:=q2 t a e;refine⟨this.1,?_⟩;rw[Zc this.1,YG J5];exact v _ _ (M _ _ this.2)
  rw[JQ J5] at e;have f:t - ns.length=0:=by
   have:=(YH.mp e).1;simp at this;omega
  rw[f] at e
  cases e;refine⟨u,?_⟩;rw[Zc u,YD J5];exact e4
 have B:upd L d (.lst (ns.map V.ref++[.ref a4])) d=some (.lst ((ns++[a4]).map V.ref)):=by rw[Za,XF];rfl
 generalize upd L d (.lst (ns.map V.ref++[.ref a4]))=H5 at *
 obtain⟨xg,a1,Z⟩:=hg.same G;refine⟨_,rfl,.inl ⟨rfl,_,SqL.of B⟩,_,rfl,g,0,xg,gs,n,_,_,rfl,.inr a1,Z,rg,hn,J5,λa6 H6 f6 T e6=>?_⟩;have a0:=T _ _ B;have s:a6≠d:=λz=>by rw[z] at f6;rw[B] at f6;cases f6
 refine⟨d,_,_,rfl,rfl,a0,?_,?_⟩
 ·rw[YC,XD];exact Zy (show ns.length+1+1<=1000 by omega)
 have S:Same H (upd H6 d (.lst ((ns++[a4]).map V.ref++[.ref a6]))):=λq z y=>by
  rw[Zc (Zd y hd)];exact T _ _ (G _ _ y)
 have Y:upd H6 d (.lst ((ns++[a4]).map V.ref++[.ref a6])) d=some (.lst ((ns++[a4]++[a6]).map V.ref)):=by rw[Za,XF (l₁:=ns++[a4])];rfl
 refine⟨_,rfl,d,rss.length,c,ns++[a4]++[a6],T0S c rss o gs,rfl,Y,by simp;omega,λt a e=>?_,J5,J5,rfl,λ_=>rfl,λ_=>rfl,λq H8 S8 W=>k q H8 (S.trans S8) W⟩;have key:∀ (t:Nat) (a:Addr),(ns++[a4]++[a6])[t]?=some a->a≠d/\upd H6 d (.lst ((ns++[a4]).map V.ref++[.ref a6])) a=some (.lst ((if t<rss.length then rowZ (rss.getD t [])++[0] else if t=rss.length then rowZ (papR c o)++[1] else rowZ gs++[0]).map V.int))/\t<rss.length+2:=λt a e=>by
  by_cases q:t<(ns++[a4]).length
  ·rw[JS q] at e;have:=q4 t a e;rw[XD] at q;simp at q;refine⟨this.1,?_,J5⟩;rw[Zc this.1,T _ _ this.2];by_cases m:t<rss.length
   ·rw[YG m,YG J5]
   rw[YD m,YD J5,YG J5]
  rw[JQ J5] at e;have f:t - (ns++[a4]).length=0:=by
   have:=(YH.mp e).1;simp at this;simp;omega
  rw[f] at e
  cases e;simp at q f;refine⟨s,?_,J5⟩;rw[Zc s,YD J5,YD J5];exact e6
 obtain⟨_,e7,ht⟩:=key t a e;rw[e7]
 congr 2
 unfold lineI;by_cases q:t<rss.length
 ·rw[YG q];have O:rss[t]?=some (rss[t]'q):=J7
  have eg:rss.getD t []=rss[t]'q:=by simp[List.getD,q]
  refine congrArg _ (U4 ?_ (λj hj=>?_) ?_)
  ·rw[eg];exact (J _ (YE O)).1
  ·show (if j<c then _v.colS c rss.length (AOf rss) (rowF (papR c o)) (rowF gs) j t else _)=_;rw[YG hj];unfold _v.colS;rw[YG hj,YG q];rfl
  show (if c<c then _ else _v.rhsS rss.length t)=_;rw[YD J5];unfold _v.rhsS;rw[YD J5]
 rw[YD q];by_cases m:t=rss.length
 ·rw[YG m];refine congrArg _ (U4 F (λj hj=>?_) ?_)
  ·show (if j<c then _v.colS c rss.length (AOf rss) (rowF (papR c o)) (rowF gs) j t else _)=_;rw[YG hj];unfold _v.colS;rw[YG hj,YD q,YG m];rfl
  show (if c<c then _ else _v.rhsS rss.length t)=_;rw[YD J5];unfold _v.rhsS;rw[YG m]
 rw[YD m];refine congrArg _ (U4 gl (λj hj=>?_) ?_)
 ·show (if j<c then _v.colS c rss.length (AOf rss) (rowF (papR c o)) (rowF gs) j t else _)=_;rw[YG hj];unfold _v.colS;rw[YG hj,YD q,YD m];rfl
 show (if c<c then _ else _v.rhsS rss.length t)=_;rw[YD J5];unfold _v.rhsS;rw[YD m]
def multR (c:Nat)(rss:UB)(T:UC)(i:Nat)(b:Int):List Rat:=(List.range rss.length).map λk=>nrm (-(_v.numAt c T i (c+k))*lcmB (rss.getD k [])) (b*T.b)
def Bd.zero (n:Nat):Bd n 0:=zI n
theorem TabOk.numBd {m n N:Nat}(h:TabOk m n T)(bd:TabBd N m n T)(hi:i<m)(v:Nat):Bd N (_v.numAt n T i v):=by
 by_cases q:∃ j,j<n/\T.hd j=v
 ·obtain⟨j,hj,rfl⟩:=q;rw[h.numH hj];exact bd.l i j hi J5
 have:_v.numAt n T i v=0:=_v.sm_zero λj hj=>YD λz=>q ⟨j,hj,z⟩;rw[this];exact Bd.zero N
inductive spShown (K:TR) (C:Addr) (vs:TZ) (H:Hp) (Q:VK) (_z3:XK):Prop
 | mk (l p:Addr) (c m lk i n N:Nat) (b:Int) (rss:UB) (T:UC) (zz0:vs=[.int (c:Int),.ref l,.ref p,.int (T.own i:Int),.int b]) (zz1:RowsAt K H l rss) (zz2:TabAt C H p m c lk T) (zz3:TabOk m c T) (zz4:TabBd N m c T) (zz5:0<T.b) (zz6:i<m) (zz7:m<=900) (zz8:c<=900) (zz9:rss.length<=900) (zz10:(∀ rs∈rss,∃ D Ws,RepL n D Ws rs)) (zz11:0<b) (zz12:Bd n b) (zz13:n<=200000) (zz14:n+N<=440000) (zz15:∀ (q:Addr) (xs:TZ) (H':Hp),H q=none->Same H H'->H' q=some (.lst xs)->Rs K H' (multR c rss T i b) xs->Q (.ref q) H')
theorem Z4f (D:Def K mg "shown_multiples" iI VB)(T0:Blt mg)(tc:TabC K mg C)(W:Has P w K mg base 2 "number_at" UN (spNumAt C))(eB:Z4 P w K mg base)(S:Has P w K mg base 3 "ratio" UI spLowest):Has P w K mg base 4 "shown_multiples" VB (spShown K C):=by
 refine D.h9 (N:=["count","rows","table","owner","bottom","told","number","row","top"]) fsc λH Q hr h nd=>?_;obtain⟨l,p,c,m,lk,i0,n,N,b,rss,Tb,rfl,⟨as,hl,hp⟩,t,ok,bd,hb,s,hm,hc,a0,F,G,O,hn,hN,kk⟩:=h;obtain⟨dx,la,oa,ha,las,h1,h2,h3,h4,h5,h6⟩:=id t;have T:=T0;have lx:=YY hp;refine⟨_,(Z8 (Zi (i:=5) nd rfl xj (Xs Z7))
  (Z8 (Xq JL rfl (Tk rfl T.enumerate (Z0 (pv 1) Z7)) (Wb (n:=2) rfl (Y3 (Zj (i:=6) nd rfl (Or.inl rfl)) (Y3 (Zj (i:=7) nd rfl (Or.inl rfl)) Xh)))
   (Z8 (Zi (i:=8) nd rfl xj (Zl Zp (Vs W8 (Ze W hr (Z0 (pv 2) (Z0 (pv 3) (Z0 (Zl X2 (pv 0) (pv 6)) Z7))))) (Ze eB hr (Z0 (pv 7) Z7))))
   (Zb (Xl (Vt XZ GK GL Xk (pv 5) (Z0 (Ze S hr (Z0 (pv 8) (Z0 (Zl Zp (pv 4) (Yb (pv 2) rfl)) Z7))) Z7))))))
  (Zb (Zg (pv 5))))),?_⟩
 refine⟨sz0,λd hd=>?_⟩;refine⟨_,rfl,l,rfl,⟨_,SqL.of ((Same.new hd) _ _ hl)⟩,Sr (K:=K) (a:=l) (xs:=as.map V.ref) (λi σ H'=>Same H H'/\∃ (xs:TZ) (x y z:Option V),H' d=some (.lst xs)/\Rs K H' ((multR c rss Tb i0 b).take i) xs/\σ=[some (.int (c:Int)),some (.ref l),some (.ref p),some (.int (Tb.own i0:Int)),some (.int b),some (.ref d),x,y,z]) ⟨Same.new hd,[],none,none,none,Za,.nil,rfl⟩ (λi σ H' _ h=>SqL.of (h.1 _ _ hl)) ?_ ?_⟩
 ·rintro i v σ H1 J hi ⟨S1,xs,x,y,z,g,f,rfl⟩ B;have r:i<as.length:=by
   have:=(YH.mp hi).1;rw[YC] at this;exact this
  have M:as[i]?=some (as[i]'r):=J7
  have R:rss[i]?=some (rss[i]'J5):=J7
  have Z:rss.getD i []=rss[i]'J5:=by simp[List.getD,show i<rss.length by omega]
  rw[YI,M] at hi
  cases hi;refine⟨J,_,rfl,SqT.of Za,rfl,_,_,rfl,_,_,rfl,rfl,?_⟩;have S2:Same H1 (upd H1 J (.tup [.int (i:Int),.ref (as[i]'r)])):=Same.new B;generalize upd H1 J (.tup [.int (i:Int),.ref (as[i]'r)])=H2 at *
  have k:=S1.trans S2;obtain⟨us,I,E⟩:=(Paired.getB hp M R).same k;obtain⟨U,X,rr⟩:=F _ (YE R);have A:=rr.least;refine⟨_,rfl,_,rfl,_,rfl,_,rfl,_,_,rfl,rfl,p,m,c,lk,i0,c+i,Tb,rfl,t.same k,ok,s,J5,J5,_,rfl,_,rfl,_,us,_,n,U,X,rfl,.inr I,E,rr,J5,_,_,rfl,rfl,((ok.numBd bd s (c+i)).neg).mulOk A.bD J5 J5,?_⟩;refine⟨_,rfl,.inl ⟨rfl,_,SqL.of (S2 _ _ g)⟩,_,rfl,_,rfl,_,rfl,p,C,dx,_,_,rfl,k _ _ h1,tc.cl,tc.nB,Va,_,_,rfl,rfl,O.mulOk bd.b J5 J5,?_⟩;have L:b*Tb.b≠0:=by
   have:=XG G hb;omega
  refine⟨_,_,rfl,L,(O.mul bd.b).log J5,λa H3 f3 u e3=>?_⟩;have j:=u _ _ (S2 _ _ g);refine⟨d,xs,_,rfl,rfl,j,?_,?_⟩
  ·have:=f.len;rw[JX] at this;exact Zy (show xs.length+1<=1000 by omega)
  refine⟨λq o e=>?_,xs++[.ref a],_,_,_,Za,?_,rfl⟩
  ·rw[Zc (Zd e hd)];exact u _ _ (k _ _ e)
  have Y:(multR c rss Tb i0 b)[i]?=some (nrm (-(_v.numAt c Tb i0 (c+i))*lcmB (rss.getD i [])) (b*Tb.b)):=by
   unfold multR;rw[YI,jo (show i<rss.length by omega)];rfl
  rw[Ye Y];refine Paired.appP ((f.ext (Ext.same (S2.trans u))).ext (Ext.upd j)) (.cons ⟨a,rfl,?_⟩ .nil);refine SqT.of ?_;rw[Zc (λz=>by rw[z] at e3;rw[e3] at j;cases j),Z];exact e3
 rintro σ H1 ⟨S1,xs,x,y,z,g,f,rfl⟩;rw[YW (by unfold multR;simp[lx])] at f;exact⟨_,rfl,kk d xs H1 hd S1 g f⟩
end
end _b
namespace _v
def sN:Nat->(Nat->Nat)->Nat
 | 0,_=>0
 | n+1,f=>sN n f+f n
def pN:Nat->(Nat->Nat)->Nat
 | 0,_=>1
 | n+1,f=>pN n f*f n
theorem Lh (f:TX):∀ n,sN (n+1) f=f 0+sN n (λr=>f (r+1))
 | 0=>by show 0+f 0=f 0+0;omega
 | n+1=>by
  show sN (n+1) f+f (n+1)=f 0+(sN n (λr=>f (r+1))+f (n+1));rw[Lh f n];omega
theorem Z0e {f g:TX}:∀ {n:Nat},(∀ k,k<n->f k<=g k)->sN n f<=sN n g
 | 0,_=>YJ _
 | n+1,h=>Nat.add_le_add (Z0e λk hk=>h k J5) (h n J5)
theorem pN_le {f g:TX}:∀ {n:Nat},(∀ k,k<n->f k<=g k)->pN n f<=pN n g
 | 0,_=>YJ _
 | n+1,h=>zV (pN_le λk hk=>h k J5) (h n J5)
theorem Lu {f g:TX}:∀ {n:Nat},(∀ k,k<n->f k=g k)->pN n f=pN n g
 | 0,_=>rfl
 | n+1,h=>by
  show pN n f*f n=pN n g*g n;rw[Lu (n:=n) λk hk=>h k J5,h n J5]
theorem sN_congr {f g:TX}:∀ {n:Nat},(∀ k,k<n->f k=g k)->sN n f=sN n g
 | 0,_=>rfl
 | n+1,h=>by
  show sN n f+f n=sN n g+g n;rw[sN_congr (n:=n) λk hk=>h k J5,h n J5]
theorem Jb (f:TX)(b:Nat):∀ n,sN n (λk=>f k*b)=sN n f*b
 | 0=>by show 0=0*b;rw[Nat.zero_mul]
 | n+1=>by
  show sN n (λk=>f k*b)+f n*b=(sN n f+f n)*b;rw[Jb f b n,Nat.add_mul]
theorem No {f:TY}:∀ {n:Nat},(sm n f).natAbs<=sN n (λk=>(f k).natAbs)
 | 0=>by show (0:Int).natAbs<=0;decide
 | n+1=>by
  show (sm n f+f n).natAbs<=sN n (λk=>(f k).natAbs)+(f n).natAbs;have:=No (f:=f) (n:=n);have:=Int.natAbs_add_le (sm n f) (f n);omega
theorem Ru {x:TX}:∀ {n:Nat},sm n (λk=>((x k:Nat):Int))=((sN n x:Nat):Int)
 | 0=>rfl
 | n+1=>by
  show sm n (λk=>((x k:Nat):Int))+(x n:Int)=((sN n x+x n:Nat):Int);rw[Ru (n:=n),Int.natCast_add]
theorem Z2i (a b:TX):∀ m,sN (m+1) (λk=>a k*pN m (λi=>b (skip k i)))<=pN (m+1) (λk=>a k+b k)
 | 0=>by
  show 0+a 0*1<=1*(a 0+b 0);omega
 | m+1=>by
  have c:=Z2i a b m;have e1:sN (m+1) (λk=>a k*pN (m+1) (λi=>b (skip k i)))=sN (m+1) (λk=>a k*pN m (λi=>b (skip k i)))*b (m+1):=by
   rw[<-Jb];refine sN_congr λk hk=>?_;show a k*(pN m (λi=>b (skip k i))*b (skip k m))=_;have:skip k m=m+1:=by unfold skip;split <;> omega
   rw[this,Y1Q]
  have e2:pN (m+1) (λi=>b (skip (m+1) i))=pN (m+1) b:=Lu λi hi=>by
   have:skip (m+1) i=i:=by unfold skip;split <;> omega
   rw[this]
  show sN (m+1) (λk=>a k*pN (m+1) (λi=>b (skip k i)))+a (m+1)*pN (m+1) (λi=>b (skip (m+1) i))<=pN (m+1) (λk=>a k+b k)*(a (m+1)+b (m+1));rw[e1,e2];have h1:=qx (b (m+1)) c;have h2:pN (m+1) b<=pN (m+1) (λk=>a k+b k):=pN_le λk _=>J5
  have d:=zc (a (m+1)) h2;rw[Nat.mul_add,zM (pN (m+1) λk=>a k+b k) (a (m+1))];omega
theorem det_w:∀ {m:Nat} {v:Mat} {w:TX},(∀ k,k<m->sN m (λr=>(v k r).natAbs)<=w k)->(det m v).natAbs<=pN m w
 | 0,_,_,_=>by show (1:Int).natAbs<=1;decide
 | m+1,v,w,h=>by
  have key:(sm (m+1) (λk=>sgn k*v k 0*det m (minor v k))).natAbs<=sN (m+1) (λk=>(v k 0).natAbs*pN m (λi=>sN m (λr=>(v (skip k i) (r+1)).natAbs))):=by
   refine YM No (Z0e λk hk=>?_);show (sgn k*v k 0*det m (minor v k)).natAbs<=_;rw[GG,GG,Rw,Y28];exact zc _ (det_w (m:=m) λi hi=>YJ _)
  refine YM key (YM (Z2i (λk=>(v k 0).natAbs) (λk=>sN m (λr=>(v k (r+1)).natAbs)) m) (pN_le λk hk=>?_));have:=h k hk;rw[Lh] at this;exact this
theorem pN_pow (B:Nat)(x:TX):∀ m,pN m (λk=>B ^ x k)=B ^ sN m x
 | 0=>rfl
 | m+1=>by
  show pN m (λk=>B ^ x k)*B ^ x m=B ^ (sN m x+x m);rw[pN_pow B x m,Y01]
theorem sN_const {f:TX}{M:Nat}:∀ {n:Nat},(∀ k,k<n->f k<=M)->sN n f<=n*M
 | 0,_=>JF _
 | n+1,h=>by
  have h1:=sN_const (n:=n) (f:=f) (M:=M) λk hk=>h k J5;have h2:=h n J5;show sN n f+f n<=(n+1)*M;rw[Y0c];omega
theorem sN_unit {i:Nat}:∀ {m:Nat},sN m (λr=>(if i=r then (1:Int) else 0).natAbs)<=1
 | 0=>JF _
 | m+1=>by
  show sN m (λr=>(if i=r then (1:Int) else 0).natAbs)+(if i=m then (1:Int) else 0).natAbs<=1;by_cases h:i=m
  ·subst h;have:sN i (λr=>(if i=r then (1:Int) else 0).natAbs)<=i*0:=sN_const λk hk=>by rw[YD J5];decide
   rw[YG rfl];show _+1<=1;omega
  rw[YD h];exact sN_unit (m:=m)
theorem Z0f {x:TX}{j:Nat}:∀ {n:Nat},j<n->x j<=sN n x
 | 0,h=>J5
 | n+1,h=>by
  show x j<=sN n x+x n;by_cases e:j=n
  ·rw[e];omega
  have:=Z0f (x:=x) (n:=n) (j:=j) J5;omega
theorem Ja {x:TX}{i y:Nat}:∀ {m:Nat},sN m (λk=>if k=i then y else x k)<=sN m x+y
 | 0=>JF _
 | m+1=>by
  show sN m (λk=>if k=i then y else x k)+(if m=i then y else x m)<=sN m x+x m+y;by_cases e:m=i
  ·rw[YG e];have:sN m (λk=>if k=i then y else x k)=sN m x:=sN_congr λk hk=>YD J5;omega
  rw[YD e];have:=Ja (x:=x) (i:=i) (y:=y) (m:=m);omega
section
variable {m n:Nat}{col:Nat->Vec}{rhs:Vec}{T:Tab}
def isW (n v:Nat):Nat:=if v<n then 1 else 0
theorem Ff:∀ k,sN (n+k) (isW n)=n
 | 0=>by
  have:∀ j,j<=n->sN j (isW n)=j:=λj=>by
   induction j with
   | zero=>intro _;rfl
   | succ j a =>
    intro hj;show sN j (isW n)+isW n j=j+1;rw[a J5];unfold isW;rw[YG J5]
  exact this n (YJ _)
 | k+1=>by
  show sN (n+k) (isW n)+isW n (n+k)=n;rw[Ff k];unfold isW;rw[YD J5];rfl
theorem Inv.worlds (I:Inv m n col rhs T):sN m (λi=>isW n (T.own i))+sN n (λj=>isW n (T.hd j))=n:=by
 have:=I.part (λv=>((isW n v:Nat):Int));rw[Ru,Ru,Ru,Ff] at this;omega
def Inv.sizeW (I:Inv m n col rhs T){B:Nat}(hc:∀ v,v<n+m->sN m (λr=>(col v r).natAbs)<=B ^ isW n v)(hr:sN m (λr=>(rhs r).natAbs)<=1)(hB:1<=B){i j:Nat}(hi:i<m)(hj:j<=n):(T.L i j).natAbs<=B ^ n:=by
 have b:=I.worlds;rw[<-I.phi hi hj];by_cases a:j<n
 ·have key:(det m (put (bas col T) i (colOf n col rhs T j))).natAbs<=pN m (λk=>B ^ (if k=i then isW n (T.hd j) else isW n (T.own k))):=det_w λk hk=>by
   by_cases e:k=i
   ·subst e;rw[put_eq,YG rfl,W4 a];exact hc _ (I.hdLt a)
   rw[put_ne e,YD e];exact hc _ (I.ownLt hk)
  refine YM key ?_;rw[pN_pow];refine GP hB ?_;have h1:=Ja (x:=λk=>isW n (T.own k)) (i:=i) (y:=isW n (T.hd j)) (m:=m);have h2:=Z0f (x:=λj=>isW n (T.hd j)) (n:=n) a;omega
 have key:(det m (put (bas col T) i (colOf n col rhs T j))).natAbs<=pN m (λk=>B ^ (if k=i then 0 else isW n (T.own k))):=det_w λk hk=>by
  by_cases e:k=i
  ·subst e;rw[put_eq,YG rfl];unfold colOf;rw[YD a];exact hr
  rw[put_ne e,YD e];exact hc _ (I.ownLt hk)
 refine YM key ?_;rw[pN_pow];refine GP hB ?_;have h1:=Ja (x:=λk=>isW n (T.own k)) (i:=i) (y:=0) (m:=m);omega
def Inv.sizeBW (I:Inv m n col rhs T){B:Nat}(hc:∀ v,v<n+m->sN m (λr=>(col v r).natAbs)<=B ^ isW n v)(hB:1<=B):T.b.natAbs<=B ^ n:=by
 have a:=I.worlds;rw[<-I.dt];have key:(det m (bas col T)).natAbs<=pN m (λk=>B ^ isW n (T.own k)):=det_w λk hk=>hc _ (I.ownLt hk);refine YM key ?_;rw[pN_pow];exact GP hB J5
end
end _v
namespace _b
open PySem _L
def Nu {v:Nat}{r:Rat}(h:rs[v]?=some r):rowF rs v=r.1*(lcmB rs).fdiv r.2:=by
 unfold rowF rowZ wholeB;simp[List.getD,h]
def Ub {n:Nat}(h:RepL n D Ws rs)(v:Nat):Bd n (rowF rs v):=by
 unfold rowF;exact Mm (λz hz=>(h.least).bdW z hz) v
def X1 (c:Nat)(o:TW):(papR c o).length=c:=by unfold papR;rw[Yo];simp
def Xx (c:Nat)(o:TW):RepL 1 1 (cutZ o (List.replicate c 1)) (papR c o):=(RepL.ones c).cut o
def Z78 {c v:Nat}{o:TW}(a:v<c):rowF (papR c o) v=if inE o v then lcmB (papR c o) else 0:=by
 rw[Nu (show (papR c o)[v]?=some (if inE o v then (1,1) else (0,1)) from Ww (by simp[a]))]
 cases inE o v <;> simp
def Z41 {c v:Nat}{o:TW}(a:v<c):0<=rowF (papR c o) v:=by
 rw[Z78 a];have:=(Xx c o).least.pos;split <;> omega
def Do {c v:Nat}{o:TW}{rs:UA}(a:v<c)(hl:rs.length=c)(h:rowF (papR c o) v=0):rowF (cutR o rs) v=0:=by
 rw[Z78 a] at h;have:=(Xx c o).least.pos;have e:inE o v=false:=by
  cases q:inE o v with
  | false=>rfl
  | true=>rw[q,YG rfl] at h;omega
 rw[Nu (Ww (show rs[v]?=some (rs[v]'J5) by simp)),e];simp
abbrev InvR (c:Nat)(rss:UB)(o:TW)(gs:UA)(T:UC):Prop:=_v.InvS c rss.length (AOf rss) (rowF (papR c o)) (rowF gs) T
def bitsOf (n c g:Nat):Nat:=(n+5)*min c (g+2)+1
theorem Z6k {c n:Nat}{o:TW}(g:∀ rs∈rss,rs.length=c/\∃ D Ws,RepL n D Ws rs)(m:∃ D Ws,RepL n D Ws gs)(hn:1<=n)(hm:rss.length+2<=32)(I:InvR c rss o gs T):TabBd (bitsOf n c rss.length) (rss.length+2) c T:=by
 have t:1<=2 ^ n:=zI n;have a:∀ v r,v<c+(rss.length+2)->r<rss.length+2->(_v.colS c rss.length (AOf rss) (rowF (papR c o)) (rowF gs) v r).natAbs<=2 ^ n:=λv r _ _=>by
  unfold _v.colS;split
  ·split
   ·rename_i h
    have y:rss[r]?=some (rss[r]'h):=J7
    have u:rss.getD r []=rss[r]'h:=by simp[List.getD,h]
    obtain⟨_,D,Ws,p⟩:=g _ (YE y);have:=Ub p v;unfold AOf;rw[u];exact JC this
   split
   ·exact JC ((Ub (Xx c o) v).mono hn)
   obtain⟨D,Ws,p⟩:=m;exact JC (Ub p v)
  split
  ·exact t
  exact JF _
 have f:∀ r,r<rss.length+2->(_v.rhsS rss.length r).natAbs<=2 ^ n:=λr _=>by
  unfold _v.rhsS;split
  ·exact t
  exact JF _
 have s:(rss.length+2)*2 ^ n<=2 ^ (n+5):=by
  rw[Y01,zM];exact zc _ (show rss.length+2<=2 ^ 5 by omega)
 have b:∀ (x k:Nat),x<=(2 ^ (n+5)) ^ k->k<=min c (rss.length+2)->x<2 ^ bitsOf n c rss.length:=λx k h hk=>by
  rw[<-Nat.pow_mul] at h;refine JK h (Y0w J6 ?_);unfold bitsOf;have:=zc (n+5) hk;omega
 by_cases z:c<=rss.length+2
 ·have d:∀ v,v<c+(rss.length+2)->_v.sN (rss.length+2) (λr=>(_v.colS c rss.length (AOf rss) (rowF (papR c o)) (rowF gs) v r).natAbs)<=(2 ^ (n+5)) ^ _v.isW c v:=λv w=>by
   by_cases q:v<c
   ·have e:_v.isW c v=1:=YG q;rw[e,Nat.pow_one];exact YM (_v.sN_const λr hr=>a v r w hr) s
   have e:_v.isW c v=0:=YD q;rw[e,Nat.pow_zero];refine YM (Y08 (_v.sN_congr λr _=>?_)) (_v.sN_unit (i:=v - c));unfold _v.colS;rw[YD q]
  have l:_v.sN (rss.length+2) (λr=>(_v.rhsS rss.length r).natAbs)<=1:=by
   refine YM (Y08 (_v.sN_congr λr _=>?_)) (_v.sN_unit (i:=rss.length));unfold _v.rhsS;by_cases q:r=rss.length
   ·rw[YG q,YG q.symm]
   rw[YD q,YD (XQ q)]
  exact⟨λi j hi hj=>b _ c (I.sizeW d l (zI _) hi hj) J5,b _ c (I.sizeBW d (zI _)) J5⟩
 have low:∀ x,x<=((rss.length+2)*2 ^ n) ^ (rss.length+2)->x<2 ^ bitsOf n c rss.length:=λx h=>b x (rss.length+2) (YM h (Y1L s _)) J5;exact⟨λi j hi hj=>low _ (I.size a f hi hj),low _ (I.sizeB a)⟩
end _b
namespace _v
theorem Lr (f:TX):∀ n,pN (n+1) f=f 0*pN n (λr=>f (r+1))
 | 0=>by show 1*f 0=f 0*1;omega
 | n+1=>by
  show pN (n+1) f*f (n+1)=f 0*(pN n (λr=>f (r+1))*f (n+1));rw[Lr f n,Y1Q]
theorem Gh (f:TX)(k:Nat):∀ m,sN m (λi=>f (skip k i))<=sN (m+1) f
 | 0=>JF _
 | m+1=>by
  show sN m (λi=>f (skip k i))+f (skip k m)<=sN (m+1) f+f (m+1);by_cases h:m<k
  ·have e:skip k m=m:=by unfold skip;split <;> omega
   have e2:sN m (λi=>f (skip k i))=sN m f:=sN_congr λi hi=>by
    have:skip k i=i:=by unfold skip;split <;> omega
    rw[this]
   rw[e,e2];show sN m f+f m<=sN m f+f m+f (m+1);omega
  have e:skip k m=m+1:=by unfold skip;split <;> omega
  have:=Gh f k m;rw[e];omega
theorem Z2r:∀ {m:Nat} {v:Mat} {w:TX},(∀ r,r<m->sN m (λk=>(v k r).natAbs)<=w r)->(det m v).natAbs<=pN m w
 | 0,_,_,_=>by show (1:Int).natAbs<=1;decide
 | m+1,v,w,h=>by
  have key:(sm (m+1) (λk=>sgn k*v k 0*det m (minor v k))).natAbs<=sN (m+1) (λk=>(v k 0).natAbs*pN m (λr=>w (r+1))):=by
   refine YM No (Z0e λk hk=>?_);show (sgn k*v k 0*det m (minor v k)).natAbs<=_;rw[GG,GG,Rw,Y28];refine zc _ (Z2r (m:=m) λr hr=>?_);exact YM (Gh (λi=>(v i (r+1)).natAbs) k m) (h (r+1) J5)
  refine YM key ?_;rw[Jb,Lr];exact qx _ (h 0 J5)
section
variable {m n:Nat}{col:Nat->Vec}{rhs:Vec}{T:Tab}
def Inv.sizeR (I:Inv m n col rhs T){B:TX}(hc:∀ v r,v<n+m->r<m->(col v r).natAbs<=B r)(hr:∀ r,r<m->(rhs r).natAbs<=B r){i j:Nat}(hi:i<m)(hj:j<=n):(T.L i j).natAbs<=pN m (λr=>m*B r):=by
 rw[<-I.phi hi hj];refine Z2r λr b=>sN_const λk hk=>?_;by_cases e:k=i
 ·subst e;rw[put_eq];by_cases a:j<n
  ·rw[W4 a];exact hc _ _ (I.hdLt a) b
  unfold colOf;rw[YD a];exact hr r b
 rw[put_ne e];exact hc _ _ (I.ownLt hk) b
def Inv.sizeBR (I:Inv m n col rhs T){B:TX}(hc:∀ v r,v<n+m->r<m->(col v r).natAbs<=B r):T.b.natAbs<=pN m (λr=>m*B r):=by
 rw[<-I.dt];exact Z2r λr a=>sN_const λk hk=>hc _ _ (I.ownLt hk) a
theorem pN_two (x:TX):∀ m,pN m (λr=>2 ^ x r)=2 ^ sN m x
 | 0=>rfl
 | m+1=>by
  show pN m (λr=>2 ^ x r)*2 ^ x m=2 ^ (sN m x+x m);rw[pN_two x m,Y01]
end
end _v
namespace _b
open PySem _L
theorem Z31 {c a:Nat}{nb:TX}{o:TW}(g:∀ (r:Nat) (rs:UA),rss[r]?=some rs->∃ D Ws,RepL (nb r) D Ws rs)(l:∃ D Ws,RepL a D Ws gs)(hm:rss.length+2<=32)(I:InvR c rss o gs T):TabBd (_v.sN rss.length (λr=>nb r+5)+a+12) (rss.length+2) c T:=by
 have b:∀ v r,v<c+(rss.length+2)->r<rss.length+2->(_v.colS c rss.length (AOf rss) (rowF (papR c o)) (rowF gs) v r).natAbs<=2 ^ (if r<rss.length then nb r else if r=rss.length then 1 else a):=λv r _ _=>by
  have n:1<=2 ^ (if r<rss.length then nb r else if r=rss.length then 1 else a):=zI _;unfold _v.colS;split
  ·split
   ·rename_i h
    have q:rss[r]?=some (rss[r]'h):=J7
    have p:rss.getD r []=rss[r]'h:=by simp[List.getD,h]
    obtain⟨D,Ws,m⟩:=g r _ q;have:=Ub m v;unfold AOf;rw[p];exact JC this
   split
   ·exact JC (Ub (Xx c o) v)
   obtain⟨D,Ws,m⟩:=l;exact JC (Ub m v)
  split
  ·exact n
  exact JF _
 have f:∀ r,r<rss.length+2->(_v.rhsS rss.length r).natAbs<=2 ^ (if r<rss.length then nb r else if r=rss.length then 1 else a):=λr _=>by
  have n:1<=2 ^ (if r<rss.length then nb r else if r=rss.length then 1 else a):=zI _;unfold _v.rhsS;split
  ·exact zI _
  exact JF _
 have d:∀ x,x<=_v.pN (rss.length+2) (λr=>(rss.length+2)*2 ^ (if r<rss.length then nb r else if r=rss.length then 1 else a))->x<2 ^ (_v.sN rss.length (λr=>nb r+5)+a+12):=λx h=>by
  have h2:_v.pN (rss.length+2) (λr=>(rss.length+2)*2 ^ (if r<rss.length then nb r else if r=rss.length then 1 else a))<=_v.pN (rss.length+2) (λr=>2 ^ ((if r<rss.length then nb r else if r=rss.length then 1 else a)+5)):=_v.pN_le λr _=>by
   show (rss.length+2)*2 ^ _<=2 ^ (_+5);rw[Y01,zM];exact zc _ (show rss.length+2<=2 ^ 5 by omega)
  rw[_v.pN_two] at h2;refine JK (YM h h2) (Y0w J6 ?_);show _v.sN rss.length (λr=>(if r<rss.length then nb r else if r=rss.length then 1 else a)+5)+((if rss.length<rss.length then nb rss.length else if rss.length=rss.length then 1 else a)+5)+((if rss.length+1<rss.length then nb (rss.length+1) else if rss.length+1=rss.length then 1 else a)+5)<_;have e:_v.sN rss.length (λr=>(if r<rss.length then nb r else if r=rss.length then 1 else a)+5)=_v.sN rss.length (λr=>nb r+5):=_v.sN_congr λk hk=>by rw[YG hk]
  rw[e,YD (JA _),YG rfl,YD J5,YD J5];omega
 exact⟨λi j hi hj=>d _ (I.sizeR b f hi hj),d _ (I.sizeBR b)⟩
section
variable {P:TU}{base:Heap}
structure NoneT (c:Nat)(rss:UB)(o:TW)(gs:UA)(T:UC):Prop where
 inv:InvR c rss o gs T
 lk:T.own rss.length=c+rss.length
 aim:T.own (rss.length+1)=c+rss.length+1
 no:∀ j,j<c->T.hd j≠c+rss.length->T.L rss.length j<=0
structure MostT (c:Nat)(rss:UB)(o:TW)(gs:UA)(T:UC):Prop where
 inv:InvR c rss o gs T
 feas:_v.Feas (rss.length+2) c (c+rss.length) T
 aim:T.own (rss.length+1)=c+rss.length+1
 lk:∃ jl,jl<c/\T.hd jl=c+rss.length
 no:∀ j,j<c->T.hd j≠c+rss.length->T.L (rss.length+1) j<=0
def loadsR (c g:Nat)(T:UC):List Rat:=(List.range c).map λv=>nrm (_v.endOf (g+2) c T v) T.b
def valueR (c g:Nat)(gs:UA)(T:UC):Rat:=nrm (-_v.endOf (g+2) c T (c+g+1)) (lcmB gs*T.b)
def Sf {H H':Hp}{q:Addr}(S:Same H H')(h:H' q=none):H q=none:=by
 cases z:H q with
 | none=>rfl
 | some o =>
  have:=S _ _ z;rw[h] at this
  cases this
inductive spSolveN (K:TR) (vs:TZ) (H:Hp) (Q:VK) (_z3:XK):Prop
 | mk (l g:Addr) (ve:V) (c n N:Nat) (rss:UB) (o:TW) (as:UA) (zz0:vs=[.int (c:Int),.ref l,ve,.ref g]) (zz1:RowsAt K H l rss) (zz2:EvAt K H c o ve) (zz3:RowAt K H g as) (zz4:as.length=c) (zz5:(∀ rs∈rss,rs.length=c/\∃ D Ws,RepL n D Ws rs)) (zz6:(∃ D Ws,RepL n D Ws as)) (zz7:1<=n) (zz8:n<=200000) (zz9:N<=400000) (zz10:n+N<=440000) (zz11:(∀ T':_v.Tab,InvR c rss o (cutR o as) T'->TabBd N (rss.length+2) c T')) (zz12:1<=c) (zz13:c<=800) (zz14:rss.length+2<=32) (zz15:(∀ (T:UC) (q t:Addr) (xs:TZ) (H':Hp),H q=none->Same H H'->NoneT c rss o (cutR o as) T->H' q=some (.lst xs)->Rs K H' (multR c rss T rss.length 1) xs->SqT K H' t [.str "none",.ref q]->Q (.ref t) H')) (zz16:(∀ (T:UC) (q t va lo:Addr) (xs:TZ) (H':Hp),H q=none->Same H H'->MostT c rss o (cutR o as) T->H' q=some (.lst xs)->Rs K H' (multR c rss T (rss.length+1) (lcmB (cutR o as))) xs->IsR K H' (valueR c rss.length (cutR o as) T) (.ref va)->RowAt K H' lo (loadsR c rss.length T)->SqT K H' t [.str "most",.ref va,.ref lo,.ref q]->Q (.ref t) H'))
abbrev Z6 (P:TU)(w:World)(K:TR)(mg:TB)(base:Heap):Prop:=Has P w K mg base 5 "solve" VC (spSolveN K)
theorem Z1a (D:Def K mg "solve" jW VC)(T0:Blt mg)(tc:TabC K mg C)(gM:Has P w K mg base 2 "cut" UW (spCut K))(gY:Has P w K mg base 4 "start" VA (spStart K C))(fV:Has P w K mg base 4 "driven" UL (spDriven C))(eK:Has P w K mg base 4 "shown_multiples" VB (spShown K C))(eB:Z4 P w K mg base)(eX:Has P w K mg base 3 "ratio" UI spLowest)(gL:Has P w K mg base 2 "end_of" UM (spEndOf C)):Z6 P w K mg base:=by
 refine D.h9 (N:=["count","rows","event","aim","goal","lack","table","bottom","value","loads"]) fsc λH Q hr h nd=>?_;obtain⟨l,g,ve,c,n,N,rss,o,as,rfl,hR,hv,hg,gl,M,⟨Da,Wa,ra⟩,b0,hn,a,U,B,c5,hc,hm,kN,kM⟩:=h;have T:=T0;have b3:(["world","table"]:List Str).Nodup:=J8
 refine⟨_,(Z8 (Zi (i:=4) nd rfl xj (Ze gM hr (Z0 (pv 3) (Z0 (pv 2) Z7))))
  (Z8 (Zi (i:=5) nd rfl xj (Zl X2 (pv 0) (Zw Zx rfl T.len zm (Z0 (pv 1) Z7))))
  (Z8 (Zi (i:=6) nd rfl (Or.inr rfl) (Ze fV hr (Z0 (Ze gY hr (Z0 (pv 0) (Z0 (pv 1) (Z0 (pv 2) (Z0 (pv 4) Z7))))) (Z0 (pv 5) Z7))))
  (Z8 (Y9 (Zn We (pv 5) (Yb (pv 6) rfl) rfl)
   (Zb (Zg (Yl (Z0 Wj (Z0 (Ze eK hr (Z0 (pv 0) (Z0 (pv 1) (Z0 (pv 6) (Z0 (pv 5) (Z0 Z9 Z7)))))) Z7)))))
   Zv)
  (Z8 (Zi (i:=6) nd rfl (Or.inr rfl) (Ze fV hr (Z0 (pv 6) (Z0 (Zl X2 (pv 5) Z9) Z7))))
  (Z8 (Zi (i:=7) nd rfl xj (Ze eB hr (Z0 (pv 4) Z7)))
  (Z8 (Zi (i:=8) nd rfl xj (Ze eX hr (Z0 (Vs W8 (Ze gL hr (Z0 (pv 6) (Z0 (Zl X2 (pv 5) Z9) Z7)))) (Z0 (Zl Zp (pv 7) (Yb (pv 6) rfl)) Z7))))
  (Z8 (Zi (i:=9) nd rfl xj (Y6 Ya rfl T.tuple XY (Z0 (Yd (ox:=none) (N:=["world","table"]) (k:=1) (fv:=[6]) rfl (Yy rfl T.range (Z0 (pv 0) Z7))
  (λ_ _ _ _ _=>Zj (i:=0) b3 rfl xj) (λ_ _ _ _ _=>Y8) (λ_ _ _ _ _=>(Ze eX hr (Z0 (Ze gL hr (Z0 (pv 1) (Z0 (pv 0) Z7))) (Z0 (M7 (K:=K) (pv 1) rfl) Z7)))) Zu) Z7)))
  (Zb (Zg (Yl (Z0 Wj (Z0 (pv 8) (Z0 (pv 9) (Z0 (Ze eK hr (Z0 (pv 0) (Z0 (pv 1) (Z0 (pv 6) (Z0 (Zl X2 (pv 5) Z9) (Z0 (pv 7) Z7)))))) Z7))))))))))))))),?_⟩
 have o1:rss.length<rss.length+2:=Nat.lt_add_of_pos_right J6;have o2:rss.length+1<rss.length+2:=ji _;have Y:rss.length+2<=900:=YM hm J6;have o4:c<=900:=YM hc J6;have o5:rss.length<=900:=YM (GJ _ 2) Y;have o6:rss.length+2<=1000:=YM Y J6;have o8:c<=1000:=YM o4 J6;have o9:rss.length<=800:=YM (GJ _ 2) (YM hm J6);have b8:EvAt K H as.length o ve:=by rw[gl];exact hv
 refine⟨_,rfl,_,rfl,g,ve,as,o,rfl,hg,b8,by rw[gl];exact o8,λpg H1 S1 rg=>?_⟩;obtain⟨y,hl,hp⟩:=id hR;have a5:(y.map V.ref).length=rss.length:=by rw[YC];exact YY hp
 have c2:(cutR o as).length=c:=by rw[Yo];exact gl
 refine⟨_,rfl,_,rfl,l,_,rfl,.inl (SqL.of (S1 _ _ hl)),?_⟩;rw[a5];refine⟨_,_,rfl,rfl,?_⟩;refine⟨_,rfl,_,rfl,_,rfl,_,rfl,l,pg,ve,c,n,rss,o,cutR o as,rfl,⟨y,S1 _ _ hl,Y4 hp (Ext.same S1)⟩,hv.same S1,rg,c2,M,⟨_,_,ra.cut o⟩,b0,hn,c5,hc,o9,λq2 H2 S2 a6=>?_⟩;refine⟨_,rfl,q2,rss.length+2,c,c+rss.length,rss.length,N,c+rss.length,_v.colS c rss.length (AOf rss) (rowF (papR c o)) (rowF (cutR o as)),_v.rhsS rss.length,(λT'=>T'.own (rss.length+1)=c+rss.length+1),_,rfl,a6,o1,Y,o4,a,_v.inv0,_v.feas0,rfl,rfl,B,λT' c' I' F' W ho a7 a2 r=>⟨rss.length,o1,by rw[ho];exact YJ _,r⟩,λT' pl c' I' W st=>?_,λq3 H3 T3 S3 p ⟨G,F3,X3,O⟩=>?_⟩
 ·have:pl≠rss.length+1:=λz=>by
   have:=st.el;rw[z,W] at this;omega
  show (_v.piv T' pl c').own (rss.length+1)=_;rw[_v.own_ne (XQ this)];exact W
 have u:=(S1.trans S2).trans S3;obtain⟨dx,la,oa,ha,las,h1,h2,h3,h4,h5,h6⟩:=id p;refine⟨_,rfl,_,rfl,q3,C,dx,_,_,rfl,h1,tc.cl,tc.nO,X7,Ml h5 ⟨_,rfl,?_⟩⟩;rcases O with ⟨ho,c0⟩ | ⟨T1,c1,ho,I1,st,e3⟩
 ·refine Xt (λ_=>?_) (λh=>absurd (XE (mem_ownI.mpr ⟨rss.length,o1,ho⟩)) h);refine⟨_,rfl,_,rfl,_,rfl,_,rfl,l,q3,c,rss.length+2,c+rss.length,rss.length,n,N,1,rss,T3,by rw[ho];rfl,⟨y,u _ _ hl,Y4 hp (Ext.same u)⟩,p,TabOk.of G,B _ G,G.pos,o1,Y,o4,o5,λrs hr=>(M rs hr).2,J6,(show Bd n 1 from YQ (show (1:Int).natAbs<2 ^ 1 by decide) (GP J6 b0)),hn,U,λq4 xs H4 f4 S4 e4 r4=>?_⟩;refine⟨sz2,λt ht=>?_⟩;have X:=Same.new (o:=.tup [.str "none",.ref q4]) ht;exact kN T3 q4 t xs _ (Sf u f4) ((u.trans S4).trans X) ⟨G,ho,X3,c0⟩ (X _ _ e4) (r4.ext (Ext.same X)) (SqT.of Za)
 subst e3;have a4:∃ jl,jl<c/\(_v.piv T1 rss.length c1).hd jl=c+rss.length:=⟨c1,st.hc,by
  show _v.up T1.hd c1 (T1.own rss.length) c1=_;unfold _v.up;rw[YG rfl];exact ho⟩
 generalize _v.piv T1 rss.length c1=T3 at *
 refine Xt (λh=>?_) (λ_=>?_)
 ·obtain⟨i,hi,e⟩:=mem_ownI.mp (XI h);obtain⟨jl,s,Z⟩:=a4;exact absurd (e.trans Z.symm) (G.ne hi s)
 have c8:=TabOk.of G;refine⟨_,rfl,_,rfl,_,_,rfl,rfl,q3,rss.length+2,c,c+rss.length,rss.length+1,N,c+rss.length+1,_v.colS c rss.length (AOf rss) (rowF (papR c o)) (rowF (cutR o as)),_v.rhsS rss.length,(λT'=>∃ jl,jl<c/\T'.hd jl=c+rss.length),T3,rfl,p,o2,Y,o4,a,G,F3,a4,X3,B,λT' c' I' F' W b5 a7 a2 r=>?_,λT' pl c' I' W b1=>?_,λq5 H5 m X f ⟨I5,F5,X5,O⟩=>?_⟩
 ·obtain⟨jl,s,Z⟩:=W;obtain⟨k,hk,h7,h8⟩:=_v.InvS.bounded I' (λv hv=>Z41 hv) (λv hv z=>Do hv gl z) (i:=rss.length+1) (o2) b5 s Z a7 a2 r;exact⟨k,hk,h7,h8⟩
 ·obtain⟨jl,s,Z⟩:=W;refine⟨jl,s,?_⟩;show _v.up T'.hd c' (T'.own pl) jl=_;unfold _v.up;rw[YD (λz=>b1.nl (by rw[<-z];exact Z))];exact Z
 have R:m.own (rss.length+1)=c+rss.length+1/\∀ j,j<c->m.hd j≠c+rss.length->m.L (rss.length+1) j<=0:=by
  rcases O with h | ⟨T6,c6,h7,_,b2,_⟩
  ·exact h
  have:=b2.el;omega
 have b6:=u.trans X;have E:=B _ I5;have S:=TabOk.of I5;have gr:=(ra.cut o).least;obtain⟨xg,c3,b4⟩:=rg.same ((S2.trans S3).trans X);obtain⟨a0,d2,d1,c9,c7,t1,t2,t3,t4,t5,t6⟩:=id f;refine⟨_,rfl,pg,xg,cutR o as,n,_,_,rfl,.inr c3,b4,ra.cut o,hn,?_⟩;have c4:lcmB (cutR o as)*m.b≠0:=by
  have:=XG gr.pos I5.pos;omega
 refine⟨_,rfl,_,rfl,_,_,rfl,rfl,q5,rss.length+2,c,c+rss.length,c+rss.length+1,m,rfl,f,S,o6,o8,_,rfl,_,rfl,_,rfl,q5,C,a0,_,_,rfl,t1,tc.cl,tc.nB,Va,_,_,rfl,rfl,gr.bD.mulOk E.b (YM hn J6) (YM a J6),_,_,rfl,c4,(gr.bD.mul E.b).log (JK U J6),λva H6 f6 S6 e6=>?_⟩;have b9:=b6.trans S6;have d0:=S6 _ _ t1;refine⟨_,rfl,(c:Int),rfl,J5,J5,λd hd=>?_⟩;have et:(c:Int).toNat=c:=J5
 rw[et];refine⟨c,λi ys H2=>Same H6 H2/\Rs K H2 ((loadsR c rss.length m).take i) ys,Zy (o8),⟨Same.new hd,.nil⟩,?_,?_⟩
 ·rintro i ys H7 hi ⟨S7,r7⟩ J;refine⟨hi,?_⟩;rintro x H8 ⟨rfl,rfl⟩;refine Ym ?_;have a9:=S6.trans S7;refine⟨_,rfl,_,rfl,q5,rss.length+2,c,c+rss.length,i,m,by rw[Int.zero_add];rfl,f.same a9,S,o6,o8,_,rfl,q5,C,a0,_,_,rfl,a9 _ _ t1,tc.cl,tc.nB,Va,_,_,rfl,by have:=I5.pos;omega,E.b.log (JK a J6),λa8 H8 f8 I e8=>?_⟩;have A:=I _ _ J;refine⟨A,λq z e=>?_,?_⟩
  ·rw[Zc (Zd e hd)];exact I _ _ (S7 _ _ e)
  have e4:(loadsR c rss.length m)[i]?=some (nrm (_v.endOf (rss.length+2) c m i) m.b):=by
   unfold loadsR;rw[YI,jo hi];rfl
  rw[Ye e4];refine ((r7.ext (Ext.same I)).ext (Ext.upd A)).snoc ⟨a8,rfl,SqT.of ?_⟩;rw[Zc (λz=>by rw[z] at e8;rw[e8] at A;cases A)];exact e8
 rintro ys H7 ⟨S7,r7⟩ J;rw[YW (by unfold loadsR;simp)] at r7;refine⟨YJ _,d,ys,rfl,.inl ⟨SqL.of J,λlo a1=>?_⟩⟩;have I:=S7.trans (Same.new (o:=.tup ys) a1);have a3:RowAt K (upd H7 lo (.tup ys)) lo (loadsR c rss.length m):=⟨ys,SqT.of Za,r7.ext (Ext.new a1)⟩;generalize upd H7 lo (.tup ys)=H8 at *
 have F:=b9.trans I;have b7:=S6.trans I;refine⟨_,rfl,_,rfl,_,rfl,_,rfl,_,rfl,_,rfl,_,_,rfl,rfl,_,rfl,l,q5,c,rss.length+2,c+rss.length,rss.length+1,n,N,lcmB (cutR o as),rss,m,by rw[R.1];rfl,⟨y,F _ _ hl,Y4 hp (Ext.same F)⟩,f.same b7,S,E,I5.pos,o2,Y,o4,o5,λrs hr=>(M rs hr).2,gr.pos,gr.bD,hn,U,λq9 xs H9 f9 S9 e9 r9=>?_⟩;refine⟨sz4,λt ht=>?_⟩;have SX:=Same.new (o:=.tup [.str "most",.ref va,.ref lo,.ref q9]) ht;refine kM m q9 t va lo xs _ (Sf F f9) ((F.trans S9).trans SX) ⟨I5,F5,R.1,X5,R.2⟩ (SX _ _ e9) (r9.ext (Ext.same SX)) ⟨va,rfl,SqT.of (SX _ _ (S9 _ _ (I _ _ e6)))⟩ ((a3.same S9).same SX) (SqT.of Za)
inductive spSolve (K:TR) (vs:TZ) (H:Hp) (Q:VK) (_z3:XK):Prop
 | mk (l g:Addr) (ve:V) (c n:Nat) (rss:UB) (o:TW) (as:UA) (zz0:vs=[.int (c:Int),.ref l,ve,.ref g]) (zz1:RowsAt K H l rss) (zz2:EvAt K H c o ve) (zz3:RowAt K H g as) (zz4:as.length=c) (zz5:(∀ rs∈rss,rs.length=c/\∃ D Ws,RepL n D Ws rs)) (zz6:(∃ D Ws,RepL n D Ws as)) (zz7:1<=n) (zz8:n<=800) (zz9:bitsOf n c rss.length<=400000) (zz10:1<=c) (zz11:c<=800) (zz12:rss.length+2<=32) (zz13:(∀ (T:UC) (q t:Addr) (xs:TZ) (H':Hp),H q=none->Same H H'->NoneT c rss o (cutR o as) T->H' q=some (.lst xs)->Rs K H' (multR c rss T rss.length 1) xs->SqT K H' t [.str "none",.ref q]->Q (.ref t) H')) (zz14:(∀ (T:UC) (q t va lo:Addr) (xs:TZ) (H':Hp),H q=none->Same H H'->MostT c rss o (cutR o as) T->H' q=some (.lst xs)->Rs K H' (multR c rss T (rss.length+1) (lcmB (cutR o as))) xs->IsR K H' (valueR c rss.length (cutR o as) T) (.ref va)->RowAt K H' lo (loadsR c rss.length T)->SqT K H' t [.str "most",.ref va,.ref lo,.ref q]->Q (.ref t) H'))
theorem Has.imp {L:Nat}{x:Str}{ps:TF}{sp b:Sp}(h:Has P w K mg base L x ps sp)(f:∀ vs H Q E,b vs H Q E->sp vs H Q E):Has P w K mg base L x ps b:=let ⟨a,fd,F,r⟩:=h;⟨a,fd,F.imp f,r⟩
theorem Z4d {L:Nat}(h:Has P w K mg base L "solve" VC (spSolveN K)):Has P w K mg base L "solve" VC (spSolve K) :=
 h.imp λvs H Q E z0=>by
  obtain⟨l,g,ve,c,n,rss,o,as,e,m,k,hg,gl,b,i,d,hn,a,f,hc,hm,kN,j⟩:=z0;exact⟨l,g,ve,c,n,bitsOf n c rss.length,rss,o,as,e,m,k,hg,gl,b,i,d,J5,a,J5,λT' I=>Z6k b (i.elim λD z=>z.elim λW r=>⟨_,_,r.cut o⟩) d hm I,f,hc,hm,kN,j⟩
end
open _v (sm Y1 Wh Yv sm_zero Y2 Y0 Tf)
def Z22 {c:Nat}{o:TW}:lcmB (papR c o)=1:=by
 have h:∀ r∈papR c o,0<r.2:=λr hr=>((Xx c o).good r hr).pos;obtain⟨h1,_,a⟩:=Sl h;have b:=a 1 λr hr=>by
  obtain⟨i,hi⟩:=XL hr;have hc:i<c:=by
   have:=(YH.mp hi).1;rw[X1] at this;exact this
  have e:(papR c o)[i]?=some (if inE o i then (1,1) else (0,1)):=Ww (by simp[hc]);rw[e] at hi
  cases hi
  cases inE o i <;> exact Int.one_dvd 1
 have:=Xe J6 b;omega
theorem TabOk.endBd {m n N:Nat}(h:TabOk m n T)(bd:TabBd N m n T)(v:Nat):Bd N (_v.endOf m n T v):=by
 by_cases q:∃ i,i<m/\T.own i=v
 ·obtain⟨i,hi,rfl⟩:=q;rw[h.endO hi];exact bd.l i n hi (YJ _)
 have:_v.endOf m n T v=0:=_v.sm_zero λi hi=>YD λz=>q ⟨i,hi,z⟩;rw[this];exact Bd.zero N
def endZ (c g:Nat)(T:UC):List Int:=(List.range c).map λv=>_v.endOf (g+2) c T v
def Sg {r:Rat}{W:Int}(a:0<D)(hr:0<r.2)(h:r.1*D=W*r.2):(0<=r.1 ↔ 0<=W)/\(r.1<=0 ↔ W<=0)/\(r.1=0 ↔ W=0):=by
 have a1:0<r.1->0<W:=λz=>by
  have h1:=XG z a;rw[h] at h1;apply YF;intro q;have:=ql (show W<=0 by omega) (show 0<=r.2 by omega);omega
 have a2:r.1<0->W<0:=λz=>by
  have h1:=XG (show 0 < -r.1 by omega) a;rw[Y16,h] at h1;apply YF;intro q;have:=zW (show 0<=W by omega) (show 0<=r.2 by omega);omega
 have a3:r.1=0->W=0:=λz=>by
  rw[z,zZ] at h;rcases Int.mul_eq_zero.mp h.symm with q | q <;> omega
 omega
def MostT.sv {c:Nat}{o:TW}(h:MostT c rss o gs T):_v.Most c rss.length (AOf rss) (rowF (papR c o)) (rowF gs) T (rss.length+1):=by
 obtain⟨jl,a,b⟩:=h.lk;exact _v.InvS.most h.inv h.feas J5 h.aim a b h.no
def NoneT.sv {c:Nat}{o:TW}(h:NoneT c rss o gs T):(∀ k,k<rss.length->_v.numAt c T rss.length (c+k)<=0)/\∀ w,w<c->rowF (papR c o) w*T.b<=sm rss.length (λk=>AOf rss k w * -_v.numAt c T rss.length (c+k)) :=
 _v.InvS.none h.inv J5 h.lk (ia:=rss.length+1) J5 h.aim h.no
def TabHere (K:TR)(mg:TB):Prop:=∃ (C f:Addr) (fd:FuncData),TabC K mg C/\Mk K C f/\Fun K "__init__" "Table.__init__" iH f fd/\Binds K fd UT []
def Z6j {sl:Array (Option Value)}{kV:Value}(X:K.In h)(G:h.Ns mainGlobals mg)
  (d:W.nsIn K mainGlobals "Table"=some (some (.ref C)))
  (a1:W.findIn K (.ref C) "__init__"=some (some (.ref f))) (i1:W.isFn K (.ref f)=true) (b:K.lookup f=some ⟨oc,od,.func (W.fnOf "__init__" "Table.__init__" (defArgs iH) (defBody iH) (defScope iH) .none kV dc pm an cd ct),sl⟩) (a:W.codeIn K cd "Table.__init__"=true) (k1:W.keepIn K (.ref f)=true)
  (pg:W.plainGet K C Str.empty=true) (hd:W.hasDictIn K C=true) (po:W.plainOver K C=true) (sa:W.findIn K (.ref C) "__setattr__"=some (some (.builtin "object.__setattr__"))) (mk:W.makesIn K C=true) (c:W.keepIn K (.ref C)=true)
  (nL:W.findIn K (.ref C) "lines"=some none) (nO:W.findIn K (.ref C) "owners"=some none) (nH:W.findIn K (.ref C) "heads"=some none) (nB:W.findIn K (.ref C) "bottom"=some none) (nK:W.findIn K (.ref C) "lack"=some none):TabHere K mg :=
 ⟨C,f,_,⟨⟨pg,hd,po,sa⟩,nL,nO,nH,nB,nK,Y0J X G d⟩,⟨mk,a1,i1,c⟩,U7 b a k1,(U7 b a k1).binds λ_ _ _ _ _ _ us hl=>match us,hl with | [_,_,_,_,_,_],_=>rfl⟩
inductive spMeanP (K:TR) (vs:TZ) (H:Hp) (Q:VK) (_z3:XK):Prop
 | mk (a b:Addr) (xs us:TZ) (ws rs:UA) (n n':Nat) (D D':Int) (Ws Zs:TV) (zz0:vs=[.ref a,.ref b]) (zz1:(SqL K H a xs \/ SqT K H a xs)) (zz2:Rs K H ws xs) (zz3:(SqL K H b us \/ SqT K H b us)) (zz4:Rs K H rs us) (zz5:ws.length=rs.length) (zz6:rs.length<=1000) (zz7:RepL n D Ws ws) (zz8:RepL n' D' Zs rs) (zz9:n+n'+10<=200000) (zz10:∀ c H',Same H H'->SqT K H' c [.int (sumR (List.zipWith mulR' ws rs)).1,.int (sumR (List.zipWith mulR' ws rs)).2]->Q (.ref c) H')
section
variable {P:TU}{base:Heap}
theorem Z1l (D:Def K mg "_law_mean" j3 VD)(T:Blt mg)(y:Has P w K mg base 3 "_law_plus" UJ (spTwo K addR))(B:Has P w K mg base 3 "_law_times" UJ (spTwo K mulR')) :
  Has P w K mg base 4 "_law_mean" VD (spMeanP K):=by
 refine D.h9 (N:=["_law_weights_here","_law_row_here","_law_come","_law_k"]) fsc λH Q hr h nd=>?_;obtain⟨a,b,xs,us,ws,rs,n,n',D,D',Ws,Zs,rfl,G,j,hB,l,hl,F,e,rr,q,k⟩:=h;refine⟨_,(Z8 (Zi (i:=2) nd rfl xj (Yl (Z0 Z9 (Z0 Z9 Z7))))
  (Z8 (Xq JL rfl (Yy rfl T.range (Z0 (Zw Zx rfl T.len zm (Z0 (pv 1) Z7)) Z7)) (Zj (i:=3) nd rfl (Or.inl rfl))
   (Zb (Zi (i:=2) nd rfl xj (Ze y hr (Z0 (pv 2) (Z0 (Ze B hr (Z0 (Zf Jx (pv 0) (pv 3)) (Z0 (Zf Jx (pv 1) (pv 3)) Z7))) Z7))))))
  (Zb (Zg (pv 2))))),?_⟩
 refine⟨sz2,λp hp=>?_⟩;have lx:=j.len;have U:=l.len;have t:Same H (upd H p (.tup [.int 0,.int 1])):=Same.new hp;have s:=e.mul rr hl;have O:(List.zipWith mulR' ws rs).length=rs.length:=by rw[JV];omega
 have d:∀ {c:Addr} {ys:TZ} {H1:Hp},Same H H1->(SqL K H c ys \/ SqT K H c ys)->(SqL K H1 c ys \/ SqT K H1 c ys):=λS h=>h.elim (λz=>.inl (X9 S z)) λz=>.inr (Zo S z);refine⟨_,rfl,b,us,rfl,d t hB,(us.length:Int),rfl,J5,J5,?_⟩;have J:(us.length:Int).toNat=us.length:=J5
 rw[J];refine So (lo:=0) (n:=us.length) (λi σ H'=>Same H H'/\∃ (c:Addr) (x:Option V),σ=[some (.ref a),some (.ref b),some (.ref c),x]/\SqT K H' c [.int (sumR ((List.zipWith mulR' ws rs).take i)).1,.int (sumR ((List.zipWith mulR' ws rs).take i)).2]) ⟨t,p,none,rfl,SqT.of Za⟩ ?_ ?_
 ·rintro i σ H1 hi ⟨S1,c,x0,rfl,hc⟩;have e0:(0+(i:Int))=((i:Nat):Int):=J5
  rw[e0];have g:i<ws.length:=J5
  have f:i<rs.length:=J5
  have u:ws[i]?=some ws[i]:=by simp[g]
  have es:rs[i]?=some rs[i]:=by simp[f]
  obtain⟨x1,ex,I⟩:=j.at u;obtain⟨R,A,iy⟩:=l.at es;obtain⟨a1,rfl,o⟩:=I.ext (Ext.same S1);obtain⟨b1,rfl,m⟩:=iy.ext (Ext.same S1);refine⟨_,rfl,_,rfl,_,rfl,a,xs,_,_,rfl,rfl,d S1 G,Zh ex,_,rfl,_,rfl,b,us,_,_,rfl,rfl,d S1 hB,Zh A,?_⟩;refine⟨a1,b1,ws[i],rs[i],n+n'+10,rfl,o,m,(e.good _ (XR g)).mono J5,(rr.good _ (XR f)).mono J5,J5,λC H2 f2 S2 e2=>?_⟩;have r:(List.zipWith mulR' ws rs)[i]?=some (mulR' ws[i] rs[i]):=by rw[GM,u,es]
  refine⟨c,C,_,mulR' ws[i] rs[i],n+n'+10,rfl,Zo S2 hc,SqT.of e2,(s.take i).sumGood (k:=10) (by rw[JX];omega),(s.good _ (YE r)).mono J5,q,λE M L v e3=>?_⟩;refine⟨(S1.trans S2).trans v,E,_,rfl,?_⟩;rw[Fz r];exact SqT.of e3
 rintro σ H1 ⟨S1,c,x0,rfl,hc⟩;rw[YW J5] at hc;exact⟨_,rfl,k c H1 S1 hc⟩
inductive spEvent (K:TR) (vs:TZ) (H:Hp) (Q:VK) (_z3:XK):Prop
 | mk (b:Addr) (c n:Nat) (zz0:vs=[.ref b,.int c]) (zz1:BagAt H b n) (zz2:n<=100000) (zz3:c<=1000) (zz4:∀ (v:V) (H':Hp) (o:TW),BagAt H' b (n+c+1)->SameX b H H'->EvAt K H' c o v->Q v H')
theorem Z4r (D:Def K mg "_law_event" j7 UO)(T:Blt mg)(A:Z2 P w K mg base):Has P w K mg base 2 "_law_event" UO (spEvent K):=by
 refine D.h9 (N:=UO) fsc λH Q hr h nd=>?_;obtain⟨b,c,n,rfl,hB,hn,hl,k⟩:=h;have u:(UP:List Str).Nodup:=J8
 refine⟨_,(Z8 (Y9 (Zn Xm (Ze A hr (Z0 (pv 0) (Z0 Z9 Z7))) Z9 (Zq _))
   (Zb (Zg Xr))
   Zv)
  (Zb (Zg (Y6 Ya rfl T.tuple XY (Z0 (Yd (ox:=none) (N:=UP) (k:=1) (fv:=[0]) rfl (Yy rfl T.range (Z0 (pv 1) Z7))
  (λ_ _ _ _ _=>Zj (i:=0) u rfl xj) (λ_ _ _ _ _=>Xu (Zn Xm (Ze A hr (Z0 (pv 1) (Z0 Z9 Z7))) Z9 (Zq _))) (λ_ _ _ _ _=>(pv 0)) Zu) Z7))))),?_⟩
 refine⟨_,rfl,b,_,_,rfl,hB,J5,J6,J8,λz H1 z0 z1 s S1=>⟨rfl,_,rfl,?_⟩⟩;refine Xt (λh=>?_) (λh=>?_)
 ·exact k _ _ none (s.mono J5) S1 rfl
 have v:=s.lst;refine⟨_,rfl,(c:Int),rfl,J5,J5,λd hd=>?_⟩;have a:d≠b:=by
  obtain⟨ys,e⟩:=v;exact (Zd e hd).symm
 have C:(c:Int).toNat=c:=J5
 rw[C];refine⟨c,λi ys H2=>∃ p:Nat->Bool,ys=(evI i p).map V.int/\BagAt H2 b (n+1+i)/\SameX b H H2,Zy hl,?_,?_,?_⟩
 ·exact⟨λ_=>true,rfl,s.upd (XQ a),S1.trans (SameX.of (Same.new hd))⟩
 ·rintro i ys H2 hi ⟨p,rfl,m,S2⟩ f;refine⟨hi,?_⟩;rintro x F ⟨rfl,rfl⟩;have e0:(0+(i:Int))=((i:Nat):Int):=J5
  rw[e0];refine Tn ?_;refine⟨_,rfl,b,_,_,rfl,m,J5,J6,J8,λr E r0 r1 B t=>⟨rfl,_,rfl,?_⟩⟩;have g:E d=some (.lst ((evI i p).map V.int)):=t _ _ f a;have ep:evI i p=evI i (λj=>if j=i then decide (r=1) else p j):=Cp λj hj=>by rw[YD J5]
  refine Xt (λh=>?_) (λh=>?_)
  ·have h0:r=1:=by
    have:=XI h;injection this
   refine⟨_,rfl,g,λj=>if j=i then decide (r=1) else p j,?_,(B.upd (XQ a)).mono J5,?_⟩
   ·rw[Kg,YG (by simp[h0]),XF,<-ep];rfl
   exact λq o e ne=>by
    have e2:=t q o (S2 q o e ne) ne;rw[Zc (Zd (S1 q o e ne) hd)];exact e2
  have h0:¬ r=1:=λz=>h (XE (by rw[z]));refine⟨g,λj=>if j=i then decide (r=1) else p j,?_,B.mono J5,S2.trans t⟩;rw[Kg,YD (by simp[h0]),JT,<-ep]
 rintro ys H2 ⟨p,rfl,m,S2⟩ f;refine⟨YJ _,d,_,rfl,.inl ⟨SqL.of f,λl hl'=>?_⟩⟩;have y:Same H2 (upd H2 l (.tup ((evI c p).map V.int))):=Same.new hl';exact k _ _ (some p) ((m.same y).mono J5) (S2.trans (SameX.of y)) ⟨l,rfl,SqT.of Za⟩
end
open _v (sm Y1 Wh Yv sm_zero Y2 Y0 Tf)
open PySem.Spec PyProof.Rows
section
variable {X:Cx}
inductive rNeI (K:TR) (x:V) (y:V) (H:Hp) (Q:VK):Prop
 | mk (a b:Addr) (ns ms:TV) (zz0:x=.ref a) (zz1:y=.ref b) (zz2:SqT K H a (ns.map V.int)) (zz3:SqT K H b (ms.map V.int)) (zz4:Q (.bl (!decide (ns=ms))) H)
theorem Z79 (hu:X.A.units<cLine)(hK:X.K=K:=by rfl):OpR X (compareOp .NotEq) (rNeI K):=by
 subst hK;intro pins s σ H x y v u Q I o l h;obtain⟨a,b,ns,ms,rfl,rfl,ha,m,q⟩:=h
 cases o
 cases l;obtain⟨its,r1,k,_⟩:=I.tuple ha;obtain⟨c,r2,n,_⟩:=I.tuple m;have g:=r1.length;have i:=r2.length;rw[YC] at g i;refine SeqAt.RcNeAt.tuples (A:=X.A) (e:=λj=>ns.getD j 0 == ms.getD j 0) k n hu (λj h1 h2=>?_) _ _ _ _ ?_
 ·obtain⟨t,e1⟩:=Ug r1 (j:=j) (by simpa using h1);obtain⟨t',e2⟩:=Ug r2 (j:=j) (by simpa using h2);have d:its.toArray[j]=Value.int (ns.getD j 0) t:=by simpa using e1
  have f:c.toArray[j]=Value.int (ms.getD j 0) t':=by simpa using e2
  rw[d,f];exact zA _ _ _ _
 rw[YS,YS,<-g,<-i,Ga];exact⟨.bl _,H,I,rfl,q⟩
end
end _b
namespace _b
open PySem _L
section
variable {P:TU}{base:Heap}
abbrev Z5 (P:TU)(w:World)(K:TR)(mg:TB)(base:Heap):Prop:=Has P w K mg base 3 "minus" UH (spTwo K subR)
theorem Z4j (D:Def K mg "minus" j0 UH)(e:Z3 P w K mg base):Z5 P w K mg base:=by
 refine D.h9 (N:=UH) fsc λH Q hr h nd=>?_;obtain⟨a,b,r,s,n,rfl,d,hB,c,gs,hn,k⟩:=h;refine⟨_,(Zb (Zg (Ze e hr (Z0 (Zl U3 (Zl Zp (Zf Yu (pv 0) Z9) (Zf Yi (pv 1) Z9)) (Zl Zp (Zf Yu (pv 1) Z9) (Zf Yi (pv 0) Z9))) (Z0 (Zl Zp (Zf Yi (pv 0) Z9) (Zf Yi (pv 1) Z9)) Z7))))),?_⟩;exact⟨_,rfl,_,_,_,rfl,rfl,d,_,rfl,_,_,_,rfl,rfl,hB,_,_,rfl,rfl,c.b1.mulOk gs.b2 J5 J5,_,rfl,_,_,_,rfl,rfl,hB,_,rfl,_,_,_,rfl,rfl,d,_,_,rfl,rfl,gs.b1.mulOk c.b2 J5 J5,_,_,rfl,rfl,_,rfl,_,_,_,rfl,rfl,d,_,rfl,_,_,_,rfl,rfl,hB,_,_,rfl,rfl,c.b2.mulOk gs.b2 J5 J5,_,_,rfl,Wn c.pos gs.pos,Wu c.b2 gs.b2 hn,k⟩
end
def ConI (mg:TB)(x:Str)(i:Int):Prop:=∃ t,mg x=some (Value.int i t)
def Q1 {x:Str}{i:Int}{t:Tok}(X:K.In h)(G:h.Ns mainGlobals mg)(e:W.nsIn K mainGlobals x=some (some (.int i t))):ConI mg x i:=⟨t,Y0J X G e⟩
structure Offr where
 row:List Rat
 ask:Option Rat
 bid:Option Rat
 ev:Option (Nat->Bool)
abbrev _root_.UD:=List Offr
def MayAt (K:TR)(H:Hp)(o:Option Rat)(v:V):Prop:=match o with
 | none=>v=.non
 | some r=>IsR K H r v
theorem MayAt.ext {K:TR}{H H':Hp}{o:Option Rat}{v:V}(h:MayAt K H o v)(e:Ext H H'):MayAt K H' o v:=by
 cases o with
 | none=>exact h
 | some r=>exact IsR.ext h e
def OffAt (K:TR)(H:Hp)(c:Nat)(o:Offr)(v:V):Prop:=∃ (p a:Addr) (va vb ve:V),v=.ref p/\SqT K H p [.ref a,va,vb,ve]/\RowAt K H a o.row/\o.row.length=c/\MayAt K H o.ask va/\MayAt K H o.bid vb/\EvAt K H c o.ev ve
theorem OffAt.ext {K:TR}{H H':Hp}{c:Nat}{o:Offr}{v:V}(h:OffAt K H c o v)(e:Ext H H'):OffAt K H' c o v:=by
 obtain⟨p,a,va,vb,ve,h0,h1,h2,d,g,b,f⟩:=h;exact⟨p,a,va,vb,ve,h0,e.sq h1,h2.ext e,d,g.ext e,b.ext e,f.ext e⟩
theorem OffAt.same {K:TR}{H H':Hp}{c:Nat}{o:Offr}{v:V}(h:OffAt K H c o v)(e:Same H H'):OffAt K H' c o v:=h.ext (Ext.same e)
structure GoodO (n:Nat)(o:Offr):Prop where
 row:∀ r∈o.row,Good n r
 ask:∀ r,o.ask=some r->Good n r
 bid:∀ r,o.bid=some r->Good n r
def gainR (o:Offr)(buy:Bool):List Rat:=cutR o.ev (o.row.map λr=>if buy then subR r (o.ask.getD (0,1)) else subR (o.bid.getD (0,1)) r)
def priceO (o:Offr)(buy:Bool):Option Rat:=if buy then o.ask else o.bid
def wordO (buy:Bool):Str:=if buy then "buy" else "sell"
def Nc (o:Offr)(buy:Bool):(gainR o buy).length=o.row.length:=by unfold gainR;rw[Yo,YC]
section
variable {P:TU}{base:Heap}
inductive spGain (K:TR) (vs:TZ) (H:Hp) (Q:VK) (_z3:XK):Prop
 | mk (v:V) (c n:Nat) (o:Offr) (buy:Bool) (pr:Rat) (zz0:vs=[v,.str (wordO buy)]) (zz1:OffAt K H c o v) (zz2:c<=1000) (zz3:GoodO n o) (zz4:n<=200000) (zz5:priceO o buy=some pr) (zz6:∀ p H',Same H H'->RowAt K H' p (gainR o buy)->Q (.ref p) H')
theorem Z7m (D:Def K mg "gain" kH ["offer","word"])(T:Blt mg)(Y:Z5 P w K mg base)(gM:Has P w K mg base 2 "cut" UW (spCut K))(iG:ConI mg "ROW" 0)(iC:ConI mg "ASK" 1)(iA:ConI mg "BID" 2)(hZ:ConI mg "EVENT" 3) :
  Has P w K mg base 4 "gain" ["offer","word"] (spGain K):=by
 refine D.h9 (N:=["offer","word","worths"]) fsc λH Q hr h nd=>?_;obtain⟨v,c,n,o,buy,pr,rfl,⟨p,a,va,vb,ve,rfl,hp,hR,hl,X,hB,Z⟩,hc,g,hn,m,k⟩:=h;obtain⟨t0,y⟩:=iG;obtain⟨t1,E⟩:=iC;obtain⟨t2,A⟩:=iA;obtain⟨t3,u⟩:=hZ;obtain⟨xs,f,F⟩:=hR;have lx:=F.len;have O:(["worth","offer"]:List Str).Nodup:=J8
 have J:(["worth","offer"]:List Str).Nodup:=J8
 refine⟨_,(Z8 (Y9 (Zn Xm (pv 1) Wj (Zq _))
   (Zb (X6 (i:=2) (ox:=none) (N:=["worth","offer"]) (k:=1) (fv:=[0]) nd rfl xj rfl (Qf (Zf Yg (pv 0) (Yt (v:=.int 0) rfl y ⟨_,rfl⟩)))
  (λ_ _ _ _ _=>Zj (i:=0) O rfl xj) (λ_ _ _ _ _=>Y8) (λ_ _ _ _ _=>(Ze Y hr (Z0 (pv 0) (Z0 (Zf (Z6c (K:=K)) (pv 1) (Yt (v:=.int 1) rfl E ⟨_,rfl⟩)) Z7)))) Zu))
   (Zb (X6 (i:=2) (ox:=none) (N:=["worth","offer"]) (k:=1) (fv:=[0]) nd rfl xj rfl (Qf (Zf Yg (pv 0) (Yt (v:=.int 0) rfl y ⟨_,rfl⟩)))
  (λ_ _ _ _ _=>Zj (i:=0) J rfl xj) (λ_ _ _ _ _=>Y8) (λ_ _ _ _ _=>(Ze Y hr (Z0 (Zf (Z6c (K:=K)) (pv 1) (Yt (v:=.int 2) rfl A ⟨_,rfl⟩)) (Z0 (pv 0) Z7)))) Zu)))
  (Zb (Zg (Ze gM hr (Z0 (Y6 Ya rfl T.tuple XY (Z0 (pv 2) Z7)) (Z0 (Zf Yg (pv 0) (Yt (v:=.int 3) rfl u ⟨_,rfl⟩)) Z7)))))),?_⟩
 cases buy with
 | true =>
  replace m:o.ask=some pr:=m;have kk:=k;unfold gainR at kk;rw[m] at X kk;obtain⟨b,rfl,U⟩:=X;refine⟨_,rfl,rfl,_,rfl,K6 rfl ?_⟩;refine⟨_,rfl,p,_,_,_,rfl,rfl,hp,Zh (j:=0) rfl,a,rfl,⟨_,f⟩,λd hd=>?_⟩;refine⟨o.row.length,λi ys H2=>Same H H2/\Rs K H2 ((o.row.map λr=>subR r pr).take i) ys,Zy J5,⟨Same.new hd,.nil⟩,?_,?_⟩
  ·rintro i ys H2 hi ⟨S2,R2⟩ s;refine⟨⟨xs,xs[i]'J5,Zo S2 f,J7⟩,?_⟩;rintro x H3 ⟨rfl,S⟩;obtain⟨r,G,V⟩:=F.back (S xs (Zo S2 f));obtain⟨a1,rfl,B⟩:=V.ext (Ext.same S2);refine Ym ?_;refine⟨_,rfl,_,rfl,p,_,_,_,rfl,rfl,Zo S2 hp,Zh (j:=1) rfl,a1,b,r,pr,n,rfl,B,Zo S2 U,g.row r (YE G),g.ask pr m,hn,λI H4 f4 C R=>?_⟩;have t:=C _ _ s;refine⟨t,λq o' e=>?_,?_⟩
   ·rw[Zc (Zd e hd)];exact C _ _ (S2 _ _ e)
   rw[Tc _ G];exact (R2.ext ((Ext.same C).trans (Ext.upd t))).snoc ⟨I,rfl,(Ext.upd t).sq (SqT.of R)⟩
  rintro ys H2 ⟨S2,R2⟩ s;rw[YW (by rw[YC];omega)] at R2;refine⟨⟨xs,Zo S2 f,J5⟩,_,rfl,d,ys,rfl,.inl ⟨SqL.of s,λl hl'=>?_⟩⟩;have z:Same H2 (upd H2 l (.tup ys)):=Same.new hl';refine⟨_,rfl,p,_,_,_,rfl,rfl,Zo (S2.trans z) hp,Zh (j:=3) rfl,l,ve,_,o.ev,rfl,⟨ys,SqT.of Za,R2.ext (Ext.same z)⟩,?_,by rw[YC];omega,λM H' W L=>kk M H' ((S2.trans z).trans W) L⟩;rw[YC,hl];exact Z.same (S2.trans z)
 | false =>
  replace m:o.bid=some pr:=m;have kk:=k;unfold gainR at kk;rw[m] at hB kk;obtain⟨b,rfl,U⟩:=hB;refine⟨_,rfl,rfl,_,rfl,Qv J6 ?_⟩;refine⟨_,rfl,p,_,_,_,rfl,rfl,hp,Zh (j:=0) rfl,a,rfl,⟨_,f⟩,λd hd=>?_⟩;refine⟨o.row.length,λi ys H2=>Same H H2/\Rs K H2 ((o.row.map λr=>subR pr r).take i) ys,Zy J5,⟨Same.new hd,.nil⟩,?_,?_⟩
  ·rintro i ys H2 hi ⟨S2,R2⟩ s;refine⟨⟨xs,xs[i]'J5,Zo S2 f,J7⟩,?_⟩;rintro x H3 ⟨rfl,S⟩;obtain⟨r,G,V⟩:=F.back (S xs (Zo S2 f));obtain⟨a1,rfl,B⟩:=V.ext (Ext.same S2);refine Ym ?_;refine⟨_,rfl,p,_,_,_,rfl,rfl,Zo S2 hp,Zh (j:=2) rfl,_,rfl,b,a1,pr,r,n,rfl,Zo S2 U,B,g.bid pr m,g.row r (YE G),hn,λI H4 f4 C R=>?_⟩;have t:=C _ _ s;refine⟨t,λq o' e=>?_,?_⟩
   ·rw[Zc (Zd e hd)];exact C _ _ (S2 _ _ e)
   rw[Tc _ G];exact (R2.ext ((Ext.same C).trans (Ext.upd t))).snoc ⟨I,rfl,(Ext.upd t).sq (SqT.of R)⟩
  rintro ys H2 ⟨S2,R2⟩ s;rw[YW (by rw[YC];omega)] at R2;refine⟨⟨xs,Zo S2 f,J5⟩,_,rfl,d,ys,rfl,.inl ⟨SqL.of s,λl hl'=>?_⟩⟩;have z:Same H2 (upd H2 l (.tup ys)):=Same.new hl';refine⟨_,rfl,p,_,_,_,rfl,rfl,Zo (S2.trans z) hp,Zh (j:=3) rfl,l,ve,_,o.ev,rfl,⟨ys,SqT.of Za,R2.ext (Ext.same z)⟩,?_,by rw[YC];omega,λM H' W L=>kk M H' ((S2.trans z).trans W) L⟩;rw[YC,hl];exact Z.same (S2.trans z)
end
def wordsO (o:Offr):List Bool:=(if o.ask.isSome then [true] else [])++if o.bid.isSome then [false] else []
def offD:Offr:=⟨[],none,none,none⟩
def sidesP (os:UD)(n:Nat):List (Nat × Bool):=(List.range n).flatMap λi=>(wordsO (os.getD i offD)).map λb=>(i,b)
def gainsP (os:UD)(n:Nat):List (List Rat):=(List.range n).flatMap λi=>(wordsO (os.getD i offD)).map λb=>gainR (os.getD i offD) b
def R5 (os:UD)(n:Nat):sidesP os (n+1)=sidesP os n++(wordsO (os.getD n offD)).map λb=>(n,b):=by
 unfold sidesP;rw[zH,jp];simp
def Ka (os:UD)(n:Nat):gainsP os (n+1)=gainsP os n++(wordsO (os.getD n offD)).map λb=>gainR (os.getD n offD) b:=by
 unfold gainsP;rw[zH,jp];simp
def Rj (os:UD)(n:Nat):(sidesP os n).map (λs=>gainR (os.getD s.1 offD) s.2)=gainsP os n:=by
 unfold sidesP gainsP;rw[List.map_flatMap]
 congr 1
 funext i
 rw[qh];rfl
def Q6 {os:UD}{n:Nat}{b:Bool}(h:(i,b)∈sidesP os n):i<n/\∃ r,priceO (os.getD i offD) b=some r:=by
 unfold sidesP at h;rw[zw] at h;obtain⟨j,hj,hm⟩:=h;rw[YT] at hm;obtain⟨c,a,e⟩:=hm
 cases e;refine⟨XO.mp hj,?_⟩;unfold wordsO at a;rcases XS.mp a with z | z
 ·split at z
  ·rename_i hs
   rw[XH.mp z];exact zg.mp hs
  cases z
 split at z
 ·rename_i hs
  rw[XH.mp z];exact zg.mp hs
 cases z
def Uo (o:Offr):(wordsO o).length<=2:=by
 unfold wordsO;split <;> split <;> decide
theorem Uq (os:UD):∀ n,(sidesP os n).length<=2*n
 | 0=>by unfold sidesP;simp
 | n+1=>by
  rw[R5,XD,YC];have:=Uq os n;have:=Uo (os.getD n offD);omega
section
variable {P:TU}{base:Heap}
def OffsAt (K:TR)(H:Hp)(l:Addr)(c:Nat)(os:UD):Prop:=∃ vs:List V,H l=some (.lst vs)/\Paired (λv o=>OffAt K H c o v) vs os
def Yx {c:Nat}{vs:TZ}{os:UD}(h:Paired (λv o=>OffAt K H c o v) vs os)(x:Ext H H'):Paired (λv o=>OffAt K H' c o v) vs os:=Paired.mapP h λ_ _ q=>q.ext x
def OffAt.asks {H:Hp}{c:Nat}{o:Offr}{v:V}(h:OffAt K H c o v):∃ (p a:Addr) (va vb ve:V),v=.ref p/\SqT K H p [.ref a,va,vb,ve]/\(va=.non ↔ o.ask=none)/\(vb=.non ↔ o.bid=none):=by
 obtain⟨p,a,va,vb,ve,rfl,hp,_,_,d,hB,_⟩:=h;refine⟨p,a,va,vb,ve,rfl,hp,?_,?_⟩
 ·cases e:o.ask with
  | none=>rw[e] at d;exact⟨λ_=>rfl,λ_=>d⟩
  | some r=>rw[e] at d;obtain⟨b,rfl,_⟩:=d;exact⟨(λz=>nomatch z),λz=>nomatch z⟩
 cases e:o.bid with
 | none=>rw[e] at hB;exact⟨λ_=>rfl,λ_=>hB⟩
 | some r=>rw[e] at hB;obtain⟨b,rfl,_⟩:=hB;exact⟨(λz=>nomatch z),λz=>nomatch z⟩
inductive spWords (K:TR) (vs:TZ) (H:Hp) (Q:VK) (_z3:XK):Prop
 | mk (v:V) (c:Nat) (o:Offr) (zz0:vs=[v]) (zz1:OffAt K H c o v) (zz2:∀ l H',H l=none->Same H H'->H' l=some (.lst ((wordsO o).map λb=>V.str (wordO b)))->Q (.ref l) H')
theorem Z47 (D:Def K mg "words_of" iZ ["offer"])(s:ConI mg "ASK" 1)(t:ConI mg "BID" 2):Has P w K mg base 1 "words_of" ["offer"] (spWords K):=by
 refine D.h9 (N:=["offer","told"]) fsc λH Q hr h nd=>?_;obtain⟨v,c,o,rfl,hO,k⟩:=h;obtain⟨x,g⟩:=s;obtain⟨u,f⟩:=t;obtain⟨p,a,va,vb,ve,rfl,hp,ha,n⟩:=hO.asks;refine⟨_,(Z8 (Zi (i:=1) nd rfl xj (Xs Z7))
  (Z8 (Uc (Y9 (Zn Gy (Zf Yg (pv 0) (Yt (v:=.int 1) rfl g ⟨_,rfl⟩)) Xr (Zq _))
   (Zb (Xl (Vt XZ GK GL Xk (pv 1) (Z0 Wj Z7))))
   Zv))
  (Z8 (Y9 (Zn Gy (Zf Yg (pv 0) (Yt (v:=.int 2) rfl f ⟨_,rfl⟩)) Xr (Zq _))
   (Zb (Xl (Vt XZ GK GL Xk (pv 1) (Z0 Wj Z7))))
   Zv)
  (Zb (Zg (pv 1)))))),?_⟩
 refine⟨sz0,λl hl=>?_⟩;have m:Same H (upd H l (.lst [])):=Same.new hl;have up:∀ (zs:TZ) (H1:Hp),Same H H1->Same H (upd H1 l (.lst zs)):=λzs H1 S1 q o e=>by
  rw[Zc (Zd e hl)];exact S1 _ _ e
 refine⟨λσ H'=>Same H H'/\σ=[some (.ref p),some (.ref l)]/\H' l=some (.lst ((if o.ask.isSome then [true] else []).map λb=>V.str (wordO b))),?_,?_⟩
 ·refine⟨_,rfl,p,_,_,_,rfl,rfl,Zo m hp,Zh (j:=1) rfl,rfl,_,rfl,?_⟩
  cases e:o.ask with
  | none =>
   have:=ha.mpr e;subst this;exact Xn ⟨m,rfl,Za⟩
  | some r =>
   have d:va≠V.non:=λz=>by rw[ha.mp z] at e;cases e
   refine Z26 d ?_;exact⟨_,rfl,.inl ⟨rfl,_,SqL.of Za⟩,l,_,_,rfl,rfl,Za,(by show 0<sizeLine;decide),up _ _ m,rfl,Za⟩
 rintro σ H1 ⟨S1,rfl,h1⟩;refine⟨_,rfl,p,_,_,_,rfl,rfl,Zo S1 hp,Zh (j:=2) rfl,rfl,_,rfl,?_⟩
 cases e:o.bid with
 | none =>
  have:=n.mpr e;subst this;refine Xn ⟨_,rfl,k l H1 hl S1 ?_⟩;rw[h1];unfold wordsO;rw[e];simp
 | some r =>
  have d:vb≠V.non:=λz=>by rw[n.mp z] at e;cases e
  refine Z26 d ⟨_,rfl,.inl ⟨rfl,_,SqL.of h1⟩,l,_,_,rfl,rfl,h1,?_,_,rfl,k l _ hl (up _ _ S1) ?_⟩
  ·refine Py ?_;rw[YC];split <;> decide
  rw[Za];unfold wordsO;rw[e];simp;rfl
def SideV (K:TR)(H:Hp)(v:V)(s:Nat × Bool):Prop:=∃ t:Addr,v=.ref t/\SqT K H t [.int (s.1:Int),.str (wordO s.2)]
def SideV.ext {s:Nat × Bool}(h:SideV K H v s)(x:Ext H H'):SideV K H' v s:=by
 obtain⟨t,e,q⟩:=h;exact⟨t,e,x.sq q⟩
inductive spSides (K:TR) (vs:TZ) (H:Hp) (Q:VK) (_z3:XK):Prop
 | mk (l:Addr) (c:Nat) (os:UD) (zz0:vs=[.ref l]) (zz1:OffsAt K H l c os) (zz2:os.length<=100) (zz3:∀ (d:Addr) (ws:TZ) (H':Hp),H d=none->Same H H'->H' d=some (.lst ws)->Paired (SideV K H') ws (sidesP os os.length)->Q (.ref d) H')
theorem Z4e (D:Def K mg "sides" jY VE)(T:Blt mg)(X:Has P w K mg base 1 "words_of" ["offer"] (spWords K)):Has P w K mg base 2 "sides" VE (spSides K):=by
 refine D.h9 (N:=["offers","told","number","offer"]) fsc λH Q hr h nd=>?_;obtain⟨l,c,os,rfl,⟨vs,hl,hO⟩,O,k⟩:=h;have I:(["word","number"]:List Str).Nodup:=J8
 refine⟨_,(Z8 (Zi (i:=1) nd rfl xj (Xs Z7))
  (Z8 (Xq JL rfl (Tk rfl T.enumerate (Z0 (pv 0) Z7)) (Wb (n:=2) rfl (Y3 (Zj (i:=2) nd rfl (Or.inr rfl)) (Y3 (Zj (i:=3) nd rfl (Or.inl rfl)) Xh)))
   (Zb (Xl (Vt XZ Y1f Y1g Na (pv 1) (Z0 (Yd (ox:=none) (N:=["word","number"]) (k:=1) (fv:=[2]) rfl (Yk (Ze X hr (Z0 (pv 3) Z7)))
  (λ_ _ _ _ _=>Zj (i:=0) I rfl xj) (λ_ _ _ _ _=>Y8) (λ_ _ _ _ _=>(Yl (Z0 (pv 1) (Z0 (pv 0) Z7)))) Zu) Z7)))))
  (Zb (Zg (pv 1))))),?_⟩
 have lo:=YY hO;refine⟨sz0,λd hd=>?_⟩;have S:Same H (upd H d (.lst [])):=Same.new hd;have up:∀ (zs:TZ) (H1:Hp),Same H H1->Same H (upd H1 d (.lst zs)):=λzs H1 S1 q o e=>by
  rw[Zc (Zd e hd)];exact S1 _ _ e
 refine⟨_,rfl,l,rfl,⟨_,SqL.of (S _ _ hl)⟩,Sr (K:=K) (a:=l) (xs:=vs) (λi σ H'=>Same H H'/\∃ (ws:TZ) (x y:Option V),σ=[some (.ref l),some (.ref d),x,y]/\H' d=some (.lst ws)/\Paired (SideV K H') ws (sidesP os i)) ⟨S,[],none,none,rfl,Za,.nil⟩ (λi σ H' _ h=>SqL.of (h.1 _ _ hl)) ?_ ?_⟩
 ·rintro i v σ H1 p hi ⟨S1,ws,x,y,rfl,m,P1⟩ hp;have S2:Same H1 (upd H1 p (.tup [.int (i:Int),v])):=Same.new hp;have A:=S2 _ _ m;have Y:i<vs.length:=(YH.mp hi).1;have G:i<os.length:=J5
  have eo:os[i]?=some (os.getD i offD):=by simp[List.getD,G]
  have hv:=((Paired.getB hO hi eo).same S1).same S2;refine⟨p,_,rfl,SqT.of Za,rfl,_,_,rfl,_,_,rfl,rfl,?_⟩;refine⟨_,rfl,.inl ⟨rfl,_,SqL.of A⟩,_,rfl,v,c,os.getD i offD,rfl,hv,λlw H3 f3 M e3=>?_⟩;generalize hw:wordsO (os.getD i offD)=f at *
  have a0:f.length<=2:=by rw[<-hw];exact Uo _
  refine⟨lw,rfl,⟨_,SqL.of e3⟩,λdc z=>?_⟩;refine⟨f.length,λj ys B=>Same H3 B/\Paired (SideV K B) ys ((f.map λb=>(i,b)).take j),Zy J5,⟨Same.new z,.nil⟩,?_,?_⟩
  ·rintro j ys B hj ⟨g,u⟩ s;have R:f[j]?=some f[j]:=by simp[hj]
   refine⟨⟨_,V.str (wordO f[j]),SqL.of (g _ _ e3),by simp[hj]⟩,?_⟩;rintro x' H5 ⟨rfl,fx⟩;have ex:x'=V.str (wordO f[j]):=by
    have:=fx _ (SqL.of (g _ _ e3));rw[YI,R] at this;exact (YR this).symm
   subst ex;refine Ym ?_;refine⟨_,rfl,_,rfl,sz2,λt W=>?_⟩;have F:Same H5 (upd H5 t (.tup [.int (i:Int),.str (wordO f[j])])):=Same.new W;have r:=F _ _ s;refine⟨r,λq o' e=>?_,?_⟩
   ·rw[Zc (Zd e z)];exact F _ _ (g _ _ e)
   rw[Tc _ R];have Z:=(Ext.same F).trans (Ext.upd (o:=.lst (ys++[.ref t])) r);exact Y1E (Paired.mapP u λ_ _ q=>q.ext Z) ⟨t,rfl,(Ext.upd r).sq (SqT.of Za)⟩
  rintro ys B ⟨g,u⟩ s;rw[YW (by rw[YC];omega)] at u;refine⟨⟨_,SqL.of (g _ _ e3),by rw[YC];omega⟩,?_⟩;have E:=g _ _ (M _ _ A);have U:=YY P1;have J:=YY u;have sl:=Uq os i;rw[YC] at J;refine⟨d,dc,ws,ys,rfl,rfl,E,s,Zy J5,?_⟩;have C:Same H1 B:=(S2.trans M).trans g;refine⟨up _ _ (S1.trans C),ws++ys,_,_,rfl,Za,?_⟩;rw[R5,hw];have L:=Ext.upd (o:=.lst (ws++ys)) E;exact Paired.appP (Paired.mapP P1 λ_ _ q=>q.ext ((Ext.same C).trans L)) (Paired.mapP u λ_ _ q=>q.ext L)
 rintro σ H1 ⟨S1,ws,x,y,rfl,m,P1⟩;rw[lo] at P1;exact⟨_,rfl,k d ws H1 hd S1 m P1⟩
inductive spGainsP (K:TR) (vs:TZ) (H:Hp) (Q:VK) (_z3:XK):Prop
 | mk (l:Addr) (c n:Nat) (os:UD) (zz0:vs=[.ref l]) (zz1:OffsAt K H l c os) (zz2:os.length<=100) (zz3:c<=1000) (zz4:n<=200000) (zz5:(∀ o∈os,GoodO n o)) (zz6:∀ (d:Addr) (H':Hp),H d=none->Same H H'->RowsAt K H' d (gainsP os os.length)->Q (.ref d) H')
theorem Z1m (D:Def K mg "gains" j5 VE)(T:Has P w K mg base 2 "sides" VE (spSides K))(I:Has P w K mg base 4 "gain" ["offer","word"] (spGain K)):Has P w K mg base 5 "gains" VE (spGainsP K):=by
 refine D.h9 (N:=VE) fsc λH Q hr h nd=>?_;obtain⟨l,c,n,os,rfl,⟨vs,hl,hO⟩,m,hc,hn,g,k⟩:=h;have u:(["number","word","offers"]:List Str).Nodup:=J8
 refine⟨_,(Zb (Zg (Yd (ox:=none) (N:=["number","word","offers"]) (k:=2) (fv:=[0]) rfl (Yk (Ze T hr (Z0 (pv 0) Z7)))
  (λ_ _ _ _ _=>Wb (n:=2) rfl (Y3 (Zj (i:=0) u rfl (Or.inl rfl)) (Y3 (Zj (i:=1) u rfl (Or.inl rfl)) Xh))) (λ_ _ _ _ _=>Y8) (λ_ _ _ _ _=>(Ze I hr (Z0 (Zf (Z93 (K:=K)) (pv 2) (pv 0)) (Z0 (pv 1) Z7)))) Xp))),?_⟩
 have lo:=YY hO;refine⟨_,rfl,l,c,os,rfl,⟨vs,hl,hO⟩,m,λds ws H1 f1 S1 e1 P1=>?_⟩;have lp:=YY P1;have sl:=Uq os os.length;refine⟨ds,rfl,⟨_,SqL.of e1⟩,λd hd=>?_⟩;have x:H d=none:=by
  cases q:H d with
  | none=>rfl
  | some o=>rw[S1 _ _ q] at hd;cases hd
 refine⟨ws.length,λi ys H2=>Same H1 H2/\∃ as:List Addr,ys=as.map V.ref/\Paired (RowAt K H2) as ((gainsP os os.length).take i),Zy J5,⟨Same.new hd,[],rfl,.nil⟩,?_,?_⟩
 ·rintro i ys H2 hi ⟨S2,as,rfl,P2⟩ a;have F:ws[i]?=some ws[i]:=by simp[hi]
  refine⟨⟨_,ws[i],SqL.of (S2 _ _ e1),J7⟩,?_⟩;rintro R W ⟨rfl,J⟩;have ex:R=ws[i]:=by
   have:=J _ (SqL.of (S2 _ _ e1));rw[F] at this;exact (YR this).symm
  subst ex;have s:i<(sidesP os os.length).length:=J5
  have es:(sidesP os os.length)[i]?=some ((sidesP os os.length)[i]):=by simp[s]
  obtain⟨t,S,y⟩:=(Paired.getB P1 F es).ext (Ext.same S2);have v:=XR s;generalize M:(sidesP os os.length)[i]=G at *
  obtain⟨j,b⟩:=G;obtain⟨hj,r,C⟩:=Q6 v;rw[S];refine Tl y ?_;have E:os[j]?=some (os.getD j offD):=by simp[List.getD,hj]
  have B:j<vs.length:=J5
  have ev:vs[j]?=some vs[j]:=by simp[B]
  have A:=((Paired.getB hO ev E).same S1).same S2;refine⟨_,rfl,_,rfl,l,vs,_,_,rfl,rfl,SqL.of (S2 _ _ (S1 _ _ hl)),Zh ev,_,rfl,?_⟩;refine⟨vs[j],c,n,os.getD j offD,b,r,rfl,A,hc,g _ (YE E),hn,C,λp X z O=>?_⟩;have f:=z _ _ a;refine⟨f,λq o' e=>?_,as++[p],by rw[XF];rfl,?_⟩
  ·rw[Zc (Zd e hd)];exact z _ _ (S2 _ _ e)
  have L:(gainsP os os.length)[i]?=some (gainR (os.getD j offD) b):=by rw[<-Rj,YI,es];rfl
  rw[Ye L];exact Y1E (Y4 P2 ((Ext.same z).trans (Ext.upd f))) (O.ext (Ext.upd f))
 rintro ys H2 ⟨S2,as,rfl,P2⟩ a;have U:(gainsP os os.length).length=ws.length:=by rw[<-Rj,YC,lp]
 rw[YW J5] at P2;exact⟨⟨_,SqL.of (S2 _ _ e1),YJ _⟩,k d H2 x (S1.trans S2) ⟨as,a,P2⟩⟩
end
open _v (sm Y1 Wh Yv sm_zero Y2 Y0 Tf)
end _b
variable {os:UD}
namespace _b
open PySem _L
open _v (sm Y1 Wh Yv sm_zero Y2 Y0 Tf)
structure Wts (c:Nat)(rss:UB)(ls:UA):Prop where
 len:ls.length=c
 rep:∃ N D Ls,RepL N D Ls ls
 nn:∀ r∈ls,0<=r.1
 fit:∀ rs∈rss,(sumR (List.zipWith mulR' ls rs)).1<=0
 lie:sumR (List.zipWith mulR' ls (papR c none))=(1,1)
def mn (ls as:UA):Rat:=sumR (List.zipWith mulR' ls as)
def leR (r s:Rat):Prop:=r.1*s.2<=s.1*r.2
def negR (r:Rat):Rat:=(-r.1,r.2)
def negR.low {r:Rat}(h:Low r):Low (negR r):=⟨h.pos,by show Int.gcd (-r.1) r.2=1;rw[Int.neg_gcd];exact h.cop⟩
def negR.neg (r:Rat):negR (negR r)=r:=by
 unfold negR;simp
def mul_neg {r:Rat}(h:Low r):mulR' r (-1,1)=negR r:=by
 show nrm (r.1 * -1) (r.2*1)=negR r;rw[zv,Int.mul_neg,zv];exact Qk (r:=negR r) h.pos (negR.low h).cop
def Q5 {r:Rat}(h:Low r):subR (0,1) r=negR r:=by
 show nrm (0*r.2 - r.1*1) (1*r.2)=negR r;rw[zZ,zv,zu,Int.zero_sub];exact Qk (r:=negR r) h.pos (negR.low h).cop
def RowR (c:Nat)(as:UA):Prop:=as.length=c/\∃ n D Zs,RepL n D Zs as
structure MostV (c:Nat)(rss:UB)(as:UA)(va:Rat):Prop where
 low:Low va
 hit:∃ ls,Wts c rss ls/\mn ls as=va
 top:∀ ls,Wts c rss ls->leR (mn ls as) va
structure LeastV (c:Nat)(rss:UB)(as:UA)(va:Rat):Prop where
 low:Low va
 hit:∃ ls,Wts c rss ls/\mn ls as=va
 bot:∀ ls,Wts c rss ls->leR va (mn ls as)
section
variable {P:TU}{base:Heap}
theorem Z4a (D:Def K mg "times" jU UH)(e:Z3 P w K mg base):Has P w K mg base 3 "times" UH (spTwo K mulR'):=by
 refine D.h9 (N:=UH) fsc λH Q hr h nd=>?_;obtain⟨a,b,r,s,n,rfl,d,hB,c,gs,hn,k⟩:=h;refine⟨_,(Zb (Zg (Ze e hr (Z0 (Zl Zp (Zf Yu (pv 0) Z9) (Zf Yu (pv 1) Z9)) (Z0 (Zl Zp (Zf Yi (pv 0) Z9) (Zf Yi (pv 1) Z9)) Z7))))),?_⟩;exact⟨_,rfl,_,_,_,rfl,rfl,d,_,rfl,_,_,_,rfl,rfl,hB,_,_,rfl,rfl,c.b1.mulOk gs.b1 J5 J5,_,rfl,_,_,_,rfl,rfl,d,_,rfl,_,_,_,rfl,rfl,hB,_,_,rfl,rfl,c.b2.mulOk gs.b2 J5 J5,_,_,rfl,Wn c.pos gs.pos,Wu c.b2 gs.b2 hn,k⟩
inductive spMultiplied (K:TR) (vs:TZ) (H:Hp) (Q:VK) (_z3:XK):Prop
 | mk (a b:Addr) (rs:UA) (s:Rat) (n:Nat) (zz0:vs=[.ref a,.ref b]) (zz1:RowAt K H a rs) (zz2:SqT K H b [.int s.1,.int s.2]) (zz3:rs.length<=1000) (zz4:(∀ r∈rs,Good n r)) (zz5:Good n s) (zz6:n<=200000) (zz7:∀ c H' ys,Same H H'->H' c=some (.tup ys)->Rs K H' (rs.map λr=>mulR' r s) ys->Q (.ref c) H')
def Tg:FnScope VF VF (defScope iP):=fsc
theorem Me (D:Def K mg "multiplied" iP VF)(T:Blt mg)(I:Has P w K mg base 3 "times" UH (spTwo K mulR')):Has P w K mg base 4 "multiplied" VF (spMultiplied K):=by
 refine D.has λf fd F=>F.ok Tg (λvs H Q E h=>?_) (λcdv A outer s H vs Q E hr h=>?_)
 ·obtain⟨a,b,rs,s,n,rfl,_⟩:=h;rfl
 obtain⟨a,b,rs,s,n,rfl,⟨xs,p,j⟩,hB,y,L,gs,hn,k⟩:=h;have sc:=Tg;have nd:(["worth","by"]:List Str).Nodup:=J8
 refine⟨_,(Zb (Zg (Y6 Ya rfl T.tuple XY (Z0 (Yd (ox:=none) (N:=["worth","by"]) (k:=1) (fv:=[1]) rfl (Qf (pv 0))
  (λ_ _ _ _ _=>Zj (i:=0) nd rfl xj) (λ_ _ _ _ _=>Y8) (λ_ _ _ _ _=>M1 I (hr.mono J6) rfl (Z0 (pv 0) (Z0 (pv 1) Z7))) Zu) Z7)))),?_⟩
 refine⟨_,rfl,a,rfl,⟨_,p⟩,λd hd=>?_⟩;have lx:=j.len;refine⟨rs.length,λi ys H2=>Same H H2/\Rs K H2 (mapR (λr=>mulR' r s) rs i) ys,Zy y,⟨Same.new hd,.nil⟩,?_,?_⟩
 ·rintro i ys H2 hi ⟨S2,R2⟩ g;refine⟨⟨xs,xs[i]'J5,Zo S2 p,J7⟩,?_⟩;rintro x M ⟨rfl,G⟩;obtain⟨r,B,J⟩:=j.back (G xs (Zo S2 p));obtain⟨a1,rfl,v⟩:=J.ext (Ext.same S2);refine Ym ?_;refine⟨_,rfl,_,rfl,a1,b,r,s,n,rfl,v,Zo S2 hB,L r (YE B),gs,hn,λc u fc t C=>?_⟩;have m:u d=some (.lst ys):=t _ _ g;have z:Ext u (upd u d (.lst (ys++[.ref c]))):=Ext.upd m;refine⟨m,λq o e=>?_,?_⟩
  ·rw[Zc (Zd e hd)];exact t _ _ (S2 _ _ e)
  rw[C7 _ B];exact (R2.ext ((Ext.same t).trans z)).snoc ⟨c,rfl,z.sq (SqT.of C)⟩
 rintro ys H2 ⟨S2,R2⟩ g;refine⟨⟨xs,Zo S2 p,J5⟩,d,ys,rfl,.inl ⟨SqL.of g,λl hl'=>?_⟩⟩;rw[Z1y _ rfl] at R2;exact k l _ ys (S2.trans (Same.new hl')) Za (R2.ext (Ext.new hl'))
end
structure BookU (c n:Nat)(os:UD):Prop where
 few:os.length<=100
 good:∀ o∈os,GoodO n o
 rep:∀ rs∈gainsP os os.length,rs.length=c/\∃ D Zs,RepL n D Zs rs
 sides:(gainsP os os.length).length<=30
 n1:1<=n
 n8:n<=800
 bits:bitsOf n c (gainsP os os.length).length<=3000
def F4 {n:Nat}{D:Int}{Zs:TV}{as:UA}(h:RepL n D Zs as):RepL n D (Zs.map λz=>-z) (as.map λr=>mulR' r (-1,1)):=by
 refine⟨h.pos,h.bD,by rw[YC,YC,h.len],λi W r a hr=>?_⟩;rw[YI] at a hr
 cases e1:Zs[i]? with
 | none=>rw[e1] at a;cases a
 | some z =>
  cases e2:as[i]? with
  | none=>rw[e2] at hr;cases hr
  | some x =>
   rw[e1] at a;rw[e2] at hr
   cases a
   cases hr;obtain⟨a1,a2,a3⟩:=h.at_ i z x e1 e2;show (mulR' x (-1,1)).1*D=-z*(mulR' x (-1,1)).2/\Bd n (-z)/\Low (mulR' x (-1,1));rw[mul_neg a3];refine⟨?_,?_,negR.low a3⟩
   ·show -x.1*D=-z*x.2;rw[Y16,Y16,a1]
   show (-z).natAbs<2 ^ n;rw[Y1G];exact a2
section
variable {P:TU}{base:Heap}
inductive spTurned (K:TR) (vs:TZ) (H:Hp) (Q:VK) (_z3:XK):Prop
 | mk (a:Addr) (rs:UA) (n:Nat) (zz0:vs=[.ref a]) (zz1:RowAt K H a rs) (zz2:rs.length<=1000) (zz3:(∀ r∈rs,Good n r)) (zz4:1<=n) (zz5:n<=200000) (zz6:∀ c H',Same H H'->RowAt K H' c (rs.map λr=>mulR' r (-1,1))->Q (.ref c) H')
theorem Z19 (D:Def K mg "turned" jE ["row"])(b:Has P w K mg base 4 "multiplied" VF (spMultiplied K)):Has P w K mg base 5 "turned" ["row"] (spTurned K):=by
 refine D.h9 (N:=["row"]) fsc λH Q hr h nd=>?_;obtain⟨a,rs,n,rfl,d,hl,g,n1,hn,k⟩:=h;refine⟨_,(Zb (Zg (Ze b hr (Z0 (pv 0) (Z0 (Yl (Z0 (Vs W8 Z9) (Z0 Z9 Z7))) Z7))))),?_⟩;refine⟨_,rfl,_,rfl,sz2,λp hp=>?_⟩;have S1:Same H (upd H p (.tup [.int (-1),.int 1])):=Same.new hp;have f:Good n (-1,1):=⟨Vr 1 J6 n1,Vr 1 J6 n1,J6,J6⟩;exact⟨a,p,rs,(-1,1),n,rfl,d.same S1,SqT.of Za,hl,g,f,hn,λc H' ys S e R=>k c H' (S1.trans S) ⟨ys,SqT.of e,R⟩⟩
end
def gainsO (o:Offr):List (List Rat):=(wordsO o).map λb=>gainR o b
theorem Rk (os:UD):∀ n,n<=os.length->gainsP os n=(os.take n).flatMap gainsO
 | 0,_=>rfl
 | n+1,h=>by
  have e:os[n]?=some (os.getD n offD):=by simp[List.getD,show n<os.length by omega]
  rw[Ka,Rk os n J5,Ye e,jp];simp[gainsO]
def Vq (os:UD):gainsP os os.length=os.flatMap gainsO:=by rw[Rk os _ (YJ _),YW (YJ _)]
def P0 {o:Offr}(h:rs∈gainsO o):∃ b r,priceO o b=some r/\rs=gainR o b:=by
 unfold gainsO at h;obtain⟨b,a,e⟩:=YT.mp h;have:(0,b)∈sidesP [o] 1:=by
  unfold sidesP;simp;exact a
 obtain⟨_,r,hr⟩:=Q6 this;exact⟨b,r,hr,e.symm⟩
def G2 (o:Offr):(gainsO o).length<=2:=by unfold gainsO;rw[YC];exact Uo o
theorem Kd:∀ os:List Offr,(os.flatMap gainsO).length<=2*os.length
 | []=>J7
 | o::t=>by
  rw[Y17,XD,XW];have:=Kd t;have:=G2 o;omega
structure OffRep (c:Nat)(o:Offr):Prop where
 len:o.row.length=c
 rep:∃ (D A B:Int) (Zs:TV),RepL 90 D Zs o.row/\(∀ r,o.ask=some r->Low r/\r.1*D=A*r.2/\Bd 90 A)/\∀ r,o.bid=some r->Low r/\r.1*D=B*r.2/\Bd 90 B
theorem OffRep.good {c:Nat}{o:Offr}(h:OffRep c o):GoodO 90 o:=by
 obtain⟨D,A,B,Zs,h1,h2,a⟩:=h.rep;exact⟨h1.good,λr e=>Wv h1.pos (h2 r e).1.pos (h2 r e).1.cop (h2 r e).2.1 h1.bD (h2 r e).2.2,λr e=>Wv h1.pos (a r e).1.pos (a r e).1.cop (a r e).2.1 h1.bD (a r e).2.2⟩
def OffRep.gain {c:Nat}{o:Offr}(h:OffRep c o){b:Bool}{r:Rat}(hr:priceO o b=some r):(gainR o b).length=c/\∃ D Zs,RepL 91 D Zs (gainR o b):=by
 refine⟨by rw[Nc];exact h.len,?_⟩;obtain⟨D,A,B,Zs,h1,h2,k⟩:=h.rep;have key:∀ (f:Rat->Rat) (g:Int->Int),(∀ i W x,Zs[i]?=some W->o.row[i]?=some x->(f x).1*D=g W*(f x).2/\Bd 91 (g W)/\Low (f x))->RepL 91 D (Zs.map g) (o.row.map f):=λf g hf=>by
  refine⟨h1.pos,h1.bD.mono J6,by rw[YC,YC,h1.len],λi W x d hx=>?_⟩;rw[YI] at d hx
  cases e1:Zs[i]? with
  | none=>rw[e1] at d;cases d
  | some l =>
   cases e2:o.row[i]? with
   | none=>rw[e2] at hx;cases hx
   | some j =>
    rw[e1] at d;rw[e2] at hx
    cases d
    cases hx;exact hf i l j e1 e2
 unfold gainR
 cases b with
 | true =>
  have hr:o.ask=some r:=hr;obtain⟨a,e,br⟩:=h2 r hr;rw[hr];refine⟨D,_,RepL.cut (key _ (λW=>W - A) λi W x e1 e2=>?_) o.ev⟩;obtain⟨a1,a2,a3⟩:=h1.at_ i W x e1 e2;exact⟨Rx a3.pos a.pos a1 e,a2.sub br,Ts a3 a⟩
 | false =>
  have hr:o.bid=some r:=hr;obtain⟨a,e,br⟩:=k r hr;rw[hr];refine⟨D,_,RepL.cut (key _ (λW=>B - W) λi W x e1 e2=>?_) o.ev⟩;obtain⟨a1,a2,a3⟩:=h1.at_ i W x e1 e2;exact⟨Rx a.pos a3.pos e a1,br.sub a2,Ts a a3⟩
def FitO (Ws:TV)(o:Offr):Prop:=∀ (b:Bool) (r:Rat),priceO o b=some r->FitR 61 Ws (gainR o b)
def PriceR (t:Int)(mid:Rat)(o:Option Rat):Prop:=∀ r,o=some r->∃ (sl:Rat) (s:Int),r=addR mid sl/\Low sl/\0<=s/\s<=18/\sl.1*6=(t*s)*sl.2
section
variable {c:Nat}{rs:UA}{ask bid:Option Rat}{ev:TW}{mid:Rat}{k C:Int}
def Ud {t:Int}{o:Option Rat}{r:Rat}(hp:PriceR t mid o)(a:Low mid)(hm:mid.1*(6*k)=C*mid.2)(bk:Bd 21 k)(bC:Bd 46 C)(c:t=1 \/ t=-1)(hr:o=some r):∃ s,0<=s/\s<=18/\Low r/\r.1*(6*k)=(C+t*s*k)*r.2/\Bd 50 (C+t*s*k):=by
 obtain⟨sl,s,e,ls,b,s1,es⟩:=hp r hr;refine⟨s,b,s1,by rw[e];exact Mh a ls,?_,?_⟩
 ·rw[e];exact Gm a.pos ls.pos hm (V5 k es)
 have b1:Bd 6 (t*s):=Vr 6 (show (t*s).natAbs<64 by rcases c with rfl | rfl <;> omega) J6;exact ((bC.mono (show 46<=49 by decide)).add ((b1.mul bk).mono J6)).mono J6
theorem Dz (six:∀ r∈rs,Six r)(h:rs.length=c)(d:Low mid)(hk:0<k)(hm:mid.1*(6*k)=C*mid.2)(bk:Bd 21 k)(bC:Bd 46 C)(ha:PriceR 1 mid ask)(g:PriceR (-1) mid bid):OffRep c ⟨rs,ask,bid,ev⟩:=by
 refine⟨h,?_⟩;have i:=(RepL.six six).scale hk bk;have A:∃ A:Int,∀ r,ask=some r->Low r/\r.1*(6*k)=A*r.2/\Bd 90 A:=by
  cases ask with
  | none=>exact⟨0,λr e=>nomatch e⟩
  | some x =>
   obtain⟨s,_,_,l,e,b⟩:=Ud ha d hm bk bC (.inl rfl) rfl;exact⟨_,λr a=>by cases a;exact⟨l,e,b.mono J6⟩⟩
 have B:∃ A:Int,∀ r,bid=some r->Low r/\r.1*(6*k)=A*r.2/\Bd 90 A:=by
  cases bid with
  | none=>exact⟨0,λr e=>nomatch e⟩
  | some x =>
   obtain⟨s,_,_,l,e,b⟩:=Ud g d hm bk bC (.inr rfl) rfl;exact⟨_,λr a=>by cases a;exact⟨l,e,b.mono J6⟩⟩
 obtain⟨A,f⟩:=A;obtain⟨B,hB⟩:=B;exact⟨6*k,A,B,_,i.mono J6,f,hB⟩
theorem Cn (six:∀ r∈rs,Six r)(i:Low mid)(hk:0<k)(hm:mid.1*(6*k)=C*mid.2)(bk:Bd 21 k)(bC:Bd 46 C)(ha:PriceR 1 mid ask)(j:PriceR (-1) mid bid)(b:Bool)(r:Rat)(hr:priceO ⟨rs,ask,bid,ev⟩ b=some r) :
  ∃ (t s:Int),(t=1 \/ t=-1)/\0<=s/\s<=18/\RepL 61 (6*k) (cutZ ev ((wholeB rs 6).map λz=>t*(z*k - (C+t*s*k)))) (gainR ⟨rs,ask,bid,ev⟩ b):=by
 have h:∀ t s:Int,(wholeB rs 6).map (λz=>t*(z*k - (C+t*s*k)))=rs.map λx=>t*(x.1*(6:Int).fdiv x.2*k - (C+t*s*k)):=λt s=>by
  unfold wholeB;rw[qh];rfl
 have f:Bd 61 (6*k):=((Vr (x:=6) 3 J6 J6:Bd 3 6).mul bk).mono J6
 cases b with
 | true =>
  have hr:ask=some r:=hr;obtain⟨s,c,s1,l,e,d⟩:=Ud ha i hm bk bC (.inl rfl) hr;refine⟨1,s,.inl rfl,c,s1,?_⟩;unfold gainR;simp only [Y10];rw[hr,h];refine RepL.cut (RepL.of_map J5 f rs _ _ λx hx=>?_) ev;have a:=six x hx;have e1:=V5 k a.rep.1;refine⟨?_,?_,Ts a.g.low l⟩
  ·rw[zu];exact Rx a.g.pos l.pos e1 e
  rw[zu];exact (((a.rep.2.mul bk).mono (show 24+21<=50 by decide)).sub d).mono J6
 | false =>
  have hr:bid=some r:=hr;obtain⟨s,c,s1,l,e,d⟩:=Ud j i hm bk bC (.inr rfl) hr;refine⟨-1,s,.inr rfl,c,s1,?_⟩;unfold gainR;simp only [XM,qo];rw[hr,h];refine RepL.cut (RepL.of_map J5 f rs _ _ λx hx=>?_) ev;have a:=six x hx;have e1:=V5 k a.rep.1;have e2:=Rx l.pos a.g.pos e e1;refine⟨?_,?_,Ts l a.g.low⟩
  ·have:-1*(x.1*(6:Int).fdiv x.2*k - (C + -1*s*k))=(C + -1*s*k) - x.1*(6:Int).fdiv x.2*k:=J5
   rw[this];exact e2
  have:-1*(x.1*(6:Int).fdiv x.2*k - (C + -1*s*k))=(C + -1*s*k) - x.1*(6:Int).fdiv x.2*k:=J5
  rw[this];exact (d.sub ((a.rep.2.mul bk).mono (show 24+21<=50 by decide))).mono J6
def P3 {S M:Int}(a:Ws.length=c)(nn:∀ W∈Ws,0<=W)(six:∀ r∈rs,Six r)(n:rs.length=c)(hS:S=(List.zipWith (·*·) Ws (cutZ ev (List.replicate c 1))).sum)(f:M=(List.zipWith (·*·) Ws (cutZ ev (wholeB rs 6))).sum)
  (l:Low mid) (hk:0<k) (hm:mid.1*(6*k)=C*mid.2) (bk:Bd 21 k) (bC:Bd 46 C) (h1:0<S->k=S/\C=M) (ha:PriceR 1 mid ask) (m:PriceR (-1) mid bid):FitO Ws ⟨rs,ask,bid,ev⟩:=λb r hr=>by
 obtain⟨t,s,j,h,s1,rep⟩:=Cn (ev:=ev) six l hk hm bk bC ha m b r hr;have d:(wholeB rs 6).length=c:=by rw[(RepL.six six).len,n]
 refine⟨_,_,rep,?_⟩;rw[Z5m a d,<-hS,<-f];have g:0<=S:=by rw[hS];exact (Q7 a nn).1
 by_cases q:0<S
 ·obtain⟨rfl,rfl⟩:=h1 q;have e:t*(k*C - (C+t*s*k)*k)=- (s*(k*k)):=by
   rcases j with rfl | rfl <;> grind
  rw[e];have:0<=s*(k*k):=zW h (zW g g);omega
 have e0:S=0:=J5
 have i:M=0:=by
  rw[f];exact Ky a d nn (by rw[<-hS];exact e0)
 rw[e0,i];simp
end
def Z5w (r s:Rat):subR r s=addR r (negR s):=by
 show nrm (r.1*s.2 - s.1*r.2) (r.2*s.2)=nrm (r.1*s.2 + -s.1*r.2) (r.2*s.2);rw[Y16,Int.sub_eq_add_neg]
def K8 {z:Int}:(nrm z 2).1*6=z*3*(nrm z 2).2:=by
 have:=Nv (p:=z) (show (2:Int)≠0 by decide);have e:=V5 3 this;exact e
def Z0t {z:Int}{mid:Rat}(h0:0<=z)(h1:z<=6):PriceR 1 mid (some (addR mid (nrm z 2))):=λr e=>by
 cases e;refine⟨nrm z 2,z*3,rfl,Yp J6,J5,J5,?_⟩;rw[zu];exact K8
def Jd {z:Int}{mid:Rat}(h0:0<=z)(h1:z<=6):PriceR (-1) mid (some (subR mid (nrm z 2))):=λr e=>by
 cases e;refine⟨negR (nrm z 2),z*3,Z5w _ _,negR.low (Yp J6),J5,J5,?_⟩;show -(nrm z 2).1*6=-1*(z*3)*(nrm z 2).2;rw[Y16,K8];grind
def PriceR.non {t:Int}{mid:Rat}:PriceR t mid none:=λr e=>nomatch e
structure MidR (c:Nat)(Ws:TV)(rs:UA)(o:TW)(mid:Rat)(k C:Int):Prop where
 len:rs.length=c
 six:∀ r∈rs,Six r
 g:Good 100 mid
 pos:0<k
 eq:mid.1*(6*k)=C*mid.2
 bk:Bd 21 k
 bC:Bd 46 C
 at_:0<(List.zipWith (·*·) Ws (cutZ o (List.replicate c 1))).sum->k=(List.zipWith (·*·) Ws (cutZ o (List.replicate c 1))).sum/\C=(List.zipWith (·*·) Ws (cutZ o (wholeB rs 6))).sum
def Same.viaX {b:Addr}(a:H b=none)(S:Same H H1)(X:SameX b H1 H2):Same H H2:=λq o e=>X q o (S q o e) (Zd e a)
section
variable {P:TU}{base:Heap}
inductive spMid (K:TR) (vs:TZ) (H:Hp) (Q:VK) (_z3:XK):Prop
 | mk (a g:Addr) (ve:V) (c:Nat) (Ws:TV) (ws rs:UA) (o:TW) (zz0:vs=[.ref a,.ref g,ve]) (zz1:RowAt K H a ws) (zz2:WtsR c Ws ws) (zz3:RowAt K H g rs) (zz4:rs.length=c) (zz5:(∀ r∈rs,Six r)) (zz6:EvAt K H c o ve) (zz7:1<=c) (zz8:c<=100) (zz9:∀ (am:Addr) (H':Hp) (mid:Rat) (k C:Int),Same H H'->SqT K H' am [.int mid.1,.int mid.2]->MidR c Ws rs o mid k C->Q (.ref am) H')
theorem Z8q (D:Def K mg "_law_mid" kO VG)(T:Blt mg)(eI:Has P w K mg base 4 "_law_mean" VD (spMeanP K))(eW:Has P w K mg base 2 "_law_cut" UX (spLCut K))(eS:Has P w K mg base 3 "_law_parted" UJ (spParted K)) :
  Has P w K mg base 5 "_law_mid" VG (spMid K):=by
 refine D.h9 (N:=["_law_weights_here","_law_row_here","_law_event_here","_law_share"]) fsc λH Q hr h nd=>?_;obtain⟨a,g,ve,c,Ws,ws,rs,o,rfl,⟨xs,Z,X⟩,f,⟨us,G,V⟩,l1,six,E0,c8,hc,k⟩:=h;have b0:(["_law_one"]:TF).Nodup:=J8
 refine⟨_,(Z8 (Zi (i:=3) nd rfl xj (Ze eI hr (Z0 (pv 0) (Z0 (Ze eW hr (Z0 (Yd (ox:=none) (N:=["_law_one"]) (k:=1) (fv:=[]) rfl (Qf (pv 1))
  (λ_ _ _ _ _=>Zj (i:=0) b0 rfl xj) (λ_ _ _ _ _=>Y8) (λ_ _ _ _ _=>(Yl (Z0 Z9 (Z0 Z9 Z7)))) Zu) (Z0 (pv 2) Z7))) Z7))))
  (Z8 (Y9 (Zn Xm (Zf Yu (pv 3) Z9) Z9 (Zq _))
   (Zb (Zg (Yl (Z0 Z9 (Z0 Z9 Z7)))))
   Zv)
  (Zb (Zg (Ze eS hr (Z0 (Ze eI hr (Z0 (pv 0) (Z0 (Ze eW hr (Z0 (pv 1) (Z0 (pv 2) Z7))) Z7))) (Z0 (pv 3) Z7))))))),?_⟩
 have c3:=V.len;refine⟨_,rfl,_,rfl,g,rfl,⟨_,G⟩,λd hd=>?_⟩;refine⟨c,λj ys H'=>Same H H'/\Rs K H' (List.replicate j (1,1)) ys,Zy J5,⟨Same.new hd,.nil⟩,?_,?_⟩
 ·rintro j ys b3 hj ⟨l,O⟩ y;refine⟨⟨us,us[j]'J5,Zo l G,J7⟩,?_⟩;rintro x' H3 ⟨rfl,fx⟩;refine Ym ?_;refine⟨sz2,λp hp=>?_⟩;have v:Same H3 (upd H3 p (.tup [.int 1,.int 1])):=Same.new hp;have u:=v _ _ y;refine⟨u,λq o' e=>?_,?_⟩
  ·rw[Zc (Zd e hd)];exact v _ _ (l _ _ e)
  rw[Y1J];exact (O.ext ((Ext.same v).trans (Ext.upd u))).snoc ⟨p,rfl,(Ext.upd u).sq (SqT.of Za)⟩
 rintro ys b3 ⟨l,O⟩ y;refine⟨⟨us,Zo l G,J5⟩,_,rfl,d,ve,ys,List.replicate c (1,1),o,rfl,.inl (SqL.of y),O,by rw[GY];exact E0.same l,by rw[GY];omega,λc0 c7 v a2=>?_⟩;obtain⟨a0,b7,b5⟩:=a2;have t:=l.trans v;have ro:=(RepL.ones c).cut o;have lo:(cutR o (List.replicate c (1,1))).length=c:=by rw[Yo,GY]
 refine⟨a,c0,xs,a0,ws,_,10,1,_,_,_,_,rfl,.inr (Zo t Z),X.ext (Ext.same t),.inr b7,b5,by rw[lo];exact f.len,by rw[lo];omega,f.rep,ro,J6,λY c5 b8 I=>?_⟩;have b:=t.trans b8;have L:Ws.length=c:=by rw[f.rep.len];exact f.len
 obtain⟨r,B⟩:=(f.rep.mul ro (by rw[lo];exact f.len)).sum;have x:=(f.rep.mul ro (by rw[lo];exact f.len)).sumGood (k:=10) (by rw[JV,lo];omega);replace r:(sumR (List.zipWith mulR' ws (cutR o (List.replicate c (1,1))))).1*(Ws.sum*1)=(List.zipWith (·*·) Ws (cutZ o (List.replicate c 1))).sum*(sumR (List.zipWith mulR' ws (cutR o (List.replicate c (1,1))))).2:=r;replace B:Low (sumR (List.zipWith mulR' ws (cutR o (List.replicate c (1,1))))):=B;replace x:Good (10+1+10) (sumR (List.zipWith mulR' ws (cutR o (List.replicate c (1,1))))):=x;generalize sumR (List.zipWith mulR' ws (cutR o (List.replicate c (1,1))))=s at *
 have bS:Bd 21 (List.zipWith (·*·) Ws (cutZ o (List.replicate c 1))).sum:=Z2p (m:=10) (n:=1) (k:=10) (λW hW=>f.rep.bdW W hW) (λz hz=>ro.bdW z hz) (by rw[L];omega);have r6:=RepL.six six;have bM:Bd 44 (List.zipWith (·*·) Ws (cutZ o (wholeB rs 6))).sum:=Z2p (m:=10) (n:=24) (k:=10) (λW hW=>f.rep.bdW W hW) (λz hz=>(r6.cut o).bdW z hz) (by rw[L];omega);have a5:0<=(List.zipWith (·*·) Ws (cutZ o (List.replicate c 1))).sum:=(Q7 L f.nn).1;have wp:=f.pos;refine⟨_,rfl,Y,_,_,rfl,rfl,I,rfl,_,rfl,?_⟩;refine Xt (λh=>?_) (λh=>?_)
 ·have h0:s.1=0:=by
   have:=XI h;injection this
  have S0:¬ 0<(List.zipWith (·*·) Ws (cutZ o (List.replicate c 1))).sum:=λz=>by
   have h1:=XG z B.pos;rw[h0,zZ] at r;omega
  refine⟨sz2,λp hp=>?_⟩;exact k p _ (0,1) 1 0 (b.trans (Same.new hp)) (SqT.of Za) ⟨l1,six,⟨bd0 _,Vr 1 J6 J6,J6,J6⟩,J6,J6,Vr 1 J6 J6,bd0 _,λz=>absurd z S0⟩
 have h0:s.1≠0:=λz=>h (XE (by rw[z]));have A:0<s.1:=by
  have:0<=s.1:=((Sg (show 0<Ws.sum*1 by omega) B.pos r).1).mpr a5;omega
 have a1:0<(List.zipWith (·*·) Ws (cutZ o (List.replicate c 1))).sum:=by
  apply YF;intro z;have:(List.zipWith (·*·) Ws (cutZ o (List.replicate c 1))).sum=0:=J5
  rw[this,zZ] at r;have:=XG A (show 0<Ws.sum*1 by omega);omega
 refine⟨_,rfl,_,rfl,_,rfl,g,ve,us,rs,o,rfl,.inr (Zo b G),V.ext (Ext.same b),by rw[l1];exact E0.same b,J5,λb6 c9 M b4=>?_⟩;obtain⟨S,a3,a9⟩:=b4;have rc:=r6.cut o;have U:(cutR o rs).length=c:=by rw[Yo];exact l1
 refine⟨a,b6,xs,S,ws,_,10,24,_,_,_,_,rfl,.inr (Zo (b.trans M) Z),X.ext (Ext.same (b.trans M)),.inr a3,a9,by rw[U];exact f.len,by rw[U];omega,f.rep,rc,J6,λa8 c4 a6 a4=>?_⟩;obtain⟨R,F⟩:=(f.rep.mul rc (by rw[U];exact f.len)).sum;have C:=(f.rep.mul rc (by rw[U];exact f.len)).sumGood (k:=10) (by rw[JV,U];omega);replace R:(sumR (List.zipWith mulR' ws (cutR o rs))).1*(Ws.sum*6)=(List.zipWith (·*·) Ws (cutZ o (wholeB rs 6))).sum*(sumR (List.zipWith mulR' ws (cutR o rs))).2:=R;replace F:Low (sumR (List.zipWith mulR' ws (cutR o rs))):=F;replace C:Good (10+24+10) (sumR (List.zipWith mulR' ws (cutR o rs))):=C;generalize sumR (List.zipWith mulR' ws (cutR o rs))=J at *
 have E:=M.trans a6;replace I:=Zo E I;refine⟨_,rfl,a8,Y,J,s,44,rfl,a4,I,C,x.mono J6,A,J6,λaq c2 c6 b9 c1=>?_⟩;have qE:=Z0j (q:=nrm (J.1*s.2) (J.2*s.1)) F.pos B.pos R r (Wt (J.1*s.2) (J.2*s.1));have a7:J.2*s.1≠0:=Wn F.pos A;have qG:Good 65 (nrm (J.1*s.2) (J.2*s.1)):=Wl (C.b1.mul x.b2) (C.b2.mul x.b1) a7;exact k aq c2 _ _ _ ((b.trans E).trans b9) (SqT.of c1) ⟨l1,six,qG.mono J6,a1,qE,bS,bM.mono J6,λ_=>⟨rfl,rfl⟩⟩
inductive spOfferA (K:TR) (vs:TZ) (H:Hp) (Q:VK) (_z3:XK):Prop
 | mk (b a:Addr) (c n:Nat) (Ws:TV) (ws:UA) (zz0:vs=[.ref b,.ref a,.int 0]) (zz1:BagAt H b n) (zz2:n<=50000) (zz3:RowAt K H a ws) (zz4:WtsR c Ws ws) (zz5:1<=c) (zz6:c<=100) (zz7:∀ (v:V) (H':Hp) (o:Offr),SameX b H H'->OffAt K H' c o v->OffRep c o->FitO Ws o->Q v H')
theorem Z1f (D:Def K mg "_law_offer" jZ VH)(T:Blt mg)(eA:Z2 P w K mg base)(eY:Has P w K mg base 2 "_law_event" UO (spEvent K))(fM:Has P w K mg base 4 "_law_row" UO (spRow6 K))(gT:Has P w K mg base 5 "_law_mid" VG (spMid K))
  (eC:Z1 P w K mg base) (fC:Has P w K mg base 3 "_law_plus" UJ (spTwo K addR)) (f7:Has P w K mg base 3 "_law_minus" UJ (spTwo K subR)) :
  Has P w K mg base 6 "_law_offer" VH (spOfferA K):=by
 refine D.h9 (N:=["_law_bag_here","_law_weights_here","_law_loose","_law_event_here","_law_row_here","_law_mid_here","_law_ask","_law_bid","_law_way"]) fsc λH Q hr h nd=>?_;obtain⟨b,a,c,n,Ws,ws,rfl,hB,hn,⟨xs,M,L⟩,I,a7,hc,k⟩:=h;refine⟨_,(Z8 (Zi (i:=3) nd rfl xj (Ze eY hr (Z0 (pv 0) (Z0 (Zw Zx rfl T.len zm (Z0 (pv 1) Z7)) Z7))))
  (Z8 (Zi (i:=4) nd rfl xj (Ze fM hr (Z0 (pv 0) (Z0 (Zw Zx rfl T.len zm (Z0 (pv 1) Z7)) Z7))))
  (Z8 (Zi (i:=5) nd rfl xj (Ze gT hr (Z0 (pv 1) (Z0 (pv 4) (Z0 (pv 3) Z7)))))
  (Z8 (Zi (i:=6) nd rfl xj (Ze fC hr (Z0 (pv 5) (Z0 (Ze eC hr (Z0 (Zl U3 (Ze eA hr (Z0 (pv 0) (Z0 Z9 Z7))) (pv 2)) (Z0 Z9 Z7))) Z7))))
  (Z8 (Zi (i:=7) nd rfl xj (Ze f7 hr (Z0 (pv 5) (Z0 (Ze eC hr (Z0 (Zl U3 (Ze eA hr (Z0 (pv 0) (Z0 Z9 Z7))) (pv 2)) (Z0 Z9 Z7))) Z7))))
  (Z8 (Zi (i:=8) nd rfl xj (Ze eA hr (Z0 (pv 0) (Z0 Z9 Z7))))
  (Z8 (Uc (Y9 (Zn Xm (pv 8) Z9 (Zq _))
   (Zb (Zi (i:=6) nd rfl xj Xr))
   Zv))
  (Z8 (Uc (Y9 (Zn Xm (pv 8) Z9 (Zq _))
   (Zb (Zi (i:=7) nd rfl xj Xr))
   Zv))
  (Zb (Zg (Yl (Z0 (pv 4) (Z0 (pv 6) (Z0 (pv 7) (Z0 (pv 3) Z7))))))))))))))),?_⟩
 have lx:=L.len;obtain rfl:c=xs.length:=by have:=I.len;omega
 generalize hcc:xs.length=c at *
 refine⟨_,rfl,_,rfl,a,xs,rfl,.inr M,?_⟩;rw[hcc];refine⟨b,c,n,rfl,hB,J5,J5,λve H1 o B1 S1 E1=>?_⟩;have j:SqT K H1 a xs:=(Ext.bag S1 hB).sq M;have r:=L.ext (Ext.bag S1 hB);refine⟨_,rfl,_,rfl,a,xs,rfl,.inr j,?_⟩;rw[hcc];refine⟨b,c,_,rfl,B1,J5,J5,λa1 H2 rs B2 S2 R2 W six=>?_⟩;have l:=Ext.bag S2 B1;refine⟨_,rfl,_,rfl,_,rfl,a,a1,ve,c,Ws,ws,rs,o,rfl,⟨xs,l.sq j,r.ext l⟩,I,R2,W,six,E1.ext l,a7,hc,λam H3 mid kk C u J e=>?_⟩;have Z:=B2.same u;have E3:=(E1.ext l).same u;have R3:=R2.same u;have a8:SameX b H H3:=(S1.trans S2).trans (SameX.of u);clear S1 S2 u B1 B2 j r l E1 R2;refine⟨_,rfl,_,rfl,b,_,_,rfl,Z,J5,J6,J8,λz H4 z0 z1 B4 S4=>⟨_,rfl,_,_,rfl,rfl,?_⟩⟩;refine⟨_,_,rfl,J6,J6,λs H5 f5 U e5=>?_⟩;have e0:z - 0=z:=J5
 rw[e0] at e5;have g5:Good 100 (nrm z 2):=(Rv J5 J5 (.inr (.inl rfl))).g.mono J6;have F:=(Ext.bag S4 Z).trans (Ext.same U);refine⟨am,s,mid,nrm z 2,100,rfl,F.sq J,SqT.of e5,e.g,g5,J6,λaA H6 f6 S6 e6=>?_⟩;have A:SameX b H3 H6:=(S4.trans (SameX.of U)).trans (SameX.of S6);have B6:=(B4.same U).same S6;have x:=Ext.bag A Z;clear S4 U S6 e5 F f5 f6 B4;refine⟨_,rfl,_,rfl,b,_,_,rfl,B6,J5,J6,J8,λy H7 y0 y1 B7 S7=>⟨_,rfl,_,_,rfl,rfl,?_⟩⟩;refine⟨_,_,rfl,J6,J6,λs H8 f8 S e8=>?_⟩;have e0:y - 0=y:=J5
 rw[e0] at e8;have g8:Good 100 (nrm y 2):=(Rv J5 J5 (.inr (.inl rfl))).g.mono J6;have E:=(Ext.bag S7 B6).trans (Ext.same S);refine⟨am,s,mid,nrm y 2,100,rfl,E.sq (x.sq J),SqT.of e8,e.g,g8,J6,λaB H9 f9 S9 e9=>?_⟩;have B:SameX b H6 H9:=(S7.trans (SameX.of S)).trans (SameX.of S9);have B9:=(B7.same S).same S9;have R:=Ext.bag B B6;have a4:=R.sq (SqT.of (K:=K) e6);have a5:=SqT.of (K:=K) e9;have a2:=x.trans R;have a3:=(a8.trans A).trans B;clear S7 S S9 e8 E f8 f9 B7 e6 e9;refine⟨_,rfl,b,_,_,rfl,B9,J5,J6,J8,λwy d w0 w1 b0 G=>?_⟩;have f:=Ext.bag G B9;have pu:=Z0t (mid:=mid) z0 (show z<=6 by omega);have pd:=Jd (mid:=mid) y0 (show y<=6 by omega);have a6:∀ (m ob:Option Rat) (va vb:V),MayAt K d m va->MayAt K d ob vb->PriceR 1 mid m->PriceR (-1) mid ob->∀ p,d p=none->Q (.ref p) (upd d p (.tup [.ref a1,va,vb,ve])):=λm ob va vb Ma Mb Y X p hp=>by
  have v:Same d (upd d p (.tup [.ref a1,va,vb,ve])):=Same.new hp;have t:=Ext.same v;have q:=(a2.trans f).trans t;have a0:Ws.length=c:=by rw[I.rep.len];exact I.len
  exact k _ _ ⟨rs,m,ob,o⟩ ((a3.trans G).trans (SameX.of v)) ⟨p,a1,va,vb,ve,rfl,SqT.of Za,R3.ext q,W,Ma.ext t,Mb.ext t,E3.ext q⟩ (Dz six W e.g.low e.pos e.eq e.bk e.bC Y X) (P3 a0 I.nn six W rfl rfl e.g.low e.pos e.eq e.bk e.bC e.at_ Y X)
 refine⟨λσ H'=>H'=d/\∃ (m:Option Rat) (va:V),σ=[some (.ref b),some (.ref a),some (.int 0),some ve,some (.ref a1),some (.ref am),some va,some (.ref aB),some (.int wy)]/\MayAt K d m va/\PriceR 1 mid m,?_,?_⟩
 ·refine⟨_,rfl,rfl,_,rfl,?_⟩;refine Xt (λh=>?_) (λh=>?_)
  ·exact⟨rfl,none,.non,rfl,rfl,PriceR.non⟩
  exact⟨rfl,some _,.ref aA,rfl,⟨aA,rfl,f.sq a4⟩,pu⟩
 rintro σ O ⟨rfl,m,va,rfl,Ma,Y⟩;refine⟨λσ H'=>H'=O/\∃ (ob:Option Rat) (vb:V),σ=[some (.ref b),some (.ref a),some (.int 0),some ve,some (.ref a1),some (.ref am),some va,some vb,some (.int wy)]/\MayAt K O ob vb/\PriceR (-1) mid ob,?_,?_⟩
 ·refine⟨_,rfl,rfl,_,rfl,?_⟩;refine Xt (λh=>?_) (λh=>?_)
  ·exact⟨rfl,none,.non,rfl,rfl,PriceR.non⟩
  exact⟨rfl,some _,.ref aB,rfl,⟨aB,rfl,f.sq a5⟩,pd⟩
 rintro σ a9 ⟨rfl,ob,vb,rfl,Mb,X⟩;exact⟨_,rfl,_,rfl,_,rfl,_,rfl,sz4,λp hp=>a6 m ob va vb Ma Mb Y X p hp⟩
structure FairB (c:Nat)(Ws:TV)(os:UD):Prop where
 rep:∀ o∈os,OffRep c o
 fit:∀ o∈os,FitO Ws o
 few:os.length<=3
inductive spFairB (K:TR) (vs:TZ) (H:Hp) (Q:VK) (_z3:XK):Prop
 | mk (a:Addr) (c:Nat) (ns:TV) (zz0:vs=[.ref a,.int (c:Int)]) (zz1:SqL K H a (ns.map V.int)) (zz2:1<=c) (zz3:c<=100) (zz4:∀ (t aw l:Addr) (H':Hp) (Ws:TV) (ws:UA) (os:UD),Same H H'->SqT K H' t [.ref aw,.ref l]->RowAt K H' aw ws->WtsR c Ws ws->OffsAt K H' l c os->FairB c Ws os->Q (.ref t) H')
theorem Z4q (D:Def K mg "_law_fair_book" iX VI)(T:Blt mg)(S:Has P w K mg base 2 "_law_bag" UG (spBagA K))(eA:Z2 P w K mg base)(fO:Has P w K mg base 3 "_law_weights" UO (spWeightsR K))(fZ:Has P w K mg base 6 "_law_offer" VH (spOfferA K)) :
  Has P w K mg base 7 "_law_fair_book" VI (spFairB K):=by
 refine D.h9 (N:=["_law_script","_law_count","_law_weights_here","_law_many","_law_offers","_law_k"]) fsc λH Q hr h nd=>?_;obtain⟨a,c,ns,rfl,hS,E,hc,k⟩:=h;refine⟨_,(Z8 (Zi (i:=2) nd rfl xj (Ze fO hr (Z0 (Ze S hr (Z0 (pv 0) (Z0 Z9 Z7))) (Z0 (pv 1) Z7))))
  (Z8 (Zi (i:=3) nd rfl xj (Zf Zt (Xs (Z0 Z9 (Z0 Z9 (Z0 Z9 (Z0 Z9 (Z0 Z9 (Z0 Z9 (Z0 Z9 (Z0 Z9 Z7))))))))) (Ze eA hr (Z0 (Ze S hr (Z0 (pv 0) (Z0 Z9 Z7))) (Z0 Z9 Z7)))))
  (Z8 (Zi (i:=4) nd rfl xj (Xs Z7))
  (Z8 (Xq JL rfl (Yy rfl T.range (Z0 (pv 3) Z7)) (Zj (i:=5) nd rfl (Or.inl rfl))
   (Zb (Xl (Vt XZ GK GL Xk (pv 4) (Z0 (Ze fZ hr (Z0 (Ze S hr (Z0 (pv 0) (Z0 (Zl X2 Z9 (pv 5)) Z7))) (Z0 (pv 2) (Z0 Z9 Z7)))) Z7)))))
  (Zb (Zg (Yl (Z0 (pv 2) (Z0 (pv 4) Z7))))))))),?_⟩
 refine⟨_,rfl,a,2,ns,rfl,hS,J6,λb H1 fb S1 Z=>?_⟩;refine⟨_,rfl,b,c,_,rfl,Z,J5,E,hc,λaw H2 Ws ws B2 S2 R2 wt=>?_⟩;have G:=Same.viaX fb S1 S2;refine⟨sz8,λA B=>?_⟩;have O:Same H2 (upd H2 A (.lst [.int 0,.int 1,.int 2,.int 3,.int 1,.int 2,.int 3,.int 2])):=Same.new B;have e3:upd H2 A (.lst [.int 0,.int 1,.int 2,.int 3,.int 1,.int 2,.int 3,.int 2]) A=some (.lst [.int 0,.int 1,.int 2,.int 3,.int 1,.int 2,.int 3,.int 2]):=Za;generalize upd H2 A (.lst [.int 0,.int 1,.int 2,.int 3,.int 1,.int 2,.int 3,.int 2])=H3 at *
 have u:=G.trans O;refine⟨_,rfl,a,3,ns,rfl,X9 u hS,J6,λb4 H4 C S4 B4=>?_⟩;refine⟨b4,_,_,rfl,B4,J5,J6,J8,λz H5 z0 z1 B5 Y=>?_⟩;have f:=Same.viaX C S4 Y;obtain⟨m,em,hm⟩:∃ m:Nat,atI [V.int 0,.int 1,.int 2,.int 3,.int 1,.int 2,.int 3,.int 2] z=some (.int m)/\m<=3:=by
  have h:z=0 \/ z=1 \/ z=2 \/ z=3 \/ z=4 \/ z=5 \/ z=6 \/ z=7:=J5
  rcases h with rfl | rfl | rfl | rfl | rfl | rfl | rfl | rfl
  ·exact⟨0,Zh (j:=0) rfl,J6⟩
  ·exact⟨1,Zh (j:=1) rfl,J6⟩
  ·exact⟨2,Zh (j:=2) rfl,J6⟩
  ·exact⟨3,Zh (j:=3) rfl,J6⟩
  ·exact⟨1,Zh (j:=4) rfl,J6⟩
  ·exact⟨2,Zh (j:=5) rfl,J6⟩
  ·exact⟨3,Zh (j:=6) rfl,J6⟩
  exact⟨2,Zh (j:=7) rfl,J6⟩
 refine⟨A,_,_,_,rfl,rfl,SqL.of (f _ _ e3),em,?_⟩;refine⟨sz0,λl hl=>?_⟩;have R:Same H5 (upd H5 l (.lst [])):=Same.new hl;have e6:upd H5 l (.lst []) l=some (.lst []):=Za;have W:=(u.trans f).trans R;have W6:=R2.same ((O.trans f).trans R);have F:H l=none:=Sf (u.trans f) hl;generalize upd H5 l (.lst [])=H6 at *
 clear S1 S2 O S4 Y R f u G Z B2 B4 B5 R2 e3 B hl C em z0 z1;refine⟨_,rfl,(m:Int),rfl,J5,J5,?_⟩;have et:(m:Int).toNat=m:=J5
 rw[et];refine So (lo:=0) (n:=m) (λi σ H'=>Same H H'/\RowAt K H' aw ws/\∃ (vs:TZ) (os:UD) (x:Option V),σ=[some (.ref a),some (.int c),some (.ref aw),some (.int m),some (.ref l),x]/\H' l=some (.lst vs)/\Paired (λv o=>OffAt K H' c o v) vs os/\os.length=i/\(∀ o∈os,OffRep c o)/\(∀ o∈os,FitO Ws o)) ⟨W,W6,[],[],none,rfl,e6,.nil,rfl,(λ_ h=>nomatch h),λ_ h=>nomatch h⟩ ?_ ?_
 ·rintro i σ U hi ⟨J,L,vs,os,x,rfl,p,I,X,g,d⟩;have lp:=YY I;refine⟨_,rfl,.inl ⟨rfl,_,SqL.of p⟩,_,rfl,_,rfl,_,_,rfl,rfl,a,4+i,ns,(by show [V.ref a,V.int (4+(0+(i:Int)))]=_;rw[show (4+(0+(i:Int)))=((4+i:Nat):Int) by omega]),X9 J hS,J5,λb8 H8 M y B8=>?_⟩;refine⟨_,rfl,b8,aw,c,_,Ws,ws,rfl,B8,J5,L.same y,wt,E,hc,λv H9 o S9 O9 r9 f9=>?_⟩;have s:=Same.viaX M y S9;have r:=s _ _ p;refine⟨l,_,_,rfl,rfl,r,Py J5,λq o' e=>?_,(L.same s).ext (Ext.upd r),vs++[v],os++[o],_,rfl,Za,Y1E (Yx I ((Ext.same s).trans (Ext.upd r))) (O9.ext (Ext.upd r)),by rw[XD,X];rfl,λo' ho=>?_,λo' ho=>?_⟩
  ·rw[Zc (Zd e F)];exact s _ _ (J q o' e)
  ·rcases XS.mp ho with z | z
   ·exact g o' z
   rw[XH.mp z];exact r9
  rcases XS.mp ho with z | z
  ·exact d o' z
  rw[XH.mp z];exact f9
 rintro σ U ⟨J,L,vs,os,x,rfl,p,I,X,g,d⟩;refine⟨_,rfl,_,rfl,sz2,λt ht=>?_⟩;have y:Same U (upd U t (.tup [.ref aw,.ref l])):=Same.new ht;exact k t aw l _ Ws ws os (J.trans y) (SqT.of Za) (L.same y) wt ⟨vs,y _ _ p,Yx I (Ext.same y)⟩ ⟨g,d,J5⟩
end
def RowR.of {c n:Nat}{as:UA}(la:as.length=c)(a:∃ D Ws,RepL n D Ws as):RowR c as:=⟨la,a.elim λD z=>z.elim λW r=>⟨n,D,W,r⟩⟩
theorem FairB.wts {c:Nat}{Ws:TV}{ws:UA}{os:UD}(d:WtsR c Ws ws)(f:FairB c Ws os):Wts c (gainsP os os.length) ws:=by
 have k:Ws.length=c:=by rw[d.rep.len];exact d.len
 have wp:=d.pos;refine⟨d.len,⟨_,_,_,d.rep⟩,λr hr=>?_,λrs hr=>?_,?_⟩
 ·obtain⟨i,hi⟩:=XL hr;have hl:i<Ws.length:=by have:=(YH.mp hi).1;have:=d.rep.len;omega
  obtain⟨e,_,lo⟩:=d.rep.at_ i Ws[i] r (by simp[hl]) hi;exact ((Sg d.pos lo.pos e).1).mpr (d.nn _ (XR hl))
 ·rw[Vq] at hr;obtain⟨o,ho,hm⟩:=zw.mp hr;obtain⟨b,r,hp,e⟩:=P0 hm;obtain⟨D,Zs,g,hd⟩:=f.fit o ho b r hp;rw[e];have h:(gainR o b).length=c:=by rw[Nc];exact (f.rep o ho).len
  obtain⟨e1,lo⟩:=(d.rep.mul g (by rw[d.len,h])).sum;exact ((Sg (XG d.pos g.pos) lo.pos e1).2.1).mpr hd
 have lp:=X1 c none;obtain⟨e1,lo⟩:=(d.rep.mul (Xx c none) (by rw[d.len,lp])).sum;have e2:(List.zipWith (·*·) Ws (cutZ none (List.replicate c 1))).sum=Ws.sum:=by
  have:cutZ none (List.replicate c (1:Int))=List.replicate c 1:=by
   apply Y15;intro i;rw[Mx]
   cases (List.replicate c (1:Int))[i]? <;> rfl
  rw[this,<-k];exact (show ∀ l:List Int,(List.zipWith (·*·) l (List.replicate l.length 1)).sum=l.sum from λl=>by
   induction l with
   | nil=>rfl
   | cons a t j=>rw[XW,zt,List.zipWith_cons_cons,jd,jd,j,zv]) Ws
 rw[e2] at e1;refine Vj lo.pos J6 lo.cop J6 ?_;show (sumR (List.zipWith mulR' ws (papR c none))).1*1=1*(sumR (List.zipWith mulR' ws (papR c none))).2;have e1:(sumR (List.zipWith mulR' ws (papR c none))).1*(Ws.sum*1)=Ws.sum*(sumR (List.zipWith mulR' ws (papR c none))).2:=e1;generalize sumR (List.zipWith mulR' ws (papR c none))=x at *
 rw[zv] at e1 ⊢;rw[zu];rw[JD x.1] at e1;exact GB J5 e1
def FairB.book {c:Nat}(a:FairB c Ws os):BookU c 91 os:=by
 have few:=a.few;have d:=Kd os;have ga:=Vq os;refine⟨J5,λo ho=>?_,λrs hr=>?_,by rw[ga];omega,J6,J6,?_⟩
 ·have g:=(a.rep o ho).good;exact⟨λr hr=>(g.row r hr).mono J6,λr e=>(g.ask r e).mono J6,λr e=>(g.bid r e).mono J6⟩
 ·rw[ga] at hr;obtain⟨o,ho,hm⟩:=zw.mp hr;obtain⟨b,r,hp,e⟩:=P0 hm;rw[e];exact (a.rep o ho).gain hp
 rw[ga];unfold bitsOf;omega
def shR (c:Nat)(ev:TW)(ws:UA):Rat:=mn ws (cutR ev (List.replicate c (1,1)))
def RowR.low8 {c:Nat}{as:UA}(a:RowR c as){x:Rat}(h:x∈as):Low x:=by
 obtain⟨_,n,D,Z,r⟩:=a;exact (r.good x h).low
theorem RowR.cut {c:Nat}{as:UA}(a:RowR c as)(ev:TW):RowR c (cutR ev as):=by
 obtain⟨l,n,D,Z,r⟩:=a;exact⟨by rw[Yo];exact l,n,_,_,r.cut ev⟩
def gP (o:TW)(as:UA)(p:Rat):List Rat:=cutR o (as.map λx=>subR x p)
structure ConV (c:Nat)(rss:UB)(o:TW)(as:UA)(v:Rat):Prop where
 low:Low v
 hit:∃ W,Wts c rss W/\(mn W (gP o as v)).1=0/\0<(shR c o W).1
 top:∀ W,Wts c rss W->(mn W (gP o as v)).1<=0
def Fu (c:Nat){n:Nat}(hn:1<=n):RepL n 1 (List.replicate c 0) (List.replicate c (0,1)):=by
 refine⟨J6,YQ (show (1:Int).natAbs<2 ^ 1 by decide) (GP J6 hn),J7,λi W r a hr=>?_⟩;have h1:=zh (YE a);have h2:=zh (YE hr);subst h1;subst h2;exact⟨rfl,bd0 n,Qo⟩
def Z20 {r:Rat}(l:Low r):∃ m,Good m r:=⟨r.1.natAbs+r.2.natAbs,YQ Y1M (GP J6 J5),YQ Y1M (GP J6 J5),l.pos,l.cop⟩
def Z1t {n:Nat}{r:Rat}(g:Good n r):Good n (negR r):=⟨by show (-r.1).natAbs<2 ^ n;rw[Y1G];exact g.b1,g.b2,g.pos,(negR.low g.low).cop⟩
abbrev ngR (as:UA):List Rat:=as.map λr=>mulR' r (-1,1)
abbrev QQ:=_root_.Rat
def qv (r:Rat):QQ:=(r.1:QQ) / (r.2:QQ)
def Xo {z:Int}(h:0<z):(z:QQ)≠0:=λe=>by
 have:z=0:=_root_.Rat.intCast_inj.mp (e.trans _root_.Rat.intCast_zero.symm);omega
def W9 {z:Int}(h:0<z):0<(z:QQ):=_root_.Rat.intCast_pos.mpr h
def Z0q {a b:QQ}(h:0<=a*b)(p:0<b):0<=a:=by
 by_cases q:0<=a
 ·exact q
 have:=_root_.Rat.mul_pos (show 0 < -a by grind) p;grind
def Z62 {r:Rat}{p q:Int}(hr:0<r.2)(hq:0<q)(e:r.1*q=p*r.2):qv r=(p:QQ) / q:=by
 unfold qv;have h1:=Xo hr;have h2:=Xo hq;have e':(r.1:QQ)*q=p*r.2:=by rw[<-_root_.Rat.intCast_mul,<-_root_.Rat.intCast_mul,e]
 grind
def Ut {p q:Int}(h:0<q):qv (nrm p q)=(p:QQ) / q:=Z62 (Yp J5).pos h (Wt p q)
def Z0m {r s:Rat}(a:Low r)(ls:Low s):qv (addR r s)=qv r+qv s:=by
 have h1:=Xo a.pos;have h2:=Xo ls.pos;rw[show addR r s=nrm (r.1*s.2+s.1*r.2) (r.2*s.2) from rfl,Ut (XG a.pos ls.pos)];unfold qv;rw[_root_.Rat.intCast_add,_root_.Rat.intCast_mul,_root_.Rat.intCast_mul,_root_.Rat.intCast_mul];grind
def Nw {r s:Rat}(a:Low r)(ls:Low s):qv (subR r s)=qv r - qv s:=by
 have h1:=Xo a.pos;have h2:=Xo ls.pos;rw[show subR r s=nrm (r.1*s.2 - s.1*r.2) (r.2*s.2) from rfl,Ut (XG a.pos ls.pos)];unfold qv;rw[_root_.Rat.intCast_sub,_root_.Rat.intCast_mul,_root_.Rat.intCast_mul,_root_.Rat.intCast_mul];grind
def Nx {r s:Rat}(a:Low r)(ls:Low s):qv (mulR' r s)=qv r*qv s:=by
 have h1:=Xo a.pos;have h2:=Xo ls.pos;rw[show mulR' r s=nrm (r.1*s.1) (r.2*s.2) from rfl,Ut (XG a.pos ls.pos)];unfold qv;rw[_root_.Rat.intCast_mul,_root_.Rat.intCast_mul];grind
def Ur {r:Rat}(h:0<r.2):qv r*(r.2:QQ)=r.1:=by
 have:=Xo h;unfold qv;grind
def Tj {r:Rat}(h:0<r.2):0<=r.1 ↔ 0<=qv r:=by
 have e:=Ur h;have p:=W9 h;constructor
 ·intro q;have:(0:QQ)<=(r.1:QQ):=_root_.Rat.intCast_nonneg.mpr q;rw[<-e] at this;exact Z0q this p
 intro q;have:=_root_.Rat.mul_nonneg q (_root_.Rat.le_of_lt p);rw[e] at this;exact _root_.Rat.intCast_nonneg.mp this
def Uj {r:Rat}(h:0<r.2):r.1<=0 ↔ qv r<=0:=by
 have a:=Tj (r:=(-r.1,r.2)) h;have e:qv (-r.1,r.2)=- qv r:=by
  unfold qv;rw[show ((-r.1,r.2):Rat).1=-r.1 from rfl,_root_.Rat.intCast_neg];grind
 rw[e] at a;constructor
 ·intro q;have:=a.mp (show 0<=-r.1 by omega);grind
 intro q;have:0<=-r.1:=a.mpr ZJ;omega
def Vy {r:Rat}(h:0<r.2):0<r.1 ↔ 0<qv r:=by
 have:=Uj h;constructor
 ·intro q;by_cases z:qv r<=0
  ·have:=this.mpr z;omega
  grind
 intro q;by_cases z:r.1<=0
 ·have:=this.mp z;grind
 omega
def Vk {r s:Rat}(a:Low r)(ls:Low s)(h:qv r=qv s):r=s:=by
 refine Vj a.pos ls.pos a.cop ls.cop ?_;have h1:=Ur a.pos;have h2:=Ur ls.pos;have:(r.1:QQ)*s.2=s.1*r.2:=by rw[<-h1,<-h2,h];grind
 rw[<-_root_.Rat.intCast_mul,<-_root_.Rat.intCast_mul] at this;exact _root_.Rat.intCast_inj.mp this
def Z0o:qv (0,1)=0:=by
 show ((0:Int):QQ) / ((1:Int):QQ)=0;rw[_root_.Rat.intCast_zero,_root_.Rat.intCast_one];grind
def Z0n:qv (1,1)=1:=by
 show ((1:Int):QQ) / ((1:Int):QQ)=1;rw[_root_.Rat.intCast_one];grind
def sQ:Nat->(Nat->QQ)->QQ
 | 0,_=>0
 | n+1,f=>sQ n f+f n
theorem Zk {f g:Nat->QQ}:∀ {n:Nat},(∀ k,k<n->f k=g k)->sQ n f=sQ n g
 | 0,_=>rfl
 | n+1,h=>by
  show sQ n f+f n=sQ n g+g n;rw[Zk λk hk=>h k J5,h n J5]
theorem Xj (f g:Nat->QQ):∀ (n:Nat),sQ n (λk=>f k+g k)=sQ n f+sQ n g
 | 0=>by show (0:QQ)=0+0;grind
 | n+1=>by
  show sQ n (λk=>f k+g k)+(f n+g n)=(sQ n f+f n)+(sQ n g+g n);rw[Xj f g n];grind
theorem Y5 (a:QQ)(f:Nat->QQ):∀ (n:Nat),sQ n (λk=>a*f k)=a*sQ n f
 | 0=>by show 0=a*0;grind
 | n+1=>by
  show sQ n (λk=>a*f k)+a*f n=a*(sQ n f+f n);rw[Y5 a f n];grind
def Vh {f:Nat->QQ}{n:Nat}(h:∀ k,k<n->f k=0):sQ n f=0:=by
 rw[Zk h];have:∀ n,sQ n (λ_=>0)=0:=λn=>by
  induction n with
  | zero=>rfl
  | succ n a=>show sQ n _+0=0;rw[a];grind
 exact this n
theorem Lf {f:Nat->QQ}:∀ {n:Nat},(∀ k,k<n->0<=f k)->0<=sQ n f
 | 0,_=>by show (0:QQ)<=0;grind
 | n+1,h=>by
  show 0<=sQ n f+f n;have h1:=Lf (f:=f) λk (hk:k<n)=>h k J5;have h2:=h n J5;grind
def Z0c {f g:Nat->QQ}{n:Nat}(h:∀ k,k<n->f k<=g k):sQ n f<=sQ n g:=by
 have:=Lf (f:=λk=>g k + -1*f k) λk (hk:k<n)=>by have:=h k hk;grind
 rw[Xj,Y5] at this;grind
theorem Nq (f:Nat->Nat->QQ)(m:Nat):∀ (n:Nat),sQ n (λi=>sQ m (λj=>f i j))=sQ m (λj=>sQ n (λi=>f i j))
 | 0=>(Vh λ_ _=>rfl).symm
 | n+1=>by
  show sQ n (λi=>sQ m (λj=>f i j))+sQ m (λj=>f n j)=sQ m (λj=>sQ n (λi=>f i j)+f n j);rw[Nq f m n,Xj]
theorem Lg (f:Nat->QQ):∀ (n:Nat),sQ (n+1) f=f 0+sQ n (λk=>f (k+1))
 | 0=>by show 0+f 0=f 0+0;grind
 | n+1=>by
  show sQ (n+1) f+f (n+1)=f 0+(sQ n (λk=>f (k+1))+f (n+1));rw[Lg f n];grind
def qr (l:UA)(k:Nat):QQ:=qv (l.getD k (0,1))
def Lows (l:UA):Prop:=∀ r∈l,Low r
def RowR.lows {c:Nat}(h:RowR c l):Lows l:=λr hr=>h.low8 hr
def Lows.row {l:UA}(h:Lows l):RowR l.length l:=by
 have:∃ n,∀ r∈l,Good n r:=by
  induction l with
  | nil=>exact⟨0,λr hr=>nomatch hr⟩
  | cons a t b =>
   obtain⟨n,hn⟩:=b λr hr=>h r (YV _ hr);obtain⟨m,hm⟩:=Z20 (h a XC);refine⟨n+m,λr hr=>?_⟩;rcases YU.mp hr with rfl | hr
   ·exact hm.mono J5
   exact (hn r hr).mono J5
 obtain⟨n,hn⟩:=this;exact⟨rfl,_,_,_,RepL.of_good hn⟩
theorem Q4:∀ {l:UA} {x:Rat},Low x->Lows l->Low (l.foldl addR x)/\qv (l.foldl addR x)=qv x+sQ l.length (qr l)
 | [],x,lx,_=>⟨lx,by show qv x=qv x+0;grind⟩
 | a::t,x,lx,h=>by
  have la:=h a XC;obtain⟨h1,h2⟩:=Q4 (x:=addR x a) (Mh lx la) λr hr=>h r (YV _ hr);refine⟨h1,?_⟩;show qv (t.foldl addR (addR x a))=qv x+sQ (t.length+1) (qr (a::t));rw[h2,Lg,Z0m lx la];have e:sQ t.length (λk=>qr (a::t) (k+1))=sQ t.length (qr t):=Zk λk _=>rfl;rw[e];show qv x+qv a+_=qv x+(qv a+_);grind
def Z33 (h:Lows l):Low (sumR l):=(Q4 Qo h).1
def Z71 (h:Lows l):qv (sumR l)=sQ l.length (qr l):=by
 have:=(Q4 Qo h).2;rw[Z0o] at this;show qv (l.foldl addR (0,1))=_;rw[this];grind
def Tr {l:UA}(h:Lows l)(k:Nat):Low (l.getD k (0,1)):=by
 rw[YZ]
 cases e:l[k]? with
 | none=>exact Qo
 | some x=>exact h x (YE e)
def K1 {l m:UA}(h:Lows l)(h':Lows m):Lows (List.zipWith mulR' l m):=λr hr=>by
 obtain⟨i,hi⟩:=XL hr;rw[GM] at hi
 cases e1:l[i]? with
 | none=>rw[e1] at hi;simp at hi
 | some x =>
  cases e2:m[i]? with
  | none=>rw[e1,e2] at hi;simp at hi
  | some y =>
   rw[e1,e2] at hi
   cases hi;exact Mg (h x (YE e1)) (h' y (YE e2))
def Z74 {m:UA}(h:Lows l)(h':Lows m){k:Nat}(h1:k<l.length)(h2:k<m.length):qr (List.zipWith mulR' l m) k=qr l k*qr m k:=by
 unfold qr;have e:(List.zipWith mulR' l m).getD k (0,1)=mulR' (l.getD k (0,1)) (m.getD k (0,1)):=by
  rw[YZ,GM,YZ,YZ,XT h1,XT h2];rfl
 rw[e,Nx (Tr h k) (Tr h' k)]
def Yn {m:UA}(h:Lows l)(h':Lows m):Low (mn l m):=Z33 (K1 h h')
def Vz {m:UA}{c:Nat}(h:Lows l)(h':Lows m)(h1:l.length=c)(h2:m.length=c):qv (mn l m)=sQ c (λk=>qr l k*qr m k):=by
 show qv (sumR _)=_;rw[Z71 (K1 h h')];have:(List.zipWith mulR' l m).length=c:=by rw[JV,h1,h2];omega
 rw[this];exact Zk λk hk=>Z74 h h' J5 J5
def Wo {o:TW}(h:Lows l):Lows (cutR o l):=(h.row.cut o).lows
def Qc {o:TW}{l:UA}{k:Nat}:qr (cutR o l) k=if inE o k then qr l k else 0:=by
 unfold qr cutR;rw[YZ,Y0u,YZ]
 cases l[k]? with
 | none=>show qv (0,1)=if inE o k then qv (0,1) else 0;rw[Z0o];cases inE o k <;> rfl
 | some x =>
  show qv (if inE o k then x else (0,1))=if inE o k then qv x else 0
  cases inE o k
  ·exact Z0o
  rfl
def Z3u {c k:Nat}(h:k<c):qr (List.replicate c (1,1)) k=1:=by
 unfold qr;rw[YZ,Y1i,YG h];exact Z0n
def Ue (c:Nat):Lows (List.replicate c (1,1)):=λr hr=>by rw[zh hr];exact F7
def Ny {c k:Nat}{o:TW}(h:k<c):qr (papR c o) k=if inE o k then 1 else 0:=by
 unfold papR;rw[Qc,Z3u h]
def Xd (c:Nat)(o:TW):Lows (papR c o):=Wo (Ue c)
structure WtsQ (c:Nat)(rss:UB)(l:UA):Prop where
 len:l.length=c
 low:Lows l
 nn:∀ k,k<c->0<=qr l k
 fit:∀ rs∈rss,sQ c (λk=>qr l k*qr rs k)<=0
 lie:sQ c (qr l)=1
def Wts.toQ {c:Nat}(w:Wts c rss l)(b:∀ rs∈rss,RowR c rs):WtsQ c rss l:=by
 have a:Lows l:=w.rep.elim λn z=>z.elim λD z=>z.elim λL r=>λx hx=>(r.good x hx).low;refine⟨w.len,a,λk hk=>?_,λrs hr=>?_,?_⟩
 ·refine (Tj (Tr a k).pos).mp ?_;rw[YZ,XT (by rw[w.len];exact hk)];exact w.nn _ (XR _)
 ·have h2:=(b rs hr).lows;rw[<-Vz a h2 w.len (b rs hr).1];exact (Uj (Yn a h2).pos).mp (w.fit rs hr)
 have h:=congrArg qv w.lie;have e:qv (mn l (papR c none))=1:=by rw[<-Z0n];exact h
 rw[Vz a (Xd c none) w.len (X1 c none)] at e;rw[<-e];exact Zk λk hk=>by rw[Ny hk];show _=_*1;grind
def WtsQ.wts {c:Nat}(w:WtsQ c rss l)(a:∀ rs∈rss,RowR c rs):Wts c rss l:=by
 have rr:=w.low.row;rw[w.len] at rr;refine⟨w.len,rr.2,λr hr=>?_,λrs hr=>?_,?_⟩
 ·obtain⟨k,hk⟩:=XL hr;have lk:k<c:=by have:=(YH.mp hk).1;rw[w.len] at this;exact this
  have:=w.nn k lk;unfold qr at this;rw[YZ,hk] at this;exact (Tj (w.low r hr).pos).mpr this
 ·have h2:=(a rs hr).lows;refine (Uj (Yn w.low h2).pos).mpr ?_;rw[Vz w.low h2 w.len (a rs hr).1];exact w.fit rs hr
 refine Vk (Yn w.low (Xd c none)) F7 ?_;show qv (mn l (papR c none))=_;rw[Vz w.low (Xd c none) w.len (X1 c none),Z0n,<-w.lie];exact Zk λk hk=>by rw[Ny hk];show _*1=_;grind
def Xv {c:Nat}{o:TW}(h:Lows l)(hl:l.length=c):qv (shR c o l)=sQ c (λk=>if inE o k then qr l k else 0):=by
 show qv (mn l (papR c o))=_;rw[Vz h (Xd c o) hl (X1 c o)];exact Zk λk hk=>by rw[Ny hk];cases inE o k <;> simp <;> grind
open _v (sm)
def Tw {α:Type}{l:List α}{k:Nat}{x d:α}(h:l[k]?=some x):l.getD k d=x:=by rw[YZ,h];rfl
def Z3v {a l:QQ}(hl:0<l)(h:l*a<=0):a<=0:=by
 have:=Z0q (a:=-a) (b:=l) ZJ hl;grind
def Z8m {a b:QQ}(h:b≠0):a / b*b=a:=by grind
def Jp {a b:QQ}(ha:0<=a)(c:b<=0):a*b<=0:=by
 have:=_root_.Rat.mul_nonneg ha (show 0<=-b by grind);grind
def Z8k {f:Nat->QQ}{n:Nat}(h:∀ k,k<n->f k<=0):sQ n f<=0:=by
 have:=Z0c (f:=f) (g:=λ_=>0) h;rw[Vh (f:=λ_=>0) λ_ _=>rfl] at this;exact this
theorem Lc (f:TY):∀ (n:Nat),((sm n f:Int):QQ)=sQ n (λj=>(f j:QQ))
 | 0=>_root_.Rat.intCast_zero
 | n+1=>by
  show ((sm n f+f n:Int):QQ)=sQ n (λj=>(f j:QQ))+(f n:QQ);rw[_root_.Rat.intCast_add,Lc f n]
def Z0p {f:Rat->Rat}{k:Nat}(hk:k<l.length):qr (l.map f) k=qv (f (l.getD k (0,1))):=by
 have e1:l[k]?=some l[k]:=by simp[hk]
 unfold qr;rw[YZ,YI,e1,Tw e1];rfl
def Z63 {c k:Nat}{f:Nat->Rat}(hk:k<c):qr ((List.range c).map f) k=qv (f k):=by
 unfold qr;rw[YZ,YI,jo hk];rfl
def Z61 {c:Nat}(h:RowR c rs):0<lcmB rs/\∀ v,v<c->(rowF rs v:QQ)=(lcmB rs:QQ)*qr rs v:=by
 obtain⟨hl,n,D,Z,r⟩:=h;refine⟨r.least.pos,λv b=>?_⟩;have a:rs[v]?=some (rs[v]'J5):=J7
 obtain⟨e2,_,lo⟩:=r.least.at_ v ((rs[v]'J5).1*(lcmB rs).fdiv (rs[v]'J5).2) (rs[v]'J5) (by unfold wholeB;simp[show v<rs.length by omega]) a;have p:=Xo r.least.pos;rw[Nu a];unfold qr;rw[Tw a,Z62 lo.pos r.least.pos e2];grind
section
variable {c:Nat}{rss:UB}{o:TW}{as W:UA}{T:UC}{v:Rat}
theorem Z2z (a:∀ rs∈rss,RowR c rs){j:Nat}(hj:j<rss.length):0<lcmB (rss.getD j [])/\∀ i,i<c->(AOf rss j i:QQ)=(lcmB (rss.getD j []):QQ)*qr (rss.getD j []) i:=by
 refine Z61 ?_;rw[Tw (l:=rss) (x:=rss[j]) (by simp[hj])];exact a _ (XR hj)
def Gw (hi:i<c):(rowF (papR c o) i:QQ)=if inE o i then 1 else 0:=by
 rw[Z78 hi,Z22]
 cases inE o i <;> rfl
theorem Z2n {y α β:TY}(d:∀ rs∈rss,RowR c rs)(w:WtsQ c rss W)(y0:∀ j,j<rss.length->0<=y j)(h:∀ i,i<c->α i<=sm rss.length (λj=>AOf rss j i*y j)+β i):sQ c (λi=>qr W i*(α i:QQ))<=sQ c (λi=>qr W i*(β i:QQ)):=by
 have a:sQ c (λi=>qr W i*(α i:QQ))<=sQ c (λi=>sQ rss.length (λj=>qr W i*((AOf rss j i:QQ)*(y j:QQ)))+qr W i*(β i:QQ)):=Z0c λi hi=>by
  have:=_root_.Rat.intCast_le_intCast.mpr (h i hi);rw[_root_.Rat.intCast_add,Lc] at this;rw[Zk (f:=λj=>((AOf rss j i*y j:Int):QQ)) (g:=λj=>(AOf rss j i:QQ)*(y j:QQ)) λj _=>_root_.Rat.intCast_mul _ _] at this;rw[Y5];have:=_root_.Rat.mul_nonneg (w.nn i hi) (show 0<=sQ rss.length (λj=>(AOf rss j i:QQ)*(y j:QQ))+(β i:QQ) - (α i:QQ) by grind);grind
 rw[Xj,Nq] at a;have b:sQ rss.length (λj=>sQ c (λi=>qr W i*((AOf rss j i:QQ)*(y j:QQ))))<=0:=Z8k λj hj=>by
  obtain⟨lp,e⟩:=Z2z d hj;rw[Zk (g:=λi=>(y j:QQ)*(lcmB (rss.getD j []):QQ)*(qr W i*qr (rss.getD j []) i)) λi hi=>by rw[e i hi];grind,Y5];refine Jp (_root_.Rat.mul_nonneg (_root_.Rat.intCast_nonneg.mpr (y0 j hj)) (_root_.Rat.le_of_lt (W9 lp))) (w.fit _ ?_);rw[Tw (l:=rss) (x:=rss[j]) (by simp[hj])];exact XR hj
 grind
def NoneT.noshareq (h:NoneT c rss o gs T)(f:∀ rs∈rss,RowR c rs)(w:WtsQ c rss W):(shR c o W).1=0:=by
 obtain⟨h1,h2⟩:=h.sv;have d:=Z2n (y:=λk=>-_v.numAt c T rss.length (c+k)) (α:=λi=>rowF (papR c o) i*T.b) (β:=λ_=>0) f w (λj hj=>by have:=h1 j hj;omega) λi hi=>by have:=h2 i hi;omega
 have ls:=Yn w.low (Wo (o:=o) (Ue c));have e:sQ c (λi=>qr W i*((rowF (papR c o) i*T.b:Int):QQ))=(T.b:QQ)*qv (shR c o W):=by
  rw[Xv w.low w.len,<-Y5];refine Zk λi hi=>?_;rw[_root_.Rat.intCast_mul,Gw hi]
  cases inE o i <;> simp <;> grind
 rw[e,Vh λi _=>by rw[_root_.Rat.intCast_zero];grind] at d;have a:=(Uj ls.pos).mpr (Z3v (W9 h.inv.pos) d);have b:0<=qv (shR c o W):=by
  rw[Xv w.low w.len];exact Lf λk hk=>by cases inE o k <;> simp <;> exact w.nn k hk
 have b:=(Tj ls.pos).mpr b;have a:(shR c o W).1<=0:=a;have b:0<=(shR c o W).1:=b;omega
theorem NoneT.noloadsq (h:NoneT c rss none gs T)(d:∀ rs∈rss,RowR c rs)(w:WtsQ c rss W):False:=by
 have e:=h.noshareq d w;have ls:=Yn w.low (Wo (o:=none) (Ue c));have a:=(Uj ls.pos).mp (show (shR c none W).1<=0 by omega);have b:qv (shR c none W)=1:=(Xv w.low w.len).trans w.lie;have a:qv (shR c none W)<=0:=a;rw[b] at a;exact absurd a J6
def NoneT.q (h:NoneT c rss o gs T)(d:∀ rs∈rss,RowR c rs){i:Nat}(hi:i<c):(if inE o i then (1:QQ) else 0)<=sQ rss.length (λj=>qr (multR c rss T rss.length 1) j*qr (rss.getD j []) i):=by
 have f:=h.inv.pos;have g:=W9 f;have s:=_root_.Rat.intCast_le_intCast.mpr (h.sv.2 i hi);rw[_root_.Rat.intCast_mul,Gw hi,Lc] at s;have e:sQ rss.length (λj=>((AOf rss j i * -_v.numAt c T rss.length (c+j):Int):QQ))=(T.b:QQ)*sQ rss.length (λj=>qr (multR c rss T rss.length 1) j*qr (rss.getD j []) i):=by
  rw[<-Y5];refine Zk λj hj=>?_;have:qr (multR c rss T rss.length 1) j=((-_v.numAt c T rss.length (c+j)*lcmB (rss.getD j []):Int):QQ) / ((1*T.b:Int):QQ):=(Z63 hj).trans (Ut J5);rw[this,_root_.Rat.intCast_mul,_root_.Rat.intCast_mul,(Z2z d hj).2 i hi,zu];grind
 rw[e] at s;have:=Z0q (a:=sQ rss.length (λj=>qr (multR c rss T rss.length 1) j*qr (rss.getD j []) i) - if inE o i then (1:QQ) else 0) (b:=(T.b:QQ)) ZJ g;grind
def T4 (hl:Lows as)(a:Low v):Lows (gP o as v):=by
 unfold gP;refine Wo λr hr=>?_;obtain⟨x,hx,rfl⟩:=YT.mp hr;exact Ts (hl x hx) a
def G3:(gP o as v).length=as.length:=by unfold gP;rw[Yo,YC]
def Z65 {k:Nat}(hl:Lows as)(a:Low v)(hk:k<as.length):qr (gP o as v) k=if inE o k then qr as k - qv v else 0:=by
 unfold gP;rw[Qc,Z0p hk,Nw (Tr hl k) a];rfl
def G4 (b:Lows W)(len:W.length=c)(hl:Lows as)(la:as.length=c)(a:Low v):qv (mn W (gP o as v))=sQ c (λk=>qr W k*qr (cutR o as) k) + -qv v*qv (shR c o W):=by
 rw[Vz b (T4 hl a) len (by rw[G3,la]),Xv b len,<-Y5,<-Xj];refine Zk λk hk=>?_;rw[Z65 hl a J5,Qc]
 cases inE o k <;> simp <;> grind
def mnz9 {r:Rat}(l:Low r)(e:qv r=0):r.1=0:=by
 have a:=(Uj l.pos).mpr ZJ;have b:=(Tj l.pos).mpr ZJ;omega
theorem MostT.conq (h:MostT c rss o (cutR o as) T)(m:∀ rs∈rss,RowR c rs)(A:RowR c as):ConV c rss o as (valueR c rss.length (cutR o as) T):=by
 have M:=h.sv;have D:=h.inv.pos;have u:=W9 D;obtain⟨F,ge⟩:=Z61 (A.cut o);have pg:=W9 F;have la:=A.1;have low:=A.lows;have H:=XG F D;have s:Low (valueR c rss.length (cutR o as) T):=Yp J5;have ev:qv (valueR c rss.length (cutR o as) T)*((lcmB (cutR o as):QQ)*(T.b:QQ))=((-T.L (rss.length+1) c:Int):QQ):=by
  have e:qv (valueR c rss.length (cutR o as) T)=((-_v.endOf (rss.length+2) c T (c+rss.length+1):Int):QQ) / ((lcmB (cutR o as)*T.b:Int):QQ):=Ut H;rw[<-h.aim,(TabOk.of h.inv).endO J5,_root_.Rat.intCast_mul] at e;rw[e];exact Z8m (by have:=_root_.Rat.mul_pos pg u;grind)
 generalize valueR c rss.length (cutR o as) T=v at *
 generalize C:-T.L (rss.length+1) c=V at *
 refine⟨s,?_,λW w=>?_⟩
 ·have x0:=M.x0;have fit:=M.fit;have lie:=congrArg (λz:Int=>(z:QQ)) M.lie;have val:=congrArg (λz:Int=>(z:QQ)) M.val;simp only [Lc,_root_.Rat.intCast_mul] at lie val;generalize _v.endOf (rss.length+2) c T=e at *
  rw[Zk λi hi=>by rw[Gw hi]] at lie;rw[Zk λi hi=>by rw[ge i hi],C] at val;have E:∀ i,i<c->0<=(e i:QQ):=λi hi=>_root_.Rat.intCast_nonneg.mpr (x0 i hi);have Sp:0<sm c e:=by
   refine _root_.Rat.intCast_pos.mp ?_;rw[Lc];have:=Z0c (n:=c) (f:=λi=>(if inE o i then (1:QQ) else 0)*(e i:QQ)) (g:=λi=>(e i:QQ)) λi hi=>by have:=E i hi;cases inE o i <;> simp <;> grind
   grind
  have ps:=W9 Sp;have G:=Lc e c;generalize sm c e=S at *
  have B:0<(1:QQ) / (S:QQ):=by
   rcases Classical.em (0<(1:QQ) / (S:QQ)) with z | z
   ·exact z
   have:=Jp (_root_.Rat.le_of_lt ps) (show (1:QQ) / (S:QQ)<=0 by grind);have e1:(S:QQ)*(1 / (S:QQ))=1:=ZJ
   rw[e1] at this;exact absurd this J6
  have q:∀ i,i<c->qr ((List.range c).map λi=>nrm (e i) S) i=1 / (S:QQ)*(e i:QQ):=λi hi=>by rw[Z63 hi,Ut Sp];grind
  have t:Lows ((List.range c).map λi=>nrm (e i) S):=λr hr=>by
   obtain⟨i,_,rfl⟩:=YT.mp hr;exact Yp J5
  have len:((List.range c).map λi=>nrm (e i) S).length=c:=J7
  generalize (List.range c).map (λi=>nrm (e i) S)=W at *
  have p:WtsQ c rss W:=by
   refine⟨len,t,λi hi=>?_,λrs hr=>?_,?_⟩
   ·rw[q i hi];exact _root_.Rat.mul_nonneg (_root_.Rat.le_of_lt B) (E i hi)
   ·obtain⟨j,hj,rfl⟩:=Y1N hr;have f:=_root_.Rat.intCast_le_intCast.mpr (fit j hj);rw[Lc] at f;obtain⟨lp,ea⟩:=Z2z m hj;rw[Tw (l:=rss) (x:=rss[j]) (by simp[hj])] at lp ea;rw[Zk (g:=λi=>(lcmB rss[j]:QQ)*((e i:QQ)*qr rss[j] i)) λi hi=>by rw[_root_.Rat.intCast_mul,ea i hi];grind,Y5] at f;rw[Zk (g:=λi=>1 / (S:QQ)*((e i:QQ)*qr rss[j] i)) λi hi=>by rw[q i hi];grind,Y5];exact Jp (_root_.Rat.le_of_lt B) (Z3v (W9 lp) f)
   rw[Zk q,Y5,<-G];grind
  have es:qv (shR c o W)=1 / (S:QQ)*(T.b:QQ):=by
   rw[Xv t len,<-lie,<-Y5];exact Zk λi hi=>by rw[q i hi];cases inE o i <;> simp <;> grind
  refine⟨W,p.wts m,mnz9 (Yn t (T4 low s)) ?_,(Vy (Yn t (Wo (Ue c))).pos).mpr ?_⟩
  ·rw[G4 t len low la s,es];have e1:(lcmB (cutR o as):QQ)*sQ c (λk=>qr W k*qr (cutR o as) k)=1 / (S:QQ)*(V:QQ):=by
    rw[<-val,<-Y5,<-Y5];exact Zk λi hi=>by rw[q i hi];grind
   have e2:(lcmB (cutR o as):QQ)*(sQ c (λk=>qr W k*qr (cutR o as) k) + -qv v*(1 / (S:QQ)*(T.b:QQ)))=0:=by
    rw[<-ev] at e1;grind
   have a:=Z3v pg (show _<=(0:QQ) by rw[e2];exact _root_.Rat.le_refl);have b:=Z0q (a:=sQ c (λk=>qr W k*qr (cutR o as) k) + -qv v*(1 / (S:QQ)*(T.b:QQ))) (b:=(lcmB (cutR o as):QQ)) ZJ pg;grind
  show 0<qv (shR c o W);rw[es];exact _root_.Rat.mul_pos B u
 have p:=w.toQ m;refine (Uj (Yn p.low (T4 low s)).pos).mpr ?_;rw[G4 p.low p.len low la s];have d:=Z2n (y:=λk=>-_v.numAt c T (rss.length+1) (c+k)) (α:=λi=>rowF (cutR o as) i*T.b) (β:=λi=>rowF (papR c o) i*V) m p (λj hj=>by have:=M.y0 j hj;omega) λi hi=>by have:=M.show_ i hi;rw[C] at this;exact this
 have e1:sQ c (λi=>qr W i*((rowF (cutR o as) i*T.b:Int):QQ))=(lcmB (cutR o as):QQ)*(T.b:QQ)*sQ c (λk=>qr W k*qr (cutR o as) k):=by
  rw[<-Y5];exact Zk λi hi=>by rw[_root_.Rat.intCast_mul,ge i hi];grind
 have e2:sQ c (λi=>qr W i*((rowF (papR c o) i*V:Int):QQ))=(V:QQ)*qv (shR c o W):=by
  rw[Xv p.low p.len,<-Y5];exact Zk λi hi=>by rw[_root_.Rat.intCast_mul,Gw hi];cases inE o i <;> simp <;> grind
 rw[e1,e2,<-ev] at d;exact Z3v (_root_.Rat.mul_pos pg u) ZJ
end
open _v (sm)
theorem RepL.each {n:Nat}{D:Int}(a:0<D)(bD:Bd n D):∀ {rs:UA},(∀ r∈rs,∃ W,r.1*D=W*r.2/\Bd n W/\Low r)->∃ Ws,RepL n D Ws rs
 | [],_=>⟨[],a,bD,rfl,λi W r h=>by simp at h⟩
 | r::t,h=>by
  obtain⟨Ws,p⟩:=RepL.each a bD (rs:=t) λx hx=>h x (YV _ hx);obtain⟨W,e⟩:=h r XC;refine⟨W::Ws,a,bD,by simp[p.len],λi V x b hx=>?_⟩
  cases i with
  | zero=>cases b;cases hx;exact e
  | succ i=>exact p.at_ i V x (by simpa using b) (by simpa using hx)
def Z73 {r s:Rat}(c:0<r.2)(ls:0<s.2)(h:0<s.1):qv (nrm (r.1*s.2) (r.2*s.1))*qv s=qv r:=by
 rw[Ut (XG c h),_root_.Rat.intCast_mul,_root_.Rat.intCast_mul];unfold qv;have a:=Xo c;have b:=Xo ls;have d:=Xo h;grind
theorem Nr {f:Nat->QQ}:∀ {n:Nat},(∀ k,k<n->0<=f k)->sQ n f=0->∀ k,k<n->f k=0
 | 0,_,_=>λk hk=>absurd hk J5
 | n+1,h,e=>λk hk=>by
  have e':sQ n f+f n=0:=e;have a:=Lf (n:=n) (f:=f) λk hk=>h k J5;have b:=h n J5;by_cases z:k=n
  ·rw[z];grind
  exact Nr (n:=n) (λk hk=>h k J5) ZJ k J5
section
variable {P:TU}{base:Heap}
def Q8:FnScope UE UE (defScope iM):=fsc
theorem Qj {fI D:Addr}{xn:Str}(F:Fun K "__init__" "NoChance.__init__" iM f fd)(T:Blt mg)(O:ExcI K mg xn C fI)(B:BaseI K mg "SureError" D)(S:StoI K C "multiples"):FnOk P w K mg base CX0 1 f fd UE (spErrInit K C):=by
 refine F.ok Q8 (λvs H Q E h=>?_) (λcdv A outer s H vs Q E hr h=>?_)
 ·obtain⟨e,l,xs,rfl,_⟩:=h;rfl
 obtain⟨e,l,xs,rfl,a,hl,k⟩:=h;refine⟨_,Z8 (Xl (Z0z B rfl (Z0 (pv 0) (Z0 Wj Z7)))) (Zb (Z3x (pv 0) (Y6 Yw rfl T.list JN (Z0 (pv 1) Z7)) rfl)),?_⟩;refine⟨_,rfl,e,C,fI,none,xn,_,rfl,sz1,a,O,?_⟩;refine⟨_,rfl,l,xs,rfl,.inl hl,λl' hl'=>?_⟩;have ne:e≠l':=λz=>by rw[<-z,a] at hl';cases hl'
 refine⟨_,rfl,e,C,fI,xn,rfl,?_,O,S,λd hd b=>Z2k a hl' hd b k⟩;rw[Zc ne];exact a
end
structure BookM (c n N M:Nat)(os:UD):Prop where
 few:os.length<=100
 good:∀ o∈os,GoodO n o
 rep:∀ rs∈gainsP os os.length,rs.length=c/\∃ D Zs,RepL M D Zs rs
 sides:(gainsP os os.length).length<=30
 m1:1<=M
 n4:n<=200000
 nN:N+M<=3900
 bd:∀ (o:TW) (gs:UA) (T':UC),(∃ D Ws,RepL M D Ws gs)->InvR c (gainsP os os.length) o gs T'->TabBd N ((gainsP os os.length).length+2) c T'
def BookM.rows {c n N M:Nat}(b:BookM c n N M os):∀ rs∈gainsP os os.length,RowR c rs:=λrs hr=>RowR.of (b.rep rs hr).1 (b.rep rs hr).2
theorem Z32 {c n M N:Nat}{o:TW}(a:∀ rs∈rss,∃ D Ws,RepL n D Ws rs)(d:∃ D Ws,RepL M D Ws gs)(six:rss.length<=6)(h:6*(n+5)+M+12<=N)(I:InvR c rss o gs T):TabBd N (rss.length+2) c T:=by
 have key:=Z31 (nb:=λ_=>n) (λr rs e=>a rs (YE e)) d J5 I;have hN:_v.sN rss.length (λ_=>n+5)+M+12<=N:=by
  have:=_v.sN_const (f:=λ_=>n+5) (M:=n+5) (n:=rss.length) λk hk=>YJ _;have:=qx (n+5) six;omega
 exact⟨λi j hi hj=>(key.l i j hi hj).mono hN,key.b.mono hN⟩
theorem BookU.toM {c M:Nat}(a:BookU c 91 os)(six:(gainsP os os.length).length<=6)(h:91<=M)(h2:2*M+588<=3900):BookM c 91 (M+588) M os :=
 ⟨a.few,a.good,λrs hr=>⟨(a.rep rs hr).1,(a.rep rs hr).2.elim λD z=>z.elim λZ r=>⟨D,Z,r.mono h⟩⟩,a.sides,J5,J6,J5,λo gs T' b I=>Z32 (λrs hr=>(a.rep rs hr).2) b six J5 I⟩
def MostT.goodM {c N M:Nat}{o:TW}{as:UA}{Z:TV}(h:MostT c rss o (cutR o as) T)(ha:RepL M D Z as)(bd:TabBd N (rss.length+2) c T):Good (N+M) (valueR c rss.length (cutR o as) T):=by
 have b1:=(TabOk.of h.inv).endBd bd (c+rss.length+1);have b2:=(ha.cut o).least.bD.mul bd.b;rw[Y24] at b2;have:=XG (ha.cut o).least.pos h.inv.pos;exact Wl (b1.neg.mono J5) b2 J5
def Dj {l:Addr}{E:XK}(a:H1 e=none)(hl:H1 l=some (.lst xs))(hw:∀ (d q:Addr) (H':Hp),Same H1 H'->H1 q=none->H' d=some (.xd [("multiples",.ref q)])->H' q=some (.lst xs)->E (.ref C) (some d) H') :
  spErrInit K C [.ref e,.ref l] (upd H1 e (excN e C none)) (λv H2=>v=.non/\∃ dd,H2 e=some (excN e C dd)/\E (.ref C) dd (unT H2 e)) E0:=by
 have nl:l≠e:=Zd hl a;refine⟨e,l,xs,rfl,Za,SqL.of (by rw[Zc nl];exact hl),λd q H' hq hd h1 h2 g kp=>⟨rfl,some d,h1,?_⟩⟩;have f:q≠e:=λz=>by rw[z,Za] at hq;cases hq
 have nd:d≠e:=λz=>by rw[z,Za] at hd;cases hd
 rw[Zc f] at hq;refine hw d q _ (λb o c=>?_) hq (by rw[Vg nd];exact h2) (by rw[Vg f];exact g);have nb:b≠e:=Zd c a;rw[Vg nb];exact kp b o (by rw[Zc nb];exact c) nb
section
variable {P:TU}{base:Heap}{fI:Addr}{fdI:FuncData}
inductive spJudgedM (K:TR) (vs:TZ) (H:Hp) (Q:VK) (_z3:XK):Prop
 | mk (l:Addr) (c n N M:Nat) (os:UD) (zz0:vs=[.int (c:Int),.ref l]) (zz1:OffsAt K H l c os) (zz2:BookM c n N M os) (zz3:(∃ ls,Wts c (gainsP os os.length) ls)) (zz4:2<=c) (zz5:c<=100) (zz6:∀ (t lo:Addr) (H':Hp),Same H H'->SqT K H' t [.str "fair",.ref lo]->Q (.ref t) H')
theorem Dv (D:Def K mg "judged" jO VJ)(T:Z6 P w K mg base)(L:Has P w K mg base 5 "gains" VE (spGainsP K))(C:Con K mg "NOUGHT" (0,1)):Has P w K mg base 6 "judged" VJ (spJudgedM K):=by
 refine D.h9 (N:=["count","offers","found"]) fsc λH Q hr h nd=>?_;obtain⟨l,c,n,N,M,os,rfl,hO,f,⟨ls,G⟩,Z,hc,k⟩:=h;obtain⟨a,b,e⟩:=C;refine⟨_,(Z8 (Zi (i:=2) nd rfl xj (Ze T hr (Z0 (pv 0) (Z0 (Ze L hr (Z0 (pv 1) Z7)) (Z0 Xr (Z0 (Zl Gx (Yl (Z0 (Yt (v:=.ref a) rfl b rfl) Z7)) (pv 0)) Z7))))))
  (Z8 (Y9 (Zn Xm (Zf Yg (pv 2) Z9) Wj (Zq _))
   (Zb V6)
   Zv)
  (Zb (Zg (Yl (Z0 Wj (Z0 (Zf Yg (pv 2) Z9) Z7))))))),?_⟩
 have few:=f.few;have nN:=f.nN;have sides:=f.sides;have n1:=f.m1;refine⟨_,rfl,_,rfl,l,c,n,os,rfl,hO,few,J5,f.n4,f.good,λd H1 fd S1 s=>?_⟩;refine⟨sz1,λt S=>⟨_,rfl,t,c,[.ref a],rfl,rfl,SqT.of Za,J5,J7,by simp;omega,λp hp=>?_⟩⟩;have S2:Same H1 (upd H1 t (.tup [.ref a])):=Same.new S;have O:(c:Int).toNat=c:=J5
 have X:(List.replicate (c:Int).toNat [V.ref a]).flatten=List.replicate c (V.ref a):=by rw[O];simp
 rw[X];have r:=S2.trans (Same.new (o:=.tup (List.replicate c (V.ref a))) hp);have U:RowAt K (upd (upd H1 t (.tup [.ref a])) p (.tup (List.replicate c (V.ref a)))) p (List.replicate c (0,1)):=⟨_,SqT.of Za,Rs.rep ⟨a,rfl,e _⟩ c⟩;generalize upd (upd H1 t (.tup [.ref a])) p (.tup (List.replicate c (V.ref a)))=H3 at *
 obtain⟨m,hd,F⟩:=s;have z:=S1.trans r;have B:=Fu c f.m1;have Y:∃ D Ws,RepL M D Ws (List.replicate c ((0,1):Rat)):=⟨_,_,B⟩;refine⟨d,p,.non,c,M,N,gainsP os os.length,none,List.replicate c (0,1),rfl,⟨m,r _ _ hd,Y4 F (Ext.same r)⟩,rfl,U,J7,f.rep,Y,J5,J5,J5,J5,λT' I=>f.bd _ _ T' ⟨_,_,B.cut none⟩ I,J5,J5,J5,λTb q g xs R W A nt hq y u=>?_,λTb q g va lo xs R W A mt hq y iv rl u=>?_⟩
 ·exact (nt.noloadsq f.rows (G.toQ f.rows)).elim
 refine⟨_,rfl,g,_,_,_,rfl,rfl,u,Zh (j:=0) rfl,rfl,_,rfl,Xn ?_⟩;refine⟨_,rfl,g,_,_,_,rfl,rfl,u,Zh (j:=2) rfl,sz2,λJ x=>?_⟩;have E:=Same.new (o:=.tup [.str "fair",.ref lo]) x;exact k J lo _ ((z.trans A).trans E) (SqT.of Za)
inductive spRefM (K:TR) (vs:TZ) (H:Hp) (Q:VK) (_z3:XK):Prop
 | mk (l:Addr) (c n N M:Nat) (os:UD) (zz0:vs=[.int (c:Int),.ref l]) (zz1:OffsAt K H l c os) (zz2:BookM c n N M os) (zz3:(∃ ls,Wts c (gainsP os os.length) ls)) (zz4:2<=c) (zz5:c<=100) (zz6:∀ (H':Hp),Same H H'->Q .non H')
theorem Z7f (D:Def K mg "refuse_beaten" iL VJ)(f:Has P w K mg base 6 "judged" VJ (spJudgedM K)):Has P w K mg base 7 "refuse_beaten" VJ (spRefM K):=by
 refine D.h9 (N:=["count","offers","told"]) fsc λH Q hr h nd=>?_;obtain⟨l,c,n,N,M,os,rfl,hO,e,b,a,hc,k⟩:=h;refine⟨_,(Z8 (Zi (i:=2) nd rfl xj (Ze f hr (Z0 (pv 0) (Z0 (pv 1) Z7))))
  (Zb (Y9 (Zn Xm (Zf Yg (pv 2) Z9) Wj (Zq _))
   (Zb V6)
   Zv))),?_⟩
 refine⟨_,rfl,_,rfl,l,c,n,N,M,os,rfl,hO,e,b,a,hc,λt lo H1 S1 d=>?_⟩;refine⟨_,rfl,t,_,_,_,rfl,rfl,d,Zh (j:=0) rfl,rfl,_,rfl,Xn ?_⟩;exact k _ S1
inductive spGLM (K:TR) (C:Addr) (vs:TZ) (H:Hp) (Q:VK) (E:XK):Prop
 | mk (l g:Addr) (ve:V) (c n N M:Nat) (os:UD) (o:TW) (as:UA) (D:Int) (Z:TV) (zz0:vs=[.int (c:Int),.ref l,ve,.ref g]) (zz1:OffsAt K H l c os) (zz2:BookM c n N M os) (zz3:EvAt K H c o ve) (zz4:RowAt K H g as) (zz5:as.length=c) (zz6:RepL M D Z as) (zz7:(∃ ls,Wts c (gainsP os os.length) ls)) (zz8:2<=c) (zz9:c<=100) (zz10:(∀ (va:Addr) (v:Rat) (H':Hp),Same H H'->ConV c (gainsP os os.length) o as v->Good (N+M) v->SqT K H' va [.int v.1,.int v.2]->Q (.ref va) H')) (zz11:(∀ (d:Addr) (T:UC) (gs:UA) (H':Hp),Same H H'->NoneT c (gainsP os os.length) o gs T->E (.ref C) (some d) H'))
theorem Z8u (D:Def K mg "greatest_left" iN VL)(a:ExcI K mg "NoChance" C fI)(f:FnOk P w K mg base CX0 1 fI fdI UE (spErrInit K C))(b:Binds K fdI UE [])(U:Z6 P w K mg base)(eT:Has P w K mg base 5 "gains" VE (spGainsP K))(L:Has P w K mg base 7 "refuse_beaten" VJ (spRefM K)):HasD P w K mg base 8 "greatest_left" VL (spGLM K C):=by
 refine D.hD9 (N:=["count","offers","event","row","found"]) fsc λH Q E hr h nd=>?_;obtain⟨l,g,ve,c,n,N,M,os,o,as,D,Z,rfl,⟨vs,hl,B⟩,k,X,hg,la,r,O,A,hc,kQ,kE⟩:=h;refine⟨_,(Z8 (Zi (i:=4) nd rfl xj (Ze U hr (Z0 (pv 0) (Z0 (Ze eT hr (Z0 (pv 1) Z7)) (Z0 (pv 2) (Z0 (pv 3) Z7))))))
  (Z8 (Y9 (Zn Xm (Zf Yg (pv 4) Z9) Wj (Zq _))
   (Z8 (Xl (Ze L hr (Z0 (pv 0) (Z0 (pv 1) Z7))))
   (Zb (Dk a f b (hr.mono J6) rfl (Z0 (Zf Yg (pv 4) Z9) Z7))))
   Zv)
  (Zb (Zg (Zf Yg (pv 4) Z9))))),?_⟩
 have few:=k.few;have nN:=k.nN;have sides:=k.sides;have n1:=k.m1;refine⟨_,rfl,_,rfl,l,c,n,os,rfl,⟨vs,hl,B⟩,few,J5,k.n4,k.good,λd H1 fd S1 t=>?_⟩;refine⟨_,rfl,_,rfl,d,g,ve,c,M,N,gainsP os os.length,o,as,rfl,t,X.same S1,hg.same S1,la,k.rep,⟨_,_,r⟩,J5,J5,J5,J5,λT' I=>k.bd _ _ T' ⟨_,_,r.cut o⟩ I,J5,J5,J5,λT q p xs S V x nt hq u s=>?_,λT q p va lo xs S V x y hq u iv rl s=>?_⟩
 ·refine⟨_,rfl,p,_,_,_,rfl,rfl,s,Zh (j:=0) rfl,rfl,_,rfl,U6 ?_⟩;have m:=S1.trans x;refine⟨_,rfl,_,rfl,l,c,n,N,M,os,rfl,⟨vs,m _ _ hl,Yx B (Ext.same m)⟩,k,O,A,hc,λH5 v=>?_⟩;have z:=m.trans v;refine⟨_,rfl,p,_,_,_,rfl,rfl,Zo v s,Zh (j:=1) rfl,sz1,λe R=>?_⟩;exact Dj R (v _ _ hq) λd3 q2 H' W F e1 e2=>kE d3 T _ H' (z.trans W) nt
 refine⟨_,rfl,p,_,_,_,rfl,rfl,s,Zh (j:=0) rfl,rfl,_,rfl,Xn ?_⟩;obtain⟨G,e,J⟩:=iv
 cases e;have bd:=k.bd _ _ _ ⟨_,_,r.cut o⟩ y.inv;have Y:=y.goodM r bd;refine⟨_,rfl,p,_,_,_,rfl,rfl,s,Zh (j:=1) rfl,?_⟩;exact kQ va _ _ (S1.trans x) (y.conq k.rows ⟨la,_,_,_,r⟩) Y J
inductive spLearnedM (K:TR) (C:Addr) (vs:TZ) (H:Hp) (Q:VK) (E:XK):Prop
 | mk (l g:Addr) (ve:V) (c n N M:Nat) (os:UD) (o:TW) (as:UA) (D:Int) (Z:TV) (zz0:vs=[.int (c:Int),.ref l,ve,.ref g]) (zz1:OffsAt K H l c os) (zz2:BookM c n N M os) (zz3:EvAt K H c o ve) (zz4:RowAt K H g as) (zz5:as.length=c) (zz6:RepL M D Z as) (zz7:(∃ ls,Wts c (gainsP os os.length) ls)) (zz8:2<=c) (zz9:c<=100) (zz10:(∀ (t a b:Addr) (u v:Rat) (H':Hp),Same H H'->SqT K H' t [.ref a,.ref b]->SqT K H' a [.int u.1,.int u.2]->SqT K H' b [.int v.1,.int v.2]->ConV c (gainsP os os.length) o as v->ConV c (gainsP os os.length) o (ngR as) (negR u)->Good (N+M) u->Good (N+M) v->Q (.ref t) H')) (zz11:(∀ (d:Addr) (T:UC) (gs:UA) (H':Hp),Same H H'->NoneT c (gainsP os os.length) o gs T->E (.ref C) (some d) H'))
theorem Jj (D:Def K mg "learned" i8 VL)(A:HasD P w K mg base 8 "greatest_left" VL (spGLM K C))(fL:Has P w K mg base 5 "turned" ["row"] (spTurned K))(Y:Z5 P w K mg base)(O:Con K mg "NOUGHT" (0,1)):HasD P w K mg base 9 "learned" VL (spLearnedM K C):=by
 refine D.hD9 (N:=["count","offers","event","row","greatest","least"]) fsc λH Q E hr h nd=>?_;obtain⟨l,g,ve,c,n,N,M,os,o,as,D,Z,rfl,⟨vs,hl,F⟩,p,J,hg,la,r,I,k,hc,kQ,L⟩:=h;obtain⟨a,e,b⟩:=O;refine⟨_,(Z8 (Zi (i:=4) nd rfl xj (M0 A (hr.mono J6) rfl Qr (Z0 (pv 0) (Z0 (pv 1) (Z0 (pv 2) (Z0 (pv 3) Z7))))))
  (Z8 (Zi (i:=5) nd rfl xj (Ze Y hr (Z0 (Yt (v:=.ref a) rfl e rfl) (Z0 (M0 A (hr.mono J6) rfl Qr (Z0 (pv 0) (Z0 (pv 1) (Z0 (pv 2) (Z0 (Ze fL hr (Z0 (pv 3) Z7)) Z7))))) Z7))))
  (Zb (Zg (Yl (Z0 (pv 5) (Z0 (pv 4) Z7))))))),?_⟩
 have nN:=p.nN;have n1:=p.m1;have y:RepL M D _ (ngR as):=F4 r;have q:(ngR as).length=c:=by unfold ngR;rw[YC];exact la
 refine⟨_,rfl,_,rfl,_,rfl,_,rfl,l,g,ve,c,n,N,M,os,o,as,_,_,rfl,⟨vs,hl,F⟩,p,J,hg,la,r,I,k,hc,λva v H1 S1 cv gv U=>?_,λd T gs H' x nt=>L d T gs H' x nt⟩;refine⟨_,rfl,_,rfl,_,rfl,_,rfl,g,as,M,rfl,hg.same S1,J5,r.good,J5,J5,λW H2 S2 R2=>?_⟩;have f:=S1.trans S2;refine⟨l,W,ve,c,n,N,M,os,o,ngR as,_,_,rfl,⟨vs,f _ _ hl,Yx F (Ext.same f)⟩,p,J.same f,R2,q,y,I,k,hc,λvb u H3 z S s X=>?_,λd T gs H' x nt=>L d T gs H' (f.trans x) nt⟩;refine⟨a,vb,(0,1),u,N+M,rfl,b _,X,⟨bd0 _,Vr 1 J6 J5,J6,J6⟩,s,J5,λm H4 fm V G=>?_⟩;rw[Q5 s.low] at G;refine⟨_,rfl,_,rfl,sz2,λt R=>?_⟩;have B:=Same.new (o:=.tup [.ref m,.ref va]) R;have j:=V.trans B;exact kQ t m va (negR u) v _ ((f.trans z).trans j) (SqT.of Za) (SqT.of (B _ _ G)) (Zo ((S2.trans z).trans j) U) cv (by rw[negR.neg];exact S) (Z1t s) gv
end
def Qb {r:Rat}:qv (negR r)=-qv r:=by
 show ((-r.1:Int):QQ) / (r.2:QQ)=-((r.1:QQ) / (r.2:QQ));rw[_root_.Rat.intCast_neg];grind
def Lk {r s:Rat}(hr:0<r.2)(hs:0<s.2):leR r s ↔ qv r<=qv s:=by
 have e1:=Ur hr;have e2:=Ur hs;have c:=W9 hr;have f:=W9 hs;have p:=_root_.Rat.mul_pos c f;have d:((r.1*s.2:Int):QQ)=qv r*((r.2:QQ)*(s.2:QQ)):=by rw[_root_.Rat.intCast_mul,<-e1];grind
 have e:((s.1*r.2:Int):QQ)=qv s*((r.2:QQ)*(s.2:QQ)):=by rw[_root_.Rat.intCast_mul,<-e2];grind
 unfold leR;rw[<-_root_.Rat.intCast_le_intCast,d,e];constructor
 ·intro h;have:=Z0q (a:=qv s - qv r) (b:=(r.2:QQ)*(s.2:QQ)) ZJ p;grind
 intro h;have:=_root_.Rat.mul_nonneg (show 0<=qv s - qv r by grind) (_root_.Rat.le_of_lt p);grind
def Jm (h:Lows l):Lows (ngR l):=λr hr=>by
 unfold ngR at hr;obtain⟨x,hx,rfl⟩:=YT.mp hr;exact Mg (h x hx) ⟨J6,J6⟩
def Z1s:(ngR l).length=l.length:=by unfold ngR;simp
def Z64 {k:Nat}(h:Lows l)(hk:k<l.length):qr (ngR l) k=-qr l k:=by
 unfold ngR;rw[Z0p hk,Nx (Tr h k) ⟨J6,J6⟩];have:qv (-1,1)=-1:=by
  show qv (negR (1,1))=-1;rw[Qb,Z0n]
 rw[this];unfold qr;grind
section
variable {c:Nat}{rss:UB}{o:TW}{as W:UA}{v:Rat}
theorem D6 (w:WtsQ c rss W)(h:1<=qv (shR c o W)):∀ k,k<c->inE o k=false->qr W k=0:=by
 have e:sQ c (λk=>if inE o k then 0 else qr W k)=1 - qv (shR c o W):=by
  rw[Xv w.low w.len];have l:=w.lie;have:sQ c (qr W)=sQ c (λk=>if inE o k then 0 else qr W k)+sQ c (λk=>if inE o k then qr W k else 0):=by
   rw[<-Xj];exact Zk λk hk=>by cases inE o k <;> simp <;> grind
  grind
 have nn:∀ k,k<c->0<=(if inE o k then 0 else qr W k):=λk hk=>by
  cases inE o k
  ·simpa using w.nn k hk
  simp
 have p:=Lf nn;have z:=Nr nn ZJ;intro k hk i;have:=z k hk;rw[i] at this
 simpa using this
def Kk (w:WtsQ c rss W)(h:1<=qv (shR c o W))(la:Lows as)(len:as.length=c)(b:Low v):qv (mn W (gP o as v))=qv (mn W as) - qv v:=by
 rw[Vz w.low (T4 la b) w.len (by rw[G3,len]),Vz w.low la w.len len];have a:=D6 w h;have e:sQ c (λk=>qr W k*qr (gP o as v) k)=sQ c (λk=>qr W k*qr as k) + -qv v*sQ c (qr W):=by
  rw[<-Y5,<-Xj];refine Zk λk hk=>?_;rw[Z65 la b J5]
  cases z:inE o k with
  | true=>simp;grind
  | false=>rw[a k hk z];simp;grind
 rw[e,w.lie];grind
def ConV.most (h:ConV c rss o as v)(f:∀ rs∈rss,RowR c rs)(one:∀ W,Wts c rss W->1<=qv (shR c o W))(la:Lows as)(len:as.length=c):MostV c rss as v:=by
 refine⟨h.low,?_,λW w=>?_⟩
 ·obtain⟨W,w,e,_⟩:=h.hit;have d:=w.toQ f;refine⟨W,w,Vk (Yn d.low la) h.low ?_⟩;have g:=Yn d.low (T4 (o:=o) la h.low);have a:=(Uj g.pos).mp J5;have b:=(Tj g.pos).mp J5;rw[Kk d (one W w) la len h.low] at a b;grind
 have d:=w.toQ f;have g:=Yn d.low (T4 (o:=o) la h.low);refine (Lk (Yn d.low la).pos h.low.pos).mpr ?_;have a:=(Uj g.pos).mp (h.top W w);rw[Kk d (one W w) la len h.low] at a;grind
end
def Z46 {c:Nat}(b:∀ rs∈rss,RowR c rs):∀ W,Wts c rss W->1<=qv (shR c none W):=λW w=>by
 have a:=w.toQ b;have e:qv (shR c none W)=1:=(Xv a.low a.len).trans a.lie;rw[e];exact _root_.Rat.le_refl
def MostV.leastq {c:Nat}{as:UA}{v:Rat}(h:MostV c rss (as.map λr=>mulR' r (-1,1)) v)(d:∀ rs∈rss,RowR c rs)(la:Lows as)(len:as.length=c):LeastV c rss as (negR v):=by
 have key:∀ W,Wts c rss W->Low (mn W as)/\Low (mn W (ngR as))/\qv (mn W (ngR as))=-qv (mn W as):=λW w=>by
  have a:=w.toQ d;refine⟨Yn a.low la,Yn a.low (Jm la),?_⟩;rw[Vz a.low (Jm la) a.len (by rw[Z1s];exact len),Vz a.low la a.len len,show -sQ c (λk=>qr W k*qr as k)=(-1)*sQ c (λk=>qr W k*qr as k) by grind,<-Y5];exact Zk λk hk=>by rw[Z64 la J5];grind
 refine⟨negR.low h.low,?_,λW w=>?_⟩
 ·obtain⟨W,w,e⟩:=h.hit;obtain⟨b,f,e2⟩:=key W w;have e:mn W (ngR as)=v:=e;refine⟨W,w,Vk b (negR.low h.low) ?_⟩;rw[Qb,<-e,e2];grind
 obtain⟨b,f,e2⟩:=key W w;have t:=(Lk f.pos h.low.pos).mp (h.top W w);refine (Lk (negR.low h.low).pos b.pos).mpr ?_;rw[Qb];grind
section
variable {P:TU}{base:Heap}
inductive spUpperM (K:TR) (vs:TZ) (H:Hp) (Q:VK) (_z3:XK):Prop
 | mk (l g:Addr) (c n N M:Nat) (os:UD) (as:UA) (D:Int) (Z:TV) (zz0:vs=[.int (c:Int),.ref l,.ref g]) (zz1:OffsAt K H l c os) (zz2:BookM c n N M os) (zz3:RowAt K H g as) (zz4:as.length=c) (zz5:RepL M D Z as) (zz6:(∃ ls,Wts c (gainsP os os.length) ls)) (zz7:2<=c) (zz8:c<=100) (zz9:∀ (t q va lo:Addr) (v:Rat) (H':Hp),Same H H'->MostV c (gainsP os os.length) as v->Good (N+M) v->SqT K H' va [.int v.1,.int v.2]->SqT K H' t [.ref va,.ref q,.ref lo]->Q (.ref t) H')
theorem Z17 (D:Def K mg "upper" jS VM)(B:Z6 P w K mg base)(A:Has P w K mg base 5 "gains" VE (spGainsP K)):Has P w K mg base 6 "upper" VM (spUpperM K):=by
 refine D.h9 (N:=["count","offers","row","found"]) fsc λH Q hr h nd=>?_;obtain⟨l,g,c,n,N,M,os,as,D,Z,rfl,hO,a,hg,la,m,⟨x,z⟩,F,hc,k⟩:=h;refine⟨_,(Z8 (Zi (i:=3) nd rfl xj (Ze B hr (Z0 (pv 0) (Z0 (Ze A hr (Z0 (pv 1) Z7)) (Z0 Xr (Z0 (pv 2) Z7))))))
  (Z8 (Y9 (Zn Xm (Zf Yg (pv 3) Z9) Wj (Zq _))
   (Zb V6)
   Zv)
  (Zb (Zg (Yl (Z0 (Zf Yg (pv 3) Z9) (Z0 (Zf Yg (pv 3) Z9) (Z0 (Zf Yg (pv 3) Z9) Z7)))))))),?_⟩
 have few:=a.few;have nN:=a.nN;have sides:=a.sides;have n1:=a.m1;refine⟨_,rfl,_,rfl,l,c,n,os,rfl,hO,few,J5,a.n4,a.good,λd H1 fd S1 o=>?_⟩;refine⟨_,rfl,d,g,.non,c,M,N,gainsP os os.length,none,as,rfl,o,rfl,hg.same S1,la,a.rep,⟨_,_,m⟩,J5,J5,J5,J5,λT' I=>a.bd _ _ T' ⟨_,_,m.cut none⟩ I,J5,J5,J5,λT q b xs p C v nt hq s f=>?_,λT q b va lo xs p C v r hq s iv G f=>?_⟩
 ·exact (nt.noloadsq a.rows (z.toQ a.rows)).elim
 refine⟨_,rfl,b,_,_,_,rfl,rfl,f,Zh (j:=0) rfl,rfl,_,rfl,Xn ?_⟩;obtain⟨y,e,E⟩:=iv
 cases e;refine⟨_,rfl,b,_,_,_,rfl,rfl,f,Zh (j:=1) rfl,_,rfl,b,_,_,_,rfl,rfl,f,Zh (j:=3) rfl,_,rfl,b,_,_,_,rfl,rfl,f,Zh (j:=2) rfl,sz3,λt hp=>?_⟩;have u:Same p (upd p t (.tup [.ref va,.ref q,.ref lo])):=Same.new hp;have bd:=a.bd _ _ _ ⟨_,_,m.cut none⟩ r.inv;have rr:RowR c as:=⟨la,_,_,_,m⟩;exact k t q va lo _ _ ((S1.trans v).trans u) ((r.conq a.rows rr).most a.rows (Z46 a.rows) rr.lows la) (r.goodM m bd) (Zo u E) (SqT.of Za)
inductive spLowerM (K:TR) (vs:TZ) (H:Hp) (Q:VK) (_z3:XK):Prop
 | mk (l g:Addr) (c n N M:Nat) (os:UD) (as:UA) (D:Int) (Z:TV) (zz0:vs=[.int (c:Int),.ref l,.ref g]) (zz1:OffsAt K H l c os) (zz2:BookM c n N M os) (zz3:RowAt K H g as) (zz4:as.length=c) (zz5:RepL M D Z as) (zz6:(∃ ls,Wts c (gainsP os os.length) ls)) (zz7:2<=c) (zz8:c<=100) (zz9:∀ (t q va lo:Addr) (u:Rat) (H':Hp),Same H H'->LeastV c (gainsP os os.length) as u->SqT K H' va [.int u.1,.int u.2]->SqT K H' t [.ref va,.ref q,.ref lo]->Q (.ref t) H')
theorem Z1h (D:Def K mg "lower" j1 VM)(R:Has P w K mg base 6 "upper" VM (spUpperM K))(O:Has P w K mg base 5 "turned" ["row"] (spTurned K))(L:Z5 P w K mg base)(C:Con K mg "NOUGHT" (0,1)):Has P w K mg base 7 "lower" VM (spLowerM K):=by
 refine D.h9 (N:=["count","offers","row","told"]) fsc λH Q hr h nd=>?_;obtain⟨l,g,c,n,N,M,os,as,D,Z,rfl,⟨vs,hl,E⟩,f,hg,la,o,F,p,hc,k⟩:=h;obtain⟨a,b,d⟩:=C;refine⟨_,(Z8 (Zi (i:=3) nd rfl xj (Ze R hr (Z0 (pv 0) (Z0 (pv 1) (Z0 (Ze O hr (Z0 (pv 2) Z7)) Z7)))))
  (Zb (Zg (Yl (Z0 (Ze L hr (Z0 (Yt (v:=.ref a) rfl b rfl) (Z0 (Zf Yg (pv 3) Z9) Z7))) (Z0 (Zf Yg (pv 3) Z9) (Z0 (Zf Yg (pv 3) Z9) Z7))))))),?_⟩
 have nN:=f.nN;have n1:=f.m1;have G:(as.map λr=>mulR' r (-1,1)).length=c:=by rw[YC];exact la
 refine⟨_,rfl,_,rfl,_,rfl,g,as,M,rfl,hg,J5,o.good,J5,J5,λB H1 S1 J=>?_⟩;refine⟨l,B,c,n,N,M,os,_,_,_,rfl,⟨vs,S1 _ _ hl,Yx E (Ext.same S1)⟩,f,J,G,F4 o,F,p,hc,λt q va lo v H2 S2 mv u S A=>?_⟩;refine⟨_,rfl,t,_,_,_,rfl,rfl,A,Zh (j:=0) rfl,a,va,(0,1),v,N+M,rfl,d _,S,⟨bd0 _,Vr 1 J6 J5,J6,J6⟩,u,J5,λm y T x e3=>?_⟩;rw[Q5 u.low] at e3;have rr:RowR c as:=⟨la,_,_,_,o⟩;have I:=mv.leastq f.rows rr.lows la;have e:=Zo x A;refine⟨_,rfl,t,_,_,_,rfl,rfl,e,Zh (j:=1) rfl,_,rfl,t,_,_,_,rfl,rfl,e,Zh (j:=2) rfl,sz3,λs hp=>?_⟩;have z:Same y (upd y s (.tup [.ref m,.ref q,.ref lo])):=Same.new hp;exact k s q m lo _ _ ((S1.trans S2).trans (x.trans z)) I (SqT.of (z _ _ e3)) (SqT.of Za)
inductive spSharesM (K:TR) (vs:TZ) (H:Hp) (Q:VK) (_z3:XK):Prop
 | mk (l:Addr) (ve:V) (c n N M:Nat) (os:UD) (o:TW) (zz0:vs=[.int (c:Int),.ref l,ve]) (zz1:OffsAt K H l c os) (zz2:BookM c n N M os) (zz3:EvAt K H c o ve) (zz4:(∃ ls,Wts c (gainsP os os.length) ls)) (zz5:2<=c) (zz6:c<=100) (zz7:∀ (t al ah:Addr) (u:Rat) (H':Hp),Same H H'->SqT K H' t [.ref al,.ref ah]->SqT K H' al [.int u.1,.int u.2]->LeastV c (gainsP os os.length) (papR c o) u->∀ v,SqT K H' ah [.int v.1,.int v.2]->MostV c (gainsP os os.length) (papR c o) v->Q (.ref t) H')
theorem Du (D:Def K mg "shares" jF VN)(B:Has P w K mg base 3 "paper_of" UY (spPaper K))(J:Has P w K mg base 6 "upper" VM (spUpperM K))(E:Has P w K mg base 7 "lower" VM (spLowerM K)):Has P w K mg base 8 "shares" VN (spSharesM K):=by
 refine D.h9 (N:=["count","offers","event","paper"]) fsc λH Q hr h nd=>?_;obtain⟨l,ve,c,n,N,M,os,o,rfl,⟨vs,hl,s⟩,r,C,x,d,hc,k⟩:=h;refine⟨_,(Z8 (Zi (i:=3) nd rfl xj (Ze B hr (Z0 (pv 0) (Z0 (pv 2) Z7))))
  (Zb (Zg (Yl (Z0 (Zf Yg (Ze E hr (Z0 (pv 0) (Z0 (pv 1) (Z0 (pv 3) Z7)))) Z9) (Z0 (Zf Yg (Ze J hr (Z0 (pv 0) (Z0 (pv 1) (Z0 (pv 3) Z7)))) Z9) Z7)))))),?_⟩
 have la:=X1 c o;have A:=(Xx c o).mono r.m1;refine⟨_,rfl,_,rfl,c,ve,o,rfl,C,J5,J5,λg H1 S1 e=>?_⟩;replace e:RowAt K H1 g (papR c o):=e;refine⟨_,rfl,_,rfl,_,rfl,l,g,c,n,N,M,os,papR c o,_,_,rfl,⟨vs,S1 _ _ hl,Yx s (Ext.same S1)⟩,r,e,la,A,x,d,hc,λt q va lo u H2 S2 F I L=>?_⟩;have a:=S1.trans S2;refine⟨t,_,_,_,rfl,rfl,L,Zh (j:=0) rfl,?_⟩;refine⟨_,rfl,_,rfl,_,rfl,l,g,c,n,N,M,os,papR c o,_,_,rfl,⟨vs,a _ _ hl,Yx s (Ext.same a)⟩,r,e.same S2,la,A,x,d,hc,λt' S b G v z y mv R O m=>?_⟩;refine⟨t',_,_,_,rfl,rfl,m,Zh (j:=0) rfl,sz2,λp hp=>?_⟩;have f:Same z (upd z p (.tup [.ref va,.ref b])):=Same.new hp;exact k p va b u _ (a.trans (y.trans f)) (SqT.of Za) (Zo (y.trans f) I) F v (Zo f O) mv
end
section
variable {n:Nat}
abbrev Pt:=Nat->QQ
def dq (n:Nat)(x e:Pt):QQ:=sQ n λk=>x k*e k
def X4 (x d e:Pt)(t:QQ):dq n (λk=>x k+t*d k) e=dq n x e+t*dq n d e:=by
 unfold dq;rw[<-Y5,<-Xj];exact Zk λk _=>ZJ
def Yc {x y e:Pt}(h:∀ k,k<n->x k=y k):dq n x e=dq n y e:=Zk λk hk=>by rw[h k hk]
def U9 (x d:Pt)(t:QQ):sQ n (λk=>x k+t*d k)=sQ n x+t*sQ n d:=by
 rw[<-Y5,<-Xj]
structure Bnds (n m:Nat)(c:Nat->Pt):Prop where
 le:n<=m
 un:∀ i,i<n->∀ x:Pt,dq n x (c i)=-x i
structure InP (n m:Nat)(c:Nat->Pt)(x:Pt):Prop where
 le:∀ k,k<m->dq n x (c k)<=0
 one:sQ n x=1
def Stuck (n m:Nat)(c:Nat->Pt)(x:Pt):Prop:=∀ d:Pt,sQ n d=0->(∀ k,k<m->dq n x (c k)=0->dq n d (c k)=0)->∀ i,i<n->d i=0
structure Vx (n m:Nat)(c:Nat->Pt)(x:Pt):Prop where
 inn:InP n m c x
 st:Stuck n m c x
theorem Ri (a b:Nat->QQ):∀ m:Nat,(∃ k,k<m/\0<b k)->(∀ k,k<m->0<b k->0<a k)->∃ k,k<m/\0<b k/\∀ j,j<m->0<b j->a k / b k<=a j / b j
 | 0,⟨k,h,_⟩,_=>absurd h J5
 | m+1,⟨k,hk,bk⟩,pos=>by
  by_cases h:∃ k,k<m/\0<b k
  ·obtain⟨k0,h0,f,d⟩:=Ri a b m h λk hk=>pos k J5;by_cases bm:0<b m
   ·by_cases le:a k0 / b k0<=a m / b m
    ·refine⟨k0,J5,f,λj hj c=>?_⟩;by_cases e:j=m
     ·subst e;exact le
     exact d j J5 c
    refine⟨m,J5,bm,λj hj c=>?_⟩;by_cases e:j=m
    ·subst e;grind
    have:=d j J5 c;grind
   refine⟨k0,J5,f,λj hj c=>?_⟩;by_cases e:j=m
   ·subst e;exact absurd c bm
   exact d j J5 c
  refine⟨k,hk,bk,λj hj c=>?_⟩;have e1:k=m:=by
   by_cases z:k=m
   ·exact z
   exact absurd ⟨k,J5,bk⟩ h
  have e2:j=m:=by
   by_cases z:j=m
   ·exact z
   exact absurd ⟨j,J5,c⟩ h
  rw[e1,e2];grind
variable {m:Nat}{c:Nat->Pt}{x d:Pt}
def J9 {d:Pt}(h:sQ n d=0){i:Nat}(hi:i<n)(ne:d i≠0):∃ j,j<n/\d j<0:=by
 by_cases q:∃ j,j<n/\d j<0
 ·exact q
 have nn:∀ k,k<n->0<=d k:=λk hk=>by
  by_cases z:0<=d k
  ·exact z
  exact absurd ⟨k,hk,ZJ⟩ q
 exact absurd (Nr nn h i hi) ne
def Ms {a b:QQ}(h:0<b):a / b*b=a:=by
 have:b≠0:=ZJ
 grind
def InP.go (B:Bnds n m c)(I:InP n m c x)(b:sQ n d=0)(al:∀ k,k<m->dq n x (c k)=0->dq n d (c k)=0){i:Nat}(hi:i<n)(ne:d i≠0) :
  ∃ t:QQ,0<t/\InP n m c (λk=>x k+t*d k)/\(∀ k,k<m->dq n x (c k)=0->dq n (λk=>x k+t*d k) (c k)=0)/\∃ k,k<m/\dq n x (c k)≠0/\dq n (λk=>x k+t*d k) (c k)=0:=by
 obtain⟨j,hj,p⟩:=J9 b hi ne;have o:0<dq n d (c j):=by rw[B.un j hj];grind
 have le:=B.le;obtain⟨k,hk,bk,lk⟩:=Ri (λk=>-dq n x (c k)) (λk=>dq n d (c k)) m ⟨j,J5,o⟩ λk hk bk=>by
  have:=I.le k hk;have:dq n x (c k)≠0:=λz=>by have:=al k hk z;grind
  grind
 have g:dq n x (c k)≠0:=λz=>by have:=al k hk z;grind
 have l:=I.le k hk;have e:=Ms (a:=-dq n x (c k)) bk;have tp:0 < -dq n x (c k) / dq n d (c k):=by
  by_cases z:0 < -dq n x (c k) / dq n d (c k)
  ·exact z
  have:0<=-(-dq n x (c k) / dq n d (c k)):=ZJ
  have:=_root_.Rat.mul_nonneg this (show 0<=dq n d (c k) by grind);grind
 refine⟨-dq n x (c k) / dq n d (c k),tp,⟨λq hq=>?_,?_⟩,λq hq z=>?_,k,hk,g,?_⟩
 ·rw[X4];have:=I.le q hq;by_cases f:0<dq n d (c q)
  ·have h:=lk q hq f;have e2:=Ms (a:=-dq n x (c q)) f;have:=_root_.Rat.mul_le_mul_of_nonneg_right h (show 0<=dq n d (c q) by grind);grind
  have:=_root_.Rat.mul_nonneg (show 0<=-dq n x (c k) / dq n d (c k) by grind) (show 0<=-dq n d (c q) by grind);grind
 ·rw[U9,b,I.one];grind
 ·rw[X4,z,al q hq z];grind
 rw[X4,e];grind
def nz:Nat->(Nat->QQ)->Nat
 | 0,_=>0
 | m+1,f=>nz m f+if f m=0 then 0 else 1
theorem Z68 {f g:Nat->QQ}:∀ {m:Nat},(∀ k,k<m->f k=0->g k=0)->nz m g<=nz m f
 | 0,_=>YJ _
 | m+1,h=>by
  have:=Z68 (m:=m) λk hk=>h k J5;unfold nz;by_cases e:f m=0
  ·rw[YG e,YG (h m J5 e)];omega
  rw[YD e];split <;> omega
theorem Z67 {f g:Nat->QQ}:∀ {m:Nat},(∀ k,k<m->f k=0->g k=0)->(∃ k,k<m/\f k≠0/\g k=0)->nz m g<nz m f
 | 0,_,⟨k,h,_⟩=>absurd h J5
 | m+1,h,⟨k,hk,fk,gk⟩=>by
  unfold nz;by_cases e:k=m
  ·subst e;have:=Z68 (m:=k) λj hj=>h j J5;rw[YD fk,YG gk];omega
  have:=Z67 (m:=m) (λj hj=>h j J5) ⟨k,J5,fk,gk⟩;by_cases e:f m=0
  ·rw[YG e,YG (h m J5 e)];omega
  rw[YD e];split <;> omega
def N8 (h:¬ Stuck n m c x):∃ d:Pt,sQ n d=0/\(∀ k,k<m->dq n x (c k)=0->dq n d (c k)=0)/\∃ i,i<n/\d i≠0:=by
 refine YF λq=>h λd a al i hi=>?_;refine YF λne=>q ⟨d,a,al,i,hi,ne⟩
def Su (d e:Pt):dq n (λk=>-d k) e=-dq n d e:=by
 have:=X4 (n:=n) (λ_=>0) d e (-1);have z:dq n (λ_=>0) e=0:=Vh λk _=>ZJ
 rw[z] at this;rw[show (λk=>-d k)=λk=>(0:QQ) + -1*d k by funext k;grind,this];grind
def Nl (d:Pt):sQ n (λk=>-d k)=-sQ n d:=by
 have:=Y5 (-1) d n;rw[show (λk=>-d k)=λk=>(-1:QQ)*d k by funext k;grind,this];grind
theorem InP.top (B:Bnds n m c)(f:Pt):∀ (N:Nat) (x:Pt),nz m (λk=>dq n x (c k))<=N->InP n m c x->∃ w,Vx n m c w/\(∀ k,k<m->dq n x (c k)=0->dq n w (c k)=0)/\dq n x f<=dq n w f
 | N,x,hN,I=>by
  by_cases st:Stuck n m c x
  ·exact⟨x,⟨I,st⟩,λ_ _ h=>h,ZJ⟩
  obtain⟨d,b,al,i,hi,ne⟩:=N8 st;have key:∀ d:Pt,sQ n d=0->(∀ k,k<m->dq n x (c k)=0->dq n d (c k)=0)->d i≠0->0<=dq n d f->∃ w,Vx n m c w/\(∀ k,k<m->dq n x (c k)=0->dq n w (c k)=0)/\dq n x f<=dq n w f:=λd b al ne h0=>by
   obtain⟨t,tp,j,a,k,hk,e,q⟩:=I.go B b al hi ne;have r:=Z67 (m:=m) (f:=λk=>dq n x (c k)) (g:=λk=>dq n (λk=>x k+t*d k) (c k)) a ⟨k,hk,e,q⟩
   cases N with
   | zero=>omega
   | succ N =>
    obtain⟨w,l,p,o⟩:=InP.top B f N _ J5 j;refine⟨w,l,λk hk z=>p k hk (a k hk z),?_⟩;rw[X4] at o;have:=_root_.Rat.mul_nonneg (show 0<=t by grind) h0;grind
  by_cases h0:0<=dq n d f
  ·exact key d b al ne h0
  refine key (λk=>-d k) (by rw[Nl,b];grind) (λk hk z=>by rw[Su,al k hk z];grind) ZJ (by rw[Su];grind)
def InP.corner (B:Bnds n m c)(f:Pt)(I:InP n m c x):∃ w,Vx n m c w/\(∀ k,k<m->dq n x (c k)=0->dq n w (c k)=0)/\dq n x f<=dq n w f:=InP.top B f _ x (YJ _) I
def InP.congr {y:Pt}(h:∀ k,k<n->x k=y k)(I:InP n m c x):InP n m c y:=⟨λk hk=>by rw[<-Yc h];exact I.le k hk,by rw[<-I.one];exact (Zk h).symm⟩
theorem Vx.congr {y:Pt}(h:∀ k,k<n->x k=y k)(v:Vx n m c x):Vx n m c y:=⟨v.inn.congr h,λd a al=>v.st d a λk hk z=>al k hk (by rw[<-Yc h];exact z)⟩
def Vx.mid {p q:QQ}(v:Vx n m c x)(g:sQ n d=0)(f:0<p)(e:0<q)(h:InP n m c λk=>x k+p*d k)(j:InP n m c λk=>x k + -q*d k):∀ i,i<n->d i=0:=by
 refine v.st d g λk hk z=>?_;have h1:=h.le k hk;have h2:=j.le k hk;rw[X4,z] at h1 h2;by_cases a:0<dq n d (c k)
 ·have:=_root_.Rat.mul_pos f a;grind
 by_cases b:dq n d (c k)<0
 ·have:=_root_.Rat.mul_pos e (show 0 < -dq n d (c k) by grind);grind
 grind
def Uh (x e e':Pt)(a b:QQ):dq n x (λk=>a*e k+b*e' k)=a*dq n x e+b*dq n x e':=by
 unfold dq;rw[<-Y5,<-Y5,<-Xj];exact Zk λk _=>ZJ
def Near (n m:Nat)(c:Nat->Pt)(V:List Pt)(u v:Pt):Prop:=∀ w∈V,(∀ k,k<m->dq n u (c k)=0->dq n v (c k)=0->dq n w (c k)=0)->(∀ i,i<n->w i=u i) \/ ∀ i,i<n->w i=v i
def crs (n:Nat)(g u v:Pt):Pt:=λk=>u k+dq n u g / (dq n u g - dq n v g)*(v k - u k)
structure Cors (n m:Nat)(c:Nat->Pt)(V:List Pt):Prop where
 vx:∀ v∈V,Vx n m c v
 all:∀ x,Vx n m c x->∃ v∈V,∀ i,i<n->v i=x i
variable {V:List Pt}{u v:Pt}
def Pi {g:Pt}(hu:dq n u g<0)(c:0<dq n v g):∃ t:QQ,0<t/\t<1/\t=dq n u g / (dq n u g - dq n v g)/\t*(dq n v g - dq n u g)=-dq n u g:=by
 have e:=Ms (a:=-dq n u g) (b:=dq n v g - dq n u g) ZJ;have e2:dq n u g / (dq n u g - dq n v g)=-dq n u g / (dq n v g - dq n u g):=by
  have h1:dq n u g - dq n v g≠0:=ZJ
  have h2:dq n v g - dq n u g≠0:=ZJ
  grind
 refine⟨_,?_,?_,e2.symm,e⟩
 ·by_cases z:0 < -dq n u g / (dq n v g - dq n u g)
  ·exact z
  have:=_root_.Rat.mul_nonneg (show 0<=-(-dq n u g / (dq n v g - dq n u g)) by grind) (show 0<=dq n v g - dq n u g by grind);grind
 by_cases z:-dq n u g / (dq n v g - dq n u g)<1
 ·exact z
 have:=_root_.Rat.mul_nonneg (show 0<=-dq n u g / (dq n v g - dq n u g) - 1 by grind) (show 0<=dq n v g - dq n u g by grind);grind
def Pd (a b e:Pt):dq n (λk=>a k - b k) e=dq n a e - dq n b e:=by
 have:=X4 (n:=n) a b e (-1);rw[show (λk=>a k - b k)=λk=>a k + -1*b k by funext k;grind,this];grind
def Td (a b:Pt):sQ n (λk=>a k - b k)=sQ n a - sQ n b:=by
 have:=U9 (n:=n) a b (-1);rw[show (λk=>a k - b k)=λk=>a k + -1*b k by funext k;grind,this];grind
def Mr {g:Pt}(e:Pt):dq n (crs n g u v) e=dq n u e+dq n u g / (dq n u g - dq n v g)*(dq n v e - dq n u e):=by
 show dq n (λk=>u k+_*(v k - u k)) e=_;rw[X4 u (λk=>v k - u k),Pd]
def My {g:Pt}(i:InP n m c u)(j:InP n m c v)(hu:dq n u g<0)(f:0<dq n v g){k:Nat}(hk:k<m):dq n (crs n g u v) (c k)=0 ↔ dq n u (c k)=0/\dq n v (c k)=0:=by
 obtain⟨t,t0,l,d,_⟩:=Pi hu f;rw[Mr,<-d];have a:=i.le k hk;have b:=j.le k hk;constructor
 ·intro z;have h1:=_root_.Rat.mul_nonneg (show 0<=t by grind) (show 0<=-dq n v (c k) by grind);have h2:=_root_.Rat.mul_nonneg (show 0<=1 - t by grind) (show 0<=-dq n u (c k) by grind);have e:(1 - t) * -dq n u (c k)+t * -dq n v (c k)=0:=ZJ
  have z1:t * -dq n v (c k)=0:=ZJ
  have z2:(1 - t) * -dq n u (c k)=0:=ZJ
  have n1:t≠0:=ZJ
  have n2:1 - t≠0:=ZJ
  constructor
  ·rcases _root_.Rat.mul_eq_zero.mp z2 with h | h
   ·exact absurd h n2
   grind
  rcases _root_.Rat.mul_eq_zero.mp z1 with h | h
  ·exact absurd h n1
  grind
 rintro ⟨z1,z2⟩;rw[z1,z2];grind
def Z84 {g:Pt}(a:InP n m c u)(b:InP n m c v)(hu:dq n u g<0)(e:0<dq n v g):InP n m c (crs n g u v):=by
 obtain⟨t,t0,f,d,_⟩:=Pi hu e;refine⟨λk hk=>?_,?_⟩
 ·rw[Mr,<-d];have h1:=_root_.Rat.mul_nonneg (show 0<=t by grind) (show 0<=-dq n v (c k) by have:=b.le k hk;grind);have h2:=_root_.Rat.mul_nonneg (show 0<=1 - t by grind) (show 0<=-dq n u (c k) by have:=a.le k hk;grind);grind
 show sQ n (λk=>u k+_*(v k - u k))=1;rw[U9 u (λk=>v k - u k),Td,a.one,b.one];grind
def Z83 {g:Pt}(hu:dq n u g<0)(b:0<dq n v g):dq n (crs n g u v) g=0:=by
 obtain⟨t,t0,c,a,e⟩:=Pi hu b;rw[Mr,<-a];grind
theorem Cors.cross (B:Bnds n m c)(C:Cors n m c V)(hu:u∈V)(N:v∈V)(r:dq n u (c m)<0)(s:0<dq n v (c m))(J:Near n m c V u v):Vx n (m+1) c (crs n (c m) u v):=by
 have F:=(C.vx u hu).inn;have G:=(C.vx v N).inn;have I:=Z84 F G r s;have E:=Z83 (n:=n) r s;refine⟨⟨λk hk=>?_,I.one⟩,λd L al=>?_⟩
 ·by_cases e:k=m
  ·subst e;rw[E];grind
  exact I.le k J5
 refine YF λq=>?_;obtain⟨i,hi,ne⟩:∃ i,i<n/\d i≠0:=YF λz=>q λi hi=>YF λy=>z ⟨i,hi,y⟩;have l:∀ k,k<m->dq n (_b.crs n (c m) u v) (c k)=0->dq n d (c k)=0:=λk hk=>al k J5;obtain⟨t,tp,H,t',_⟩:=I.go B L l hi ne;have a:∀ f:Pt,dq n u f=dq n v f->dq n d f<=0:=λf g=>by
  obtain⟨w,O,Q,P⟩:=H.corner B f;obtain⟨R,o,D⟩:=C.all w O;have cl:=J R o λk hk z1 z2=>by
   rw[Yc D];exact Q k hk (t' k hk ((My F G r s hk).mpr ⟨z1,z2⟩))
  have e:dq n w f=dq n u f:=by
   rw[<-Yc D];rcases cl with h | h
   ·exact Yc h
   rw[g];exact Yc h
  rw[X4,Mr,g,e,g] at P;by_cases z:0<dq n d f
  ·have:=_root_.Rat.mul_pos tp z;grind
  grind
 have zero:∀ f:Pt,dq n u f=dq n v f->dq n d f=0:=λf g=>by
  have h1:=a f g;have p:∀ x:Pt,dq n x (λk=>(-1)*f k+0*f k)=-dq n x f:=λx=>by rw[Uh];grind
  have h2:=a (λk=>(-1)*f k+0*f k) (by rw[p,p,g]);rw[p] at h2;grind
 obtain⟨i0,h0,K⟩:∃ i,i<n/\u i≠v i:=by
  refine YF λz=>?_;have:dq n u (c m)=dq n v (c m):=Yc λk hk=>YF λy=>z ⟨k,hk,y⟩;grind
 have un:=B.un;have b:∀ j,j<n->(v i0 - u i0)*d j=(v j - u j)*d i0:=λj hj=>by
  have h:=zero (λk=>(v i0 - u i0)*c j k + -(v j - u j)*c i0 k) (by rw[Uh,Uh,un j hj,un i0 h0,un j hj,un i0 h0];grind);rw[Uh,un j hj,un i0 h0] at h;grind
 have M:=al m J5 E;have:(v i0 - u i0)*dq n d (c m)=(dq n v (c m) - dq n u (c m))*d i0:=by
  rw[<-Pd];unfold dq;rw[<-Y5,show ∀ z:QQ,z*d i0=d i0*z from λz=>ZJ,<-Y5];exact Zk λk hk=>by have:=b k hk;grind
 rw[M] at this;have A:d i0=0:=by
  have h:(dq n v (c m) - dq n u (c m))*d i0=0:=ZJ
  rcases _root_.Rat.mul_eq_zero.mp h with h | h
  ·grind
  exact h
 have:=b i hi;rw[A] at this;have h:(v i0 - u i0)*d i=0:=ZJ
 rcases _root_.Rat.mul_eq_zero.mp h with h | h
 ·exact K ZJ
 exact ne h
theorem Cors.kept (C:Cors n m c V)(a:v∈V)(h:dq n v (c m)<=0):Vx n (m+1) c v:=by
 have x:=C.vx v a;refine⟨⟨λk hk=>?_,x.inn.one⟩,λd b al=>x.st d b λk hk=>al k J5⟩;by_cases e:k=m
 ·subst e;exact h
 exact x.inn.le k J5
def Vx.along {g:QQ}(v:Vx n (m+1) c x)(f:sQ n d=0)(al:∀ k,k<m->dq n x (c k)=0->dq n d (c k)=0)(nd:dq n d (c m)≠0){b:Pt}(a:sQ n b=0)(ab:∀ k,k<m->dq n x (c k)=0->dq n b (c k)=0)(j:g=dq n b (c m) / dq n d (c m)):∀ i,i<n->b i=g*d i:=by
 have e:g*dq n d (c m)=dq n b (c m):=by rw[j];grind
 have h:=v.st (λk=>b k + -g*d k) (by rw[U9,a,f];grind) λk hk z=>by
  rw[X4];by_cases q:k=m
  ·subst q;grind
  rw[ab k J5 z,al k J5 z];grind
 intro i hi;have:=h i hi;grind
theorem Cors.new (B:Bnds n m c)(C:Cors n m c V)(X:Vx n (m+1) c x):(∃ v∈V,(∀ i,i<n->v i=x i)/\dq n v (c m)<=0) \/ ∃ u∈V,∃ v∈V,dq n u (c m)<0/\0<dq n v (c m)/\Near n m c V u v/\∀ i,i<n->crs n (c m) u v i=x i:=by
 have I:InP n m c x:=⟨λk hk=>X.inn.le k J5,X.inn.one⟩;by_cases st:Stuck n m c x
 ·obtain⟨v,L,ev⟩:=C.all x ⟨I,st⟩;exact .inl ⟨v,L,ev,by rw[Yc ev];exact X.inn.le m J5⟩
 refine .inr ?_;obtain⟨E,y,o,i,hi,D⟩:=N8 st;have O:dq n x (c m)=0:=YF λq=>D (X.st E y (λk hk z=>by
  by_cases e:k=m
  ·subst e;exact absurd z q
  exact o k J5 z) i hi)
 have a0:dq n E (c m)≠0:=λq=>D (X.st E y (λk hk z=>by
  by_cases e:k=m
  ·subst e;exact q
  exact o k J5 z) i hi)
 obtain⟨d,A,al,ne,U⟩:∃ d:Pt,sQ n d=0/\(∀ k,k<m->dq n x (c k)=0->dq n d (c k)=0)/\d i≠0/\0<dq n d (c m):=by
  by_cases p:0<dq n E (c m)
  ·exact⟨E,y,o,D,p⟩
  exact⟨λk=>-E k,by rw[Nl,y];grind,λk hk z=>by rw[Su,o k hk z];grind,ZJ,by rw[Su];grind⟩
 have nd:dq n d (c m)≠0:=ZJ
 have r:∀ k,k<m->dq n x (c k)=0->dq n (λk=>-d k) (c k)=0:=λk hk z=>by rw[Su,al k hk z];grind
 have a:∀ (b:Pt) (t:QQ),t≠0->(∀ k,b k=x k+t*d k)->InP n m c b->(∃ k,k<m/\dq n x (c k)≠0/\dq n b (c k)=0)->Vx n m c b:=λb t t0 eb Ib ⟨k,hk,nk,R⟩=>by
  refine⟨Ib,λF s' l=>?_⟩;have H:b=λk=>x k+t*d k:=funext eb;have sub:∀ k,k<m->dq n x (c k)=0->dq n F (c k)=0:=λk hk z=>l k hk (by rw[H,X4,z,al k hk z];grind);have pr:=X.along A al nd s' sub rfl;have e1:=l k hk R;rw[Yc pr] at e1;have e2:dq n (λi=>dq n F (c m) / dq n d (c m)*d i) (c k)=dq n F (c m) / dq n d (c m)*dq n d (c k):=by
   have:=X4 (n:=n) (λ_=>0) d (c k) (dq n F (c m) / dq n d (c m));rw[show (λk=>(0:QQ)+dq n F (c m) / dq n d (c m)*d k)=λi=>dq n F (c m) / dq n d (c m)*d i by funext k;grind,show dq n (λ_=>0) (c k)=0 from Vh λk _=>ZJ] at this;grind
  rw[e2] at e1;have P:dq n d (c k)≠0:=λq=>by rw[H,X4,q] at R;grind
  intro j hj;rw[pr j hj];rcases _root_.Rat.mul_eq_zero.mp e1 with h | h
  ·rw[h];grind
  exact absurd h P
 obtain⟨g,Q,W,a1,w1⟩:=I.go B A al hi ne;obtain⟨f,T,Y,a2,w2⟩:=I.go B (d:=λk=>-d k) (by rw[Nl,A];grind) r hi ZJ;obtain⟨v,L,ev⟩:=C.all _ (a _ g ZJ (λ_=>rfl) W w1);obtain⟨u,hu,J⟩:=C.all _ (a _ (-f) ZJ (λk=>ZJ) Y w2);have N:∀ e,dq n v e=dq n x e+g*dq n d e:=λe=>by rw[Yc ev,X4]
 have M:∀ e,dq n u e=dq n x e - f*dq n d e:=λe=>by rw[Yc J,X4 x λk=>-d k,Su];grind
 have Z:dq n u (c m)<0:=by rw[M,O];have:=_root_.Rat.mul_pos T U;grind
 have S:0<dq n v (c m):=by rw[N,O];have:=_root_.Rat.mul_pos Q U;grind
 refine⟨u,hu,v,L,Z,S,λw hw l=>?_,λj hj=>?_⟩
 ·have K:=C.vx w hw;have sub:∀ k,k<m->dq n x (c k)=0->dq n (λk=>w k - x k) (c k)=0:=λk hk z=>by
   rw[Pd,z,l k hk (by rw[M,z,al k hk z];grind) (by rw[N,z,al k hk z];grind)];grind
  have pr:=X.along A al nd (by rw[Td,K.inn.one,I.one];grind) sub rfl;generalize dq n (λk=>w k - x k) (c m) / dq n d (c m)=s at pr;have G:∀ k,k<n->w k=x k+s*d k:=λk hk=>by have:=pr k hk;grind
  have at_:∀ t:QQ,t=s->∀ k,k<n->w k=x k+t*d k:=λt e=>e ▸ G;by_cases e1:s=g
  ·exact .inr λk hk=>by rw[G k hk,ev k hk,e1]
  by_cases e2:s=-f
  ·exact .inl λk hk=>by rw[G k hk,J k hk,e2];grind
  exfalso;by_cases h1:g<s
  ·have V1:=(C.vx v L).congr ev;exact ne (V1.mid A (p:=s - g) (q:=g) ZJ Q (K.inn.congr λk hk=>by rw[G k hk];grind) (I.congr λk hk=>ZJ) i hi)
  by_cases h2:s < -f
  ·have V2:=(C.vx u hu).congr J;exact ne (V2.mid A (p:=f) (q:=-f - s) T ZJ (I.congr λk hk=>ZJ) (K.inn.congr λk hk=>by rw[G k hk];grind) i hi)
  have V3:=K.congr G;exact ne (V3.mid A (p:=g - s) (q:=s+f) ZJ ZJ (W.congr λk hk=>ZJ) (Y.congr λk hk=>ZJ) i hi)
 obtain⟨t,t0,tl,et,e⟩:=Pi (n:=n) Z S;show u j+dq n u (c m) / (dq n u (c m) - dq n v (c m))*(v j - u j)=x j;rw[<-et];rw[M,N,O] at e;have q:t*(g+f)=f:=by
  have:(t*(g+f) - f)*dq n d (c m)=0:=ZJ
  rcases _root_.Rat.mul_eq_zero.mp this with h | h
  ·grind
  exact absurd h nd
 have:=ev j hj;have:=J j hj;have:t*(v j - u j)=t*(g+f)*d j:=ZJ
 grind
theorem Cors.fresh (C:Cors n m c V)(hu:u∈V)(j:v∈V)(f:dq n u (c m)<0)(g:0<dq n v (c m)){w:Pt}(hw:w∈V):¬ ∀ i,i<n->w i=crs n (c m) u v i:=λh=>by
 obtain⟨t,t0,tl,a,_⟩:=Pi (n:=n) f g;have W:=(C.vx w hw).congr h;have b:=(C.vx u hu).inn;have e:=(C.vx v j).inn;have:=W.mid (d:=λk=>v k - u k) (p:=1 - t) (q:=t) (by rw[Td,b.one,e.one];grind) ZJ t0 (e.congr λk hk=>by show v k=u k+_*(v k - u k)+_;rw[<-a];grind) (b.congr λk hk=>by show u k=u k+_*(v k - u k)+_;rw[<-a];grind);have:dq n v (c m)=dq n u (c m):=Yc λk hk=>by have:=this k hk;grind
 grind
def Cors.apart (C:Cors n m c V){u' v':Pt}(hu:u∈V)(q:v∈V)(a:u'∈V)(b:v'∈V)(o:dq n u (c m)<0)(p:0<dq n v (c m))(d:dq n u' (c m)<0)(g:0<dq n v' (c m))(l:Near n m c V u v)(e:∀ i,i<n->crs n (c m) u v i=crs n (c m) u' v' i):(∀ i,i<n->u' i=u i)/\∀ i,i<n->v' i=v i:=by
 have r:=(C.vx u hu).inn;have s:=(C.vx v q).inn;have f:=(C.vx u' a).inn;have j:=(C.vx v' b).inn;have met:∀ k,k<m->dq n u (c k)=0->dq n v (c k)=0->dq n u' (c k)=0/\dq n v' (c k)=0:=λk hk z1 z2=>(My f j d g hk).mp (by rw[<-Yc e];exact (My r s o p hk).mpr ⟨z1,z2⟩);constructor
 ·rcases l u' a λk hk z1 z2=>(met k hk z1 z2).1 with h | h
  ·exact h
  have:dq n u' (c m)=dq n v (c m):=Yc h;grind
 rcases l v' b λk hk z1 z2=>(met k hk z1 z2).2 with h | h
 ·have:dq n v' (c m)=dq n u (c m):=Yc h;grind
 exact h
end
section
variable {P:TU}{base:Heap}
inductive spUnder (K:TR) (vs:TZ) (H:Hp) (Q:VK) (_z3:XK):Prop
 | mk (a b:Addr) (p q r s:Int) (zz0:vs=[.ref a,.ref b]) (zz1:SqT K H a [.int p,.int q]) (zz2:SqT K H b [.int r,.int s]) (zz3:IntMulOk p s) (zz4:IntMulOk r q) (zz5:Q (.bl (decide (p*s<r*q))) H)
def Z49 (D:Def K mg "under" jT UH):Has P w K mg base 1 "under" UH (spUnder K):=by
 refine D.h9 (N:=UH) fsc λH Q hr h nd=>?_;obtain⟨a,b,p,q,r,s,rfl,c,hB,m1,d,k⟩:=h;refine⟨_,(Zb (Zg (Xi Rf (Zl Zp (Zf Yu (pv 0) Z9) (Zf Yi (pv 1) Z9)) (Zl Zp (Zf Yu (pv 1) Z9) (Zf Yi (pv 0) Z9)) (Zq _)))),?_⟩;exact⟨_,rfl,_,_,_,rfl,rfl,c,_,rfl,_,_,_,rfl,rfl,hB,_,_,rfl,rfl,m1,_,rfl,_,_,_,rfl,rfl,hB,_,rfl,_,_,_,rfl,rfl,c,_,_,rfl,rfl,d,_,_,rfl,rfl,k⟩
end
def Z2e {t u:Addr}{g:TG}{D:Ends}{σ:_L.St}(a:Nat->_L.St->Hp->Prop)(le:xs.length=ys.length)(h0:a 0 σ H)(hl:∀ i σ H,i<=xs.length->a i σ H->SqT K H t xs/\SqT K H u ys)
  (hs:∀ i x y σ H p,xs[i]?=some x->ys[i]?=some y->a i σ H->H p=none->g (.ref p) σ (upd H p (.tup [x,y])) λb H2=>tb { D with nx:=a (i+1),ct:=a (i+1),bk:=D.nx } b H2) (hd:∀ σ H,a xs.length σ H->D.nx σ H) :
  ∃ W:Nat->Nat->_L.St->Hp->Prop,(∃ m,W 0 m σ H)/\∀ i m σ H,W i m σ H →
   ((Itz K t u).stop i H/\D.nx σ H) \/ ((Itz K t u).go i H/\∃ N:_L.St->Hp->Prop,(∀ σ' H',N σ' H'->∃ h,h<m/\W (i+1) h σ' H')/\∀ x H',(Itz K t u).yld i H x H'->g x σ H' λb H2=>tb { D with nx:=N,ct:=N,bk:=D.nx } b H2):=by
 refine⟨λi m σ H=>m=xs.length - i/\i<=xs.length/\a i σ H,⟨xs.length,J7,JF _,h0⟩,?_⟩;rintro i m σ H ⟨rfl,hi,p⟩;obtain⟨f,d⟩:=hl i σ H hi p;by_cases c:i<xs.length
 ·refine .inr ⟨⟨xs,ys,f,d,c,J5⟩,a (i+1),λσ' H' k=>⟨xs.length - (i+1),J5,rfl,c,k⟩,λx H' y=>?_⟩;obtain⟨n,x0,y0,rfl,hp,rfl,j,l⟩:=y;exact hs i x0 y0 σ H n (j xs f) (l ys d) p hp
 have e:i=xs.length:=J5
 subst e;exact .inl ⟨⟨xs,ys,f,d,rfl⟩,hd σ H p⟩
section
variable {P:TU}{base:Heap}
def aheadR:List Rat->List Rat->Bool
 | r::rs,s::ss=>if r=s then aheadR rs ss else decide (r.1*s.2<s.1*r.2)
 | _,_=>false
def Gb {ss:UA}{r s:Rat}(h1:rs[i]?=some r)(h2:ss[i]?=some s):aheadR (rs.drop i) (ss.drop i)=if r=s then aheadR (rs.drop (i+1)) (ss.drop (i+1)) else decide (r.1*s.2<s.1*r.2):=by
 obtain⟨a,rfl⟩:=YH.mp h1;obtain⟨b,rfl⟩:=YH.mp h2;rw[Y0X a,Y0X b];rfl
inductive spAhead (K:TR) (vs:TZ) (H:Hp) (Q:VK) (_z3:XK):Prop
 | mk (a b:Addr) (rs ss:UA) (n:Nat) (zz0:vs=[.ref a,.ref b]) (zz1:RowAt K H a rs) (zz2:RowAt K H b ss) (zz3:rs.length=ss.length) (zz4:rs.length<=1000) (zz5:(∀ r∈rs,Good n r)) (zz6:(∀ r∈ss,Good n r)) (zz7:n<=200000) (zz8:∀ H',Same H H'->Q (.bl (aheadR rs ss)) H')
theorem Z4u (D:Def K mg "is_ahead" jB UH)(T:Blt mg)(v:Has P w K mg base 1 "under" UH (spUnder K)):Has P w K mg base 2 "is_ahead" UH (spAhead K):=by
 refine D.h9 (N:=["one","other","mine","theirs"]) fsc λH Q hr h nd=>?_;obtain⟨a,b,rs,ss,n,rfl,⟨xs,m,f⟩,⟨us,hB,d⟩,hl,B,E,gs,hn,k⟩:=h;have C:=jf (Z2a hr);refine⟨_,(Z8 (Xq JL rfl (Z0v rfl T.zip (Z0 (pv 0) (Z0 (pv 1) Z7))) (Wb (n:=2) rfl (Y3 (Zj (i:=2) nd rfl (Or.inl rfl)) (Y3 (Zj (i:=3) nd rfl (Or.inl rfl)) Xh)))
   (Zb (Y9 (Zn (Z79 (K:=K) C) (pv 2) (pv 3) (Zq _))
    (Zb (Zg (Ze v hr (Z0 (pv 2) (Z0 (pv 3) Z7)))))
    Zv)))
  (Zb (Zg Uk))),?_⟩
 have lx:=f.len;have F:=d.len;refine⟨_,rfl,_,rfl,a,b,rfl,⟨_,m⟩,⟨_,hB⟩,?_⟩;refine Z2e (K:=K) (xs:=xs) (ys:=us) (λi σ H'=>Same H H'/\aheadR rs ss=aheadR (rs.drop i) (ss.drop i)/\∃ x y,σ=[some (.ref a),some (.ref b),x,y]) J5 ⟨Same.refl H,rfl,none,none,rfl⟩ (λi σ H' _ h=>⟨Zo h.1 m,Zo h.1 hB⟩) ?_ ?_
 ·rintro i x y σ H1 p hx u ⟨S1,ea,x1,A,rfl⟩ hp;have t:SqT K (upd H1 p (.tup [x,y])) p [x,y]:=SqT.of Za;have j:=S1.trans (Same.new (o:=.tup [x,y]) hp);obtain⟨r,s,a1,rfl,g⟩:=(Rs.ext f (Ext.same j)).back hx;obtain⟨s',es,b1,rfl,c⟩:=(Rs.ext d (Ext.same j)).back u;generalize upd H1 p (.tup [V.ref a1,V.ref b1])=G at *
  have q:=E r (YE s);have l:=gs s' (YE es);rw[Gb s es] at ea;refine⟨_,_,rfl,t,rfl,_,_,rfl,_,_,rfl,rfl,?_⟩;refine⟨_,rfl,_,rfl,a1,b1,[r.1,r.2],[s'.1,s'.2],rfl,rfl,g,c,?_⟩;refine⟨_,rfl,?_⟩;by_cases e:r=s'
  ·have e2:[r.1,r.2]=[s'.1,s'.2]:=by rw[e]
   rw[YG e] at ea;show if (!decide ([r.1,r.2]=[s'.1,s'.2]))=true then _ else _
   rw[XE e2];exact Xn ⟨j,ea,_,_,rfl⟩
  have e2:¬ [r.1,r.2]=[s'.1,s'.2]:=λz=>by
   injection z with z1 z2
   injection z2 with z2 _
   exact e (Y2a z1 z2)
  rw[YD e] at ea;show if (!decide ([r.1,r.2]=[s'.1,s'.2]))=true then _ else _
  rw[XN e2];refine U6 ⟨_,rfl,_,rfl,a1,b1,r.1,r.2,s'.1,s'.2,rfl,g,c,q.b1.mulOk l.b2 J5 J5,l.b1.mulOk q.b2 J5 J5,?_⟩;rw[<-ea];exact k _ j
 rintro σ H1 ⟨S1,ea,x1,A,rfl⟩;have e0:aheadR rs ss=false:=by rw[ea,List.drop_of_length_le J5];rfl
 rw[e0] at k;exact k H1 S1
end
end _b
namespace _b
open PySem
abbrev lamP:Pos:=⟨126,28,126,94⟩
open PySem.Spec PyProof.Rows _L
def Ng {K:TR}(h:X.K=K:=by rfl):CallR X (.builtin "len") (λxs H Q=>∃ p ys,xs=[V.ref p]/\(SqL K H p ys \/ SqT K H p ys)/\Q (V.int ↑ys.length) H):=h ▸ Zx
end _b
namespace _b
open PySem _L
def Xa {g:TG}{D:Ends}{σ:_L.St}(h:te σ H λx H1=>g x σ H1 D.nx):tAsg te g D σ H:=h
def Wz {t:TA}{σ:_L.St}{Q:List V->Hp->Prop}(h:te σ H λx H1=>t σ H1 λxs H2=>Q (x::xs) H2):tCons te t σ H Q:=h
def Z85 {r:List V->Hp->VK->Prop}{t:TA}{σ:_L.St}{Q:VK}(h:t σ H λvs H1=>r vs H1 Q):tCB r t σ H Q:=h
def Z6b {t:TA}{σ:_L.St}{Q:VK}(h:t σ H λxs H1=>xs.length<=sizeLine/\∀ l,H1 l=none->Q (.ref l) (upd H1 l (.lst xs))):tLst t σ H Q:=h
def Gj {D:Ends}{σ:_L.St}(h:te σ H D.rt):tRet te D σ H:=h
def Z12 {p:Addr}{u:V}{σ:_L.St}{A B:_L.St->Hp->Prop}{t:TT}(hp:SqT K H p [u,v])(h:t ((σ.set 0 (some u)).set 1 (some v)) H λb H5=>if b=true then A ((σ.set 0 (some u)).set 1 (some v)) H5 else B ((σ.set 0 (some u)).set 1 (some v)) H5) :
  gTup K 2 (gCons (gName 0) (gCons (gName 1) gNil)) (.ref p) σ H λa c=>t a c λb H5=>if b=true then A a H5 else B a H5 :=
 ⟨p,[u,v],rfl,hp,rfl,u,[v],rfl,v,[],rfl,rfl,h⟩
section
variable {α:Type}
def Yh {d:Addr}{o:HO}(S:Same H H1)(hd:H d=none):Same H (upd H1 d o):=λb ob e=>by
 rw[Zc (Zd e hd)];exact S b ob e
def Yj {zs:List α}{z:α}(h:zs[i]?=some z):zs.take (i+1)=zs.take i++[z]:=by
 rw[GW,h];rfl
theorem Vc {l:Addr}{zs:List α}{q:α->Bool}{k:Nat}{fv:List Nat}{σ:_L.St}{Q:VK}(R:Hp->Addr->α->Prop)(c:∀ H1 H2 a z,Ext H1 H2->R H1 a z->R H2 a z)
  (u:∀ G:VK,G (.ref l) H->tl σ H G) (hl:SqL K H l (as.map V.ref)) (hz:as.length<=1000) (hp:Paired (R H) as zs)
  (o:∀ (i:Nat) (a:Addr) (z:α) (H1:Hp) (G:Bool->Hp->Prop),as[i]?=some a->zs[i]?=some z->Same H H1->R H1 a z->(∀ H2,Same H1 H2->G (q z) H2)->tt ((comp0 k fv σ).set 0 (some (.ref a))) H1 G)
  (h0:((comp0 k fv σ).length≠0))
  (t:∀ (d:Addr) (H2:Hp) (bs:TJ),H d=none->Same H H2->H2 d=some (.lst (bs.map V.ref))->Paired (R H2) bs (zs.filter q)->(∀ b∈bs,b∈as)->Q (.ref d) H2) :
  tComp (iList K tl) (gName 0) tt (tVar 0) k fv σ H Q:=by
 refine u _ ⟨l,rfl,⟨_,hl⟩,λd hd=>?_⟩;have lp:=YY hp;refine⟨as.length,λi ys H2=>Same H H2/\∃ bs:List Addr,ys=bs.map V.ref/\Paired (R H2) bs ((zs.take i).filter q)/\∀ b∈bs,b∈as,YM hz J6,⟨Same.new hd,[],rfl,by simpa using Paired.nil,λb g=>by cases g⟩,?_,?_⟩
 ·rintro i ys H2 hi ⟨S2,bs,rfl,P2,s⟩ j;have p:=X9 S2 hl;have ea:as[i]?=some as[i]:=by simp[hi]
  have n:zs[i]?=some (zs[i]'J5):=J7
  generalize as[i]=a at ea;generalize (zs[i]'J5)=z at n;have ex:(as.map V.ref)[i]?=some (V.ref a):=by rw[YI,ea];rfl
  refine⟨⟨_,V.ref a,p,ex⟩,?_⟩;rintro x C ⟨rfl,B⟩;have e:=B _ p;rw[ex] at e
  cases e;refine Tn ?_;refine o i a z C _ ea n S2 (c _ _ _ _ (Ext.same S2) (Paired.getB hp ea n)) λA r=>?_;have m:=r _ _ j;have f:=S2.trans r;by_cases e:q z=true
  ·rw[e];have v:((comp0 k fv σ).set 0 (some (V.ref a)))[0]?=some (some (V.ref a)):=by
    rw[JI J5]
   refine U6 ⟨V.ref a,v,m,Yh f hd,bs++[a],J7,?_,?_⟩
   ·rw[Yj n,GD,zx,YG e,jw];have w:Ext A (upd A d (.lst (bs.map V.ref++[V.ref a]))):=Ext.upd m;exact Paired.appP (Paired.mapP P2 λb y h=>c _ _ _ _ ((Ext.same r).trans w) h) (.cons (c _ _ _ _ ((Ext.same f).trans w) (Paired.getB hp ea n)) .nil)
   intro b g;rcases XS.mp g with g | g
   ·exact s b g
   rw[XH.mp g];exact YE ea
  have e':q z=false:=by simpa using e
  rw[e'];refine Xn ⟨m,f,bs,rfl,?_,s⟩;rw[Yj n,GD,zx,YD e,jw,JT];exact Paired.mapP P2 λb y h=>c _ _ _ _ (Ext.same r) h
 rintro ys H2 ⟨S2,bs,rfl,P2,s⟩ j;rw[lp,GA] at P2;exact⟨⟨_,X9 S2 hl,J7⟩,t d H2 bs hd S2 j P2 s⟩
end
open PySem.Spec PyProof.Rows
def Cd {x y:Str}{sc:Scope}(kind:sc.kind=.function)(co:sc.isCoroutine=false)(gen:sc.isGenerator=false)(ne:x≠y)(par:sc.names.lookup x=some .cell)(fre:sc.names.lookup y=some .free)
  (only:∀ p∈sc.names,p.2=.cell \/ p.2=.free->p.1=x \/ p.1=y) (cs:∀ n c,cellsFrom n sc.names [(y,c)]=[(x,n),(y,c)]) (pc:∀ h,pushCells h sc.names=h.push { cls:=.type "cell",data:=.cell none }):LamScope x y sc :=
 ⟨kind,co,gen,ne,par,fre,λz h=>h.elim (λh=>only _ (qZ h) (.inl rfl)) (λh=>only _ (qZ h) (.inr rfl)),cs,pc⟩
def DefC (K:TR)(mg:TB)(x:Str)(st:Stmt)(ps:TF)(cc:Addr):Prop :=
 ∃ (f:Addr) (fd:FuncData),Fun K x x st f fd/\mg x=some (.ref f)/\Binds K fd ps []/\fd.code=.ref cc
section
variable {P:TU}{base:Heap}
def DefC.has {k:Nat}{x:Str}(D:DefC K mg x st ps cc)
  (h:∀ (f:Addr) (fd:FuncData),Fun K x x st f fd->fd.code=.ref cc->FnOk P w K mg base CX0 k f fd ps sp sr):Has P w K mg base k x ps sp sr:=by
 obtain⟨f,fd,F,hm,b,c⟩:=D;exact⟨f,fd,h f fd F c,hm,F.kp,b⟩
def Fun.okC {x:Str}{N:TF}{k:Nat}(F:Fun K x qual st f fd)(hc:fd.code=.ref cc)(S:FnScope N ps (defScope st))(len:∀ vs H Q E,sp vs H Q E->vs.length=ps.length)
  (a:∀ (A:Around) (outer:TN) (s:Shared) (H:Hp) (vs:TZ) (Q:VK) (E:XK),Room k (A.deeper (envOfC qual (defScope st) s.heap.objs.size f (.ref cc))) sr->sp vs H Q E →
   ∃ t,PSs (cxOf CX0 P w K mg base N qual (defScope st) f (.ref cc) A outer s H E).nox (defBody st) t/\t { nx:=λ_ H'=>Q .non H',rt:=Q } (start N vs) H):FnOk P w K mg base CX0 (k+1) f fd ps sp sr:=by
 obtain⟨oc,od,kV,doc,pm,an,cdv,ct,osl,rfl,lk,b⟩:=F.ex
 cases (show cdv=.ref cc from hc);refine Z2f lk b S len λA outer s H vs Q E hr c=>?_;obtain⟨t,h,q⟩:=a A outer s H vs Q E hr c;exact⟨t,h.nox,q⟩
theorem Gc (f:List Rat->Int):∀ (as:TJ) (rss:UB),as.length=rss.length->(rss.map f).zip (as.map V.ref)=(as.zip rss).map λq=>(f q.2,V.ref q.1)
 | [],[],_=>rfl
 | _::as,_::rss,h=>by
  have:=Gc f as rss (by simpa using h);simp only [GR,Y0S,this]
 | [],_::_,h=>by simp at h
 | _::_,[],h=>by simp at h
theorem Qi {α β:Type}{R:α->β->Prop}:∀ (L:List (α × β)),(∀ q∈L,R q.1 q.2)->Paired R (L.map Prod.fst) (L.map Prod.snd)
 | [],_=>.nil
 | q::L,h=>.cons (h q XC) (Qi L λz hz=>h z (YV _ hz))
theorem Qh {α β:Type}{R:α->β->Prop}:∀ {xs:List α} {ys:List β},Paired R xs ys->∀ {q:α × β},q∈xs.zip ys->R q.1 q.2
 | _,_,.nil,_,h=>by cases h
 | _,_,.cons r t,q,h=>by
  rcases YU.mp h with rfl | h
  ·exact r
  exact Qh t h
abbrev Tab1 (H:Hp)(T:Addr):Prop:=LamAt H T lamP (((("rising":Str)++".<locals>."))++"<lambda>")
def cntR (rss:UB)(r:UA):Int:=((rss.filter λo=>aheadR o r).length:Nat)
inductive spRising (K:TR) (T:Addr) (vs:TZ) (H:Hp) (Q:VK) (_z3:XK):Prop
 | mk (l:Addr) (as:TJ) (rss:UB) (c n:Nat) (zz0:vs=[.ref l]) (zz1:H l=some (.lst (as.map V.ref))) (zz2:Paired (RowAt K H) as rss) (zz3:rss.length<64) (zz4:∀ r∈rss,r.length=c) (zz5:c<=1000) (zz6:∀ r∈rss,∀ x∈r,Good n x) (zz7:n<=200000) (zz8:Tab1 H T)
  (zz9:∀ (d:Addr) (H':Hp) (as':TJ) (rss':UB),H d=none->SameX T H H'->Tab1 H' T->H' d=some (.lst (as'.map V.ref))->Paired (RowAt K H') as' rss'->rss'.Perm rss->rss'.Pairwise (λa b=>cntR rss a<=cntR rss b)->Q (.ref d) H')
def Le:FnScope ["rows"] ["rows"] (defScope jG):=fsc
theorem Z1c {T:Addr}(D:DefC K mg "rising" jG ["rows"] cc)(T0:Blt mg)(R:mg "sorted"=none)(KB:K.In base)(hcc:W.codeHdIn K cc T=true)(hB:BltIn mg base)(gJ:Has P w K mg base 2 "is_ahead" UH (spAhead K)) :
  Has P w K mg base 6 "rising" ["rows"] (spRising K T):=by
 refine D.has λf fd F hc=>_b.Fun.okC F hc Le (λvs H Q E h=>?_) (λA outer s H vs Q E hr h=>?_)
 ·obtain⟨l,as,rss,c,n,rfl,_⟩:=h;rfl
 obtain⟨l,as,rss,c,n,rfl,hl,hp,a1,m,X,hg,hn,Z,k⟩:=h;have sc:=Le;have J:(["other","row"]:List Str).Nodup:=J8
 refine⟨_,Zb (Zg (Z0x (x:="row") (y:="rows") (k:=2) (iy:=0) (c:=s.heap.objs.size+1) (cc:=cc) (P:=T) ?S hr rfl R (pv 0) rfl rfl rfl rfl rfl rfl (W.codeHd_of_K KB hcc) hB rfl (λ_ _ _ _ _=>rfl) (λA' v s' H' f' c' U=>Zw (Ng (K:=K)) rfl T0.len zm (Z0 (Yd (ox:=none) (N:=["other","row"]) (k:=1) (fv:=[0]) rfl (Lo (K:=K) (pv 1))
   (λ_ _ _ _ _=>Zj (i:=0) J rfl xj) (λ_ _ _ _ _=>Xu (Yz (M1 gJ (U.mono J6) rfl (Z0 (pv 0) (Z0 (pv 1) Z7))))) (λ_ _ _ _ _=>(pv 0)) Zu) Z7)))),?_⟩
 case S=>exact Cd rfl rfl rfl J6 rfl rfl J8 (λ_ _=>rfl) (λ_=>rfl)
 have lp:=YY hp;obtain⟨a0,p⟩:=Z.tbl;refine⟨_,rfl,l,as.map V.ref,rss.map (cntR rss),.ref l,rfl,hl,by simp[lp],by rw[YC];omega,rfl,Z,?_,?_⟩
 ·intro i x kk H' hx hk S1;have hi:i<as.length:=by have:=(YH.mp hx).1;simpa using this
  have ea:as[i]?=some as[i]:=by simp[hi]
  have B:rss[i]?=some (rss[i]'J5):=J7
  generalize as[i]=a at ea;generalize (rss[i]'J5)=r at B;rw[YI,ea] at hx;rw[YI,B] at hk
  cases hx
  cases hk;have nT:∀ b u,H b=some u->(∀ q,u≠.tbl q)->b≠T:=λb u e n z=>by rw[z,p] at e;cases e;exact n _ rfl
  have O:Ext H H':=⟨λb xs e=>S1 b _ e (nT b _ e λq z=>nomatch z),λb o u e=>S1 b _ e (nT b _ e λq z=>nomatch z)⟩;have C:H' l=some (.lst (as.map V.ref)):=S1 l _ hl (nT l _ hl λq z=>nomatch z);have P1:=Y4 hp O;have mr:r∈rss:=YE B;refine Z85 (Wz ?_);refine Vc (K:=K) (α:=List Rat) (tl:=tVar 1) (tt:=tB (tCall (spAhead K) [] E0 (tCons (tVar 0) (tCons (tVar 1) tNil)))) (k:=1) (fv:=[0]) (σ:=[some (V.ref a),some (V.ref l)]) (H:=H') (l:=l) (as:=as) (zs:=rss) (q:=λo=>aheadR o r) (λH' a r=>RowAt K H' a r) (λ_ _ _ _ e h=>h.ext e) (λG g=>⟨_,rfl,g⟩) (SqL.of C) J5 P1 (λj b o H2 G eb eo S2 hb hG=>?_) (by simp[comp0]) λd H2 bs hd S2 M P2 _=>?_
  ·have mo:o∈rss:=YE eo;exact⟨_,rfl,_,rfl,b,a,o,r,n,rfl,hb,((Paired.getB P1 ea B).ext (Ext.same S2)),by rw[m o mo,m r mr],by rw[m o mo];exact X,hg o mo,hg r mr,hn,λH3 S3=>⟨_,rfl,hG H3 S3⟩⟩
  refine⟨d,bs.map V.ref,rfl,.inl (SqL.of M),?_,S2⟩;rw[YC,YY P2];rfl
 intro d H' ys S1 t hd so;obtain⟨ps,pp,rfl,po⟩:=so;have nT:∀ b u,H b=some u->(∀ q,u≠.tbl q)->b≠T:=λb u e n z=>by rw[z,p] at e;cases e;exact n _ rfl
 have O:Ext H H':=⟨λb xs e=>S1 b _ e (nT b _ e λq z=>nomatch z),λb o u e=>S1 b _ e (nT b _ e λq z=>nomatch z)⟩;have P1:=Y4 (Y4 hp O) (Ext.new (o:=.lst (ps.map Prod.snd)) hd);obtain⟨L,Y,eL⟩:=Lq pp _ (Gc (cntR rss) as rss lp);rw[eL] at po;rw[GX] at po;have e1:ps.map Prod.snd=(L.map Prod.fst).map V.ref:=by rw[eL,qh,qh];rfl
 have I:H d=none:=YF λz=>by
  obtain⟨u,e⟩:=Option.ne_none_iff_exists'.mp z;by_cases y:d=T
  ·obtain⟨ps,h⟩:=t.tbl;rw[y,h] at hd;cases hd
  rw[S1 d u e y] at hd;cases hd
 refine k d _ (L.map Prod.fst) (L.map Prod.snd) I ?_ (t.same (Same.new hd)) (by rw[e1,Za]) ?_ ?_ ?_
 ·intro b o e n;by_cases z:b=d
  ·have q:=S1 b o e n;rw[z,hd] at q
   cases q
  rw[Zc z];exact S1 b o e n
 ·refine Qi L λq hq=>?_;exact Qh P1 (Y.mem_iff.mp hq)
 ·have:=Y.map Prod.snd
  rwa [List.map_snd_zip J5] at this
 rw[GX];exact po
inductive spMeanW (K:TR) (vs:TZ) (H:Hp) (Q:VK) (_z3:XK):Prop
 | mk (a b:Addr) (xs us:TZ) (ws rs:UA) (n n':Nat) (D D':Int) (Ws Zs:TV) (zz0:vs=[.ref a,.ref b]) (zz1:(SqL K H a xs \/ SqT K H a xs)) (zz2:Rs K H ws xs) (zz3:(SqL K H b us \/ SqT K H b us)) (zz4:Rs K H rs us) (zz5:ws.length=rs.length) (zz6:rs.length<=1000) (zz7:RepL n D Ws ws) (zz8:RepL n' D' Zs rs) (zz9:n<=200000) (zz10:n'<=200000) (zz11:n+n'+10<=400000) (zz12:∀ c H',Same H H'->SqT K H' c [.int (sumR (List.zipWith mulR' ws rs)).1,.int (sumR (List.zipWith mulR' ws rs)).2]->Q (.ref c) H')
theorem Z4k (D:Def K mg "mean" kD VO)(T:Blt mg)(J:Z4 P w K mg base)(F:Has P w K mg base 1 "whole_by" UZ (spWholeBy K))(O:Has P w K mg base 3 "ratio" UI spLowest):Has P w K mg base 4 "mean" VO (spMeanW K):=by
 refine D.h9 (N:=["weights","row","mine","theirs","products"]) fsc λH Q hr h nd=>?_;obtain⟨a,b,xs,us,ws,rs,n,n',D,D',Ws,Zs,rfl,G,u,hB,v,hl,t,r,rr,hn,m,S,k⟩:=h;have s:(UH:List Str).Nodup:=J8
 refine⟨_,(Z8 (Zi (i:=2) nd rfl xj (Ze J hr (Z0 (pv 0) Z7)))
  (Z8 (Zi (i:=3) nd rfl xj (Ze J hr (Z0 (pv 1) Z7)))
  (Z8 (X6 (i:=4) (ox:=none) (N:=UH) (k:=2) (fv:=[]) nd rfl xj rfl (Nz rfl T.zip (Z0 (Ze F hr (Z0 (pv 0) (Z0 (pv 2) Z7))) (Z0 (Ze F hr (Z0 (pv 1) (Z0 (pv 3) Z7))) Z7)))
  (λ_ _ _ _ _=>Wb (n:=2) rfl (Y3 (Zj (i:=0) s rfl (Or.inl rfl)) (Y3 (Zj (i:=1) s rfl (Or.inl rfl)) Xh))) (λ_ _ _ _ _=>Y8) (λ_ _ _ _ _=>(Zl Zp (pv 0) (pv 1))) Xp)
  (Zb (Zg (Ze O hr (Z0 (Zw (Sx (K:=K) rfl) rfl T.sum Y0m (Z0 (pv 4) Z7)) (Z0 (Zl Zp (pv 2) (pv 3)) Z7)))))))),?_⟩
 have l:=r.least;have j:=rr.least;refine⟨_,rfl,a,xs,ws,n,D,Ws,rfl,G,u,r,hn,?_⟩;refine⟨_,rfl,b,us,rs,n',D',Zs,rfl,hB,v,rr,m,?_⟩;refine⟨_,rfl,_,rfl,a,_,xs,ws,n,rfl,G,u,l.good,l.bD,l.pos,hn,J5,λd1 H1 f1 S1 e1=>?_⟩;have B:SqL K H1 b us \/ SqT K H1 b us:=hB.elim (λz=>.inl (X9 S1 z)) λz=>.inr (Zo S1 z);refine⟨_,rfl,_,rfl,b,_,us,rs,n',rfl,B,v.ext (Ext.same S1),j.good,j.bD,j.pos,m,t,λW H2 f2 S2 e2=>?_⟩;replace e1:=S2 _ _ e1;refine⟨d1,W,rfl,⟨_,SqL.of e1⟩,⟨_,SqL.of e2⟩,λd hd=>?_⟩;have ll:(wholeB ws (lcmB ws)).length=rs.length:=by rw[l.len,hl]
 have R:(wholeB rs (lcmB rs)).length=rs.length:=j.len;generalize hX:wholeB ws (lcmB ws)=As at *
 generalize hY:wholeB rs (lcmB rs)=Bs at *
 have M:∀ z∈As,Bd n z:=λz hz=>by
  obtain⟨i,hi⟩:=XL hz;have hl':i<As.length:=(YH.mp hi).1;exact (l.at_ i z (ws[i]'J5) hi J7).2.1
 have bB:∀ z∈Bs,Bd n' z:=λz hz=>by
  obtain⟨i,hi⟩:=XL hz;have hl':i<Bs.length:=(YH.mp hi).1;exact (j.at_ i z (rs[i]'J5) hi J7).2.1
 refine⟨rs.length,λi ys A=>Same H2 A/\ys=((List.zipWith (·*·) As Bs).take i).map V.int,Zy t,⟨Same.new hd,rfl⟩,?_,?_⟩
 ·rintro i ys A hi ⟨g,rfl⟩ f;refine⟨⟨_,_,SqL.of (g _ _ e1),SqL.of (g _ _ e2),by rw[YC];omega,by rw[YC];omega⟩,?_⟩;rintro x I ⟨p,x0,y0,rfl,hp,rfl,Y,fy⟩;have ea:As[i]?=some (As[i]'J5):=J7
  have L:Bs[i]?=some (Bs[i]'J5):=J7
  have y:x0=V.int (As[i]'J5):=by
   have:=Y _ (SqL.of (g _ _ e1));rw[YI,ea] at this;exact (YR this).symm
  have E:y0=V.int (Bs[i]'J5):=by
   have:=fy _ (SqL.of (g _ _ e2));rw[YI,L] at this;exact (YR this).symm
  subst y E;refine Tl (SqT.of Za) ?_;have C:d≠p:=Zd f hp;refine⟨_,rfl,_,rfl,_,_,rfl,rfl,(M _ (XR _)).mulOk (bB _ (XR _)) J5 J5,by rw[Zc C];exact f,λq o e=>?_,?_⟩
  ·have:=g _ _ e;rw[Zc (Zd e hd),Zc (Zd this hp)];exact this
  have:(List.zipWith (·*·) As Bs)[i]?=some (As[i]'J5*Bs[i]'J5):=by rw[GM,ea,L]
  rw[Ye this,XF];rfl
 rintro ys A ⟨g,rfl⟩ f;rw[YW (by rw[JV];omega)] at f;refine⟨⟨_,_,SqL.of (g _ _ e1),SqL.of (g _ _ e2),by rw[YC];omega⟩,?_⟩;refine⟨_,rfl,d,_,rfl,SqL.of f,_,rfl,_,rfl,_,_,rfl,rfl,l.bD.mulOk j.bD J5 J5,_,_,rfl,by have:=XG l.pos j.pos;omega,(l.bD.mul j.bD).log J5,λc I f4 U X=>?_⟩;have Z:=Z50 l j hl;have e5:sumR (List.zipWith mulR' ws rs)=nrm (List.zipWith (·*·) As Bs).sum (lcmB ws*lcmB rs):=Z.symm;refine k c I (((S1.trans S2).trans g).trans U) ?_;rw[e5];exact SqT.of X
def natL (us:List Nat):List V:=us.map λk=>V.int ((k:Nat):Int)
def touR (ess:UB)(r:UA):List Nat:=(List.range ess.length).filter λk=>decide (mn r (ess.getD k [])=(0,1))
def MeanOk (r e:UA):Prop:=r.length=e.length/\r.length<=1000/\∃ n n' D D' Ws Zs,RepL n D Ws r/\RepL n' D' Zs e/\n+n'+10<=200000
inductive spTouched (K:TR) (vs:TZ) (H:Hp) (Q:VK) (_z3:XK):Prop
 | mk (l a:Addr) (as:TJ) (ess:UB) (r:UA) (zz0:vs=[.ref l,.ref a]) (zz1:H l=some (.lst (as.map V.ref))) (zz2:Paired (RowAt K H) as ess) (zz3:RowAt K H a r) (zz4:ess.length<=1000) (zz5:∀ e∈ess,MeanOk r e)
  (zz6:∀ (d:Addr) (H':Hp),H d=none->Same H H'->H' d=some (.lst (natL (touR ess r)))->Q (.ref d) H')
theorem Dt (D:Def K mg "touched" i5 VP)(T:Blt mg)(J:Has P w K mg base 4 "mean" VO (spMeanW K))(G:Con K mg "NOUGHT" (0,1)):Has P w K mg base 5 "touched" VP (spTouched K):=by
 refine D.h9 (N:=VP) fsc λH Q hr h nd=>?_;obtain⟨l,a,as,ess,r,rfl,hl,hp,W,hz,hm,k⟩:=h;have hU:=jf (Z2a hr);obtain⟨c,g,f⟩:=G;have m:(["place","edge","corner"]:List Str).Nodup:=J8
 refine⟨_,(Zb (Zg (Yd (ox:=none) (N:=["place","edge","corner"]) (k:=2) (fv:=[1]) rfl (Tk rfl T.enumerate (Z0 (pv 0) Z7))
  (λ_ _ _ _ _=>Wb (n:=2) rfl (Y3 (Zj (i:=0) m rfl (Or.inl rfl)) (Y3 (Zj (i:=1) m rfl (Or.inl rfl)) Xh))) (λ_ _ _ _ _=>Xu (Zn (Z15 (K:=K) hU) (Ze J hr (Z0 (pv 2) (Z0 (pv 1) Z7))) (Yt (v:=.ref c) rfl g rfl) (Zq _))) (λ_ _ _ _ _=>(pv 0)) Xp))),?_⟩
 have lp:=YY hp;refine Gj ?_;refine⟨_,rfl,l,rfl,⟨_,SqL.of hl⟩,λd hd=>?_⟩;refine⟨as.length,λi ys H2=>Same H H2/\ys=natL ((List.range i).filter λk=>decide (mn r (ess.getD k [])=(0,1))),YM (show as.length<=1000 by omega) J6,⟨Same.new hd,rfl⟩,?_,?_⟩
 ·rintro i ys H2 hi ⟨S2,rfl⟩ j;have q:=S2 _ _ hl;refine⟨⟨_,SqL.of q,by simpa using hi⟩,?_⟩;rintro x O ⟨p,x0,rfl,s,rfl,U⟩;have ea:as[i]?=some as[i]:=by simp[hi]
  have ee:ess[i]?=some (ess[i]'J5):=J7
  have A:ess.getD i []=ess[i]'J5:=by simp[List.getD,show i<ess.length by omega]
  have E:=Paired.getB hp ea ee;have C:=hm _ (YE ee);rw[<-A] at E C;have ex:x0=V.ref as[i]:=by
   have:=U _ (SqL.of q);rw[YI,ea] at this;exact (YR this).symm
  subst ex;generalize as[i]=b at *
  have u:=S2.trans (Same.new (o:=.tup [V.int ((i:Nat):Int),V.ref b]) s);have B:(upd H2 p (.tup [V.int ((i:Nat):Int),V.ref b])) d=_:=(Same.new (o:=.tup [V.int ((i:Nat):Int),V.ref b]) s) _ _ j;have t3:SqT K (upd H2 p (.tup [V.int ((i:Nat):Int),V.ref b])) p [V.int ((i:Nat):Int),V.ref b]:=SqT.of Za;generalize upd H2 p (.tup [V.int ((i:Nat):Int),V.ref b])=O at *
  obtain⟨Y,R,Z⟩:=E.ext (Ext.same u);obtain⟨F,X,S⟩:=W.ext (Ext.same u);obtain⟨m1,m2,n,n',L,D2,Ws,Zs,r1,r2,m3⟩:=C;refine Z12 t3 ?_;refine⟨_,rfl,_,rfl,a,b,F,Y,r,ess.getD i [],n,n',L,D2,Ws,Zs,rfl,.inr X,S,.inr R,Z,m1,J5,r1,r2,J5,J5,J5,λI H4 y M=>?_⟩;refine⟨I,c,[_,_],[0,1],rfl,rfl,M,f _,_,rfl,?_⟩;have e1:decide ([(sumR (List.zipWith mulR' r (ess.getD i []))).1,(sumR (List.zipWith mulR' r (ess.getD i []))).2]=[0,1])=decide (mn r (ess.getD i [])=(0,1)):=by
   rw[jm];constructor
   ·intro z;injection z with z1 z2
    injection z2 with z2 _
    exact Y2a z1 z2
   intro z;show [(mn r (ess.getD i [])).1,(mn r (ess.getD i [])).2]=_;rw[z]
  show if decide _=true then _ else _
  rw[e1];have t:=y _ _ B;have ru:(List.range (i+1)).filter (λk=>decide (mn r (ess.getD k [])=(0,1)))=(List.range i).filter (λk=>decide (mn r (ess.getD k [])=(0,1)))++(if decide (mn r (ess.getD i [])=(0,1))=true then [i] else []):=by
   rw[zH,GD,zx,jw]
  by_cases e:mn r (ess.getD i [])=(0,1)
  ·rw[XE e];refine U6 ⟨_,rfl,t,Yh (u.trans y) hd,?_⟩;rw[ru,XE e,YG rfl];unfold natL;rw[XF];rfl
  rw[XN e];refine Xn ⟨t,u.trans y,?_⟩;rw[ru,XN e,YD YO,JT]
 rintro ys H2 ⟨S2,rfl⟩ j;refine⟨⟨_,SqL.of (S2 _ _ hl),J7⟩,k d H2 hd S2 ?_⟩;rw[j,lp];rfl
theorem Z7g (D:Def K mg "plus" kC UH)(e:Z3 P w K mg base):Has P w K mg base 3 "plus" UH (spTwo K addR):=by
 refine D.h9 (N:=UH) fsc λH Q hr h nd=>?_;obtain⟨a,b,r,s,n,rfl,d,hB,c,gs,hn,k⟩:=h;refine⟨_,(Zb (Zg (Ze e hr (Z0 (Zl X2 (Zl Zp (Zf Yu (pv 0) Z9) (Zf Yi (pv 1) Z9)) (Zl Zp (Zf Yu (pv 1) Z9) (Zf Yi (pv 0) Z9))) (Z0 (Zl Zp (Zf Yi (pv 0) Z9) (Zf Yi (pv 1) Z9)) Z7))))),?_⟩;exact⟨_,rfl,_,_,_,rfl,rfl,d,_,rfl,_,_,_,rfl,rfl,hB,_,_,rfl,rfl,c.b1.mulOk gs.b2 J5 J5,_,rfl,_,_,_,rfl,rfl,hB,_,rfl,_,_,_,rfl,rfl,d,_,_,rfl,rfl,gs.b1.mulOk c.b2 J5 J5,_,_,rfl,rfl,_,rfl,_,_,_,rfl,rfl,d,_,rfl,_,_,_,rfl,rfl,hB,_,_,rfl,rfl,c.b2.mulOk gs.b2 J5 J5,_,_,rfl,Wn c.pos gs.pos,Wu c.b2 gs.b2 hn,k⟩
inductive spAdded (K:TR) (vs:TZ) (H:Hp) (Q:VK) (_z3:XK):Prop
 | mk (a b:Addr) (rs ss:UA) (n:Nat) (zz0:vs=[.ref a,.ref b]) (zz1:RowAt K H a rs) (zz2:RowAt K H b ss) (zz3:rs.length=ss.length) (zz4:rs.length<=1000) (zz5:(∀ r∈rs,Good n r)) (zz6:(∀ r∈ss,Good n r)) (zz7:n<=200000) (zz8:∀ c H' ys,Same H H'->H' c=some (.tup ys)->Rs K H' (List.zipWith addR rs ss) ys->Q (.ref c) H')
def Gg:FnScope UH UH (defScope j9):=fsc
theorem Z4v (D:Def K mg "added" j9 UH)(T:Blt mg)(V:Has P w K mg base 3 "plus" UH (spTwo K addR)):Has P w K mg base 4 "added" UH (spAdded K):=by
 refine D.has λf fd F=>F.ok Gg (λvs H Q E h=>?_) (λcdv A outer s H vs Q E hr h=>?_)
 ·obtain⟨a,b,rs,ss,n,rfl,_⟩:=h;rfl
 obtain⟨a,b,rs,ss,n,rfl,⟨xs,u,t⟩,⟨us,hB,m⟩,hl,C,L,gs,hn,k⟩:=h;have sc:=Gg;have nd:(["mine","theirs"]:List Str).Nodup:=J8
 refine⟨_,(Zb (Zg (Y6 Ya rfl T.tuple XY (Z0 (Yd (ox:=none) (N:=["mine","theirs"]) (k:=2) (fv:=[]) rfl (Z0v rfl T.zip (Z0 (pv 0) (Z0 (pv 1) Z7)))
  (λ_ _ _ _ _=>Wb (n:=2) rfl (Y3 (Zj (i:=0) nd rfl (Or.inl rfl)) (Y3 (Zj (i:=1) nd rfl (Or.inl rfl)) Xh))) (λ_ _ _ _ _=>Y8) (λ_ _ _ _ _=>M1 V (hr.mono J6) rfl (Z0 (pv 0) (Z0 (pv 1) Z7))) Xp) Z7)))),?_⟩
 refine⟨_,rfl,_,rfl,a,b,rfl,⟨_,u⟩,⟨_,hB⟩,λd hd=>?_⟩;have lx:=t.len;have X:=m.len;refine⟨rs.length,λi ys H2=>Same H H2/\Rs K H2 (zipR addR rs ss i) ys,Zy C,⟨Same.new hd,.nil⟩,?_,?_⟩
 ·rintro i ys H2 hi ⟨S2,R2⟩ g;refine⟨⟨xs,us,Zo S2 u,Zo S2 hB,J5,J5⟩,?_⟩;rintro x W ⟨p,x0,y0,rfl,hp,rfl,R,S⟩;obtain⟨r,J,U⟩:=t.back (R xs (Zo S2 u));obtain⟨s',es,iy⟩:=m.back (S us (Zo S2 hB));obtain⟨a1,rfl,z⟩:=U.ext ((Ext.same S2).trans (Ext.new (o:=.tup [x0,y0]) hp));obtain⟨b1,rfl,y⟩:=iy.ext ((Ext.same S2).trans (Ext.new (o:=.tup [.ref a1,y0]) hp));refine Tl (SqT.of Za) ?_;refine⟨_,rfl,_,rfl,a1,b1,r,s',n,rfl,z,y,L r (YE J),gs s' (YE es),hn,λc v fc B O=>?_⟩;have G:d≠p:=Zd g hp;have j:v d=some (.lst ys):=B _ _ (by rw[Zc G];exact g);have M:Ext H2 v:=(Ext.new hp).trans (Ext.same B);have I:Ext v (upd v d (.lst (ys++[.ref c]))):=Ext.upd j;refine⟨j,λq o e=>?_,?_⟩
  ·rw[Zc (Zd e hd)];exact B _ _ (by rw[Zc (Zd (S2 _ _ e) hp)];exact S2 _ _ e)
  rw[Fr addR J es];exact (R2.ext (M.trans I)).snoc ⟨c,rfl,I.sq (SqT.of O)⟩
 rintro ys H2 ⟨S2,R2⟩ g;refine⟨⟨xs,us,Zo S2 u,Zo S2 hB,lx⟩,d,ys,rfl,.inl ⟨SqL.of g,λl hl'=>?_⟩⟩;rw[Bg addR rfl hl.symm] at R2;exact k l _ ys (S2.trans (Same.new hl')) Za (R2.ext (Ext.new hl'))
end
end _b
namespace _b
open PySem _L
def parR (r s:Rat):Rat:=nrm (r.1*s.2) (r.2*s.1)
def M9 {r s:Rat}(hr:0<r.2)(hs:s.1≠0):r.2*s.1≠0:=Y1z J5 hs
def Z10 {n m:Nat}{r s:Rat}(h:Good n r)(k:Good m s)(h0:s.1≠0):Good (n+m) (parR r s):=Wl (h.b1.mul k.b2) (h.b2.mul k.b1) (M9 h.pos h0)
def N9 {n m:Nat}{r s:Rat}(h:Good n r)(k:Good m s):Good (n+m) (mulR' r s):=Wl (h.b1.mul k.b1) (h.b2.mul k.b2) (zO (XG h.pos k.pos))
def Pw {n m:Nat}{r s:Rat}(h:Good n r)(k:Good m s):Good (n+m+1) (subR r s):=by
 have a:=h.b1.mul k.b2;have b:=k.b1.mul h.b2;rw[Y24 m n] at b;exact Wl (Bd.sub a b) ((h.b2.mul k.b2).mono J5) (zO (XG h.pos k.pos))
def byR (one other row:UA):Rat:=parR (mn one row) (subR (mn one row) (mn other row))
def crR (one other row:UA):List Rat:=List.zipWith addR (one.map λr=>mulR' r (subR (1,1) (byR one other row))) (other.map λr=>mulR' r (byR one other row))
def Ry {n n':Nat}{D':Int}{r e:UA}(h:RepL n D Ws r)(k:RepL n' D' Zs e)(hl:r.length=e.length)(a:r.length<=1000):Good (n+n'+10) (mn r e):=(h.mul k hl).sumGood (k:=10) (by rw[JV];omega)
section
variable {P:TU}{base:Heap}
inductive spPart0 (K:TR) (vs:TZ) (H:Hp) (Q:VK) (_z3:XK):Prop
 | mk (a b:Addr) (r s:Rat) (n:Nat) (zz0:vs=[.ref a,.ref b]) (zz1:SqT K H a [.int r.1,.int r.2]) (zz2:SqT K H b [.int s.1,.int s.2]) (zz3:Good n r) (zz4:Good n s) (zz5:n<=200000) (zz6:s.1≠0) (zz7:∀ c H',H c=none->Same H H'->H' c=some (.tup [.int (parR r s).1,.int (parR r s).2])->Q (.ref c) H')
theorem Z4g (D:Def K mg "parted" i6 UH)(e:Z3 P w K mg base):Has P w K mg base 3 "parted" UH (spPart0 K):=by
 refine D.h9 (N:=UH) fsc λH Q hr h nd=>?_;obtain⟨a,b,r,s,n,rfl,d,hB,c,gs,hn,h0,k⟩:=h;refine⟨_,(Z8 (Y9 (Zn Xm (Zf Yu (pv 1) Z9) Z9 (Zq _))
   (Zb V6)
   Zv)
  (Zb (Zg (Ze e hr (Z0 (Zl Zp (Zf Yu (pv 0) Z9) (Zf Yi (pv 1) Z9)) (Z0 (Zl Zp (Zf Yi (pv 0) Z9) (Zf Yu (pv 1) Z9)) Z7)))))),?_⟩
 refine⟨_,rfl,b,_,_,rfl,rfl,hB,rfl,_,rfl,Qv (λz=>h0 (V.int.inj z)) ?_⟩;exact⟨_,rfl,_,_,_,rfl,rfl,d,_,rfl,_,_,_,rfl,rfl,hB,_,_,rfl,rfl,c.b1.mulOk gs.b2 J5 J5,_,rfl,_,_,_,rfl,rfl,d,_,rfl,_,_,_,rfl,rfl,hB,_,_,rfl,rfl,c.b2.mulOk gs.b1 J5 J5,_,_,rfl,M9 c.pos h0,Wu c.b2 gs.b1 hn,k⟩
inductive spCrossing (K:TR) (vs:TZ) (H:Hp) (Q:VK) (_z3:XK):Prop
 | mk (a b e:Addr) (one other row:UA) (n:Nat) (D D' D2:Int) (Ws Us Zs:TV) (zz0:vs=[.ref a,.ref b,.ref e]) (zz1:RowAt K H a one) (zz2:RowAt K H b other) (zz3:RowAt K H e row) (zz4:one.length=row.length) (zz5:other.length=row.length) (zz6:row.length<=1000) (zz7:RepL n D Ws one) (zz8:RepL n D' Us other) (zz9:RepL n D2 Zs row) (zz10:n<=20000) (zz11:(subR (mn one row) (mn other row)).1≠0)
  (zz12:∀ c H',Same H H'->RowAt K H' c (crR one other row)->Q (.ref c) H')
theorem Jk (D:Def K mg "crossing" iY VQ)(J:Has P w K mg base 4 "mean" VO (spMeanW K))(W:Z5 P w K mg base)(gS:Has P w K mg base 3 "parted" UH (spPart0 K))(iB:Has P w K mg base 4 "added" UH (spAdded K))(U:Has P w K mg base 4 "multiplied" VF (spMultiplied K))(g0:Con K mg "ONE" (1,1)):Has P w K mg base 5 "crossing" VQ (spCrossing K):=by
 refine D.h9 (N:=["one","other","row","spare","by"]) fsc λH Q hr h nd=>?_;obtain⟨a,b,e,one,other,row,n,D,D',D2,Ws,Us,Zs,rfl,⟨F,y,R⟩,⟨X,O,rb⟩,⟨xe,qe,re⟩,Y,l2,V,r1,r2,o,hn,h0,k⟩:=h;obtain⟨c,f,j⟩:=g0;refine⟨_,(Z8 (Zi (i:=3) nd rfl xj (Ze J hr (Z0 (pv 0) (Z0 (pv 2) Z7))))
  (Z8 (Zi (i:=4) nd rfl xj (Ze gS hr (Z0 (pv 3) (Z0 (Ze W hr (Z0 (pv 3) (Z0 (Ze J hr (Z0 (pv 1) (Z0 (pv 2) Z7))) Z7))) Z7))))
  (Zb (Zg (Ze iB hr (Z0 (Ze U hr (Z0 (pv 0) (Z0 (Ze W hr (Z0 (Yt (v:=.ref c) rfl f rfl) (Z0 (pv 4) Z7))) Z7))) (Z0 (Ze U hr (Z0 (pv 1) (Z0 (pv 4) Z7))) Z7))))))),?_⟩
 have p:=Ry r1 o Y J5;have T:=Ry r2 o l2 J5;have g3:=Pw p T;have q:=Z10 p g3 h0;have d:Good 1 ((1,1):Rat):=⟨(by show (1:Int).natAbs<2 ^ 1;decide),(by show (1:Int).natAbs<2 ^ 1;decide),J6,J6⟩;have S:=Pw d q;refine⟨_,rfl,_,rfl,a,e,F,xe,one,row,n,n,D,D2,Ws,Zs,rfl,.inr y,R,.inr qe,re,Y,V,r1,o,J5,J5,J5,λG H1 S1 Z=>?_⟩;have a0:=Zo S1 y;have C:=Zo S1 O;have E:=Zo S1 qe;refine⟨_,rfl,_,rfl,_,rfl,_,rfl,b,e,X,xe,other,row,n,n,D',D2,Us,Zs,rfl,.inr C,rb.ext (Ext.same S1),.inr E,re.ext (Ext.same S1),l2,V,r2,o,J5,J5,J5,λc2 H2 S2 q2=>?_⟩;refine⟨G,c2,mn one row,mn other row,2*n+10,rfl,Zo S2 Z,q2,p.mono J5,T.mono J5,J5,λc3 H3 f3 I q3=>?_⟩;refine⟨G,c3,mn one row,subR (mn one row) (mn other row),4*n+21,rfl,Zo (S2.trans I) Z,SqT.of q3,p.mono J5,g3.mono J5,J5,h0,λs H4 f4 S4 q4=>?_⟩;have u:=(S1.trans S2).trans (I.trans S4);have m:SqT K H4 s [.int (byR one other row).1,.int (byR one other row).2]:=SqT.of q4;refine⟨_,rfl,_,rfl,c,s,(1,1),byR one other row,6*n+40,rfl,j _,m,d.mono J5,q.mono J5,J5,λc5 H5 f5 L q5=>?_⟩;have l:=u.trans L;have gA:∀ r∈one,Good (6*n+45) r:=λr hr=>(r1.good r hr).mono J5;have gB:∀ r∈other,Good (6*n+45) r:=λr hr=>(r2.good r hr).mono J5;refine⟨a,c5,one,subR (1,1) (byR one other row),6*n+45,rfl,⟨F,Zo l y,R.ext (Ext.same l)⟩,SqT.of q5,J5,gA,S.mono J5,J5,λc6 H6 t M q6 R6=>?_⟩;have g:=l.trans M;refine⟨_,rfl,_,rfl,b,s,other,byR one other row,6*n+45,rfl,⟨X,Zo g O,rb.ext (Ext.same g)⟩,Zo (L.trans M) m,J5,gB,q.mono J5,J5,λc7 H7 B A q7 R7=>?_⟩;refine⟨c6,c7,_,_,7*n+60,rfl,⟨t,SqT.of (A _ _ q6),R6.ext (Ext.same A)⟩,⟨B,SqT.of q7,R7⟩,by rw[YC,YC];omega,by rw[YC];omega,λr hr=>?_,λr hr=>?_,J5,λc8 H8 x S8 q8 R8=>?_⟩
 ·obtain⟨z,hz,rfl⟩:=YT.mp hr;exact (N9 (r1.good z hz) S).mono J5
 ·obtain⟨z,hz,rfl⟩:=YT.mp hr;exact (N9 (r2.good z hz) q).mono J5
 exact k c8 H8 (g.trans (A.trans S8)) ⟨x,SqT.of q8,R8⟩
end
open PySem.Spec PyProof.Rows
section
variable {X:Cx}
def Qs {P:TU}{w:World}{K:TR}(hu:X.A.units+64<cLine)(a:X.prog=P:=by rfl)(hw:X.w=w:=by rfl)(hK:X.K=K:=by rfl):IxR X (rIxD P w K):=by
 subst a hw;exact Z56 hu hK
def G9 {P:TU}{w:World}{K:TR}(b:X.A.handled=none)(hu:X.A.units+64<cLine)(a:X.prog=P:=by rfl)(hw:X.w=w:=by rfl)(hK:X.K=K:=by rfl):CallR X (.type "dict") (rDict P w K):=by
 subst a hw;exact Pk b hu hK
def Z0w {P:TU}{w:World}{K:TR}{l tg:Expr}(hl:PE X l tl)(a:X.prog=P:=by rfl)(hw:X.w=w:=by rfl)(hK:X.K=K:=by rfl):PI X tg l (iDict P w K tl):=by
 subst a hw;exact Z3z hl hK
end
end _b
namespace _b
open PySem _L
def Yf {x:V}{σ:_L.St}{Q:_L.St->Hp->Prop}(h:Q (σ.set i (some x)) H):gName i x σ H Q:=h
def Yr {a b:TS}{D:Ends}{σ:_L.St}{H:Hp}(h:a { D with nx:=λσ' H'=>b D σ' H' } σ H):tSeq a b D σ H:=h
section
def Co {p:V->Bool}{x:V}(h:xs[i]?=some x):(xs.take (i+1)).filter p=(xs.take i).filter p++(if p x=true then [x] else []):=by
 rw[GW,h];simp only [Y21,GD,zx,jw]
theorem G7 {l:Addr}{p:V->Bool}{k:Nat}{fv:List Nat}{σ:_L.St}{Q:VK}
  (j:∀ G:VK,G (.ref l) H->tl σ H G) (hl:SqL K H l xs) (hz:xs.length<=1000)
  (b:∀ (i:Nat) (x:V) (H1:Hp) (G:Bool->Hp->Prop),xs[i]?=some x->Same H H1->(∀ H2,Same H1 H2->G (p x) H2)->tt ((comp0 k fv σ).set 0 (some x)) H1 G)
  (h0:((comp0 k fv σ).length≠0))
  (h:∀ (d:Addr) (H2:Hp),H d=none->Same H H2->H2 d=some (.lst (xs.filter p))->Q (.ref d) H2) :
  tComp (iList K tl) (gName 0) tt (tVar 0) k fv σ H Q:=by
 refine j _ ⟨l,rfl,⟨_,hl⟩,λd hd=>?_⟩;refine⟨xs.length,λi ys H2=>Same H H2/\ys=(xs.take i).filter p,YM hz J6,⟨Same.new hd,rfl⟩,?_,?_⟩
 ·rintro i ys H2 hi ⟨S2,rfl⟩ a;have f:=X9 S2 hl;have ex:xs[i]?=some xs[i]:=by simp[hi]
  generalize xs[i]=x at ex;refine⟨⟨_,x,f,ex⟩,?_⟩;rintro y q ⟨rfl,o⟩;have e:=o _ f;rw[ex] at e
  cases e;refine Tn ?_;refine b i x q _ ex S2 λr n=>?_;have g:=n _ _ a;have c:=S2.trans n;have fs:=Co (p:=p) ex;by_cases e:p x=true
  ·rw[e];rw[YG e] at fs;have m:((comp0 k fv σ).set 0 (some x))[0]?=some (some x):=by
    rw[JI J5]
   exact U6 ⟨x,m,g,Yh c hd,fs.symm⟩
  have e':p x=false:=by simpa using e
  rw[e'];rw[YD e,JT] at fs;exact Xn ⟨g,c,fs.symm⟩
 rintro ys H2 ⟨S2,rfl⟩ a;rw[GA] at a;exact⟨⟨_,X9 S2 hl,YJ _⟩,h d H2 hd S2 a⟩
theorem Ct {l:Addr}{f:V->V}{k:Nat}{fv:List Nat}{σ:_L.St}{Q:VK}
  (g:∀ G:VK,G (.ref l) H->tl σ H G) (hl:SqL K H l xs) (hz:xs.length<=1000)
  (h:∀ (i:Nat) (x:V) (H1:Hp) (G:VK),xs[i]?=some x->Same H H1->(∀ H2,Same H1 H2->G (f x) H2)->te ((comp0 k fv σ).set 0 (some x)) H1 G)
  (c:∀ (d:Addr) (H2:Hp),H d=none->Same H H2->H2 d=some (.lst (xs.map f))->Q (.ref d) H2) :
  tComp (iList K tl) (gName 0) tYes te k fv σ H Q:=by
 refine g _ ⟨l,rfl,⟨_,hl⟩,λd hd=>?_⟩;refine⟨xs.length,λi ys H2=>Same H H2/\ys=(xs.take i).map f,YM hz J6,⟨Same.new hd,rfl⟩,?_,?_⟩
 ·rintro i ys H2 hi ⟨S2,rfl⟩ a;have b:=X9 S2 hl;have ex:xs[i]?=some xs[i]:=by simp[hi]
  generalize xs[i]=x at ex;refine⟨⟨_,x,b,ex⟩,?_⟩;rintro y o ⟨rfl,n⟩;have e:=n _ b;rw[ex] at e
  cases e;refine Ym ?_;refine h i x o _ ex S2 λp m=>?_;have j:=m _ _ a;refine⟨j,Yh (S2.trans m) hd,?_⟩;rw[GW,ex];simp
 rintro ys H2 ⟨S2,rfl⟩ a;rw[GA] at a;exact⟨⟨_,X9 S2 hl,YJ _⟩,c d H2 hd S2 a⟩
theorem G8 {P:TU}{j:Addr}{es:List (List Rat × Addr × Addr)}{ep:Nat}{p:List Rat->Bool}{k:Nat}{fv:List Nat}{σ:_L.St}{Q:VK}
  (h:∀ G:VK,G (.ref j) H->tl σ H G) (hl:DcAt P w K H j es ep) (hz:es.length<=1000)
  (b:∀ (i:Nat) (e:List Rat × Addr × Addr) (H1:Hp) (G:Bool->Hp->Prop),es[i]?=some e->Same H H1->(∀ H2,Same H1 H2->G (p e.1) H2)->tt ((comp0 k fv σ).set 0 (some (.ref e.2.1))) H1 G)
  (h0:((comp0 k fv σ).length≠0))
  (g:∀ (d:Addr) (H2:Hp),H d=none->Same H H2->H2 d=some (.lst ((es.filter λe=>p e.1).map λe=>V.ref e.2.1))->Q (.ref d) H2) :
  tComp (iDict P w K tl) (gName 0) tt (tVar 0) k fv σ H Q:=by
 refine h _ ⟨j,es,ep,rfl,hl,λd hd=>?_⟩;refine⟨es.length,λi ys H2=>Same H H2/\ys=((es.take i).filter λe=>p e.1).map λe=>V.ref e.2.1,YM hz J6,⟨Same.new hd,rfl⟩,?_,?_⟩
 ·rintro i ys H2 hi ⟨S2,rfl⟩ a;refine⟨⟨hl.same S2,hi⟩,?_⟩;rintro y n ⟨rfl,e,ee,rfl⟩;refine Tn ?_;refine b i e n _ ee S2 λq m=>?_;have f:=m _ _ a;have c:=S2.trans m;have fs:((es.take (i+1)).filter λe=>p e.1).map (λe=>V.ref e.2.1)=((es.take i).filter λe=>p e.1).map (λe=>V.ref e.2.1)++(if p e.1=true then [V.ref e.2.1] else []):=by
   rw[GW,ee];simp only [Y21,GD,zx,jw,XF];split <;> rfl
  by_cases z:p e.1=true
  ·rw[z];rw[YG z] at fs;have l:((comp0 k fv σ).set 0 (some (V.ref e.2.1)))[0]?=some (some (V.ref e.2.1)):=by
    rw[JI J5]
   exact U6 ⟨_,l,f,Yh c hd,fs.symm⟩
  have o:p e.1=false:=by simpa using z
  rw[o];rw[YD z,JT] at fs;exact Xn ⟨f,c,fs.symm⟩
 rintro ys H2 ⟨S2,rfl⟩ a;rw[GA] at a;exact⟨⟨hl.same S2,YJ _⟩,g d H2 hd S2 a⟩
end
theorem Cu {α:Type}{l:Addr}{zs:List α}{g:α->List Rat}{k:Nat}{fv:List Nat}{σ:_L.St}{Q:VK}(R:Hp->Addr->α->Prop)(f:∀ H1 H2 a z,Ext H1 H2->R H1 a z->R H2 a z)
  (o:∀ G:VK,G (.ref l) H->tl σ H G) (hl:SqL K H l (as.map V.ref)) (hz:as.length<=1000) (hp:Paired (R H) as zs)
  (q:∀ (i:Nat) (a:Addr) (z:α) (H1:Hp) (G:VK),as[i]?=some a->zs[i]?=some z->Same H H1->R H1 a z->(∀ c H2,Same H1 H2->RowAt K H2 c (g z)->G (.ref c) H2)->te ((comp0 k fv σ).set 0 (some (.ref a))) H1 G)
  (n:∀ (d:Addr) (H2:Hp) (bs:TJ),H d=none->Same H H2->H2 d=some (.lst (bs.map V.ref))->Paired (RowAt K H2) bs (zs.map g)->Q (.ref d) H2) :
  tComp (iList K tl) (gName 0) tYes te k fv σ H Q:=by
 refine o _ ⟨l,rfl,⟨_,hl⟩,λd hd=>?_⟩;have lp:=YY hp;refine⟨as.length,λi ys H2=>Same H H2/\∃ bs:List Addr,ys=bs.map V.ref/\Paired (RowAt K H2) bs ((zs.take i).map g),YM hz J6,⟨Same.new hd,[],rfl,by simpa using Paired.nil⟩,?_,?_⟩
 ·rintro i ys H2 hi ⟨S2,bs,rfl,P2⟩ b;have h:=X9 S2 hl;have ea:as[i]?=some as[i]:=by simp[hi]
  have m:zs[i]?=some (zs[i]'J5):=J7
  generalize as[i]=a at ea;generalize (zs[i]'J5)=z at m;have ex:(as.map V.ref)[i]?=some (V.ref a):=by rw[YI,ea];rfl
  refine⟨⟨_,V.ref a,h,ex⟩,?_⟩;rintro x v ⟨rfl,t⟩;have e:=t _ h;rw[ex] at e
  cases e;refine Ym ?_;refine q i a z v _ ea m S2 (f _ _ _ _ (Ext.same S2) (Paired.getB hp ea m)) λc s p u=>?_;have j:=p _ _ b;have r:Ext s (upd s d (.lst (bs.map V.ref++[V.ref c]))):=Ext.upd j;refine⟨j,Yh (S2.trans p) hd,bs++[c],J7,?_⟩;rw[Yj m,XF];exact Paired.appP (Y4 P2 ((Ext.same p).trans r)) (.cons (u.ext r) .nil)
 rintro ys H2 ⟨S2,bs,rfl,P2⟩ b;rw[lp,GA] at P2;exact⟨⟨_,X9 S2 hl,J7⟩,n d H2 bs hd S2 b P2⟩
open PySem.Spec PyProof.Rows
section
variable {P:TU}{base:Heap}
structure Touch (P:TU)(w:World)(K:TR)(H:Hp)(d:Addr)(es:List (List Rat × Addr × Addr))(ep:Nat)(tou:List Rat->List Nat):Prop where
 dc:DcAt P w K H d es ep
 ls:∀ e∈es,H e.2.2=some (.lst (natL (tou e.1)))
def nearR (a:UB)(tou:List Rat->List Nat)(one other:UA):Bool :=
 decide ((a.filter λr=>((tou one).filter λk=>decide (k∈tou other)).all λk=>decide (k∈tou r)).length=2)
def Ly (us:List Nat):(natL us).length=us.length:=YC ..
def Sh {us:List Nat}(x:V)(h:x∈natL us):flatV x=true:=by
 obtain⟨k,_,rfl⟩:=YT.mp h;rfl
def Lz (us:List Nat):(natL us).all flatV=true:=jk.mpr λx h=>Sh x h
def Fh (k:Nat)(us:List Nat):inV (V.int ((k:Nat):Int)) (natL us)=decide (k∈us):=by
 unfold inV natL;rw[List.any_map,GF,List.any_eq_true,GQ];constructor
 ·rintro ⟨j,hj,e⟩;have e':eqV (V.int ((j:Nat):Int)) (V.int ((k:Nat):Int))=true:=e;have e2:(j:Int)=(k:Int):=by simpa [eqV] using e'
  have:j=k:=J5
  exact this ▸ hj
 intro h;exact⟨k,h,by simp[eqV]⟩
def C3 (us vs:List Nat):(natL us).filter (λx=>inV x (natL vs))=natL (us.filter λk=>decide (k∈vs)):=by
 conv=>lhs;unfold natL
 rw[List.filter_map];unfold natL
 congr 1
 refine List.filter_congr λk _=>?_;exact Fh k vs
def Z1u (us vs:List Nat):(natL us).map (λx=>V.bl (inV x (natL vs)))=(us.map λk=>decide (k∈vs)).map V.bl:=by
 conv=>lhs;unfold natL
 rw[qh,qh];refine List.map_congr_left λk _=>?_;show V.bl (inV (V.int ((k:Nat):Int)) (natL vs))=_;rw[Fh];rfl
inductive spNear (P:TU) (w:World) (K:TR) (vs:TZ) (H:Hp) (Q:VK) (_z3:XK):Prop
 | mk (d a b:Addr) (es:List (List Rat × Addr × Addr)) (ep:Nat) (tou:List Rat->List Nat) (one other:UA) (zz0:vs=[.ref d,.ref a,.ref b]) (zz1:Touch P w K H d es ep tou) (zz2:RowAt K H a one) (zz3:RowAt K H b other) (zz4:one∈es.map (·.1)) (zz5:other∈es.map (·.1)) (zz6:es.length<=1000) (zz7:∀ r,(tou r).length<=1000)
  (zz8:∀ H',Same H H'->Q (.bl (nearR (es.map (·.1)) tou one other)) H')
theorem Z7h (D:Def K mg "are_neighbours" iK VR)(T:Blt mg)(C:mg "all"=none):Has P w K mg base 2 "are_neighbours" VR (spNear P w K):=by
 refine D.h9 (N:=["touching","one","other","both","beside"]) fsc λH Q hr h nd=>?_;obtain⟨d,a,b,es,ep,tou,one,other,rfl,c,M,hB,m1,Y,hz,m,k⟩:=h;have A:(["place","touching","other"]:List Str).Nodup:=J8
 have y:(["corner","touching","both"]:List Str).Nodup:=J8
 have B:(["place","corner","touching"]:List Str).Nodup:=J8
 refine⟨_,(Z8 (Zi (i:=3) nd rfl (Or.inr rfl) (Yd (ox:=none) (N:=["place","touching","other"]) (k:=1) (fv:=[0,2]) rfl (Yk (Zf (Qs (P:=P) (w:=w) (K:=K) (by exact hr.units)) (pv 0) (pv 1)))
  (λ_ _ _ _ _=>Zj (i:=0) A rfl xj) (λ_ _ _ _ _=>Xu (Zn (Jg (K:=K)) (pv 0) (Zf (Qs (P:=P) (w:=w) (K:=K) (by exact hr.units)) (pv 1) (pv 2)) rfl)) (λ_ _ _ _ _=>(pv 0)) Zu))
 (Z8 (X6 (i:=4) (N:=["corner","touching","both"]) (k:=1) (fv:=[0,3]) (ox:=some "corner") nd rfl xj rfl (Z0w (P:=P) (w:=w) (K:=K) (pv 0))
  (λ_ _ _ _ _=>Zj (i:=0) y rfl (Or.inr rfl)) (λ_ _ _ _ _=>Xu (Yz (Zw (Bc (K:=K) (by rfl)) rfl C PyProof.Rows.boot_all (Z0 (Yd (ox:=none) (N:=["place","corner","touching"]) (k:=1) (fv:=[0,1]) rfl (Lo (K:=K) (pv 2))
  (λ_ _ _ _ _=>Zj (i:=0) B rfl xj) (λ_ _ _ _ _=>Y8) (λ_ _ _ _ _=>(Xi (Jg (K:=K)) (pv 0) (Zf (Qs (P:=P) (w:=w) (K:=K) (by exact hr.units)) (pv 2) (pv 1)) rfl)) Zu) Z7)))) (λ_ _ _ _ _=>(pv 0)) Zu)
 (Zb (Zg (Xi Xm (Zw Zx rfl T.len zm (Z0 (pv 4) Z7)) Z9 (Zq _)))))),?_⟩
 have o:∀ {x:UA},x∈es.map (·.1)->∃ (i:Nat) (e:List Rat × Addr × Addr),es[i]?=some e/\e.1=x:=λ{x} hx=>by
  obtain⟨e,R,ex⟩:=YT.mp hx;obtain⟨i,l⟩:=XL R;exact⟨i,e,l,ex⟩
 obtain⟨i1,e1,s,rfl⟩:=o m1;obtain⟨i2,e2,q,rfl⟩:=o Y;have L:=c.ls e1 (YE s);have W:=c.ls e2 (YE q);refine Xa ?_;refine G7 (K:=K) (tl:=tOp (rIxD P w K) (tVar 0) (tVar 1)) (tt:=tTest (tOp (rIn K false) (tVar 0) (tOp (rIxD P w K) (tVar 1) (tVar 2)))) (k:=1) (fv:=[0,2]) (p:=λx=>inV x (natL (tou e2.1))) (λG g=>⟨_,rfl,_,rfl,d,a,es,i1,e1,rfl,rfl,ep,c.dc,s,M,g⟩) (SqL.of L) (by rw[Ly];exact m _) (λi x H1 G ex S1 E=>?_) (by simp[comp0]) λd1 H1 f1 S1 O=>?_
 ·have u:flatV x=true:=Sh x (YE ex);exact⟨_,rfl,_,rfl,_,rfl,d,b,es,i2,e2,rfl,rfl,ep,c.dc.same S1,q,hB.ext (Ext.same S1),_,_,rfl,.inl (SqL.of (S1 _ _ W)),u,Lz _,_,rfl,E _ (Same.refl _)⟩
 have t:H1 d1=some (.lst (natL ((tou e1.1).filter λk=>decide (k∈tou e2.1)))):=by rw[O,C3]
 refine Yf ?_;dsimp only;refine Yr (Xa ?_);refine G8 (K:=K) (P:=P) (w:=w) (tl:=tVar 0) (k:=1) (fv:=[0,3]) (p:=λr=>((tou e1.1).filter λk=>decide (k∈tou e2.1)).all λk=>decide (k∈tou r)) (λG g=>⟨_,rfl,g⟩) (c.dc.same S1) hz (λi e H2 G l S2 E=>?_) (by simp[comp0]) λX H2 f2 S2 I=>?_
 ·have le:=(S1.trans S2) _ _ (c.ls e (YE l));have U:=(c.dc.ks e (YE l)).ext (Ext.same (S1.trans S2));refine Z85 (Wz ?_);refine Ct (K:=K) (tl:=tVar 2) (k:=1) (fv:=[0,1]) (f:=λx=>.bl (inV x (natL (tou e.1)))) (λG g=>⟨_,rfl,g⟩) (SqL.of (S2 _ _ t)) (by rw[Ly];exact YM (GN _ _) (m _)) (λj x F Z ex n v=>?_) λS F f3 n J=>?_
  ·have u:flatV x=true:=Sh x (YE ex);exact⟨_,rfl,_,rfl,_,rfl,d,e.2.1,es,i,e,rfl,rfl,ep,c.dc.same ((S1.trans S2).trans n),l,U.ext (Ext.same n),_,_,rfl,.inl (SqL.of (n _ _ le)),u,Lz _,v _ (Same.refl _)⟩
  refine⟨S,((tou e1.1).filter λk=>decide (k∈tou e2.1)).map λk=>decide (k∈tou e.1),rfl,SqL.of (by rw[J,Z1u]),_,rfl,?_⟩;rw[Y25];exact E F n
 refine⟨_,rfl,X,_,rfl,.inl (SqL.of I),rfl,?_⟩;refine Eq.mp (congrArg (λb=>Q (V.bl b) H2) ?_) (k H2 (S1.trans S2));unfold nearR;rw[List.filter_map,YC,YC,jm];constructor
 ·intro z;exact congrArg V.int (by rw[show ((es.filter λe=>((tou e1.1).filter λk=>decide (k∈tou e2.1)).all λk=>decide (k∈tou e.1)).length:Nat)=2 from z];rfl)
 intro z;have z':=V.int.inj z;show (es.filter λe=>((tou e1.1).filter λk=>decide (k∈tou e2.1)).all λk=>decide (k∈tou e.1)).length=2;omega
def inR (fss:UB)(r:UA):List (List Rat):=fss.filter λf=>decide ((mn f r).1<0)
def outR (fss:UB)(r:UA):List (List Rat):=fss.filter λf=>decide (0<(mn f r).1)
def cutC (fss ess:UB)(r:UA):List (List Rat) :=
 (fss.filter λf=>!decide (f∈outR fss r))++(inR fss r).flatMap λone=>((outR fss r).filter λo=>nearR fss (touR ess) one o).map λo=>crR one o r
def RowN (n c:Nat)(r:UA):Prop:=r.length=c/\∃ D Ws,RepL n D Ws r
def RowN.mean {n c:Nat}{r e:UA}(h:RowN n c r)(k:RowN n c e)(hc:c<=1000)(hn:n<=20000):MeanOk r e:=by
 obtain⟨b,D,Ws,r1⟩:=h;obtain⟨a,D',Zs,r2⟩:=k;exact⟨J5,J5,n,n,D,D',Ws,Zs,r1,r2,J5⟩
inductive spCutOff (K:TR) (vs:TZ) (H:Hp) (Q:VK) (_z3:XK):Prop
 | mk (l m e:Addr) (as bs:TJ) (fss ess:UB) (r:UA) (n c:Nat) (zz0:vs=[.ref l,.ref m,.ref e]) (zz1:H l=some (.lst (as.map V.ref))) (zz2:Paired (RowAt K H) as fss) (zz3:H m=some (.lst (bs.map V.ref))) (zz4:Paired (RowAt K H) bs ess) (zz5:RowAt K H e r) (zz6:c<=1000) (zz7:n<=20000) (zz8:∀ f∈fss,RowN n c f) (zz9:∀ f∈ess,RowN n c f) (zz10:RowN n c r) (zz11:fss.Nodup) (zz12:fss.length<=60) (zz13:ess.length<=60)
  (zz14:∀ (d:Addr) (H':Hp),Same H H'->RowsAt K H' d (cutC fss ess r)->Q (.ref d) H')
theorem Z1o (D:Def K mg "cut_off" jQ VS)(c2:mg "dict"=none)(gG:Has P w K mg base 5 "touched" VP (spTouched K))(fK:Has P w K mg base 1 "under" UH (spUnder K))(fB:Has P w K mg base 4 "mean" VO (spMeanW K))(fF:Has P w K mg base 2 "are_neighbours" VR (spNear P w K))(gE:Has P w K mg base 5 "crossing" VQ (spCrossing K))(eD:Con K mg "NOUGHT" (0,1)) :
  Has P w K mg base 6 "cut_off" VS (spCutOff K) true:=by
 refine D.h9 (N:=["found","edges","row","touching","inside","outside","kept","one","near"]) fsc λH Q hr h nd=>?_;obtain⟨l,m,e,as,bs,fss,ess,r,n,c,rfl,hl,hp,hm,hq,E,hc,hn,hf,hs,a6,b3,hz,e7,k⟩:=h;obtain⟨s,A,u⟩:=eD;have d0:(["corner","edges"]:List Str).Nodup:=J8
 have a7:(["corner","row"]:List Str).Nodup:=J8
 have d6:(["corner","outside"]:List Str).Nodup:=J8
 have c9:(["other","touching","one"]:List Str).Nodup:=J8
 have e5:(["other","row","one"]:List Str).Nodup:=J8
 refine⟨_,(Z8 (Zi (i:=3) nd rfl (Or.inr rfl) (Y6 (G9 (P:=P) (w:=w) (K:=K) (by exact hr.hd rfl) (by exact hr.units)) rfl c2 PyProof.Rows.boot_dict (Z0 (Yd (ox:=none) (N:=["corner","edges"]) (k:=1) (fv:=[1]) rfl (Yk (pv 0))
  (λ_ _ _ _ _=>Zj (i:=0) d0 rfl xj) (λ_ _ _ _ _=>Y8) (λ_ _ _ _ _=>(Yl (Z0 (pv 0) (Z0 (Ze gG hr (Z0 (pv 1) (Z0 (pv 0) Z7))) Z7)))) Zu) Z7)))
 (Z8 (X6 (ox:=none) (i:=4) (N:=["corner","row"]) (k:=1) (fv:=[2]) nd rfl xj rfl (Yk (pv 0))
  (λ_ _ _ _ _=>Zj (i:=0) a7 rfl xj) (λ_ _ _ _ _=>Xu (Yz (Ze fK hr (Z0 (Ze fB hr (Z0 (pv 0) (Z0 (pv 1) Z7))) (Z0 (Yt (v:=.ref s) rfl A rfl) Z7))))) (λ_ _ _ _ _=>(pv 0)) Zu)
 (Z8 (Zi (i:=5) nd rfl (Or.inr rfl) (Yd (ox:=none) (N:=["corner","row"]) (k:=1) (fv:=[2]) rfl (Yk (pv 0))
  (λ_ _ _ _ _=>Zj (i:=0) a7 rfl xj) (λ_ _ _ _ _=>Xu (Yz (Ze fK hr (Z0 (Yt (v:=.ref s) rfl A rfl) (Z0 (Ze fB hr (Z0 (pv 0) (Z0 (pv 1) Z7))) Z7))))) (λ_ _ _ _ _=>(pv 0)) Zu))
 (Z8 (X6 (ox:=none) (i:=6) (N:=["corner","outside"]) (k:=1) (fv:=[5]) nd rfl xj rfl (Yk (pv 0))
  (λ_ _ _ _ _=>Zj (i:=0) d6 rfl xj) (λ_ _ _ _ _=>Xu (Zn (Dp (K:=K) (by exact hr.units)) (pv 0) (pv 1) rfl)) (λ_ _ _ _ _=>(pv 0)) Zu)
 (Z8 (Xq JL rfl (Yk (pv 4)) (Zj (i:=7) nd rfl (Or.inr rfl))
 (Z8 (X6 (ox:=none) (i:=8) (N:=["other","touching","one"]) (k:=1) (fv:=[3,7]) nd rfl xj rfl (Yk (pv 5))
  (λ_ _ _ _ _=>Zj (i:=0) c9 rfl xj) (λ_ _ _ _ _=>Xu (Yz (Ze fF hr (Z0 (pv 1) (Z0 (pv 2) (Z0 (pv 0) Z7)))))) (λ_ _ _ _ _=>(pv 0)) Zu)
 (Zb (Xl (Vt XZ Y1f Y1g Na (pv 6) (Z0 (Yd (ox:=none) (N:=["other","row","one"]) (k:=1) (fv:=[2,7]) rfl (Yk (pv 8))
  (λ_ _ _ _ _=>Zj (i:=0) e5 rfl xj) (λ_ _ _ _ _=>Y8) (λ_ _ _ _ _=>(Ze gE hr (Z0 (pv 2) (Z0 (pv 0) (Z0 (pv 1) Z7))))) Zu) Z7))))))
 (Zb (Zg (pv 6)))))))),?_⟩
 have lp:=YY hp;refine Yr (Xa (Z85 (Wz ?_)));refine⟨_,rfl,l,rfl,⟨_,SqL.of hl⟩,λd hd=>?_⟩;refine⟨as.length,λi ys H2=>Same H H2/\∃ es:List (List Rat × Addr × Addr),es.map (·.1)=fss.take i/\Paired (λv e=>∃ t,v=V.ref t/\SqT K H2 t [.ref e.2.1,.ref e.2.2]/\RowAt K H2 e.2.1 e.1) ys es/\∀ e∈es,H2 e.2.2=some (.lst (natL (touR ess e.1)))/\e.2.2≠d,YM (show as.length<=60 by omega) J6,⟨Same.new hd,[],rfl,.nil,λe E=>by cases E⟩,?_,?_⟩
 ·rintro i ys H2 hi ⟨S2,es,Z,P2,a5⟩ a0;have ea:as[i]?=some as[i]:=by simp[hi]
  have I:fss[i]?=some (fss[i]'J5):=J7
  generalize as[i]=a at ea;generalize (fss[i]'J5)=z at I;have ex:(as.map V.ref)[i]?=some (V.ref a):=by rw[YI,ea];rfl
  have a8:=S2 _ _ hl;refine⟨⟨_,V.ref a,SqL.of a8,ex⟩,?_⟩;rintro x H3 ⟨rfl,fx⟩;have e':=fx _ (SqL.of a8);rw[ex] at e'
  cases e';have F:=YE I;have U:=(Paired.getB hp ea I).ext (Ext.same S2);refine Ym ?_;refine⟨_,rfl,_,rfl,_,rfl,m,a,bs,ess,z,rfl,S2 _ _ hm,Y4 hq (Ext.same S2),U,J5,λf d3=>(hf z F).mean (hs f d3) hc hn,λd4 M f4 J q4=>⟨sz2,λp b9=>?_⟩⟩;have b4:=J _ _ a0;have c6:d≠p:=Zd b4 b9;have b6:(upd M p (.tup [V.ref a,V.ref d4])) d=some (.lst ys):=by rw[Zc c6];exact b4
  have C:=Same.new (o:=.tup [V.ref a,V.ref d4]) b9;have E6:Ext (upd M p (.tup [V.ref a,V.ref d4])) (upd (upd M p (.tup [V.ref a,V.ref d4])) d (.lst (ys++[V.ref p]))):=Ext.upd b6;have a4:=(Ext.same C).trans E6;have n4:d4≠d:=λz=>by rw[z,a0] at f4;cases f4
  refine⟨b6,Yh ((S2.trans J).trans C) hd,es++[(z,a,d4)],by rw[XF,Z,Yj I];rfl,?_,?_⟩
  ·refine Paired.appP (Paired.mapP P2 λv e ⟨t,e1,e2,e3⟩=>⟨t,e1,((Ext.same J).trans a4).sq e2,e3.ext ((Ext.same J).trans a4)⟩) (.cons ⟨p,rfl,E6.sq (SqT.of Za),U.ext ((Ext.same J).trans a4)⟩ .nil)
  intro e R;rcases XS.mp R with R | R
  ·obtain⟨e1,e2⟩:=a5 e R;exact⟨by rw[Zc e2];exact C _ _ (J _ _ e1),e2⟩
  rw[XH.mp R];exact⟨by show upd _ d _ d4=_;rw[Zc n4];exact C _ _ q4,n4⟩
 rintro ys H2 ⟨S2,es,Z,P2,a5⟩ a0;rw[lp,GA] at Z;refine⟨⟨_,SqL.of (S2 _ _ hl),J7⟩,?_⟩;refine⟨d,ys,es,rfl,SqL.of a0,P2,by rw[Z];exact b3,λdt ep c1=>?_⟩;have S3:=Same.new (o:=dcO P w dt es ep) c1;have key:∀ (ys:TZ) (es:List (List Rat × Addr × Addr)),Paired (λv e=>∃ t,v=V.ref t/\SqT K H2 t [.ref e.2.1,.ref e.2.2]/\RowAt K H2 e.2.1 e.1) ys es->∀ e∈es,RowAt K H2 e.2.1 e.1:=λys es h=>by
  induction h with
  | nil=>intro e E;cases E
  | cons h1 _ ih =>
   intro e E;rcases YU.mp E with rfl | E
   ·obtain⟨t,_,_,r⟩:=h1;exact r
   exact ih e E
 have hT:Touch P w K (upd H2 dt (dcO P w dt es ep)) dt es ep (touR ess):=⟨⟨Za,λe E=>(key _ _ P2 e E).ext (Ext.same S3),by rw[Z];exact b3⟩,λe E=>S3 _ _ (a5 e E).1⟩;have X:=S2.trans S3;generalize upd H2 dt (dcO P w dt es ep)=H3 at *
 refine Yf ?_;dsimp only;have S:∀ {M H5:Hp} {a:Addr} {z:UA},Same H M->RowAt K M a z->z∈fss->∀ (G:VK),(∀ c4 H5,Same M H5->SqT K H5 c4 [.int (mn z r).1,.int (mn z r).2]->G (.ref c4) H5)->spMeanW K [.ref a,.ref e] M G E0:=λ{M H5 a z} J U F G T=>by
  obtain⟨xe,qe,re⟩:=E.ext (Ext.same J);obtain⟨xa,qa,e0⟩:=U;obtain⟨l1,D1,W1,r1⟩:=hf z F;obtain⟨l2,D2,W2,r2⟩:=a6;exact⟨a,e,xa,xe,z,r,n,n,D1,D2,W1,W2,rfl,.inr qa,e0,.inr qe,re,J5,J5,r1,r2,J5,J5,J5,λc4 H5 C q5=>T c4 H5 C q5⟩
 have B:∀ z∈fss,Good 40010 (mn z r):=λz F=>by
  obtain⟨l1,D1,W1,r1⟩:=hf z F;obtain⟨l2,D2,W2,r2⟩:=a6;exact (Ry r1 r2 J5 J5).mono J5
 have b8:Bd 1 (0:Int):=(by show (0:Int).natAbs<2 ^ 1;decide);have a9:Bd 1 (1:Int):=(by show (1:Int).natAbs<2 ^ 1;decide);refine Yr (Xa ?_);refine Vc (K:=K) (α:=List Rat) (tl:=tVar 0) (k:=1) (fv:=[2]) (l:=l) (as:=as) (zs:=fss) (q:=λf=>decide ((mn f r).1<0)) (λH' a r=>RowAt K H' a r) (λ_ _ _ _ e h=>h.ext e) (λG g=>⟨_,rfl,g⟩) (SqL.of (X _ _ hl)) J5 (Y4 hp (Ext.same X)) (λi a z M G ea I J U T=>?_) (by simp[comp0]) λd1 M L f1 J q4 P4 M4=>?_
 ·have F:=YE I;have g:=B z F;refine⟨_,rfl,_,rfl,S (H5:=M) (X.trans J) U F _ λc5 H5 C q5=>?_⟩;refine⟨c5,s,_,_,0,1,rfl,q5,u _,g.b1.mulOk a9 J5 J5,b8.mulOk g.b2 J5 J5,_,rfl,?_⟩;have e1:decide ((mn z r).1*1<0*(mn z r).2)=decide ((mn z r).1<0):=by rw[jm];omega
  rw[e1];exact T H5 C
 have Y:=X.trans J;refine Yf ?_;dsimp only;refine Yr (Xa ?_);refine Vc (K:=K) (α:=List Rat) (tl:=tVar 0) (k:=1) (fv:=[2]) (l:=l) (as:=as) (zs:=fss) (q:=λf=>decide (0<(mn f r).1)) (λH' a r=>RowAt K H' a r) (λ_ _ _ _ e h=>h.ext e) (λG g=>⟨_,rfl,g⟩) (SqL.of (Y _ _ hl)) J5 (Y4 hp (Ext.same Y)) (λi a z H5 G ea I C U T=>?_) (by simp[comp0]) λd2 H5 os f2 C q5 P5 M5=>?_
 ·have F:=YE I;have g:=B z F;refine⟨_,rfl,_,rfl,S (H5:=H5) (Y.trans C) U F _ λc5 H6 S6 q6=>?_⟩;refine⟨s,c5,0,1,_,_,rfl,u _,q6,b8.mulOk g.b2 J5 J5,g.b1.mulOk a9 J5 J5,_,rfl,?_⟩;have e1:decide (0*(mn z r).2<(mn z r).1*1)=decide (0<(mn z r).1):=by rw[jm];omega
  rw[e1];exact T H6 S6
 have O:=Y.trans C;refine Yf ?_;dsimp only;refine Yr (Xa ?_);refine Vc (K:=K) (α:=List Rat) (tl:=tVar 0) (k:=1) (fv:=[5]) (l:=l) (as:=as) (zs:=fss) (q:=λf=>!decide (f∈outR fss r)) (λH' a r=>RowAt K H' a r) (λ_ _ _ _ e h=>h.ext e) (λG g=>⟨_,rfl,g⟩) (SqL.of (O _ _ hl)) J5 (Y4 hp (Ext.same O)) (λi a z H6 G ea I S6 U T=>?_) (by simp[comp0]) λdk H6 ks f3 S6 q6 P6 M6=>?_
 ·exact⟨_,rfl,_,rfl,a,d2,z,os,outR fss r,rfl,rfl,U,SqL.of (S6 _ _ q5),Y4 P5 (Ext.same S6),_,rfl,T H6 (Same.refl _)⟩
 have e6:=O.trans S6;refine Yf ?_;dsimp only;have li:L.length<=60:=by rw[YY P4];exact YM (GN _ _) hz
 have lo:os.length<=60:=by rw[YY P5];exact YM (GN _ _) hz
 have lk:ks.length<=60:=by rw[YY P6];exact YM (GN _ _) hz
 have e8:es.length<=60:=by have:=congrArg List.length Z;rw[YC] at this;omega
 have d7:∀ {H':Hp},Same H5 H'->Touch P w K H' dt es ep (touR ess):=λ{H'} S'=>⟨hT.dc.same ((J.trans C).trans S'),λe E=>S' _ _ (C _ _ (J _ _ (hT.ls e E)))⟩;have tl:∀ x,(touR ess x).length<=1000:=λx=>by
  unfold touR;refine YM (GN _ _) ?_;rw[Y11];omega
 refine Yr ⟨_,rfl,d1,rfl,⟨_,SqL.of (S6 _ _ (C _ _ q4))⟩,?_⟩;refine U8 (K:=K) (xs:=L.map V.ref) (λi σ H'=>Same H5 H'/\(∃ cs:List Addr,H' dk=some (.lst (cs.map V.ref))/\Paired (RowAt K H') cs ((fss.filter λf=>!decide (f∈outR fss r))++((inR fss r).take i).flatMap λone=>((outR fss r).filter λo=>nearR fss (touR ess) one o).map λo=>crR one o r)/\cs.length<=60+i*60)/\∃ x y,σ=[some (.ref l),some (.ref m),some (.ref e),some (.ref dt),some (.ref d1),some (.ref d2),some (.ref dk),x,y]) ⟨S6,⟨ks,q6,by simpa using P6,J5⟩,none,none,rfl⟩ (λi σ H' _ h=>SqL.of (h.1 _ _ (C _ _ q4))) ?_ ?_
 ·rintro i x σ H7 hx ⟨S7,⟨cs,q7,P7,l7⟩,x1,y1,rfl⟩;have hi:i<L.length:=by have:=(YH.mp hx).1;simpa using this
  have c3:=YY P4;have ea:L[i]?=some L[i]:=by simp[hi]
  have I:(inR fss r)[i]?=some ((inR fss r)[i]'(by unfold inR;omega)):=J7
  generalize L[i]=a1 at ea;generalize ((inR fss r)[i]'(by unfold inR;omega))=z at I;rw[YI,ea] at hx
  cases hx;have b7:=YE I;have F:z∈fss:=(XA.mp b7).1;have nz:(mn z r).1<0:=by simpa using (XA.mp b7).2
  have c7:=C.trans S7;have rz:=(Paired.getB P4 ea I).ext (Ext.same c7);refine Yf (Yr (Xa ?_));refine Vc (K:=K) (α:=List Rat) (tl:=tVar 5) (k:=1) (fv:=[3,7]) (l:=d2) (as:=os) (zs:=outR fss r) (q:=λo=>nearR fss (touR ess) z o) (λH' a r=>RowAt K H' a r) (λ_ _ _ _ e h=>h.ext e) (λG g=>⟨_,rfl,g⟩) (SqL.of (S7 _ _ q5)) J5 (Y4 P5 (Ext.same S7)) (λj b o H8 G eb eo W rb T=>?_) (by simp[comp0]) λd8 H8 ns f8 W q8 P8 M8=>?_
  ·have mo:o∈fss:=(XA.mp (YE eo)).1;refine⟨_,rfl,_,rfl,_,rfl,dt,a1,b,es,ep,touR ess,z,o,rfl,d7 (S7.trans W),rz.ext (Ext.same W),rb,by rw[Z];exact F,by rw[Z];exact mo,J5,tl,λH9 S9=>?_⟩;rw[Z];exact⟨_,rfl,T H9 S9⟩
  have l5:(outR fss r).length<=60:=by have:=YY P5;unfold outR;omega
  have ln:ns.length<=60:=by rw[YY P8];exact YM (GN _ _) l5
  refine Yf ?_;refine⟨_,rfl,.inl ⟨rfl,_,SqL.of (W _ _ q7)⟩,?_⟩;refine Wz ?_;refine Cu (K:=K) (α:=List Rat) (tl:=tVar 8) (k:=1) (fv:=[2,7]) (l:=d8) (as:=ns) (zs:=(outR fss r).filter λo=>nearR fss (touR ess) z o) (g:=λo=>crR z o r) (λH' a r=>RowAt K H' a r) (λ_ _ _ _ e h=>h.ext e) (λG g=>⟨_,rfl,g⟩) (SqL.of q8) J5 P8 (λj b o H9 G eb eo S9 rb T=>?_) λd9 H9 a3 f9 S9 q9 P9=>?_
  ·have mo:=(XA.mp (YE eo)).1;have b0:o∈fss:=(XA.mp mo).1;have po:0<(mn o r).1:=by simpa using (XA.mp mo).2
   have h0:(subR (mn z r) (mn o r)).1≠0:=λz0=>by
    have g1:=B z F;have g2:=B o b0;have q0:=Nw g1.low g2.low;have:qv (subR (mn z r) (mn o r))=0:=by unfold qv;rw[z0];grind
    have a1:=(Vy g2.pos).mp po;have a2:qv (mn z r)<0:=by
     have:¬ 0<=qv (mn z r):=λy=>by have:=(Tj g1.pos).mpr y;omega
     grind
    grind
   obtain⟨l1,D1,W1,r1⟩:=hf z F;obtain⟨l2,D2,W2,r2⟩:=hf o b0;obtain⟨l3,D3,W3,r3⟩:=a6;exact⟨_,rfl,_,rfl,_,rfl,a1,b,e,z,o,r,n,D1,D2,D3,W1,W2,W3,rfl,rz.ext (Ext.same (W.trans S9)),rb,E.ext (Ext.same ((O.trans S7).trans (W.trans S9))),J5,J5,J5,r1,r2,r3,hn,h0,λc0 d5 c8 e4=>T c0 d5 c8 e4⟩
  have lb:a3.length<=60:=by rw[YY P9,YC,<-YY P8];exact ln
  have b5:=S9 _ _ (W _ _ q7);have E9:Ext H9 (upd H9 dk (.lst (cs.map V.ref++a3.map V.ref))):=Ext.upd b5;refine⟨dk,d9,cs.map V.ref,a3.map V.ref,rfl,rfl,b5,q9,YM (show _<=10000 by rw[YC,YC];omega) J6,?_⟩;refine⟨Yh (S7.trans (W.trans S9)) f3,⟨cs++a3,by rw[Za,XF],?_,by rw[XD];omega⟩,_,_,rfl⟩;rw[Yj I,jp,Y17,List.flatMap_nil,JT,<-Y0b];exact Paired.appP (Y4 P7 ((Ext.same (W.trans S9)).trans E9)) (Y4 P9 E9)
 rintro σ H7 ⟨S7,⟨cs,q7,P7,l7⟩,x1,y1,rfl⟩;have c3:=YY P4;rw[YC,YW (by unfold inR;omega)] at P7;refine⟨_,rfl,k dk H7 ((O.trans S7)) ⟨cs,q7,P7⟩⟩
end
end _b
namespace _b
open PySem _L
def N0 {n:Nat}:∀ {f g:UA},Lows f->Lows g->f.length=n->g.length=n->(∀ i,i<n->qr f i=qr g i)->f=g:=λ{f g} c d h1 h2 h=>by
 refine Y1m J5 λi a b=>?_;have e:=h i J5;unfold qr at e;have e1:f.getD i (0,1)=f[i]:=by simp[List.getD,a]
 have e2:g.getD i (0,1)=g[i]:=by simp[List.getD,b]
 rw[e1,e2] at e;exact Vk (c _ (XR a)) (d _ (XR b)) e
def Tp {n:Nat}{f e:UA}(a:Lows f)(le:Lows e)(h1:f.length=n)(h2:e.length=n):qv (mn f e)=dq n (qr f) (qr e):=Vz a le h1 h2
def Z4z {n:Nat}{f e:UA}(a:Lows f)(le:Lows e)(h1:f.length=n)(h2:e.length=n):mn f e=(0,1) ↔ dq n (qr f) (qr e)=0:=by
 rw[<-Tp a le h1 h2];constructor
 ·intro z;rw[z];exact Z0o
 intro z;exact Vk (Yn a le) Qo (by rw[z,Z0o])
theorem Z72 {r s:Rat}(c:Low r)(ls:Low s)(h:s.1≠0):Low (parR r s)/\qv (parR r s)=qv r / qv s:=by
 have b:r.2*s.1≠0:=M9 c.pos h;refine⟨Yp b,?_⟩;have f:=Wt (r.1*s.2) (r.2*s.1);have b1:=Xo c.pos;have b2:=Xo ls.pos;have g:(s.1:QQ)≠0:=λz=>h (by have:=_root_.Rat.intCast_inj.mp (show ((s.1:Int):QQ)=((0:Int):QQ) by rw[z];rfl);exact this);have key:qv (parR r s)*((r.2:QQ)*(s.1:QQ))=(r.1:QQ)*(s.2:QQ):=by
  have lp:=(Yp (p:=r.1*s.2) b).pos;have d:=Xo lp;have a:((nT (r.1*s.2) (r.2*s.1):Int):QQ)*((r.2*s.1:Int):QQ)=((r.1*s.2:Int):QQ)*((nB (r.1*s.2) (r.2*s.1):Int):QQ):=by
   rw[<-_root_.Rat.intCast_mul,<-_root_.Rat.intCast_mul,f]
  rw[_root_.Rat.intCast_mul,_root_.Rat.intCast_mul] at a;have e:((nB (r.1*s.2) (r.2*s.1):Int):QQ)≠0:=d;show ((nT (r.1*s.2) (r.2*s.1):Int):QQ) / ((nB (r.1*s.2) (r.2*s.1):Int):QQ)*_=_;grind
 unfold qv at *
 grind
def Z5p {n:Nat}{u v r:UA}(e:Lows u)(f:Lows v)(g:Lows r)(h1:u.length=n)(h2:v.length=n)(o:r.length=n)(C:(mn u r).1<0)(pv:0<(mn v r).1) :
  Lows (crR u v r)/\(crR u v r).length=n/\∀ k,k<n->qr (crR u v r) k=crs n (qr r) (qr u) (qr v) k:=by
 have m1:=Yn e g;have l:=Yn f g;have s1:Low (subR (mn u r) (mn v r)):=Yp (zO (XG m1.pos l.pos));have a1:0<qv (mn v r):=(Vy l.pos).mp pv;have a2:qv (mn u r)<0:=by
  have:¬ 0<=qv (mn u r):=λy=>by have:=(Tj m1.pos).mpr y;omega
  grind
 have s:=Nw m1 l;have h0:(subR (mn u r) (mn v r)).1≠0:=λz0=>by
  have:qv (subR (mn u r) (mn v r))=0:=by unfold qv;rw[z0];grind
  grind
 obtain⟨A,q⟩:=Z72 m1 s1 h0;rw[s,Tp e g h1 o,Tp f g h2 o] at q;have c:Low (byR u v r):=A;have p:Low (subR (1,1) (byR u v r)):=Yp (zO (XG J6 c.pos));have t:qv (subR (1,1) (byR u v r))=1 - qv (byR u v r):=by rw[Nw F7 c,Z0n]
 have el:∀ {a b:Rat},Low a->Low b->Low (addR (mulR' a (subR (1,1) (byR u v r))) (mulR' b (byR u v r)))/\qv (addR (mulR' a (subR (1,1) (byR u v r))) (mulR' b (byR u v r)))=qv a*(1 - qv (byR u v r))+qv b*qv (byR u v r):=λ{a b} la d=>by
  have x1:Low (mulR' a (subR (1,1) (byR u v r))):=Yp (zO (XG la.pos p.pos));have m:Low (mulR' b (byR u v r)):=Yp (zO (XG d.pos c.pos));refine⟨Yp (zO (XG x1.pos m.pos)),?_⟩;rw[Z0m x1 m,Nx la p,Nx d c,t]
 have len:(crR u v r).length=n:=by unfold crR;rw[JV,YC,YC];omega
 refine⟨λx hx=>?_,len,λk hk=>?_⟩
 ·obtain⟨i,hi⟩:=XL hx;unfold crR at hi;rw[GM,YI,YI] at hi;have hk:i<n:=by
   by_cases z:i<n
   ·exact z
   rw[je J5] at hi;cases hi
  rw[XT (show i<u.length by omega),XT (show i<v.length by omega)] at hi
  cases hi;exact (el (e _ (XR _)) (f _ (XR _))).1
 have hu:k<u.length:=J5
 have j:k<v.length:=J5
 have e1:(crR u v r).getD k (0,1)=addR (mulR' u[k] (subR (1,1) (byR u v r))) (mulR' v[k] (byR u v r)):=by
  unfold crR;rw[YZ,GM,YI,YI,XT hu,XT j];rfl
 have e2:qr u k=qv u[k]:=by unfold qr;simp[List.getD,hu]
 have e3:qr v k=qv v[k]:=by unfold qr;simp[List.getD,j]
 unfold qr crs;rw[e1,(el (e _ (XR hu)) (f _ (XR j))).2];have B:qv (u.getD k (0,1))=qv u[k]:=e2;have w:qv (v.getD k (0,1))=qv v[k]:=e3;have h:qv (byR u v r)=dq n (qr u) (qr r) / (dq n (qr u) (qr r) - dq n (qr v) (qr r)):=q;show _=qr u k+dq n (qr u) (qr r) / (dq n (qr u) (qr r) - dq n (qr v) (qr r))*(qr v k - qr u k);rw[e2,e3,<-h];grind
theorem Wm {α:Type}[DecidableEq α]:∀ {L M:List α},L.Nodup->(∀ x∈L,x∈M)->L.length<=M.length
 | [],_,_,_=>JF _
 | x::L,M,nd,h=>by
  obtain⟨n1,n2⟩:=zq.mp nd;have hx:=h x XC;have:=Wm (L:=L) (M:=M.erase x) n2 λy c=>(List.mem_erase_of_ne (a:=y) (b:=x) (λz=>by rw[z] at c;exact n1 c)).mpr (h y (YV _ c));rw[Y1h hx] at this;have:0<M.length:=List.length_pos_of_mem hx;simp only [XW];omega
def Z30 {α:Type}[DecidableEq α]{L:List α}{u v:α}(nd:L.Nodup)(hu:u∈L)(a:v∈L)(ne:u≠v):L.length=2 ↔ ∀ w∈L,w=u \/ w=v:=by
 have ge:2<=L.length:=Wm (L:=[u,v]) (by simp[ne]) λx hx=>by
  rcases YU.mp hx with rfl | hx
  ·exact hu
  rw[XH.mp hx];exact a
 constructor
 ·intro h w hw;apply YF;intro n;have:3<=L.length:=Wm (L:=[w,u,v]) (by
   simp only [zq,YU,GH,Y2b];exact⟨⟨λz=>n (.inl z),λz=>n (.inr z),λz=>z⟩,⟨ne,λz=>z⟩,λz=>z,List.nodup_nil⟩) λx hx=>by
   rcases YU.mp hx with rfl | hx
   ·exact hw
   rcases YU.mp hx with rfl | hx
   ·exact hu
   rw[XH.mp hx];exact a
  omega
 intro h;have:L.length<=[u,v].length:=Wm nd λx hx=>by
  rcases h x hx with rfl | rfl
  ·exact XC
  exact YV _ XC
 have e:[u,v].length=2:=rfl;omega
structure CorR (n:Nat)(ess:UB)(c:Nat->Pt)(fss:UB):Prop where
 nd:fss.Nodup
 len:∀ f∈fss,f.length=n
 low:∀ f∈fss,Lows f
 cors:Cors n ess.length c (fss.map qr)
 el:∀ e∈ess,Lows e/\e.length=n
 ed:∀ k,k<ess.length->∀ x:Pt,dq n x (c k)=0 ↔ dq n x (qr (ess.getD k []))=0
section
variable {n:Nat}{ess fss:UB}{c:Nat->Pt}{u v r:UA}
def CorR.tou (C:CorR n ess c fss)(hu:u∈fss){k:Nat}:k∈touR ess u ↔ k<ess.length/\dq n (qr u) (c k)=0:=by
 unfold touR;rw[XA,XO,GQ];refine and_congr_right λhk=>?_;have a:ess.getD k []∈ess:=by
  have:ess.getD k []=ess[k]:=by simp[List.getD,hk]
  rw[this];exact XR hk
 obtain⟨d,b⟩:=C.el _ a;rw[Z4z (C.low u hu) d (C.len u hu) b,C.ed k hk]
def CorR.near (C:CorR n ess c fss)(hu:u∈fss)(d:v∈fss)(ne:u≠v):nearR fss (touR ess) u v=true ↔ Near n ess.length c (fss.map qr) (qr u) (qr v):=by
 have be:∀ w∈fss,(((touR ess u).filter λk=>decide (k∈touR ess v)).all λk=>decide (k∈touR ess w))=true ↔ ∀ k,k<ess.length->dq n (qr u) (c k)=0->dq n (qr v) (c k)=0->dq n (qr w) (c k)=0:=λw hw=>by
  rw[jk];constructor
  ·intro h k hk z1 z2;have:=h k (XA.mpr ⟨(C.tou hu).mpr ⟨hk,z1⟩,XE ((C.tou d).mpr ⟨hk,z2⟩)⟩);exact ((C.tou hw).mp (XI this)).2
  intro h k hk;obtain⟨a,b⟩:=XA.mp hk;obtain⟨k1,k2⟩:=(C.tou hu).mp a;obtain⟨_,k3⟩:=(C.tou d).mp (XI b);exact XE ((C.tou hw).mpr ⟨k1,h k k1 k2 k3⟩)
 unfold nearR;rw[GQ];have mu:u∈fss.filter λw=>((touR ess u).filter λk=>decide (k∈touR ess v)).all λk=>decide (k∈touR ess w):=XA.mpr ⟨hu,(be u hu).mpr λ_ _ z _=>z⟩;have mv:v∈fss.filter λw=>((touR ess u).filter λk=>decide (k∈touR ess v)).all λk=>decide (k∈touR ess w):=XA.mpr ⟨d,(be v d).mpr λ_ _ _ z=>z⟩;rw[Z30 (C.nd.sublist zT) mu mv ne];constructor
 ·intro h w hw al;obtain⟨f,hf,rfl⟩:=YT.mp hw;rcases h f (XA.mpr ⟨hf,(be f hf).mpr al⟩) with rfl | rfl
  ·exact .inl λ_ _=>rfl
  exact .inr λ_ _=>rfl
 intro h w hw;obtain⟨hf,e⟩:=XA.mp hw;rcases h (qr w) (YT.mpr ⟨w,hf,rfl⟩) ((be w hf).mp e) with z | z
 ·exact .inl (N0 (C.low w hf) (C.low u hu) (C.len w hf) (C.len u hu) z)
 exact .inr (N0 (C.low w hf) (C.low v d) (C.len w hf) (C.len v d) z)
theorem CorR.cut (B:Bnds n ess.length c)(C:CorR n ess c fss)(D:Lows r)(hr:r.length=n)(hc:∀ x:Pt,dq n x (c ess.length)=dq n x (qr r)):CorR n (ess++[r]) c (cutC fss ess r):=by
 have neg:∀ f∈fss,(mn f r).1<0 ↔ dq n (qr f) (c ess.length)<0:=λf hf=>by
  rw[hc,<-Tp (C.low f hf) D (C.len f hf) hr];have:=Tj (Yn (C.low f hf) D).pos;constructor
  ·intro z;have:¬ 0<=qv (mn f r):=λy=>by have:=this.mpr y;omega
   grind
  intro z;have:¬ 0<=(mn f r).1:=λy=>by have:=this.mp y;grind
  omega
 have pos:∀ f∈fss,0<(mn f r).1 ↔ 0<dq n (qr f) (c ess.length):=λf hf=>by
  rw[hc,<-Tp (C.low f hf) D (C.len f hf) hr];exact Vy (Yn (C.low f hf) D).pos
 have mo:∀ f,f∈outR fss r ↔ f∈fss/\0<(mn f r).1:=λf=>by unfold outR;rw[XA,GQ]
 have A:∀ f,f∈inR fss r ↔ f∈fss/\(mn f r).1<0:=λf=>by unfold inR;rw[XA,GQ]
 have mk:∀ f,f∈(fss.filter λf=>!decide (f∈outR fss r)) ↔ f∈fss/\¬ 0<(mn f r).1:=λf=>by
  rw[XA];refine and_congr_right λhf=>?_;rw[Y12,Y1o,mo];exact⟨λz y=>z ⟨hf,y⟩,λz y=>z y.2⟩
 have mem:∀ x,x∈cutC fss ess r ↔ (x∈fss/\¬ 0<(mn x r).1) \/ ∃ one,(one∈fss/\(mn one r).1<0)/\∃ o,((o∈fss/\0<(mn o r).1)/\nearR fss (touR ess) one o=true)/\crR one o r=x:=λx=>by
  unfold cutC;rw[XS,mk,zw];refine or_congr_right ?_;constructor
  ·rintro ⟨one,h1,h2⟩;obtain⟨o,j,rfl⟩:=YT.mp h2;obtain⟨p,M⟩:=XA.mp j;exact⟨one,(A one).mp h1,o,⟨(mo o).mp p,M⟩,rfl⟩
  rintro ⟨one,h1,o,⟨h2,j⟩,rfl⟩;exact⟨one,(A one).mpr h1,YT.mpr ⟨o,XA.mpr ⟨(mo o).mpr h2,j⟩,rfl⟩⟩
 have ne:∀ {a b:UA},(mn a r).1<0->0<(mn b r).1->a≠b:=λh1 h2 z=>by rw[z] at h1;omega
 have d:∀ {one o:UA},one∈fss->(mn one r).1<0->o∈fss->0<(mn o r).1->Lows (crR one o r)/\(crR one o r).length=n/\∀ k,k<n->qr (crR one o r) k=crs n (c ess.length) (qr one) (qr o) k:=λ{one o} h1 h2 j p=>by
  obtain⟨a1,a2,a3⟩:=Z5p (C.low _ h1) (C.low _ j) D (C.len _ h1) (C.len _ j) hr h2 p;refine⟨a1,a2,λk hk=>?_⟩;rw[a3 k hk];unfold crs;rw[hc,hc]
 have l:∀ {f:UA},f∈fss->qr f∈fss.map qr:=λh=>YT.mpr ⟨_,h,rfl⟩;have le:(ess++[r]).length=ess.length+1:=J7
 refine⟨?_,λx hx=>?_,λx hx=>?_,?_,λe F=>?_,λk hk x=>?_⟩
 ·unfold cutC;refine List.nodup_append.mpr ⟨C.nd.sublist zT,?_,?_⟩
  ·rw[XU,List.pairwise_flatMap];constructor
   ·intro one h1;rw[GX];obtain⟨f1,n1⟩:=(A one).mp h1;have s:((outR fss r).filter λo=>nearR fss (touR ess) one o).Nodup:=(C.nd.sublist zT).sublist zT;refine (XU.mp s).imp_of_mem λ{a b} ha L t e=>?_;obtain⟨K,H⟩:=XA.mp ha;obtain⟨fa,O⟩:=(mo a).mp K;obtain⟨m,P⟩:=(mo b).mp (XA.mp L).1;have:=C.cors.apart (l f1) (l fa) (l f1) (l m) ((neg _ f1).mp n1) ((pos _ fa).mp O) ((neg _ f1).mp n1) ((pos _ m).mp P) ((C.near f1 fa (ne n1 O)).mp H) λi hi=>by
     rw[<-(d f1 n1 fa O).2.2 i hi,<-(d f1 n1 m P).2.2 i hi,e]
    exact t (N0 (C.low a fa) (C.low b m) (C.len a fa) (C.len b m) λi hi=>(this.2 i hi).symm)
   have s:(inR fss r).Nodup:=C.nd.sublist zT;refine (XU.mp s).imp_of_mem λ{a b} ha L t x hx y J e=>?_;obtain⟨fa,na⟩:=(A a).mp ha;obtain⟨m,nb⟩:=(A b).mp L;obtain⟨o,ho,rfl⟩:=YT.mp hx;obtain⟨o',I,rfl⟩:=YT.mp J;obtain⟨o1,o2⟩:=XA.mp ho;obtain⟨q,po⟩:=(mo o).mp o1;obtain⟨w,E⟩:=(mo o').mp (XA.mp I).1;have:=C.cors.apart (l fa) (l q) (l m) (l w) ((neg _ fa).mp na) ((pos _ q).mp po) ((neg _ m).mp nb) ((pos _ w).mp E) ((C.near fa q (ne na po)).mp o2) λi hi=>by
    rw[<-(d fa na q po).2.2 i hi,<-(d m nb w E).2.2 i hi,e]
   exact t (N0 (C.low a fa) (C.low b m) (C.len a fa) (C.len b m) λi hi=>(this.1 i hi).symm)
  intro x hx y J e;obtain⟨S,_⟩:=(mk x).mp hx;obtain⟨one,h1,h2⟩:=zw.mp J;obtain⟨o,j,rfl⟩:=YT.mp h2;obtain⟨f1,n1⟩:=(A one).mp h1;obtain⟨q,po⟩:=(mo o).mp (XA.mp j).1;exact C.cors.fresh (l f1) (l q) ((neg _ f1).mp n1) ((pos _ q).mp po) (l S) λi hi=>by rw[e];exact (d f1 n1 q po).2.2 i hi
 ·rcases (mem x).mp hx with ⟨h,_⟩ | ⟨one,⟨h1,h2⟩,o,⟨⟨j,p⟩,_⟩,rfl⟩
  ·exact C.len x h
  exact (d h1 h2 j p).2.1
 ·rcases (mem x).mp hx with ⟨h,_⟩ | ⟨one,⟨h1,h2⟩,o,⟨⟨j,p⟩,_⟩,rfl⟩
  ·exact C.low x h
  exact (d h1 h2 j p).1
 ·rw[le];refine⟨λx hx=>?_,λx X=>?_⟩
  ·obtain⟨f,hf,rfl⟩:=YT.mp hx;rcases (mem f).mp hf with ⟨h,z⟩ | ⟨one,⟨h1,h2⟩,o,⟨⟨j,p⟩,M⟩,rfl⟩
   ·refine C.cors.kept (l h) ?_;have:¬ 0<dq n (qr f) (c ess.length):=λy=>z ((pos f h).mpr y);grind
   exact (C.cors.cross B (l h1) (l j) ((neg _ h1).mp h2) ((pos _ j).mp p) ((C.near h1 j (ne h2 p)).mp M)).congr λk hk=>((d h1 h2 j p).2.2 k hk).symm
  rcases C.cors.new B X with ⟨v,N,e,z⟩ | ⟨u,hu,v,N,T,R,Q,e⟩
  ·obtain⟨f,hf,rfl⟩:=YT.mp N;exact⟨qr f,YT.mpr ⟨f,(mem f).mpr (.inl ⟨hf,λy=>by have:=(pos f hf).mp y;grind⟩),rfl⟩,e⟩
  obtain⟨f,hf,rfl⟩:=YT.mp hu;obtain⟨g,hg,rfl⟩:=YT.mp N;have n1:=(neg f hf).mpr T;have G:=(pos g hg).mpr R;refine⟨qr (crR f g r),YT.mpr ⟨_,(mem _).mpr (.inr ⟨f,⟨hf,n1⟩,g,⟨⟨hg,G⟩,(C.near hf hg (ne n1 G)).mpr Q⟩,rfl⟩),rfl⟩,λi hi=>?_⟩;rw[(d hf n1 hg G).2.2 i hi];exact e i hi
 ·rcases XS.mp F with F | F
  ·exact C.el e F
  rw[XH.mp F];exact⟨D,hr⟩
 rw[le] at hk;by_cases z:k<ess.length
 ·have e1:(ess++[r]).getD k []=ess.getD k []:=by rw[YZ,JS z,<-YZ]
  rw[e1];exact C.ed k z x
 have e2:k=ess.length:=J5
 subst e2;have e1:(ess++[r]).getD ess.length []=r:=by rw[YZ,JQ (YJ _)];simp
 rw[e1,hc]
end
theorem V0 (f:Pt){k:Nat}:∀ {n:Nat},k<n->sQ n (λi=>if i=k then f i else 0)=f k
 | 0,h=>absurd h J5
 | n+1,h=>by
  show sQ n (λi=>if i=k then f i else 0)+(if n=k then f n else 0)=f k;by_cases e:n=k
  ·subst e;rw[YG rfl,Vh λi hi=>YD J5];grind
  rw[YD e,V0 f (n:=n) J5];grind
def uP (n w:Nat):List Rat:=papR n (some λk=>decide (k=w))
def paps (n:Nat):List (List Rat):=(List.range n).map (uP n)
def Sz {n w k:Nat}(h:k<n):qr (uP n w) k=if k=w then 1 else 0:=by
 unfold uP;rw[Ny h];show (if decide (k=w)=true then _ else _)=_;by_cases e:k=w
 ·rw[YG e,YG (XE e)]
 rw[YD e,XN e,YD YO]
def Z99 {n w:Nat}(x:Pt)(h:w<n):dq n x (qr (uP n w))=x w:=by
 unfold dq;rw[<-V0 x h];exact Zk λk hk=>by
  rw[Sz hk];by_cases e:k=w
  ·rw[YG e,YG e];grind
  rw[YD e,YD e];grind
theorem Z11 {n:Nat}{c:Nat->Pt}(g:∀ k,k<n->∀ x:Pt,dq n x (c k)=-x k):CorR n (paps n) c (paps n):=by
 have lp:(paps n).length=n:=by unfold paps;simp
 have mem:∀ f,f∈paps n ↔ ∃ w,w<n/\uP n w=f:=λf=>by
  unfold paps;rw[YT];exact⟨λ⟨w,h,e⟩=>⟨w,XO.mp h,e⟩,λ⟨w,h,e⟩=>⟨w,XO.mpr h,e⟩⟩
 refine⟨?_,λf hf=>?_,λf hf=>?_,?_,λf hf=>?_,λk hk x=>?_⟩
 ·unfold paps;rw[XU,GX];refine (XU.mp List.nodup_range).imp_of_mem λ{a b} ha t l e=>l ?_;have h:=Sz (w:=a) (XO.mp ha);rw[e,Sz (XO.mp ha),YG rfl] at h;by_cases z:a=b
  ·exact z
  rw[YD z] at h;grind
 ·obtain⟨w,_,rfl⟩:=(mem f).mp hf;exact X1 _ _
 ·obtain⟨w,_,rfl⟩:=(mem f).mp hf;exact Xd _ _
 ·rw[lp];refine⟨λv p=>?_,λx X=>?_⟩
  ·obtain⟨f,hf,rfl⟩:=YT.mp p;obtain⟨w,hw,rfl⟩:=(mem f).mp hf;refine⟨⟨λk hk=>?_,?_⟩,λd o al i hi=>?_⟩
   ·rw[g k hk,Sz hk];split <;> grind
   ·have:=V0 (λ_=>(1:QQ)) hw;rw[<-this];exact Zk λk hk=>Sz hk
   have z:∀ k,k<n->k≠w->d k=0:=λk hk ne=>by
    have:=al k hk (by rw[g k hk,Sz hk,YD ne];grind);rw[g k hk] at this;grind
   by_cases e:i=w
   ·subst e;have h2:sQ n (λk=>if k=i then d k else 0)=sQ n d:=Zk λk hk=>by
     by_cases e:k=i
     ·rw[YG e]
     rw[YD e,z k hk e]
    rw[V0 d hi,o] at h2;exact h2
   exact z i hi e
  have ex:∃ w,w<n/\x w≠0:=YF λq=>by
   have:sQ n x=0:=Vh λk hk=>YF λy=>q ⟨k,hk,y⟩;have:=X.inn.one;grind
  obtain⟨w,hw,r⟩:=ex;have z:∀ j,j<n->j≠w->x j=0:=λj hj ne=>YF λs=>by
   have h:=X.st (λi=>(if i=w then 1 else 0)+(if i=j then -1 else 0)) (by
    have a:=Xj (λi=>if i=w then (1:QQ) else 0) (λi=>if i=j then (-1:QQ) else 0) n;rw[a,V0 (λ_=>(1:QQ)) hw,V0 (λ_=>(-1:QQ)) hj];grind) (λk hk e=>by
    rw[g k hk] at e ⊢;have k1:k≠w:=λy=>r (by rw[<-y];grind);have k2:k≠j:=λy=>s (by rw[<-y];grind);simp only [YD k1,YD k2];grind) w hw
   simp only [YG,YD (XQ ne)] at h;grind
  have m:x w=1:=by
   have:=V0 x hw;rw[<-this,<-X.inn.one];exact Zk λk hk=>by
    by_cases e:k=w
    ·rw[YG e]
    rw[YD e,z k hk e]
  refine⟨qr (uP n w),YT.mpr ⟨_,(mem _).mpr ⟨w,hw,rfl⟩,rfl⟩,λi hi=>?_⟩;rw[Sz hi];by_cases e:i=w
  ·rw[YG e,e,m]
  rw[YD e,z i hi e]
 ·obtain⟨w,_,rfl⟩:=(mem f).mp hf;exact⟨Xd _ _,X1 _ _⟩
 rw[lp] at hk;have e:(paps n).getD k []=uP n k:=by
  unfold paps;rw[YZ,YI,jo hk];rfl
 rw[e,Z99 x hk,g k hk];constructor
 ·intro y;grind
 intro y;rw[y];grind
section
variable {n:Nat}{ess fss:UB}{c:Nat->Pt}{f:UA}
abbrev edP (ess:UB)(k:Nat):Pt:=qr (ess.getD k [])
theorem CorR.stuck (C:CorR n ess c fss)(hf:f∈fss):Stuck n ess.length (edP ess) (qr f)/\sQ n (qr f)=1:=by
 have X:=C.cors.vx (qr f) (YT.mpr ⟨f,hf,rfl⟩);refine⟨λd a al=>X.st d a λk hk z=>?_,X.inn.one⟩;exact (C.ed k hk d).mpr (al k hk ((C.ed k hk _).mp z))
theorem Z8l {N:Nat}{e:UA}(h:RepL N D Ws e){k:Nat}(hk:k<e.length):∃ W:Int,Bd N W/\qr e k*(D:QQ)=W:=by
 have hw:k<Ws.length:=by rw[h.len];exact hk
 obtain⟨e1,b,l⟩:=h.at_ k Ws[k] e[k] (by simp[hw]) (by simp[hk]);refine⟨Ws[k],b,?_⟩;have e2:qr e k=qv e[k]:=by unfold qr;simp[List.getD,hk]
 rw[e2];unfold qv;have b1:=Xo l.pos;have e3:((e[k].1:Int):QQ)*(D:QQ)=((Ws[k]:Int):QQ)*((e[k].2:Int):QQ):=by rw[<-_root_.Rat.intCast_mul,<-_root_.Rat.intCast_mul,e1]
 grind
theorem Z0i {N:Nat}{S:Int}{C:TY}(c:Lows f)(hl:f.length=n)(hS:S≠0)(a:Bd N S)(bC:∀ k,k<n->Bd N (C k))(h:∀ k,k<n->qr f k*(S:QQ)=C k):RowN N n f:=by
 have key:∀ (S:Int) (C:TY),0<S->Bd N S->(∀ k,k<n->Bd N (C k))->(∀ k,k<n->qr f k*(S:QQ)=C k)->RowN N n f:=λS C d a bC h=>by
  obtain⟨Ws,p⟩:=RepL.each d a (rs:=f) λr hr=>by
   obtain⟨k,b⟩:=XL hr;have hk:k<f.length:=(YH.mp b).1;have e2:qr f k=qv r:=by unfold qr;rw[YZ,b];rfl
   have l:=c r hr;refine⟨C k,?_,bC k J5,l⟩;have e:=h k J5;rw[e2] at e;unfold qv at e;have b1:=Xo l.pos;have e3:((r.1:Int):QQ)*(S:QQ)=((C k:Int):QQ)*((r.2:Int):QQ):=ZJ
   rw[<-_root_.Rat.intCast_mul,<-_root_.Rat.intCast_mul] at e3;exact _root_.Rat.intCast_inj.mp e3
  exact⟨hl,S,Ws,p⟩
 by_cases z:0<S
 ·exact key S C z a bC h
 refine key (-S) (λk=>-C k) J5 a.neg (λk hk=>(bC k hk).neg) λk hk=>?_;rw[_root_.Rat.intCast_neg,_root_.Rat.intCast_neg,<-h k hk];grind
def Z7z {P:List (Nat × Nat)}(nd:fss.Nodup)(R:List Rat->Nat × Nat->Prop)(l:∀ f∈fss,∃ p∈P,R f p)(inj:∀ f∈fss,∀ g∈fss,∀ p,R f p->R g p->f=g):fss.length<=P.length:=by
 have c:∀ f:List Rat,∃ p:Nat × Nat,f∈fss->p∈P/\R f p:=λf=>by
  by_cases h:f∈fss
  ·obtain⟨p,h1,h2⟩:=l f h;exact⟨p,λ_=>⟨h1,h2⟩⟩
  exact⟨(0,0),λz=>absurd z h⟩
 have d:=λf=>Y0n (c f);have j:(fss.map λf=>Classical.choose (c f)).Nodup:=by
  rw[XU,GX];refine (XU.mp nd).imp_of_mem λ{a b} ha k i e=>i ?_;have h1:=(d a ha).2;have h2:=(d b k).2;rw[<-e] at h2;exact inj a ha b k _ h1 h2
 have:=Wm j (M:=P) λx hx=>by
  obtain⟨f,hf,rfl⟩:=YT.mp hx;exact (d f hf).1
 simpa using this
end
section
variable {n m:Nat}{c:Nat->Pt}{x:Pt}
def Z5l (t:QQ)(d e:Pt):dq n (λk=>t*d k) e=t*dq n d e:=by
 unfold dq;rw[<-Y5];exact Zk λk _=>ZJ
def Z82 (x y e:Pt):dq n (λk=>x k+y k) e=dq n x e+dq n y e:=by
 unfold dq;rw[<-Xj];exact Zk λk _=>ZJ
def Z2o (a:Nat->QQ)(e:Nat->Pt)(f:Pt)(q:Nat):dq n (λi=>sQ q λk=>a k*e k i) f=sQ q λk=>a k*dq n (e k) f:=by
 unfold dq;have h:∀ i,i<n->(sQ q λk=>a k*e k i)*f i=sQ q λk=>f i*(a k*e k i):=λi _=>by rw[Y5];grind
 rw[Zk h,Nq];refine Zk λk _=>?_;rw[<-Y5];exact Zk λi _=>ZJ
structure Frm (n m:Nat)(c:Nat->Pt)(x:Pt)(q L:Nat)(b:TX)(e r:Nat->Pt):Prop where
 len:q+L+1=n
 bt:∀ k,k<q->b k<m/\dq n x (c (b k))=0
 e0:∀ k,k<q->sQ n (e k)=0
 r0:∀ j,j<L->sQ n (r j)=0
 ee:∀ k,k<q->∀ k',k'<q->dq n (e k) (c (b k'))=if k=k' then 1 else 0
 re:∀ j,j<L->∀ k,k<q->dq n (r j) (c (b k))=0
 rr:∀ j,j<L->∀ j',j'<L->r j j'=if j=j' then 1 else 0
 span:∀ d:Pt,sQ n d=0->∀ i,i<n->d i=sQ q (λk=>dq n d (c (b k))*e k i)+sQ L (λj=>d j*r j i)
def Frm.zero {L:Nat}(h:L+1=n):Frm n m c x 0 L (λ_=>0) (λ_ _=>0) (λj i=>(if i=j then 1 else 0)+if i=L then -1 else 0):=by
 refine⟨J5,λk hk=>absurd hk J5,λk hk=>absurd hk J5,λj hj=>?_,λk hk=>absurd hk J5,λj hj k hk=>absurd hk J5,λj hj j' a=>?_,λd b i hi=>?_⟩
 ·rw[Xj,V0 (λ_=>1) (show j<n by omega),V0 (λ_=>-1) (show L<n by omega)];grind
 ·show (if j'=j then (1:QQ) else 0)+(if j'=L then -1 else 0)=_;rw[YD (show ¬ j'=L by omega)];by_cases z:j=j'
  ·rw[YG z,YG z.symm];grind
  rw[YD z,YD λy=>z y.symm];grind
 show d i=0+sQ L λj=>d j*((if i=j then 1 else 0)+if i=L then -1 else 0);by_cases z:i=L
 ·subst z;have h1:sQ i (λj=>d j*((if i=j then 1 else 0)+if i=i then -1 else 0))=sQ i λj=>(-1)*d j:=Zk λj hj=>by
   rw[YD (show ¬ i=j by omega),YG rfl];grind
  rw[h1,Y5];subst h;have:sQ i d+d i=0:=b;grind
 have h1:sQ L (λj=>d j*((if i=j then 1 else 0)+if i=L then -1 else 0))=sQ L λj=>if j=i then d j else 0:=Zk λj hj=>by
  rw[YD z];by_cases y:i=j
  ·rw[YG y,YG y.symm];grind
  rw[YD y,YD λu=>y u.symm];grind
 rw[h1,V0 d (show i<L by omega)];grind
def Frm.step {q L:Nat}{b:TX}{e r:Nat->Pt}(F:Frm n m c x q (L+1) b e r)(st:Stuck n m c x):∃ b e r,Frm n m c x (q+1) L b e r:=by
 have w:=F.len;have t:r L L=1:=by have:=F.rr L J5 L J5;rwa [YG rfl] at this
 obtain⟨k0,l,o,u⟩:∃ k,k<m/\dq n x (c k)=0/\dq n (r L) (c k)≠0:=by
  refine YF λno=>?_;have:=st (r L) (F.r0 L J5) (λk hk z=>YF λy=>no ⟨k,hk,z,y⟩) L J5;rw[t] at this;grind
 obtain⟨s,hs⟩:∃ s:QQ,s*dq n (r L) (c k0)=1:=⟨1 / dq n (r L) (c k0),ZJ⟩;have a:∀ k,k<q->¬ k=q:=λk hk=>J5
 have cs:∀ {k},k<q+1->k<q \/ k=q:=λh=>J5
 refine⟨λk=>if k=q then k0 else b k,λk=>if k=q then (λi=>s*r L i) else λi=>e k i+(-(dq n (e k) (c k0))*s)*r L i,λj i=>r j i+(-(dq n (r j) (c k0))*s)*r L i,⟨J5,λk hk=>?_,λk hk=>?_,λj hj=>?_,λk hk k' g=>?_,λj hj k hk=>?_,λj hj j' v=>?_,λd p i hi=>?_⟩⟩
 ·rcases cs hk with h | rfl
  ·rw[YD (a k h)];exact F.bt k h
  rw[YG rfl];exact⟨l,o⟩
 ·rcases cs hk with h | rfl
  ·rw[YD (a k h),U9,F.e0 k h,F.r0 L J5];grind
  rw[YG rfl,Y5,F.r0 L J5];grind
 ·rw[U9,F.r0 j J5,F.r0 L J5];grind
 ·rcases cs hk with h | rfl
  ·rw[YD (a k h),X4];rcases cs g with h' | rfl
   ·rw[YD (a k' h'),F.ee k h k' h',F.re L J5 k' h'];grind
   rw[YG rfl,YD (a k h)];grind
  rw[YG rfl,Z5l];rcases cs g with h' | rfl
  ·rw[YD (a k' h'),F.re L J5 k' h',YD λy=>a k' h' y.symm];grind
  rw[YG rfl,YG rfl];exact hs
 ·rw[X4];rcases cs hk with h | rfl
  ·rw[YD (a k h),F.re j J5 k h,F.re L J5 k h];grind
  rw[YG rfl];grind
 ·show r j j'+_*r L j'=_;rw[F.rr j J5 j' J5,F.rr L J5 j' J5,YD (show ¬ L=j' by omega)];grind
 have f:=F.span d p;have key:dq n d (c k0)=sQ q (λk=>dq n d (c (b k))*dq n (e k) (c k0))+(sQ L (λj=>d j*dq n (r j) (c k0))+d L*dq n (r L) (c k0)):=by
  rw[Yc f,Z82,Z2o,Z2o];rfl
 have o1:=f i hi;have o2:sQ (L+1) (λj=>d j*r j i)=sQ L (λj=>d j*r j i)+d L*r L i:=rfl;rw[o2] at o1;have n1:sQ (q+1) (λk=>dq n d (c (if k=q then k0 else b k))*(if k=q then (λi=>s*r L i) else λi=>e k i+(-(dq n (e k) (c k0))*s)*r L i) i)=(sQ q (λk=>dq n d (c (b k))*e k i)+(-(s*r L i))*sQ q (λk=>dq n d (c (b k))*dq n (e k) (c k0)))+dq n d (c k0)*(s*r L i):=by
  show sQ q _+_=_;dsimp only;rw[<-Y5,<-Xj,YG rfl,YG rfl]
  congr 1
  exact Zk λk hk=>by rw[YD (a k hk),YD (a k hk)];grind
 have n2:sQ L (λj=>d j*(r j i+(-(dq n (r j) (c k0))*s)*r L i))=sQ L (λj=>d j*r j i)+(-(s*r L i))*sQ L (λj=>d j*dq n (r j) (c k0)):=by
  rw[<-Y5,<-Xj];exact Zk λj hj=>ZJ
 rw[n1,n2,key,o1];generalize sQ q (λk=>dq n d (c (b k))*e k i)=A;generalize sQ L (λj=>d j*r j i)=B;generalize sQ q (λk=>dq n d (c (b k))*dq n (e k) (c k0))=A';generalize sQ L (λj=>d j*dq n (r j) (c k0))=B';grind
theorem Frm.full (st:Stuck n m c x):∀ {L q:Nat} {b:TX} {e r:Nat->Pt},Frm n m c x q L b e r->∃ b e r,Frm n m c x (n - 1) 0 b e r
 | 0,q,b,e,r,F=>by
  have:=F.len;have:q=n - 1:=J5
  subst this;exact⟨b,e,r,F⟩
 | L+1,q,b,e,r,F=>by
  obtain⟨d,e',r',a⟩:=F.step st;exact Frm.full st a
structure Fix (n m:Nat)(c:Nat->Pt)(x:Pt)(b:TX)(e:Nat->Pt):Prop where
 bt:∀ k,k<n - 1->b k<m/\dq n x (c (b k))=0
 e0:∀ k,k<n - 1->sQ n (e k)=0
 ee:∀ k,k<n - 1->∀ k',k'<n - 1->dq n (e k) (c (b k'))=if k=k' then 1 else 0
 span:∀ d:Pt,sQ n d=0->∀ i,i<n->d i=sQ (n - 1) (λk=>dq n d (c (b k))*e k i)
def Stuck.fix (st:Stuck n m c x)(h:1<=n):∃ b e,Fix n m c x b e:=by
 obtain⟨b,e,r,F⟩:=Frm.full st (Frm.zero (m:=m) (c:=c) (x:=x) (L:=n - 1) J5);refine⟨b,e,F.bt,F.e0,F.ee,λd a i hi=>?_⟩;rw[F.span d a i hi];show _+0=_;grind
def Fix.inj {b:TX}{e:Nat->Pt}(F:Fix n m c x b e){k k':Nat}(h:k<n - 1)(h':k'<n - 1)(ne:k≠k'):b k≠b k':=λy=>by
 have a:=F.ee k h k h;have z:=F.ee k h k' h';rw[YG rfl,y] at a;rw[YD ne] at z;grind
def Nn (n:Nat)(d:Pt):Prop:=(∀ i,i<n->d i=0) \/ ∃ i,i<n/\(∀ j,j<i->d j=0)/\0<d i
theorem Ql (d:Pt):∀ n,Nn n d \/ Nn n λk=>-d k
 | 0=>.inl (.inl λi h=>absurd h J5)
 | n+1=>by
  have up:∀ d:Pt,Nn n d->(∃ i,i<n/\d i≠0)->Nn (n+1) d:=λd h ⟨i,hi,ne⟩=>by
   rcases h with h | ⟨j,hj,a,p⟩
   ·exact absurd (h i hi) ne
   exact .inr ⟨j,J5,a,p⟩
  by_cases z:∃ i,i<n/\d i≠0
  ·obtain⟨i,hi,ne⟩:=z;rcases Ql d n with h | h
   ·exact .inl (up d h ⟨i,hi,ne⟩)
   exact .inr (up _ h ⟨i,hi,by (try dsimp only);grind⟩)
  have al:∀ i,i<n->d i=0:=λi hi=>YF λy=>z ⟨i,hi,y⟩;by_cases p:0<d n
  ·exact .inl (.inr ⟨n,J5,al,p⟩)
  by_cases b:d n<0
  ·exact .inr (.inr ⟨n,J5,λj hj=>by (try dsimp only);rw[al j hj];grind,by (try dsimp only);grind⟩)
  refine .inl (.inl λi hi=>?_);by_cases y:i=n
  ·subst y;grind
  exact al i J5
def Nn.add {d d':Pt}(h:Nn n d)(h':Nn n d'):Nn n λk=>d k+d' k:=by
 rcases h with h | ⟨i,hi,a,p⟩
 ·rcases h' with h' | ⟨j,hj,b,e⟩
  ·exact .inl λi hi=>by (try dsimp only);rw[h i hi,h' i hi];grind
  exact .inr ⟨j,hj,λk hk=>by (try dsimp only);rw[h k J5,b k hk];grind,by (try dsimp only);rw[h j hj];grind⟩
 rcases h' with h' | ⟨j,hj,b,e⟩
 ·exact .inr ⟨i,hi,λk hk=>by (try dsimp only);rw[h' k J5,a k hk];grind,by (try dsimp only);rw[h' i hi];grind⟩
 by_cases c:i<j
 ·exact .inr ⟨i,hi,λk hk=>by (try dsimp only);rw[a k hk,b k J5];grind,by (try dsimp only);rw[b i c];grind⟩
 by_cases gt:j<i
 ·exact .inr ⟨j,hj,λk hk=>by (try dsimp only);rw[a k J5,b k hk];grind,by (try dsimp only);rw[a j gt];grind⟩
 have:i=j:=J5
 subst this;exact .inr ⟨i,hi,λk hk=>by (try dsimp only);rw[a k hk,b k hk];grind,by (try dsimp only);grind⟩
def Nn.smul {d:Pt}{t:QQ}(h:Nn n d)(b:0<=t):Nn n λk=>t*d k:=by
 by_cases z:t=0
 ·exact .inl λi hi=>by (try dsimp only);rw[z];grind
 rcases h with h | ⟨i,hi,a,p⟩
 ·exact .inl λi hi=>by (try dsimp only);rw[h i hi];grind
 exact .inr ⟨i,hi,λk hk=>by (try dsimp only);rw[a k hk];grind,_root_.Rat.mul_pos (by (try dsimp only);grind) p⟩
theorem Nn.sum {f:Nat->Pt}:∀ {q:Nat},(∀ k,k<q->Nn n (f k))->Nn n λi=>sQ q λk=>f k i
 | 0,_=>.inl λ_ _=>rfl
 | q+1,h=>(Nn.sum λk hk=>h k J5).add (h q J5)
def Nn.congr {d d':Pt}(h:Nn n d)(e:∀ i,i<n->d i=d' i):Nn n d':=by
 rcases h with h | ⟨i,hi,a,p⟩
 ·exact .inl λi hi=>by (try dsimp only);rw[<-e i hi];exact h i hi
 exact .inr ⟨i,hi,λk hk=>by (try dsimp only);rw[<-e k J5];exact a k hk,by (try dsimp only);rw[<-e i hi];exact p⟩
def Nn.anti {x y:Pt}(h:Nn n λk=>x k - y k)(h':Nn n λk=>y k - x k):∀ i,i<n->x i=y i:=by
 rcases h with h | ⟨i,hi,a,p⟩
 ·exact λi hi=>by have:=h i hi;grind
 exfalso;rcases h' with h' | ⟨j,hj,b,d⟩
 ·have:=h' i hi;grind
 by_cases c:i<j
 ·have:=b i c;grind
 by_cases gt:j<i
 ·have:=a j gt;grind
 have:i=j:=J5
 subst this;grind
structure MaxA (n m:Nat)(c:Nat->Pt)(x:Pt)(i j:Nat):Prop where
 hi:dq n x (c i)=0
 hj:dq n x (c j)=0
 top:∀ y,InP n m c y->dq n y (c i)=0->dq n y (c j)=0->Nn n λk=>x k - y k
structure MinA (n m:Nat)(c:Nat->Pt)(x:Pt)(i:Nat):Prop where
 hi:dq n x (c i)=0
 bot:∀ y,InP n m c y->dq n y (c i)=0->Nn n λk=>y k - x k
def MaxA.swap (h:MaxA n m c x i j):MaxA n m c x j i:=⟨h.hj,h.hi,λy I a b=>h.top y I b a⟩
def Fix.diff {b:TX}{e:Nat->Pt}(F:Fix n m c x b e)(X:InP n m c x){y:Pt}(I:InP n m c y):∀ i,i<n->y i - x i=sQ (n - 1) λk=>dq n y (c (b k))*e k i:=λi hi=>by
 have:=F.span (λk=>y k - x k) (by rw[Td,I.one,X.one];grind) i hi;rw[this];exact Zk λk hk=>by rw[Pd,(F.bt k hk).2];grind
def Fix.max {b:TX}{e:Nat->Pt}(F:Fix n m c x b e)(X:InP n m c x){s t:Nat}(hs:s<n - 1)(d:t<n - 1)(h:∀ k,k<n - 1->k≠s->k≠t->Nn n (e k)):MaxA n m c x (b s) (b t):=by
 refine⟨(F.bt s hs).2,(F.bt t d).2,λy I a g=>?_⟩;have D:=F.diff X I;refine Nn.congr (Nn.sum (f:=λk i=>(-dq n y (c (b k)))*e k i) (q:=n - 1) λk hk=>?_) λi hi=>?_
 ·by_cases e1:k=s
  ·subst e1;exact .inl λi hi=>by show -dq n y (c (b k))*e k i=0;rw[a];grind
  by_cases e2:k=t
  ·subst e2;exact .inl λi hi=>by show -dq n y (c (b k))*e k i=0;rw[g];grind
  exact (h k hk e1 e2).smul (by have:=I.le _ (F.bt k hk).1;grind)
 show sQ (n - 1) (λk=>-dq n y (c (b k))*e k i)=x i - y i;have h1:sQ (n - 1) (λk=>-dq n y (c (b k))*e k i)=(-1)*sQ (n - 1) λk=>dq n y (c (b k))*e k i:=by
  rw[<-Y5];exact Zk λk _=>ZJ
 rw[h1,<-D i hi];grind
def Fix.min {b:TX}{e:Nat->Pt}(F:Fix n m c x b e)(X:InP n m c x){s:Nat}(hs:s<n - 1)(h:∀ k,k<n - 1->k≠s->Nn n λi=>-e k i):MinA n m c x (b s):=by
 refine⟨(F.bt s hs).2,λy I a=>?_⟩;have D:=F.diff X I;refine Nn.congr (Nn.sum (f:=λk i=>(-dq n y (c (b k))) * -e k i) (q:=n - 1) λk hk=>?_) λi hi=>?_
 ·by_cases e1:k=s
  ·subst e1;exact .inl λi hi=>by show -dq n y (c (b k)) * -e k i=0;rw[a];grind
  exact (h k hk e1).smul (by have:=I.le _ (F.bt k hk).1;grind)
 show sQ (n - 1) (λk=>-dq n y (c (b k)) * -e k i)=y i - x i;rw[D i hi];exact Zk λk _=>ZJ
def Cod (n m:Nat)(c:Nat->Pt)(x:Pt)(p:Nat × Nat):Prop:=(p.1=p.2/\MinA n m c x p.1) \/ (p.2<p.1/\MaxA n m c x p.1 p.2)
def Cod.inj {y:Pt}{p:Nat × Nat}(X:InP n m c x)(Y:InP n m c y)(h:Cod n m c x p)(h':Cod n m c y p):∀ i,i<n->x i=y i:=by
 rcases h with ⟨e,h⟩ | ⟨e,h⟩
 ·rcases h' with ⟨_,h'⟩ | ⟨e',_⟩
  ·exact (h'.bot x X h.hi).anti (h.bot y Y h'.hi)
  omega
 rcases h' with ⟨e',_⟩ | ⟨_,h'⟩
 ·omega
 exact (h.top y Y h'.hi h'.hj).anti (h'.top x X h.hi h.hj)
def prs (m:Nat):List (Nat × Nat):=(List.range m).flatMap λi=>(List.range (i+1)).map λj=>(i,j)
def Tq {m:Nat}(h1:i<m)(h2:j<=i):(i,j)∈prs m:=zw.mpr ⟨i,XO.mpr h1,YT.mpr ⟨j,XO.mpr J5,rfl⟩⟩
def MaxA.cod (h:MaxA n m c x i j)(ne:i≠j)(hi:i<m)(hj:j<m):∃ p∈prs m,Cod n m c x p:=by
 by_cases a:j<i
 ·exact⟨(i,j),Tq hi J5,.inr ⟨a,h⟩⟩
 exact⟨(j,i),Tq hj J5,.inr ⟨(by show i<j;omega),h.swap⟩⟩
def MinA.cod (h:MinA n m c x i)(hi:i<m):∃ p∈prs m,Cod n m c x p:=⟨(i,i),Tq hi J5,.inl ⟨rfl,h⟩⟩
theorem Z8d {q:Nat}{P N:Nat->Prop}(h:∀ k,P k \/ N k)(h1:1<=q)(o:q<=4):(∃ s t,s<q/\t<q/\s≠t/\∀ k,k<q->k≠s->k≠t->P k) \/ ∃ s,s<q/\∀ k,k<q->k≠s->N k:=by
 by_cases a:q=1
 ·exact .inr ⟨0,J5,λk hk ne=>absurd hk J5⟩
 by_cases b:q=2
 ·exact .inl ⟨0,1,J5,J5,J5,λk hk n1 n2=>absurd hk J5⟩
 by_cases d:q=3
 ·subst d;rcases h 0 with h0 | h0
  ·refine .inl ⟨1,2,J5,J5,J5,λk hk n1 n2=>?_⟩;have:k=0:=J5
   subst this;exact h0
  rcases h 1 with h1 | h1
  ·refine .inl ⟨0,2,J5,J5,J5,λk hk n1 n2=>?_⟩;have:k=1:=J5
   subst this;exact h1
  refine .inr ⟨2,J5,λk hk ne=>?_⟩;have:k=0 \/ k=1:=J5
  rcases this with rfl | rfl <;> assumption
 have e:q=4:=J5
 subst e;have f:∀ s t u v:Nat,s<4->t<4->s≠t->(∀ k,k<4->k≠s->k≠t->k=u \/ k=v)->P u->P v->(∃ s t,s<4/\t<4/\s≠t/\∀ k,k<4->k≠s->k≠t->P k):=λs t u v hs i ne al m pv=>⟨s,t,hs,i,ne,λk hk n1 n2=>by
  rcases al k hk n1 n2 with rfl | rfl <;> assumption⟩
 have g:∀ s u v w:Nat,s<4->(∀ k,k<4->k≠s->k=u \/ k=v \/ k=w)->N u->N v->N w->∃ s,s<4/\∀ k,k<4->k≠s->N k:=λs u v w hs al j n l=>⟨s,hs,λk hk n1=>by
  rcases al k hk n1 with rfl | rfl | rfl <;> assumption⟩
 rcases h 0 with h0 | h0 <;> rcases h 1 with h1 | h1 <;> rcases h 2 with h2 | h2 <;> rcases h 3 with c | c <;> first
  | exact .inl (f 2 3 0 1 J5 J5 J5 J5 h0 h1)
  | exact .inl (f 1 3 0 2 J5 J5 J5 J5 h0 h2)
  | exact .inl (f 1 2 0 3 J5 J5 J5 J5 h0 c)
  | exact .inl (f 0 3 1 2 J5 J5 J5 J5 h1 h2)
  | exact .inl (f 0 2 1 3 J5 J5 J5 J5 h1 c)
  | exact .inl (f 0 1 2 3 J5 J5 J5 J5 h2 c)
  | exact .inr (g 0 1 2 3 J5 J5 h1 h2 c)
  | exact .inr (g 1 0 2 3 J5 J5 h0 h2 c)
  | exact .inr (g 2 0 1 3 J5 J5 h0 h1 c)
  | exact .inr (g 3 0 1 2 J5 J5 h0 h1 h2)
theorem Vx.cod (v:Vx n m c x)(h2:2<=n)(d:n<=5):∃ p∈prs m,Cod n m c x p:=by
 obtain⟨b,e,F⟩:=v.st.fix J5;rcases Z8d (q:=n - 1) (P:=λk=>Nn n (e k)) (N:=λk=>Nn n λi=>-e k i) (λk=>Ql (e k) n) J5 J5 with ⟨s,t,hs,a,ne,al⟩ | ⟨s,hs,al⟩
 ·exact (F.max v.inn hs a al).cod (F.inj hs a ne) (F.bt s hs).1 (F.bt t a).1
 exact (F.min v.inn hs al).cod (F.bt s hs).1
end
section
variable {n:Nat}{ess fss:UB}{c:Nat->Pt}{f:UA}
def Gp:∀ m,m<=11->(prs m).length<=m*(m+1) / 2:=by decide
theorem CorR.vx (C:CorR n ess c fss)(hf:f∈fss):Vx n ess.length c (qr f):=C.cors.vx _ (YT.mpr ⟨f,hf,rfl⟩)
def Z2h {P:List (Nat × Nat)}{gss:UB}(C:CorR n ess c fss)(nd:gss.Nodup)(sub:∀ f∈gss,f∈fss)(h:∀ f∈gss,∃ p∈P,Cod n ess.length c (qr f) p):gss.length<=P.length :=
 Z7z nd (λf p=>Cod n ess.length c (qr f) p) h λf hf g hg p a b=>N0 (C.low f (sub f hf)) (C.low g (sub g hg)) (C.len f (sub f hf)) (C.len g (sub g hg)) (Cod.inj (C.vx (sub f hf)).inn (C.vx (sub g hg)).inn a b)
def CorR.few10 (C:CorR n ess c fss)(h2:2<=n)(a:n<=5)(hm:ess.length<=10):fss.length<=55:=by
 have:=Z2h C C.nd (λ_ h=>h) λf hf=>(C.vx hf).cod h2 a;have:=Gp ess.length J5;have:ess.length*(ess.length+1)<=10*11:=zV hm J5;omega
theorem Ke:∀ {gss:UB},gss≠[]->∃ w∈gss,∀ f∈gss,Nn n λk=>qr w k - qr f k
 | [g],_=>⟨g,XC,λf hf=>by rw[XH.mp hf];exact .inl λi _=>ZJ⟩
 | g::g'::gs,_=>by
  obtain⟨w,hw,al⟩:=Ke (gss:=g'::gs) (List.cons_ne_nil _ _);rcases Ql (λk=>qr w k - qr g k) n with h | h
  ·refine⟨w,YV _ hw,λf hf=>?_⟩;rcases YU.mp hf with rfl | hf
   ·exact h
   exact al f hf
  refine⟨g,XC,λf hf=>?_⟩;rcases YU.mp hf with rfl | hf
  ·exact .inl λi _=>ZJ
  exact (h.add (al f hf)).congr λi _=>ZJ
def D5 {a b c d m:Nat}(h1:a<m)(h2:b<m)(e:c<m)(f:d<m)(n1:a≠b)(n2:a≠c)(i:a≠d)(n4:b≠c)(h:b≠d)(l:c≠d):6<=((prs m).filter λp=>decide (p.2<p.1/\p.1∈[a,b,c,d]/\p.2∈[a,b,c,d])).length:=by
 refine Wm (L:=[(Nat.max a b,Nat.min a b),(Nat.max a c,Nat.min a c),(Nat.max a d,Nat.min a d),(Nat.max b c,Nat.min b c),(Nat.max b d,Nat.min b d),(Nat.max c d,Nat.min c d)]) ?_ λp hp=>?_
 ·simp only [zq,YU,GH,Prod.mk.injEq,Nat.max_def,Nat.min_def,Y0f,not_false_eq_true,List.nodup_nil,and_true];refine⟨?_,?_,?_,?_,?_⟩ <;> (repeat' split) <;> omega
 have key:∀ x y:Nat,x∈[a,b,c,d]->y∈[a,b,c,d]->x≠y->x<m->y<m->(Nat.max x y,Nat.min x y)∈(prs m).filter λp=>decide (p.2<p.1/\p.1∈[a,b,c,d]/\p.2∈[a,b,c,d]):=λx y hx g ne j n=>by
  refine XA.mpr ?_;by_cases k:x<y
  ·rw[show Nat.max x y=y from Nat.max_eq_right J5,show Nat.min x y=x from Nat.min_eq_left J5];exact⟨Tq n J5,XE ⟨k,g,hx⟩⟩
  rw[show Nat.max x y=x from Nat.max_eq_left J5,show Nat.min x y=y from Nat.min_eq_right J5];exact⟨Tq j J5,XE ⟨by show y<x;omega,hx,g⟩⟩
 simp only [YU,GH,Y0f] at hp;rcases hp with rfl | rfl | rfl | rfl | rfl | rfl
 ·exact key a b J7 J7 n1 h1 h2
 ·exact key a c J7 J7 n2 h1 e
 ·exact key a d J7 J7 i h1 f
 ·exact key b c J7 J7 n4 h2 e
 ·exact key b d J7 J7 h h2 f
 exact key c d J7 J7 l e f
theorem CorR.few11 (C:CorR 5 ess c fss)(hm:ess.length<=11):fss.length<=61:=by
 by_cases nl:fss=[]
 ·rw[nl];exact JF _
 obtain⟨w,hw,top⟩:=Ke (n:=5) nl;have W:=C.vx hw;obtain⟨b,e,F⟩:=W.st.fix J5;have q:∀ k,k<4->k<5 - 1:=λk h=>J5
 have B:=λk (h:k<4)=>F.bt k (q k h);have six:=D5 (B 0 J5).1 (B 1 J5).1 (B 2 J5).1 (B 3 J5).1 (F.inj (q 0 J5) (q 1 J5) J5) (F.inj (q 0 J5) (q 2 J5) J5) (F.inj (q 0 J5) (q 3 J5) J5) (F.inj (q 1 J5) (q 2 J5) J5) (F.inj (q 1 J5) (q 3 J5) J5) (F.inj (q 2 J5) (q 3 J5) J5);have met:∀ i,i∈[b 0,b 1,b 2,b 3]->dq 5 (qr w) (c i)=0:=λi hi=>by
  simp only [YU,GH,Y0f] at hi;rcases hi with rfl | rfl | rfl | rfl
  ·exact (B 0 J5).2
  ·exact (B 1 J5).2
  ·exact (B 2 J5).2
  exact (B 3 J5).2
 have rest:=Z2h (P:=(prs ess.length).filter λp=>!decide (p.2<p.1/\p.1∈[b 0,b 1,b 2,b 3]/\p.2∈[b 0,b 1,b 2,b 3])) (gss:=fss.erase w) C (C.nd.erase w) (λf hf=>Y1C hf) λf hf=>by
  have a:=Y1C hf;obtain⟨p,hp,co⟩:=(C.vx a).cod J5 J5;refine⟨p,XA.mpr ⟨hp,?_⟩,co⟩;rw[Y12,Y1o];rintro ⟨j,m1,d⟩;rcases co with ⟨e1,_⟩ | ⟨_,co⟩
  ·omega
  have:=(co.top _ W.inn (met _ m1) (met _ d)).anti (top f a);have eq:=N0 (C.low f a) (C.low w hw) (C.len f a) (C.len w hw) this;rw[eq] at hf;exact (List.Nodup.not_mem_erase C.nd) hf
 have sp:((prs ess.length).filter λp=>decide (p.2<p.1/\p.1∈[b 0,b 1,b 2,b 3]/\p.2∈[b 0,b 1,b 2,b 3])).length+((prs ess.length).filter λp=>!decide (p.2<p.1/\p.1∈[b 0,b 1,b 2,b 3]/\p.2∈[b 0,b 1,b 2,b 3])).length=(prs ess.length).length:=by
  induction prs ess.length with
  | nil=>rfl
  | cons x l g =>
   rw[zx,zx]
   cases h:decide (x.2<x.1/\x.1∈[b 0,b 1,b 2,b 3]/\x.2∈[b 0,b 1,b 2,b 3]) <;> simp only [h,zQ,Bool.not_false,Y10,qo,XW,XM] <;> omega
 have:=Gp ess.length J5;have:ess.length*(ess.length+1)<=11*12:=zV hm J5;rw[Y1h hw] at rest;omega
end
theorem Ll (y:Nat->QQ):∀ n:Nat,∃ (D:Int) (Y:TY),D≠0/\∀ k,k<n->y k*(D:QQ)=Y k
 | 0=>⟨1,λ_=>0,J6,λk h=>absurd h J5⟩
 | n+1=>by
  obtain⟨D,Y,b,h⟩:=Ll y n;have a:((y n).den:Int)≠0:=by have:=(y n).den_nz;omega
  have e:y n*(((y n).den:Int):QQ)=((y n).num:QQ):=by
   have z:(((y n).den:Int):QQ)≠0:=λz=>a (_root_.Rat.intCast_inj.mp (by rw[z];rfl));have h:=_root_.Rat.num_divInt_den (y n);rw[_root_.Rat.divInt_eq_div] at h;grind
  refine⟨D*((y n).den:Int),λk=>if k=n then (y n).num*D else Y k*((y n).den:Int),Y1z b a,λk hk=>?_⟩;dsimp only;by_cases z:k=n
  ·subst z;rw[YG rfl,_root_.Rat.intCast_mul,_root_.Rat.intCast_mul,<-e];grind
  rw[YD z,_root_.Rat.intCast_mul,_root_.Rat.intCast_mul,<-h k J5];grind
theorem Z0d {t M:Nat}(A:Nat):∀ {n:Nat},t<n->_v.sN n (λk=>if k=t then A else M)=A+(n - 1)*M
 | 0,h=>absurd h J5
 | n+1,h=>by
  show _v.sN n (λk=>if k=t then A else M)+(if n=t then A else M)=A+n*M;by_cases e:n=t
  ·rw[YG e];have:_v.sN n (λk=>if k=t then A else M)=n*M:=by
    have c:_v.sN n (λk=>if k=t then A else M)=_v.sN n λ_=>M:=_v.sN_congr λk hk=>YD J5;rw[c];clear c h e
    induction n with
    | zero=>rw[Nat.zero_mul];rfl
    | succ n a =>
     show _v.sN n (λ_=>M)+M=_;rw[a,Y0c]
   omega
  rw[YD e,Z0d A (n:=n) J5];obtain⟨q,rfl⟩:∃ q,n=q+1:=⟨n - 1,J5⟩;rw[Y22,Y0c];omega
section
variable {q m N:Nat}{c:Nat->Pt}{x:Pt}{b:TX}{e:Nat->Pt}
def Z5k {n:Nat}(h:i<n)(f:Pt):dq n (λk=>if k=i then 1 else 0) f=f i:=by
 unfold dq;rw[<-V0 f h];exact Zk λk _=>by split <;> grind
def Fix.unit (F:Fix (q+1) m c x b e)(s1:sQ (q+1) x=1){i j:Nat}(hi:i<q+1)(hj:j<q+1):(if j=i then (1:QQ) else 0)=sQ q (λk=>c (b k) i*e k j)+x j:=by
 have:=F.span (λk=>(if k=i then 1 else 0) - x k) (by rw[Td,V0 (λ_=>1) hi,s1];grind) j hj;have e2:sQ (q+1 - 1) (λk=>dq (q+1) (λk=>(if k=i then 1 else 0) - x k) (c (b k))*e k j)=sQ q λk=>c (b k) i*e k j:=Zk λk hk=>by
  rw[Pd,Z5k hi,(F.bt k hk).2];grind
 rw[e2] at this;grind
theorem Fix.cramer (F:Fix (q+1) m c x b e)(h8:q+1<=8)(s1:sQ (q+1) x=1)(hw:∀ k,k<q->∃ (D:Int) (W:TY),D≠0/\∀ i,i<q+1->c (b k) i*(D:QQ)=W i/\Bd N (W i)) :
  ∃ (S:Int) (C:TY),S≠0/\Bd (4+q*(N+3)) S/\(∀ j,j<q+1->Bd (4+q*(N+3)) (C j))/\∀ j,j<q+1->x j*(S:QQ)=C j:=by
 have E:∀ k,∃ p:Int × (Nat->Int),k<q->p.1≠0/\∀ i,i<q+1->c (b k) i*(p.1:QQ)=p.2 i/\Bd N (p.2 i):=λk=>by
  by_cases h:k<q
  ·obtain⟨D,W,h1,h2⟩:=hw k h;exact⟨(D,W),λ_=>⟨h1,h2⟩⟩
  exact⟨(0,λ_=>0),λz=>absurd z h⟩
 obtain⟨p,P⟩:∃ p:Nat->Int × (Nat->Int),∀ k,k<q->(p k).1≠0/\∀ i,i<q+1->c (b k) i*((p k).1:QQ)=(p k).2 i/\Bd N ((p k).2 i):=⟨λk=>Classical.choose (E k),λk=>Y0n (E k)⟩;have P:∀ k,k<q->(p k).1≠0/\∀ i,i<q+1->c (b k) i*((p k).1:QQ)=(p k).2 i/\Bd N ((p k).2 i):=P;obtain⟨v,V⟩:∃ v:_v.Mat,∀ k,v k=if k<q then (p k).2 else λ_=>1:=⟨_,λ_=>rfl⟩
 have v1:∀ k,k<q->v k=(p k).2:=λk hk=>by rw[V,YG hk]
 have X:v q=λ_=>1:=by rw[V,YD J5]
 have K:∀ j,j<q+1->∃ (D:Int) (Y:TY),D≠0/\(Y q:QQ)=x j*(D:QQ)/\∀ i,i<q+1->_v.sm (q+1) (λk=>Y k*v k i)=D*_v.idm j i:=λj hj=>by
  obtain⟨D,Y,I,h⟩:=Ll (λk=>if k<q then e k j / ((p k).1:QQ) else x j) (q+1);have hq:=h q J5;rw[YD J5] at hq;refine⟨D,Y,I,hq.symm,λi hi=>?_⟩;have u:=F.unit s1 hi hj;apply _root_.Rat.intCast_inj.mp;rw[Lc];show sQ q (λk=>((Y k*v k i:Int):QQ))+((Y q*v q i:Int):QQ)=_;rw[X,_root_.Rat.intCast_mul,<-hq];have e1:sQ q (λk=>((Y k*v k i:Int):QQ))=sQ q λk=>(D:QQ)*(c (b k) i*e k j):=Zk λk hk=>by
   have J:=h k J5;rw[YG hk] at J;obtain⟨p0,pw⟩:=P k hk;have:=(pw i hi).1;have a0:((p k).1:QQ)≠0:=λz=>p0 (_root_.Rat.intCast_inj.mp (by rw[z];rfl));rw[_root_.Rat.intCast_mul,v1 k hk,<-this,<-J];grind
  rw[e1,Y5];have e3:((D*_v.idm j i:Int):QQ)=(D:QQ)*if j=i then 1 else 0:=by
   rw[_root_.Rat.intCast_mul];unfold _v.idm;split <;> rfl
  rw[e3,u];show _+x j*(D:QQ)*((1:Int):QQ)=_;have:((1:Int):QQ)=1:=rfl;grind
 have o:∀ (w:_v.Mat) (t:Nat),t<q+1->∀ (j:Nat) (D:Int) (Y:TY),(∀ i,i<q+1->_v.sm (q+1) (λk=>Y k*v k i)=D*_v.idm j i)->D*_v.det (q+1) (_v.put w t (_v.idm j))=_v.sm (q+1) λk=>Y k*_v.det (q+1) (_v.put w t (v k)):=λw t U j D Y h=>by
  rw[<-_v.det_sum U Y v (q+1),<-_v.det_smul U];refine _v.det_congr λk r hk hr=>?_;unfold _v.put;split
  ·exact (h r hr).symm
  rfl
 have G:∀ t,t<=q+1->∃ κ:Nat->Nat,(∀ i,i<t->κ i<q+1)/\_v.det (q+1) (λi=>if i<t then v (κ i) else _v.idm i)≠0:=λt=>by
  induction t with
  | zero =>
   intro _;refine⟨λ_=>0,λi h=>absurd h J5,?_⟩;have:_v.det (q+1) (λi=>if i<0 then v 0 else _v.idm i)=1:=by
    rw[<-_v.det_id (q+1)];exact _v.det_congr λk r _ _=>by rw[YD J5]
   rw[this]
   decide
  | succ t ih =>
   intro U;obtain⟨κ,g,hd⟩:=ih J5;obtain⟨D,Y,I,_,h⟩:=K t J5;have s:=o (λi=>if i<t then v (κ i) else _v.idm i) t J5 t D Y h;have e1:_v.put (λi=>if i<t then v (κ i) else _v.idm i) t (_v.idm t)=λi=>if i<t then v (κ i) else _v.idm i:=by
    funext i
    unfold _v.put;by_cases z:i=t
    ·rw[YG z,z,YD J5]
    rw[YD z]
   rw[e1] at s;obtain⟨k,hk,nk⟩:∃ k,k<q+1/\_v.det (q+1) (_v.put (λi=>if i<t then v (κ i) else _v.idm i) t (v k))≠0:=by
    refine YF λno=>Y1z I hd ?_;rw[s];refine _v.sm_zero λk hk=>?_;have:_v.det (q+1) (_v.put (λi=>if i<t then v (κ i) else _v.idm i) t (v k))=0:=YF λy=>no ⟨k,hk,y⟩;rw[this,GT]
   refine⟨λi=>if i=t then k else κ i,λi hi=>?_,?_⟩
   ·dsimp only;split
    ·exact hk
    exact g i J5
   have e2:(λi=>if i<t+1 then v (if i=t then k else κ i) else _v.idm i)=_v.put (λi=>if i<t then v (κ i) else _v.idm i) t (v k):=by
    funext i
    unfold _v.put;dsimp only;by_cases z:i=t
    ·rw[YG z,YG J5,YG z]
    rw[YD z,YD z];by_cases y:i<t
    ·rw[YG y,YG J5]
    rw[YD y,YD J5]
   rw[e2];exact nk
 obtain⟨κ,g,hd⟩:=G (q+1) (YJ _);have e0:_v.det (q+1) (λi=>if i<q+1 then v (κ i) else _v.idm i)=_v.det (q+1) λi=>v (κ i):=_v.det_congr λk r hk _=>by rw[YG hk]
 rw[e0] at hd;have inj:∀ i,i<q+1->∀ j,j<q+1->κ i=κ j->i=j:=λi hi j hj z=>YF λne=>hd (_v.det_same hi hj ne (by show v (κ i)=v (κ j);rw[z]));have H:∀ j,j<q+1->∃ i,i<q+1/\κ i=j:=λj hj=>by
  refine YF λno=>?_;have:=Wm (L:=j::(List.range (q+1)).map κ) (M:=List.range (q+1)) (by
   refine zq.mpr ⟨λh=>?_,?_⟩
   ·obtain⟨i,hi,z⟩:=YT.mp h;exact no ⟨i,XO.mp hi,z⟩
   ·rw[XU,GX];refine (XU.mp List.nodup_range).imp_of_mem λ{a b} ha hb R z=>R (inj a (XO.mp ha) b (XO.mp hb) z)) λy Q=>by
   rcases YU.mp Q with rfl | Q
   ·exact XO.mpr hj
   obtain⟨i,hi,rfl⟩:=YT.mp Q;exact XO.mpr (g i (XO.mp hi))
  simp only [XW,YC,Y11] at this;omega
 obtain⟨t0,d,l⟩:=H q J5;have nrm:∀ (w:_v.Mat),(∀ i,i<q+1->i≠t0->w i=v (κ i))->_v.sN (q+1) (λr=>(w t0 r).natAbs)<=8->Bd (4+q*(N+3)) (_v.det (q+1) w):=λw h1 h2=>by
  have:=_v.det_w (m:=q+1) (v:=w) (w:=λk=>2 ^ (if k=t0 then 3 else N+3)) λk hk=>by
   by_cases z:k=t0
   ·rw[YG z,z];exact h2
   rw[YD z,h1 k hk z];have hq:κ k<q:=by
    have:=g k hk;by_cases y:κ k=q
    ·exact absurd (inj k hk t0 d (y.trans l.symm)) z
    omega
   rw[v1 _ hq];have:=_v.sN_const (n:=q+1) (f:=λr=>((p (κ k)).2 r).natAbs) (M:=2 ^ N) λr hr=>JC ((P _ hq).2 r hr).2;refine YM this ?_;rw[Y01,zM];exact zc _ (by show q+1<=2 ^ 3;omega)
  rw[_v.pN_pow,Z0d 3 d,Y22] at this;show _<2 ^ (4+q*(N+3));exact JK this (Y0w J6 J5)
 refine⟨_v.det (q+1) λi=>v (κ i),λj=>_v.det (q+1) (_v.put (λi=>v (κ i)) t0 (_v.idm j)),hd,nrm _ (λi _ _=>rfl) ?_,λj hj=>nrm _ (λi _ z=>_v.put_ne z) ?_,λj hj=>?_⟩
 ·rw[l,X];have:=_v.sN_const (n:=q+1) (f:=λ_=>(1:Int).natAbs) (M:=1) λr hr=>J6
  exact YM this J5
 ·rw[_v.put_eq];exact YM _v.sN_unit J6
 obtain⟨D,Y,I,hY,h⟩:=K j hj;have s:=o (λi=>v (κ i)) t0 d j D Y h;rw[_v.sm_one (k:=q) J5 λk hk ne=>by
  obtain⟨i,hi,Z⟩:=H k hk;have it:i≠t0:=λz=>ne (by rw[<-Z,z,l]);rw[_v.det_same hi d it (by rw[_v.put_eq,_v.put_ne it,Z]),GT]] at s
 have e5:_v.put (λi=>v (κ i)) t0 (v q)=λi=>v (κ i):=by
  rw[<-l];exact _v.put_self (λi=>v (κ i)) t0
 rw[e5] at s;have O:(D:QQ)≠0:=λz=>I (_root_.Rat.intCast_inj.mp (by rw[z];rfl));have T:(D:QQ)*((_v.det (q+1) (_v.put (λi=>v (κ i)) t0 (_v.idm j)):Int):QQ)=(Y q:QQ)*((_v.det (q+1) (λi=>v (κ i)):Int):QQ):=by
  rw[<-_root_.Rat.intCast_mul,<-_root_.Rat.intCast_mul,s]
 rw[hY] at T;generalize ((_v.det (q+1) (_v.put (λi=>v (κ i)) t0 (_v.idm j)):Int):QQ)=A at *
 generalize ((_v.det (q+1) (λi=>v (κ i)):Int):QQ)=B at *
 have:(D:QQ)*(A - x j*B)=0:=ZJ
 rcases _root_.Rat.mul_eq_zero.mp this with z | z
 ·exact absurd z O
 grind
end
section
variable {n N:Nat}{ess fss:UB}{c:Nat->Pt}{f:UA}
theorem CorR.small8 (C:CorR n ess c fss)(h1:1<=n)(m:n<=8)(j:∀ e∈ess,RowN N n e)(hf:f∈fss):RowN (4+(n - 1)*(N+3)) n f:=by
 obtain⟨q,rfl⟩:∃ q,n=q+1:=⟨n - 1,J5⟩;obtain⟨st,s1⟩:=C.stuck hf;obtain⟨b,e,F⟩:=st.fix J5;obtain⟨S,W,g,r,s,h⟩:=F.cramer (N:=N) m s1 λk hk=>by
  have d:=(F.bt k hk).1;have hm:ess.getD (b k) []∈ess:=by
   have:ess.getD (b k) []=ess[b k]:=by simp[List.getD,d]
   rw[this];exact XR d
  obtain⟨l,D,Ws,R⟩:=j _ hm;have a:∀ i,∃ W:Int,i<q+1->qr (ess.getD (b k) []) i*(D:QQ)=W/\Bd N W:=λi=>by
   by_cases z:i<q+1
   ·obtain⟨W,o,p⟩:=Z8l R (k:=i) J5;exact⟨W,λ_=>⟨p,o⟩⟩
   exact⟨0,λy=>absurd y z⟩
  exact⟨D,λi=>Classical.choose (a i),by have:=R.pos;omega,λi hi=>Y0n (a i) hi⟩
 exact Z0i (C.low f hf) (C.len f hf) g r s h
end
open PySem.Spec PyProof.Rows
def bndC (n:Nat)(gs:UB)(k:Nat):Pt:=if k<n then λi=>if i=k then -1 else 0 else qr (gs.getD (k - n) [])
def L4 {n:Nat}{gs:UB}{k:Nat}(hk:k<n)(x:Pt):dq n x (bndC n gs k)=-x k:=by
 unfold bndC dq;rw[YG hk];have:=V0 (λi=>-x i) hk;rw[<-this];exact Zk λi _=>by
  by_cases e:i=k
  ·rw[YG e,YG e];grind
  rw[YD e,YD e];grind
def L3 {n m:Nat}{gs:UB}(h:n<=m):Bnds n m (bndC n gs):=⟨h,λi hi x=>L4 hi x⟩
def uP_row {n w:Nat}:RowN 1 n (uP n w):=by
 refine Z0i (S:=1) (C:=λk=>if k=w then 1 else 0) (Xd _ _) (X1 _ _) J6 (by show (1:Int).natAbs<2 ^ 1;decide) (λk _=>?_) λk hk=>?_
 ·show Bd 1 (if k=w then 1 else 0);split
  ·show (1:Int).natAbs<2 ^ 1;decide
  show (0:Int).natAbs<2 ^ 1;decide
 rw[Sz hk];show _=((if k=w then (1:Int) else 0:Int):QQ);split
 ·show (1:QQ)*((1:Int):QQ)=((1:Int):QQ);grind
 show (0:QQ)*((1:Int):QQ)=((0:Int):QQ);grind
theorem RowN.mono {m n c:Nat}{r:UA}(h:RowN m c r)(k:m<=n):RowN n c r:=by
 obtain⟨l,D,Ws,R⟩:=h;exact⟨l,D,Ws,R.mono k⟩
theorem CorR.perm {n:Nat}{ess fss gss:UB}{c:Nat->Pt}(C:CorR n ess c fss)(p:gss.Perm fss):CorR n ess c gss :=
 ⟨p.nodup_iff.mpr C.nd,λf hf=>C.len f (p.mem_iff.mp hf),λf hf=>C.low f (p.mem_iff.mp hf),⟨λv a=>C.cors.vx v ((p.map qr).mem_iff.mp a),λx X=>by
  obtain⟨v,a,e⟩:=C.cors.all x X;exact⟨v,(p.map qr).mem_iff.mpr a,e⟩⟩,C.el,C.ed⟩
section
variable {P:TU}{base:Heap}
theorem Z2j:∀ {n i:Nat},i<n->evI n (λk=>decide (k=i))=[(i:Int)]
 | 0,_,h=>absurd h J5
 | n+1,i,h=>by
  have z:∀ m,m<=i->(List.range m).filter (λk=>decide (k=i))=[]:=λm hm=>by
   rw[Y1v];intro k hk;have:=XO.mp hk;simp;omega
  unfold evI;rw[zH,GD,XF];by_cases e:i=n
  ·subst e;rw[z i (YJ _)];simp
  have:=Z2j (n:=n) (i:=i) J5;unfold evI at this;rw[this];have e2:¬ n=i:=λy=>e y.symm;simp[e2]
def Srt (rss:UB):Prop:=rss.Pairwise λa b=>cntR rss a<=cntR rss b
def Km {r1 r2:UB}(p:r1.Perm r2){a:UA}:cntR r1 a=cntR r2 a:=by
 unfold cntR;rw[(p.filter _).length_eq]
inductive spCorners (K:TR) (T:Addr) (vs:TZ) (H:Hp) (Q:VK) (_z3:XK):Prop
 | mk (l:Addr) (n N M:Nat) (os:UD) (zz0:vs=[.int (n:Int),.ref l]) (zz1:2<=n/\n<=5) (zz2:OffsAt K H l n os) (zz3:os.length<=100) (zz4:M<=200000) (zz5:∀ o∈os,GoodO M o) (zz6:(gainsP os os.length).length<=6) (zz7:∀ g∈gainsP os os.length,RowN N n g) (zz8:1<=N) (zz9:N<=4000) (zz10:Tab1 H T)
  (zz11:∀ (d:Addr) (H':Hp) (rss:UB),H d=none->SameX T H H'->Tab1 H' T->RowsAt K H' d rss->CorR n (paps n++gainsP os os.length) (bndC n (gainsP os os.length)) rss->Srt rss->Q (.ref d) H')
theorem Dy {Tb:Addr}(D:Def K mg "corners" jD VJ)(T0:Blt mg)(eO:Has P w K mg base 3 "paper_of" UY (spPaper K))(eT:Has P w K mg base 5 "gains" VE (spGainsP K))(gW:Has P w K mg base 6 "cut_off" VS (spCutOff K) true)(gR:Has P w K mg base 6 "rising" ["rows"] (spRising K Tb)) :
  Has P w K mg base 7 "corners" VJ (spCorners K Tb) true:=by
 refine D.h9 (N:=["count","offers","papers","found","edges","row"]) fsc λH Q hr h nd=>?_;obtain⟨l,n,N,M,os,rfl,hn,hO,hz,hM,hG,a8,O,a1,hN,hT,k⟩:=h;have T:=T0;have a0:(["world","count"]:List Str).Nodup:=J8
 refine⟨_,(Z8 (X6 (i:=2) (ox:=none) (N:=["world","count"]) (k:=1) (fv:=[0]) nd rfl xj rfl (Yy rfl T.range (Z0 (pv 0) Z7))
  (λ_ _ _ _ _=>Zj (i:=0) a0 rfl xj) (λ_ _ _ _ _=>Y8) (λ_ _ _ _ _=>(Ze eO hr (Z0 (pv 1) (Z0 (Yl (Z0 (pv 0) Z7)) Z7)))) Zu)
  (Z8 (Zi (i:=3) nd rfl xj (pv 2))
  (Z8 (Zi (i:=4) nd rfl xj (pv 2))
  (Z8 (Xq JL rfl (Yk (Ze eT hr (Z0 (pv 1) Z7))) (Zj (i:=5) nd rfl (Or.inl rfl))
   (Z8 (Zi (i:=3) nd rfl xj (Gr gW (hr.mono J6) rfl (Z0 (pv 3) (Z0 (pv 4) (Z0 (pv 5) Z7)))))
   (Zb (Zi (i:=4) nd rfl xj (Zl Z16 (pv 4) (Xs (Z0 (pv 5) Z7)))))))
  (Zb (Zg (Ze gR hr (Z0 (pv 3) Z7)))))))),?_⟩
 obtain⟨n2,n5⟩:=hn;obtain⟨b0,a9⟩:=hT.tbl;have bits:4+(n - 1)*(N+3)<=20000:=by
  have:(n - 1)*(N+3)<=4*4003:=zV J5 J5;omega
 have e:N<=4+(n - 1)*(N+3):=by
  have:1*(N+3)<=(n - 1)*(N+3):=zV J5 (YJ _);omega
 refine Yr (Xa ?_);refine⟨_,rfl,(n:Int),rfl,J5,J5,λd hd=>?_⟩;have et:(n:Int).toNat=n:=J5
 rw[et];refine⟨n,λi ys H'=>Same H H'/\∃ bs:List Addr,ys=bs.map V.ref/\Paired (RowAt K H') bs ((List.range i).map (uP n)),Zy J5,⟨Same.new hd,[],rfl,.nil⟩,?_,?_⟩
 ·rintro i ys H1 hi ⟨S1,bs,rfl,P1⟩ s;refine⟨hi,?_⟩;rintro x G ⟨rfl,rfl⟩;refine Ym ?_;refine⟨_,rfl,_,rfl,sz1,λp hp=>?_⟩;have j:Same G (upd G p (.tup [.int (0+(i:Int))])):=Same.new hp;have e0:(0+(i:Int))=((i:Nat):Int):=J5
  have t3:SqT K (upd G p (.tup [.int (0+(i:Int))])) p [V.int ((i:Nat):Int)]:=by rw[e0];exact SqT.of Za
  refine⟨n,.ref p,some λk=>decide (k=i),rfl,⟨p,rfl,by rw[Z2j hi];exact t3⟩,J5,J5,λc4 H4 A r4=>?_⟩;have L:=A _ _ (j _ _ s);have E5:Ext H4 (upd H4 d (.lst (bs.map V.ref++[V.ref c4]))):=Ext.upd L;refine⟨L,Yh (S1.trans (j.trans A)) hd,bs++[c4],J7,?_⟩;rw[zH,XF];exact Paired.appP (Y4 P1 ((Ext.same (j.trans A)).trans E5)) (.cons (r4.ext E5) .nil)
 rintro ys H1 ⟨S1,bs,rfl,P1⟩ s;refine⟨YJ _,?_⟩;obtain⟨ov,oq,op⟩:=hO;refine Yf ?_;dsimp only;refine Yr (Xa ⟨_,rfl,Yf ?_⟩);dsimp only;refine Yr (Xa ⟨_,rfl,Yf ?_⟩);dsimp only;refine Yr ⟨_,rfl,l,n,M,os,rfl,⟨ov,S1 _ _ oq,Yx op (Ext.same S1)⟩,hz,J5,hM,hG,λdg H2 fg S2 hR=>?_⟩;obtain⟨as,qg,Pg⟩:=hR;generalize gainsP os os.length=gs at *
 have lg:=YY Pg;have J:(paps n).length=n:=by unfold paps;simp
 have y:=S1.trans S2;have Y:∀ i e',e'∈paps n++gs.take i->RowN N n e':=λi e' t=>by
  rcases XS.mp t with t | t
  ·unfold paps at t;obtain⟨w0,_,rfl⟩:=YT.mp t;exact uP_row.mono a1
  exact O e' (Y1H t)
 refine⟨dg,rfl,⟨_,SqL.of qg⟩,?_⟩;refine U8 (K:=K) (xs:=as.map V.ref) (λi σ H'=>Same H2 H'/\∃ (B le:Addr) (E u:TJ) (fss:UB) (x:Option V),σ=[some (.int (n:Int)),some (.ref l),some (.ref d),some (.ref B),some (.ref le),x]/\H' B=some (.lst (E.map V.ref))/\Paired (RowAt K H') E fss/\H' le=some (.lst (u.map V.ref))/\Paired (RowAt K H') u (paps n++gs.take i)/\CorR n (paps n++gs.take i) (bndC n gs) fss)
  ⟨Same.refl _,d,d,bs,bs,paps n,none,rfl,S2 _ _ s,Y4 P1 (Ext.same S2),S2 _ _ s,by rw[Y1I,JT];exact Y4 P1 (Ext.same S2),by rw[Y1I,JT];exact Z11 (c:=bndC n gs) λk hk x=>L4 hk x⟩ (λi σ H' _ h=>SqL.of (h.1 _ _ qg)) ?_ ?_
 ·rintro i x σ G hx ⟨j,B,le,E,u,fss,x0,rfl,U,Pf,qe,R,C⟩;have hi:i<as.length:=by have:=(YH.mp hx).1;simpa using this
  have ea:as[i]?=some as[i]:=by simp[hi]
  have F:gs[i]?=some (gs[i]'J5):=J7
  have I:gs.getD i []=gs[i]'J5:=by simp[List.getD,show i<gs.length by omega]
  generalize as[i]=a at ea;generalize (gs[i]'J5)=g at F I;rw[YI,ea] at hx
  cases hx;have mg':=YE F;have ra:=(Paired.getB Pg ea F).ext (Ext.same j);have m:(paps n++gs.take i).length=n+i:=by rw[XD,J,JX];omega
  have few:=C.few10 n2 n5 (by rw[m];omega);have rg:=O g mg';have a3:Lows g:=by obtain⟨_,D1,W1,R1⟩:=rg;exact λr hr=>(R1.good r hr).low
  have C':CorR n ((paps n++gs.take i)++[g]) (bndC n gs) (cutC fss (paps n++gs.take i) g):=C.cut (by rw[m];exact L3 J5) a3 rg.1 λx=>by
   rw[m];unfold bndC;rw[YD J5,Y05,I]
  refine Yf ?_;refine Yr (Xa ?_);refine⟨_,rfl,_,rfl,_,rfl,B,le,a,E,u,fss,paps n++gs.take i,g,4+(n - 1)*(N+3),n,rfl,U,Pf,qe,R,ra,J5,bits,λf hf=>C.small8 J5 J5 (Y i) hf,λf hf=>(Y i f hf).mono e,rg.mono e,C.nd,J5,J5,λd4 H4 A a6=>?_⟩;obtain⟨a4,q4,P4⟩:=a6;refine Yf ?_;dsimp only;refine Xa ?_;refine⟨_,rfl,_,rfl,sz1,λp hp=>?_⟩;have S:=Same.new (o:=.lst [V.ref a]) hp;have a7:=YY R;refine⟨le,p,u.map V.ref,[.ref a],rfl,rfl,S _ _ (A _ _ qe),Za,YM (show _<=1000 by rw[YC];simp only [XW,ju];omega) J6,λq hq=>?_⟩;have X:=Same.new (o:=.lst (u.map V.ref++[V.ref a])) hq;have v:=A.trans (S.trans X);refine Yf ⟨j.trans v,d4,q,a4,u++[a],_,_,rfl,X _ _ (S _ _ q4),Y4 P4 (Ext.same (S.trans X)),by rw[Za,XF];rfl,?_,?_⟩
  ·rw[Yj F,<-Y0b];exact Paired.appP (Y4 R (Ext.same v)) (.cons (ra.ext (Ext.same v)) .nil)
  rw[Yj F,<-Y0b];exact C'
 rintro σ G ⟨j,B,le,E,u,fss,x0,rfl,U,Pf,qe,R,C⟩;rw[YC,lg,GA] at C;have m:(paps n++gs).length=n+gs.length:=by rw[XD,J]
 have few:fss.length<64:=by
  by_cases z:n=5
  ·subst z;have:=C.few11 J5;omega
  have:=C.few10 n2 n5 J5;omega
 have W:∀ e'∈paps n++gs,RowN N n e':=λe' t=>Y gs.length e' (by rw[GA];exact t);refine⟨_,rfl,B,E,fss,n,4+(n - 1)*(N+3),rfl,U,Pf,few,C.len,J5,λr hr=>?_,J5,hT.same (y.trans j),λd' H' as' rss' a5 SX a2 q' P' pm Z=>?_⟩
 ·obtain⟨_,D1,W1,R1⟩:=C.small8 J5 J5 W hr;exact R1.good
 exact k d' H' rss' ((y.trans j).free a5) ((SameX.of (y.trans j)).trans SX) a2 ⟨as',q',P'⟩ (C.perm pm) (Z.imp λ{a b} h=>by rw[Km pm,Km pm];exact h)
end
section
variable {X:Cx}
theorem Z7a (hu:X.A.units+64<cLine)(hK:X.K=K:=by rfl):OpR X (compareOp .Eq) (rAlike K true):=by
 subst hK;intro pins s σ H x y v u Q I k f h;obtain⟨n,a,b,xs,ys,rfl,rfl,hn,h,p,q⟩:=h
 cases k
 cases f;have lp:=YY p;rcases h with ⟨h1,h2⟩ | ⟨h1,h2⟩
 ·obtain⟨i1,r1,c,_⟩:=I.list h1;obtain⟨i2,r2,d,_⟩:=I.list h2;have g:=r1.length;have i:=r2.length;refine SeqAt.RcAt.lists (A:=X.A) (e:=λ_=>true) c.isList d.isList (by simp;omega) J5 (λj h1 h2=>Wx I (by show X.A.units+1+n<cLine;omega) p r1 r2 j h1 h2) _ _ _ _ ?_;rw[Vd];exact⟨.bl true,H,I,rfl,q⟩
 obtain⟨i1,r1,c,_⟩:=I.tuple h1;obtain⟨i2,r2,d,_⟩:=I.tuple h2;have g:=r1.length;have i:=r2.length;refine Y0g (A:=X.A) (e:=λ_=>true) c d J5 (λj h1 h2=>Wx I (by show X.A.units+1+n<cLine;omega) p r1 r2 j h1 h2) _ _ _ _ ?_;have e:(i1.toArray.size == i2.toArray.size)=true:=by simp;omega
 rw[Vd,e];exact⟨.bl true,H,I,rfl,q⟩
end
section
variable {P:TU}{base:Heap}
inductive spIsRow (K:TR) (vs:TZ) (H:Hp) (Q:VK) (_z3:XK):Prop
 | mk (a:Addr) (c n:Nat) (rs:UA) (zz0:vs=[.ref a,.int (c:Int)]) (zz1:RowAt K H a rs) (zz2:rs.length=c) (zz3:(∀ r∈rs,Good n r)) (zz4:n<=400000) (zz5:∀ H',Same H H'->Q (.bl true) H')
theorem Z4m (D:Def K mg "_law_is_row" j4 VT)(T:Blt mg)(l:Has P w K mg base 3 "_law_is_ratio" UK (spIsRt K)):Has P w K mg base 4 "_law_is_row" VT (spIsRow K):=by
 refine D.h9 (N:=["_law_found","_law_count","_law_one"]) fsc λH Q hr h nd=>?_;obtain⟨a,c,n,rs,rfl,⟨xs,d,e⟩,q,g,hn,k⟩:=h;refine⟨_,(Z8 (Y9 (PW.pt (Re (Vl (Yz (Zw Tz rfl T.isinstance JU (Z0 (pv 0) (Z0 (Qg T.tuple XY) Z7))))) (Uu (Zn Gz (Zw Zx rfl T.len zm (Z0 (pv 0) Z7)) (pv 1) (Zq _)))))
   (Zb (Zg Uk))
   Zv)
  (Z8 (Xq JL rfl (Qf (pv 0)) (Zj (i:=2) nd rfl (Or.inl rfl))
   (Zb (Y9 (Vl (Yz (Ze l hr (Z0 (pv 2) Z7))))
    (Zb (Zg Uk))
    Zv)))
  (Zb (Zg Uk)))),?_⟩
 have lx:=e.len;refine⟨_,rfl,_,_,_,_,rfl,d,U5,_,rfl,Xn ?_⟩;refine⟨_,rfl,a,_,rfl,.inr d,_,rfl,rfl,_,rfl,Z27 (by rw[show xs.length=c by omega]) ?_⟩;refine⟨_,rfl,a,rfl,⟨_,d⟩,Fk (K:=K) (a:=a) (xs:=xs) (λi σ H'=>Same H H'/\∃ (x:Option V),σ=[some (.ref a),some (.int (c:Int)),x]) ⟨Same.refl _,none,rfl⟩ (λi σ H' _ h=>Zo h.1 d) ?_ ?_⟩
 ·rintro i x σ H2 f ⟨S2,x1,rfl⟩;obtain⟨r,o,b,rfl,m⟩:=(e.ext (Ext.same S2)).back f;refine⟨_,rfl,b,r,n,rfl,m,g r (YE o),hn,λp j=>⟨_,rfl,Xn ?_⟩⟩;exact⟨S2.trans j,_,rfl⟩
 rintro σ H2 ⟨S2,x1,rfl⟩;exact k _ S2
end
end _b
namespace _b
open PySem _L
theorem Cors.face {n m:Nat}{c:Nat->Pt}{V:List Pt}(B:Bnds n m c)(C:Cors n m c V){h x:Pt}(le:∀ v∈V,dq n v h<=0)(I:InP n m c x)(z:dq n x h=0)(f:Pt):∃ v∈V,dq n v h=0/\dq n x f<=dq n v f:=by
 let c':Nat->Pt:=λk=>if k<m then c k else h
 have e1:∀ k,k<m->c' k=c k:=λk hk=>YG hk;have e2:c' m=h:=YD (JA m);have l:Bnds n m c':=⟨B.1,λi hi x=>by rw[e1 i (YQ hi B.1)];exact B.2 i hi x⟩;have B':Bnds n (m+1) c':=⟨Nat.le_succ_of_le B.1,λi hi x=>by rw[e1 i (YQ hi B.1)];exact B.2 i hi x⟩;have e:InP n (m+1) c' x:=⟨λk hk=>by
  by_cases y:k<m
  ·rw[e1 k y];exact I.le k y
  obtain rfl:k=m:=J5
  rw[e2,z];grind,I.one⟩
 have vx:∀ {v:Pt},Vx n m c v ↔ Vx n m c' v:=λ{v}=>⟨λq=>⟨⟨λk hk=>by rw[e1 k hk];exact q.inn.le k hk,q.inn.one⟩,λd b al=>q.st d b λk hk y=>by have:=al k hk (by rw[e1 k hk];exact y);rwa [e1 k hk] at this⟩,λq=>⟨⟨λk hk=>by rw[<-e1 k hk];exact q.inn.le k hk,q.inn.one⟩,λd b al=>q.st d b λk hk y=>by have:=al k hk (by rw[<-e1 k hk];exact y);rwa [<-e1 k hk] at this⟩⟩;have C':Cors n m c' V:=⟨λv a=>vx.mp (C.vx v a),λx X=>C.all x (vx.mpr X)⟩;obtain⟨w,W,t,g⟩:=e.corner B' f;have t0:=t m (ji m) (by rw[e2];exact z);rw[e2] at t0;rcases C'.new l W with ⟨v,a,ev,_⟩ | ⟨u,_,v,a,_,j,_⟩
 ·exact⟨v,a,by rw[Yc ev];exact t0,by rw[Yc ev];exact g⟩
 rw[e2] at j;have:=le v a;grind
section
variable {n:Nat}{gs rss:UB}
theorem CorR.face (C:CorR n (paps n++gs) (bndC n gs) rss){h x:Pt}(I:InP n (n+gs.length) (bndC n gs) x)(le:∀ r∈rss,dq n (qr r) h<=0)(z:dq n x h=0)(f:Pt):∃ r∈rss,dq n (qr r) h=0/\dq n x f<=dq n (qr r) f:=by
 have d:(paps n++gs).length=n+gs.length:=by rw[XD,show (paps n).length=n by unfold paps;simp]
 rw[<-d] at I;obtain⟨v,c,a,b⟩:=C.cors.face (L3 (by rw[d];omega)) (λv c=>by obtain⟨r,hr,rfl⟩:=YT.mp c;exact le r hr) I z f;obtain⟨r,hr,rfl⟩:=YT.mp c;exact⟨r,hr,a,b⟩
end
def gdm7 {α:Type}{l:List α}{k:Nat}{d:α}(h:k<l.length):l.getD k d∈l:=by
 have:l.getD k d=l[k]:=by simp[List.getD,h]
 rw[this];exact XR h
def Gn {r s:Rat}(hr:0<r.2)(hs:0<s.2):r.1*s.2<s.1*r.2 ↔ qv r<qv s:=by
 have e1:=Ur hr;have e2:=Ur hs;have p:=_root_.Rat.mul_pos (W9 hr) (W9 hs);have a:((r.1*s.2:Int):QQ)=qv r*((r.2:QQ)*(s.2:QQ)):=by rw[_root_.Rat.intCast_mul,<-e1];grind
 have b:((s.1*r.2:Int):QQ)=qv s*((r.2:QQ)*(s.2:QQ)):=by rw[_root_.Rat.intCast_mul,<-e2];grind
 rw[<-_root_.Rat.intCast_lt_intCast,a,b];constructor
 ·intro h;by_cases z:qv r<qv s
  ·exact z
  have:=_root_.Rat.mul_nonneg (show 0<=qv r - qv s by grind) (_root_.Rat.le_of_lt p);grind
 intro h;have:=_root_.Rat.mul_pos (show 0<qv s - qv r by grind) p;grind
def Jn {D:Ends}{σ:_L.St}(h:D.nx σ H):tNext D σ H:=h
section
variable {P:TU}{base:Heap}
inductive spUnderL (K:TR) (vs:TZ) (H:Hp) (Q:VK) (_z3:XK):Prop
 | mk (a b:Addr) (r s:Rat) (n:Nat) (zz0:vs=[.ref a,.ref b]) (zz1:SqT K H a [.int r.1,.int r.2]) (zz2:SqT K H b [.int s.1,.int s.2]) (zz3:Good n r) (zz4:Good n s) (zz5:n<=200000) (zz6:Q (.bl (decide (r.1*s.2<s.1*r.2))) H)
theorem Z18 (D:Def K mg "_law_under" jL UJ):Has P w K mg base 1 "_law_under" UJ (spUnderL K):=by
 refine D.h9 (N:=UJ) fsc λH Q hr h nd=>?_;obtain⟨a,b,r,s,n,rfl,ha,c,d,gs,hn,k⟩:=h;refine⟨_,(Zb (Zg (Xi Rf (Zl Zp (Zf Yu (pv 0) Z9) (Zf Yi (pv 1) Z9)) (Zl Zp (Zf Yu (pv 1) Z9) (Zf Yi (pv 0) Z9)) (Zq _)))),?_⟩;exact⟨_,rfl,_,_,_,rfl,rfl,ha,_,rfl,_,_,_,rfl,rfl,c,_,_,rfl,rfl,d.b1.mulOk gs.b2 J5 J5,_,rfl,_,_,_,rfl,rfl,c,_,rfl,_,_,_,rfl,rfl,ha,_,_,rfl,rfl,gs.b1.mulOk d.b2 J5 J5,_,_,rfl,rfl,k⟩
end
open PySem.Spec PyProof.Rows
section
variable {P:TU}{base:Heap}
structure EndsR (rs:UA)(u v:Rat):Prop where
 mu:u∈rs
 mv:v∈rs
 le:∀ r∈rs,qv u<=qv r
 ge:∀ r∈rs,qv r<=qv v
inductive spEndsC (K:TR) (vs:TZ) (H:Hp) (Q:VK) (_z3:XK):Prop
 | mk (l:Addr) (xs:TZ) (rs:UA) (n:Nat) (zz0:vs=[.ref l]) (zz1:H l=some (.lst xs)) (zz2:Rs K H rs xs) (zz3:rs≠[]) (zz4:rs.length<=100) (zz5:∀ r∈rs,Good n r) (zz6:n<=200000) (zz7:∀ (p a b:Addr) (u v:Rat) (H':Hp),Same H H'->SqT K H' p [.ref a,.ref b]->SqT K H' a [.int u.1,.int u.2]->SqT K H' b [.int v.1,.int v.2]->EndsR rs u v->Q (.ref p) H')
theorem Z4s (D:Def K mg "_law_ends" kJ ["_law_some"])(fJ:Has P w K mg base 1 "_law_under" UJ (spUnderL K)):Has P w K mg base 2 "_law_ends" ["_law_some"] (spEndsC K):=by
 refine D.h9 (N:=["_law_some","_law_ends_here","_law_one"]) fsc λH Q hr h nd=>?_;obtain⟨l,xs,rs,n,rfl,hl,X,ne,few,good,hn,k⟩:=h;refine⟨_,(Z8 (Zi (i:=1) nd rfl xj (Xs (Z0 (Zf Zt (pv 0) Z9) (Z0 (Zf Zt (pv 0) Z9) Z7))))
  (Z8 (Xq JL rfl (Yk (pv 0)) (Zj (i:=2) nd rfl (Or.inl rfl))
   (Z8 (Uc (Y9 (Yz (Ze fJ hr (Z0 (pv 2) (Z0 (Zf Zt (pv 1) Z9) Z7))))
    (Zb (U0 (pv 2) (Uv (pv 1) Z9 Wi)))
    Zv))
   (Zb (Y9 (Yz (Ze fJ hr (Z0 (Zf Zt (pv 1) Z9) (Z0 (pv 2) Z7))))
    (Zb (U0 (pv 2) (Uv (pv 1) Z9 Wi)))
    Zv))))
  (Zb (Zg (Yl (Z0 (Zf Zt (pv 1) Z9) (Z0 (Zf Zt (pv 1) Z9) Z7))))))),?_⟩
 have lx:=X.len;have h0:0<rs.length:=jn.mpr ne;have e0:rs[0]?=some (rs[0]'h0):=by simp[h0]
 obtain⟨v0,F,g,rfl,q0⟩:=X.at e0;refine Yr (Xa (Z6b ?_));refine⟨_,rfl,l,xs,_,_,rfl,rfl,SqL.of hl,Zh (j:=0) F,_,rfl,l,xs,_,_,rfl,rfl,SqL.of hl,Zh (j:=0) F,sz2,λd hd=>?_⟩;have O:=Same.new (o:=.lst [V.ref g,V.ref g]) hd;have q1:(upd H d (.lst [V.ref g,V.ref g])) d=some (.lst [V.ref g,V.ref g]):=Za;generalize upd H d (.lst [V.ref g,V.ref g])=H1 at *
 refine Yf ?_;dsimp only;refine Yr ?_;refine⟨_,rfl,l,rfl,⟨_,SqL.of (O _ _ hl)⟩,?_⟩;refine U8 (K:=K) (xs:=xs) (λi σ H'=>Same H H'/\(∃ x,σ=[some (.ref l),some (.ref d),x])/\∃ (a b:Addr) (u v:Rat),H' d=some (.lst [V.ref a,V.ref b])/\SqT K H' a [.int u.1,.int u.2]/\SqT K H' b [.int v.1,.int v.2]/\u∈rs/\v∈rs/\∀ r∈rs.take i,qv u<=qv r/\qv r<=qv v) ⟨O,⟨_,rfl⟩,g,g,_,_,q1,Zo O q0,Zo O q0,YE e0,YE e0,λr hr=>by cases hr⟩ (λi σ H' _ h=>SqL.of (h.1 _ _ hl)) ?_ ?_
 ·rintro i y σ H2 Z ⟨S2,⟨x2,rfl⟩,a,b,u,v,q,T,R,mu,mv,f⟩;have hi:i<xs.length:=(YH.mp Z).1;have L:rs[i]?=some (rs[i]'J5):=J7
  obtain⟨w1,U,m,rfl,M⟩:=(X.ext (Ext.same S2)).at L;rw[U] at Z
  cases Z;have s:=good _ (YE L);have mr:=YE L;generalize (rs[i]'J5)=r at *
  have Y:=good u mu;have gv:=good v mv;refine Yf ?_;dsimp only;refine Yr ?_;have up:∀ {H':Hp} {x y z:V},H' d=some (.lst [x,y])->Same H H'->Same H (upd H' d (.lst [z,y]))/\Same H (upd H' d (.lst [x,z])):=λe S=>⟨Yh S hd,Yh S hd⟩;refine⟨λσ H'=>(σ=[some (.ref l),some (.ref d),some (.ref m)])/\Same H H'/\SqT K H' m [.int r.1,.int r.2]/\∃ (A:Addr) (u':Rat),H' d=some (.lst [V.ref A,V.ref b])/\SqT K H' A [.int u'.1,.int u'.2]/\SqT K H' b [.int v.1,.int v.2]/\u'∈rs/\qv u'<=qv r/\qv u'<=qv u,?_,?_⟩
  ·refine⟨_,rfl,_,rfl,d,_,_,_,rfl,rfl,SqL.of q,Zh (j:=0) rfl,m,a,r,u,n,rfl,M,T,s,Y,hn,_,rfl,?_⟩;by_cases z:r.1*u.2<u.1*r.2
   ·rw[XE z];have lt:=(Gn s.pos Y.pos).mp z;refine U6 ?_;refine⟨_,rfl,_,rfl,d,_,_,0,rfl,rfl,q,rfl,?_⟩;have B:Ext H2 (upd H2 d (.lst [V.ref m,V.ref b])):=Ext.upd q;exact⟨rfl,(up q S2).1,B.sq M,m,r,Za,B.sq M,B.sq R,mr,ZJ,ZJ⟩
   rw[XN z];have nl:¬ qv r<qv u:=λy=>z ((Gn s.pos Y.pos).mpr y);exact Xn ⟨rfl,S2,M,a,u,q,T,R,mu,ZJ,ZJ⟩
  rintro σ H3 ⟨rfl,S3,E,A,u',J,G,I,C,a0,a1⟩;dsimp only;refine⟨_,rfl,d,_,_,_,rfl,rfl,SqL.of J,Zh (j:=1) rfl,_,rfl,b,m,v,r,n,rfl,I,E,gv,s,hn,_,rfl,?_⟩;by_cases z:v.1*r.2<r.1*v.2
  ·rw[XE z];have lt:=(Gn gv.pos s.pos).mp z;refine U6 ?_;refine⟨_,rfl,_,rfl,d,_,_,1,rfl,rfl,J,rfl,?_⟩;have B:Ext H3 (upd H3 d (.lst [V.ref A,V.ref m])):=Ext.upd J;refine⟨(up J S3).2,⟨_,rfl⟩,A,m,u',r,Za,B.sq G,B.sq E,C,mr,λt c=>?_⟩;rw[Yj L] at c;rcases XS.mp c with c | c
   ·have:=f t c;grind
   rw[XH.mp c];grind
  rw[XN z];have nl:¬ qv v<qv r:=λy=>z ((Gn gv.pos s.pos).mpr y);refine Xn ⟨S3,⟨_,rfl⟩,A,b,u',v,J,G,I,C,mv,λt c=>?_⟩;rw[Yj L] at c;rcases XS.mp c with c | c
  ·have:=f t c;grind
  rw[XH.mp c];grind
 rintro σ H2 ⟨S2,⟨x2,rfl⟩,a,b,u,v,q,T,R,mu,mv,f⟩;dsimp only;refine Gj ?_;refine⟨_,rfl,d,_,_,_,rfl,rfl,SqL.of q,Zh (j:=0) rfl,_,rfl,d,_,_,_,rfl,rfl,SqL.of q,Zh (j:=1) rfl,sz2,λp hp=>?_⟩;have W:=Same.new (o:=.tup [V.ref a,V.ref b]) hp;rw[<-lx,GA] at f;exact k p a b u v _ (S2.trans W) (SqT.of Za) (Zo W T) (Zo W R) ⟨mu,mv,λr hr=>(f r hr).1,λr hr=>(f r hr).2⟩
end
end _b
namespace _b
open PySem _L
section
variable {n:Nat}{gs rss:UB}
def WtsQ.inP {W:UA}(a:WtsQ n gs W):InP n (n+gs.length) (bndC n gs) (qr W):=⟨λk hk=>by
 by_cases y:k<n
 ·rw[L4 y];have:=a.nn k y;grind
 obtain⟨i,rfl⟩:∃ i,k=n+i:=⟨k - n,J5⟩;have e:dq n (qr W) (bndC n gs (n+i))=dq n (qr W) (qr (gs.getD i [])):=by
  unfold bndC;rw[YD J5,Y05]
 rw[e];exact a.fit _ (gdm7 J5),a.lie⟩
def CorR.isw (C:CorR n (paps n++gs) (bndC n gs) rss){f:UA}(hf:f∈rss):WtsQ n gs f:=by
 have V:=(C.vx hf).inn;have b:(paps n++gs).length=n+gs.length:=by rw[XD,show (paps n).length=n by unfold paps;simp]
 refine⟨C.len f hf,C.low f hf,λk hk=>?_,λg hg=>?_,V.one⟩
 ·have:=V.le k J5;rw[L4 hk] at this;grind
 obtain⟨i,hi,e⟩:=Y1N hg;have:=V.le (n+i) J5;have a:dq n (qr f) (bndC n gs (n+i))=dq n (qr f) (qr (gs.getD i [])):=by
  unfold bndC;rw[YD J5,Y05]
 rw[a,show gs.getD i []=g by simp[List.getD,hi,e]] at this;exact this
theorem CorR.best (C:CorR n (paps n++gs) (bndC n gs) rss){x:Pt}(I:InP n (n+gs.length) (bndC n gs) x)(h:Pt):∃ f∈rss,dq n x h<=dq n (qr f) h:=by
 have a:(paps n++gs).length=n+gs.length:=by rw[XD,show (paps n).length=n by unfold paps;simp]
 rw[<-a] at I;obtain⟨v,V,_,le⟩:=I.corner (L3 J5) h;obtain⟨u,hu,e⟩:=C.cors.all v V;obtain⟨f,hf,rfl⟩:=YT.mp hu;exact⟨f,hf,by rw[Yc e];exact le⟩
def CorR.ends (C:CorR n (paps n++gs) (bndC n gs) rss)(d:∀ rs∈gs,RowR n rs){as:UA}(la:Lows as)(len:as.length=n){u v u' v':Rat}(e:EndsR (rss.map λf=>mn f as) u v)(mv:MostV n gs as v')(h:LeastV n gs as u'):u=u'/\v=v':=by
 have i:∀ {W:UA},WtsQ n gs W->qv (mn W as)=dq n (qr W) (qr as):=λw=>Tp w.low la w.len len;have c:∀ {W:UA},WtsQ n gs W->Low (mn W as):=λw=>Yn w.low la;obtain⟨f1,h1,rfl⟩:=YT.mp e.mu;obtain⟨f2,h2,rfl⟩:=YT.mp e.mv;have j:=C.isw h1;have l:=C.isw h2;constructor
 ·refine Vk (c j) h.low ?_;have a:=(Lk h.low.pos (c j).pos).mp (h.bot _ (j.wts d));obtain⟨W,w,rfl⟩:=h.hit;have g:=w.toQ d;obtain⟨f,hf,le⟩:=C.best g.inP (λk=>(-1)*qr as k+0*qr as k);rw[Uh,Uh] at le;have b:=e.le _ (YT.mpr ⟨f,hf,rfl⟩);rw[i (C.isw hf)] at b;rw[i g] at a ⊢;grind
 refine Vk (c l) mv.low ?_;have a:=(Lk (c l).pos mv.low.pos).mp (mv.top _ (l.wts d));obtain⟨W,w,rfl⟩:=mv.hit;have g:=w.toQ d;obtain⟨f,hf,le⟩:=C.best g.inP (qr as);have b:=e.ge _ (YT.mpr ⟨f,hf,rfl⟩);rw[i (C.isw hf)] at b;rw[i g] at a ⊢;grind
end
section
variable {n:Nat}{gs rss:UB}{o:TW}{as:UA}{v:Rat}
def CorR.con (C:CorR n (paps n++gs) (bndC n gs) rss)(c:∀ rs∈gs,RowR n rs)(la:Lows as)(len:as.length=n)(cv:ConV n gs o as v):(∃ f∈rss,0<qv (shR n o f)/\dq n (qr f) (qr (cutR o as))=qv v*qv (shR n o f))/\∀ f∈rss,dq n (qr f) (qr (cutR o as))<=qv v*qv (shR n o f):=by
 have i:=T4 (o:=o) la cv.low;have lp:Lows (papR n o):=Xd _ _;have dot:∀ {W:UA},WtsQ n gs W->qv (mn W (gP o as v))=dq n (qr W) (qr (cutR o as)) + -qv v*qv (shR n o W):=λw=>G4 w.low w.len la len cv.low;have hq:∀ {W:UA},WtsQ n gs W->qv (mn W (gP o as v))=dq n (qr W) (qr (gP o as v)):=λw=>Tp w.low i w.len (by rw[G3,len]);have g:∀ {W:UA},WtsQ n gs W->qv (shR n o W)=dq n (qr W) (qr (papR n o)):=λw=>Tp w.low lp w.len (X1 _ _);have top:∀ f∈rss,qv (mn f (gP o as v))<=0:=λf hf=>(Uj (Yn (C.isw hf).low i).pos).mp (cv.top f ((C.isw hf).wts c));refine⟨?_,λf hf=>?_⟩
 ·obtain⟨W,w,z,p⟩:=cv.hit;have d:=w.toQ c;have k:dq n (qr W) (qr (gP o as v))=0:=by
   rw[<-hq d];unfold qv;rw[z];grind
  obtain⟨r,hr,a,b⟩:=C.face d.inP (h:=qr (gP o as v)) (λr hr=>by rw[<-hq (C.isw hr)];exact top r hr) k (qr (papR n o));have j:0<qv (shR n o W):=(Vy (Yn d.low lp).pos).mp p;rw[g d] at j;have e:=C.isw hr;refine⟨r,hr,by rw[g e];grind,?_⟩;rw[<-hq e,dot e] at a;grind
 have:=top f hf;rw[dot (C.isw hf)] at this;grind
end
section
variable {n:Nat}{gs rss:UB}{o:TW}{as:UA}{u v:Rat}
def meanE (n:Nat)(o:TW)(as f:UA):Rat:=nrm ((mn f (cutR o as)).1*(shR n o f).2) ((mn f (cutR o as)).2*(shR n o f).1)
def Z6f {x:Pt}(la:Lows as)(len:as.length=n):dq n x (qr (cutR o (ngR as)))=-dq n x (qr (cutR o as)):=by
 show sQ n _=-sQ n _;rw[show -sQ n (λk=>x k*qr (cutR o as) k)=(-1)*sQ n (λk=>x k*qr (cutR o as) k) by grind,<-Y5];refine Zk λk hk=>?_;rw[Qc,Qc]
 cases inE o k with
 | true=>rw[YG rfl,YG rfl,Z64 la J5];grind
 | false=>rw[YD YO,YD YO];grind
def To {a b p:QQ}(hp:0<p)(h:a*p<=b*p):a<=b:=by
 apply YF;intro z;have c:b<a:=ZJ
 have:=_root_.Rat.mul_lt_mul_of_pos_right c hp;grind
def K0 {a b p:QQ}(hp:0<p)(h:a*p=b*p):a=b:=by
 have h1:=To (a:=a) (b:=b) hp ZJ;have h2:=To (a:=b) (b:=a) hp ZJ;grind
def CorR.means (C:CorR n (paps n++gs) (bndC n gs) rss)(a:∀ rs∈gs,RowR n rs)(la:Lows as)(len:as.length=n)(cv:ConV n gs o as v)(I:ConV n gs o (ngR as) (negR u))(A:Low u) :
  (rss.filter λf=>decide (0<(shR n o f).1))≠[]/\∀ {u' v':Rat},EndsR ((rss.filter λf=>decide (0<(shR n o f).1)).map (meanE n o as)) u' v'->u'=u/\v'=v:=by
 have k:(ngR as).length=n:=by rw[Z1s];exact len
 have key:∀ f∈rss,Low (shR n o f)/\Low (mn f (cutR o as))/\qv (mn f (cutR o as))=dq n (qr f) (qr (cutR o as)):=λf hf=>by
  have c:=C.isw hf;exact⟨Yn c.low (Xd _ _),Yn c.low (Wo la),Tp c.low (Wo la) c.len (by rw[Yo];exact len)⟩
 have d:∀ f∈rss,0<(shR n o f).1->Low (meanE n o as f)/\0<qv (shR n o f)/\qv (meanE n o as f)*qv (shR n o f)=dq n (qr f) (qr (cutR o as)):=λf hf z=>by
  obtain⟨p,r,e⟩:=key f hf;refine⟨Yp ?_,(Vy p.pos).mp z,(Z73 r.pos p.pos z).trans e⟩;exact zO (XG r.pos z)
 have b:∀ {f},f∈(rss.filter λf=>decide (0<(shR n o f).1)) ↔ f∈rss/\0<(shR n o f).1:=λ{f}=>by rw[XA,GQ]
 obtain⟨⟨f1,h1,l,e1⟩,F⟩:=C.con a la len cv;obtain⟨⟨f2,h2,q,e2⟩,t⟩:=C.con a (Jm la) k I;have s1:=(Vy (key f1 h1).1.pos).mpr l;have s2:=(Vy (key f2 h2).1.pos).mpr q;refine⟨Y23 (b.mpr ⟨h1,s1⟩),λ{u' v'} e=>?_⟩;obtain⟨h,G,rfl⟩:=YT.mp e.mu;obtain⟨g,y,rfl⟩:=YT.mp e.mv;obtain⟨m,B⟩:=b.mp G;obtain⟨s,w⟩:=b.mp y;obtain⟨E,D,e3⟩:=d h m B;obtain⟨H,J,x⟩:=d g s w;obtain⟨_,_,i⟩:=d f1 h1 s1;obtain⟨_,_,j⟩:=d f2 h2 s2;have O:=e.ge _ (YT.mpr ⟨f1,b.mpr ⟨h1,s1⟩,rfl⟩);have K:=e.le _ (YT.mpr ⟨f2,b.mpr ⟨h2,s2⟩,rfl⟩);have M:qv (meanE n o as f1)=qv v:=K0 l (by rw[i,e1]);have L:qv (meanE n o as f2)=qv u:=K0 q (by
  rw[Z6f la len,Qb] at e2;rw[j];grind)
 have N:qv u<=qv (meanE n o as h):=To D (by
  have:=t h m;rw[Z6f la len,Qb] at this;rw[e3];grind)
 have P:qv (meanE n o as g)<=qv v:=To J (by
  have:=F g s;rw[x];exact this)
 exact⟨Vk E A ZJ,Vk H cv.low ZJ⟩
end
theorem Cv {α β:Type}{l:Addr}{zs:List α}{g:α->β}{k:Nat}{fv:List Nat}{σ:_L.St}{Q:VK}(R:Hp->Addr->α->Prop)(m:∀ H1 H2 a z,Ext H1 H2->R H1 a z->R H2 a z)(R2:Hp->Addr->β->Prop)(f:∀ H1 H2 a z,Ext H1 H2->R2 H1 a z->R2 H2 a z)
  (r:∀ G:VK,G (.ref l) H->tl σ H G) (hl:SqL K H l (as.map V.ref)) (hz:as.length<=1000) (hp:Paired (R H) as zs)
  (t:∀ (i:Nat) (a:Addr) (z:α) (H1:Hp) (G:VK),as[i]?=some a->zs[i]?=some z->Same H H1->R H1 a z->(∀ c H2,Same H1 H2->R2 H2 c (g z)->G (.ref c) H2)->te ((comp0 k fv σ).set 0 (some (.ref a))) H1 G)
  (q:∀ (d:Addr) (H2:Hp) (bs:TJ),H d=none->Same H H2->H2 d=some (.lst (bs.map V.ref))->Paired (R2 H2) bs (zs.map g)->Q (.ref d) H2) :
  tComp (iList K tl) (gName 0) tYes te k fv σ H Q:=by
 refine r _ ⟨l,rfl,⟨_,hl⟩,λd hd=>?_⟩;have lp:=YY hp;refine⟨as.length,λi ys H2=>Same H H2/\∃ bs:List Addr,ys=bs.map V.ref/\Paired (R2 H2) bs ((zs.take i).map g),YM hz J6,⟨Same.new hd,[],rfl,by simpa using Paired.nil⟩,?_,?_⟩
 ·rintro i ys H2 hi ⟨S2,bs,rfl,P2⟩ j;have n:=X9 S2 hl;have ea:as[i]?=some as[i]:=by simp[hi]
  have p:zs[i]?=some (zs[i]'J5):=J7
  generalize as[i]=a at ea;generalize (zs[i]'J5)=z at p;have ex:(as.map V.ref)[i]?=some (V.ref a):=by rw[YI,ea];rfl
  refine⟨⟨_,V.ref a,n,ex⟩,?_⟩;rintro x B ⟨rfl,w⟩;have e:=w _ n;rw[ex] at e
  cases e;refine Ym ?_;refine t i a z B _ ea p S2 (m _ _ _ _ (Ext.same S2) (Paired.getB hp ea p)) λc v s A=>?_;have o:=s _ _ j;have u:Ext v (upd v d (.lst (bs.map V.ref++[V.ref c]))):=Ext.upd o;refine⟨o,Yh (S2.trans s) hd,bs++[c],J7,?_⟩;rw[Yj p,XF];exact Paired.appP (Paired.mapP P2 λb y h=>f _ _ _ _ ((Ext.same s).trans u) h) (.cons (f _ _ _ _ u A) .nil)
 rintro ys H2 ⟨S2,bs,rfl,P2⟩ j;rw[lp,GA] at P2;exact⟨⟨_,X9 S2 hl,J7⟩,q d H2 bs hd S2 j P2⟩
def Rs.of_pairs {K:TR}{H:Hp}{as:TJ}{rs:UA}(h:Paired (λa r=>SqT K H a [.int r.1,.int r.2]) as rs):Rs K H rs (as.map V.ref):=by
 induction h with
 | nil=>exact .nil
 | cons p _ b=>exact .cons ⟨_,rfl,p⟩ b
def G1 {n:Nat}(O:∀ o∈os,OffRep n o):∀ g∈gainsP os os.length,RowN 91 n g:=by
 rw[Vq];intro g hg;obtain⟨o,ho,hg⟩:=zw.mp hg;unfold gainsO at hg;obtain⟨b,a,rfl⟩:=YT.mp hg;have hp:∃ r,priceO o b=some r:=by
  unfold wordsO at a;rcases XS.mp a with a | a
  ·by_cases z:o.ask.isSome=true
   ·rw[YG z] at a;rw[XH.mp a];exact zg.mp z
   rw[YD z] at a;cases a
  by_cases z:o.bid.isSome=true
  ·rw[YG z] at a;rw[XH.mp a];exact zg.mp z
  rw[YD z] at a;cases a
 obtain⟨r,hr⟩:=hp;exact (O o ho).gain hr
def Cm {os:UD}:(gainsP os os.length).length<=2*os.length:=by
 rw[Vq]
 induction os with
 | nil=>simp
 | cons o os c =>
  rw[Y17,XD,XW];have:(gainsO o).length<=2:=by
   unfold gainsO wordsO;rw[YC,XD];have a:((if o.ask.isSome=true then [true] else []):List Bool).length<=1:=by split <;> simp
   have b:((if o.bid.isSome=true then [false] else []):List Bool).length<=1:=by split <;> simp
   omega
  omega
open PySem.Spec PyProof.Rows
theorem Z5f {T:Addr}(a:∃ ps,H T=some (.tbl ps))(S:SameX T H H'):Ext H H':=by
 obtain⟨ps,h⟩:=a;exact⟨λb xs e=>S b _ e (by rintro rfl;rw[h] at e;cases e),λb o u e=>S b _ e (by rintro rfl;rw[h] at e;cases e)⟩
def Fy {C:Addr}{tb:(_L.St->XK)->TS}{ts b:TS}{a:Ends}{σ:_L.St}{H:Hp}(R:XK)(h1:∀ EX:_L.St->XK,(∀ cls dd H',R cls dd H'->EX σ cls dd H')->tb EX { a with nx:=b a } σ H)(h2:∀ cls dd H',R cls dd H'->cls=.ref C/\ts { a with nx:=b a } σ H'):tSeq (tTryD C tb ts) b a σ H:=h1 _ h2
def Pu {a b:Addr}{r:Rat}(h1:SqT K H a [.int r.1,.int r.2])(h2:SqT K H b [.int r.1,.int r.2]):EqU K H 1 (.ref a) (.ref b):=.inr ⟨a,b,_,_,rfl,rfl,.inr ⟨h1,h2⟩,.cons ⟨rfl,rfl⟩ (.cons ⟨rfl,rfl⟩ .nil)⟩
def Uw {a b c d:Addr}{r s r' s':Rat}(e1:r'=r)(e2:s'=s)(h1:SqT K H a [.int r.1,.int r.2])(h2:SqT K H c [.int r'.1,.int r'.2])(e:SqT K H b [.int s.1,.int s.2])(f:SqT K H d [.int s'.1,.int s'.2]):Paired (EqU K H 1) [.ref a,.ref b] [.ref c,.ref d]:=by
 subst e1 e2;exact .cons (Pu h1 h2) (.cons (Pu e f) .nil)
def Z53 {lo:Addr}{ov:TZ}{σ:_L.St}{G:VK}(a:σ[i]?=some (some (.ref lo)))(h:H lo=some (.lst ov))(k:∀ l H',Same H H'->H' l=some (.lst ov)->G (.ref l) H'):tCB (λxs H Q=>∃ p ys,xs=[V.ref p]/\(SqL K H p ys \/ SqT K H p ys)/\∀ l,H l=none->Q (.ref l) (upd H l (.lst ys))) (tCons (tVar i) tNil) σ H G:=⟨_,a,lo,ov,rfl,.inl (SqL.of h),λl hl=>k l _ (Same.new hl) Za⟩
structure Cx4 (K:TR)(n:Nat)(lo ag dt:Addr)(ov:TZ)(os:UD)(as:UA)(o:TW)(ve:V)(cs:TJ)(rss:UB)(H:Hp):Prop where
 q:H lo=some (.lst ov)
 p:Paired (λv o=>OffAt K H n o v) ov os
 r:RowAt K H ag as
 e:EvAt K H n o ve
 t:H dt=some (.lst (cs.map V.ref))
 c:Paired (RowAt K H) cs rss
theorem Cx4.same {K:TR}{H H':Hp}{n:Nat}{lo ag dt:Addr}{ov:TZ}{os:UD}{as:UA}{o:TW}{ve:V}{cs:TJ}{rss:UB}(h:Cx4 K n lo ag dt ov os as o ve cs rss H)(S:Same H H'):Cx4 K n lo ag dt ov os as o ve cs rss H':=⟨S _ _ h.q,Yx h.p (Ext.same S),h.r.same S,h.e.same S,S _ _ h.t,Y4 h.c (Ext.same S)⟩
def K9 {α:Type}{l:List α}(h:i<l.length):∃ a,l[i]?=some a:=⟨_,XT h⟩
def Z2x {dvs:TZ}{E:XK}{t:TA}{σ:_L.St}{Q:VK}(h:t σ H λvs H1=>sp (vs++dvs) H1 Q E):tCall sp dvs E t σ H Q:=h
section
variable {P:TU}{base:Heap}
inductive spLaw (K:TR) (Tb:Addr) (vs:TZ) (H:Hp) (Q:VK) (_z3:XK):Prop
 | mk (a:Addr) (ns:TV) (zz0:vs=[.ref a]) (zz1:SqL K H a (ns.map V.int)) (zz2:H Tb=some (.tbl #[])) (zz3:∀ H',Q (.bl true) H')
def Z60:FnScope ["_law_script","_law_count","_law_weights_here","_law_offers","_law_row_here","_law_event_here","_law_told","_law_corner","_law_due","_law_paper","_law_parts","_law_means","_law_k","_law_found"] ["_law_script"] (defScope kR):=fsc
theorem Z8s {Tb:Addr}(F:Fun K "law" "law" kR f fd)(T:Blt mg)(W:CatchBy K C C)(X:mg "NoChance"=some (.ref C))(fE:Has P w K mg base 1 "_law_cell" UF (spCell K))(eP:Has P w K mg base 2 "_law_bag" UG (spBagA K))(fN:Has P w K mg base 7 "_law_fair_book" VI (spFairB K))(fM:Has P w K mg base 4 "_law_row" UO (spRow6 K))(eY:Has P w K mg base 2 "_law_event" UO (spEvent K))(gO:Has P w K mg base 7 "corners" VJ (spCorners K Tb) true)(gC:Has P w K mg base 4 "_law_is_row" VT (spIsRow K))(eI:Has P w K mg base 4 "_law_mean" VD (spMeanP K))(fD:Has P w K mg base 2 "_law_ends" ["_law_some"] (spEndsC K))(fS:Has P w K mg base 7 "lower" VM (spLowerM K))(eZ:Has P w K mg base 6 "upper" VM (spUpperM K))(eW:Has P w K mg base 2 "_law_cut" UX (spLCut K))(gQ:Has P w K mg base 8 "shares" VN (spSharesM K))(eS:Has P w K mg base 3 "_law_parted" UJ (spParted K))(gH:HasD P w K mg base 9 "learned" VL (spLearnedM K C)) :
  FnOk P w K mg base CX0 10 f fd ["_law_script"] (spLaw K Tb) true:=by
 refine F.ok Z60 (λvs H Q E h=>?_) (λcdv A outer s H vs Q E hr h=>?_)
 ·obtain⟨a,ns,rfl,_⟩:=h;rfl
 obtain⟨a,ns,rfl,hS,hT,k⟩:=h;have sc:=Z60;have a8:=hr.units;have j3:(["_law_corner","_law_row_here"]:List Str).Nodup:=J8
 have k6:(["_law_k"]:TF).Nodup:=J8
 have j5:(["_law_corner","_law_paper"]:List Str).Nodup:=J8
 refine⟨_,(Z8 (Zi (i:=1) sc.nd rfl xj (Zf Zt (Xs (Z0 Z9 (Z0 Z9 (Z0 Z9 (Z0 Z9 (Z0 Z9 (Z0 Z9 (Z0 Z9 (Z0 Z9 Z7))))))))) (Zl Wk (Ze fE hr (Z0 (pv 0) (Z0 Z9 Z7))) Z9)))
  (Z8 (U0 (Ze fN hr (Z0 (pv 0) (Z0 (pv 1) Z7))) (Wb (n:=2) rfl (Y3 (Zj (i:=2) sc.nd rfl (Or.inl rfl)) (Y3 (Zj (i:=3) sc.nd rfl (Or.inl rfl)) Xh))))
  (Z8 (Zi (i:=4) sc.nd rfl (Or.inr rfl) (Ze fM hr (Z0 (Ze eP hr (Z0 (pv 0) (Z0 Z9 Z7))) (Z0 (pv 1) Z7))))
  (Z8 (Zi (i:=5) sc.nd rfl xj (Ze eY hr (Z0 (Ze eP hr (Z0 (pv 0) (Z0 Z9 Z7))) (Z0 (pv 1) Z7))))
  (Z8 (Zi (i:=6) sc.nd rfl xj (Gr gO (hr.mono J6) rfl (Z0 (pv 1) (Z0 (Y6 Yw rfl T.list JN (Z0 (pv 3) Z7)) Z7))))
  (Z8 (Y9 (PW.pt (Re (Vl (Yz (Zw W5 rfl T.isinstance JU (Z0 (pv 6) (Z0 (Qg T.list JN) Z7))))) (Uu (Zn Xm (Zw Zx rfl T.len zm (Z0 (pv 6) Z7)) Z9 (Zq _)))))
   (Zb (Zg Uk))
   Zv)
  (Z8 (Xq JL rfl (Yk (pv 6)) (Zj (i:=7) sc.nd rfl (Or.inl rfl))
   (Zb (Y9 (Vl (Yz (Ze gC hr (Z0 (pv 7) (Z0 (pv 1) Z7)))))
    (Zb (Zg Uk))
    Zv)))
  (Z8 (Zi (i:=8) sc.nd rfl xj (Ze fD hr (Z0 (Yd (ox:=none) (N:=["_law_corner","_law_row_here"]) (k:=1) (fv:=[4]) rfl (Yk (pv 6))
  (λ_ _ _ _ _=>Zj (i:=0) j3 rfl xj) (λ_ _ _ _ _=>Y8) (λ_ _ _ _ _=>(Ze eI hr (Z0 (pv 0) (Z0 (pv 1) Z7)))) Zu) Z7)))
  (Z8 (Y9 (Zn (Z14 (K:=K) a8) (Yl (Z0 (Zf Yg (Ze fS hr (Z0 (pv 1) (Z0 (Y6 Yw rfl T.list JN (Z0 (pv 3) Z7)) (Z0 (pv 4) Z7)))) Z9) (Z0 (Zf Yg (Ze eZ hr (Z0 (pv 1) (Z0 (Y6 Yw rfl T.list JN (Z0 (pv 3) Z7)) (Z0 (pv 4) Z7)))) Z9) Z7))) (pv 8) (Zq _))
   (Zb (Zg Uk))
   Zv)
  (Z8 (Zi (i:=9) sc.nd rfl (Or.inr rfl) (Ze eW hr (Z0 (Yd (ox:=none) (N:=["_law_k"]) (k:=1) (fv:=[]) rfl (Yy rfl T.range (Z0 (pv 1) Z7))
  (λ_ _ _ _ _=>Zj (i:=0) k6 rfl xj) (λ_ _ _ _ _=>Y8) (λ_ _ _ _ _=>(Yl (Z0 Z9 (Z0 Z9 Z7)))) Zu) (Z0 (pv 5) Z7))))
  (Z8 (X6 (i:=10) (ox:=none) (N:=["_law_corner","_law_paper"]) (k:=1) (fv:=[9]) sc.nd rfl xj rfl (Yk (pv 6))
  (λ_ _ _ _ _=>Zj (i:=0) j5 rfl xj) (λ_ _ _ _ _=>Y8) (λ_ _ _ _ _=>(Ze eI hr (Z0 (pv 0) (Z0 (pv 1) Z7)))) Zu)
  (Z8 (Y9 (Zn (Z14 (K:=K) a8) (Ze gQ hr (Z0 (pv 1) (Z0 (Y6 Yw rfl T.list JN (Z0 (pv 3) Z7)) (Z0 (pv 5) Z7)))) (Ze fD hr (Z0 (pv 10) Z7)) (Zq _))
   (Zb (Zg Uk))
   Zv)
  (Z8 (Zi (i:=11) sc.nd rfl xj (Xs Z7))
  (Z8 (Xq JL rfl (Yy rfl T.range (Z0 (Zw Zx rfl T.len zm (Z0 (pv 6) Z7)) Z7)) (Zj (i:=12) sc.nd rfl (Or.inl rfl))
   (Zb (Y9 (Zn N4 (Zf Yu (Zf Zt (pv 10) (pv 12)) Z9) Z9 (Zq _))
    (Zb (Xl (Vt XZ GK GL Xk (pv 11) (Z0 (Ze eS hr (Z0 (Ze eI hr (Z0 (Zf Zt (pv 6) (pv 12)) (Z0 (Ze eW hr (Z0 (pv 4) (Z0 (pv 5) Z7))) Z7))) (Z0 (Zf Zt (pv 10) (pv 12)) Z7))) Z7))))
    Zv)))
  (Z8 (Z3w rfl rfl W X rfl (λ_ _ _ hL=>(Zb (Zi (i:=13) sc.nd rfl xj (M0 gH (hr.mono J6) rfl hL (Z0 (pv 1) (Z0 (Y6 (Pr (K:=K)) rfl T.list JN (Z0 (pv 3) Z7)) (Z0 (pv 5) (Z0 (pv 4) Z7)))))))) (λ_ _ _=>(Zb (Zg (Xi Xm (Zw (Ng (K:=K)) rfl T.len zm (Z0 (pv 11) Z7)) Z9 (Zq _))))))
  (Zb (Zg (Jf (Xi N4 (Zw Zx rfl T.len zm (Z0 (pv 11) Z7)) Z9 (Zq _)) (M3 (Xi (Z7a (K:=K) a8) (pv 13) (Ze fD hr (Z0 (pv 11) Z7)) (Zq _))))))))))))))))))))),?_⟩
 refine Yr (Xa ?_);refine⟨sz8,λq1 k8=>?_⟩;have N1:=Same.new (o:=.lst [V.int 2,V.int 3,V.int 4,V.int 3,V.int 4,V.int 2,V.int 5,V.int 3]) k8;have h6:(upd H q1 (.lst [V.int 2,V.int 3,V.int 4,V.int 3,V.int 4,V.int 2,V.int 5,V.int 3])) q1=some (.lst [V.int 2,V.int 3,V.int 4,V.int 3,V.int 4,V.int 2,V.int 5,V.int 3]):=Za;generalize upd H q1 (.lst [V.int 2,V.int 3,V.int 4,V.int 3,V.int 4,V.int 2,V.int 5,V.int 3])=H1 at *
 refine⟨_,rfl,a,0,ns,rfl,X9 N1 hS,J5,J5,λz=>?_⟩;refine⟨_,_,rfl,rfl,J6,?_⟩;obtain⟨v1,e1,m1⟩:=Z88 (xs:=[V.int 2,V.int 3,V.int 4,V.int 3,V.int 4,V.int 2,V.int 5,V.int 3]) (k:=z % 8) J5 (by show z % 8<8;omega);obtain⟨n,rfl,n2,n5⟩:∃ n:Nat,v1=.int (n:Int)/\2<=n/\n<=5:=by
  simp only [YU,GH,Y0f] at m1;rcases m1 with h | h | h | h | h | h | h | h
  ·exact⟨2,h,J5,J5⟩
  ·exact⟨3,h,J5,J5⟩
  ·exact⟨4,h,J5,J5⟩
  ·exact⟨3,h,J5,J5⟩
  ·exact⟨4,h,J5,J5⟩
  ·exact⟨2,h,J5,J5⟩
  ·exact⟨5,h,J5,J5⟩
  exact⟨3,h,J5,J5⟩
 refine⟨q1,_,_,_,rfl,rfl,SqL.of h6,e1,?_⟩;clear e1 m1 h6;refine Yf ?_;dsimp only;refine Yr (Xa ?_);refine⟨_,rfl,_,rfl,a,n,ns,rfl,X9 N1 hS,J5,J5,λp aw lo H2 Ws ws os S2 ht hw wt O2 fb=>?_⟩;refine⟨_,_,rfl,ht,rfl,_,_,rfl,_,_,rfl,rfl,?_⟩;dsimp only;have few:=fb.few;have h1:=N1.trans S2;refine Yr (Xa ?_);refine⟨_,rfl,a,7,ns,rfl,X9 h1 hS,J6,λb7 H3 i6 S3 B3=>?_⟩;refine⟨_,rfl,b7,n,_,rfl,B3,J5,J5,λag H4 as B4 S4 Ra la six=>?_⟩;have I:=Same.viaX i6 S3 S4;have f3:=h1.trans I;refine Yf ?_;dsimp only;refine Yr (Xa ?_);refine⟨_,rfl,a,8,ns,rfl,X9 f3 hS,J6,λb8 H5 h7 S5 B5=>?_⟩;refine⟨_,rfl,b8,n,_,rfl,B5,J5,J5,λve H6 o B6 S6 Ev=>?_⟩;have c0:=Same.viaX h7 S5 S6;have a6:=I.trans c0;replace Ra:=Ra.same c0;have d7:Tab1 H6 Tb:=.fresh ((f3.trans c0) _ _ hT);have gN:=G1 fb.rep;have g6:(gainsP os os.length).length<=6:=YM Cm J5;obtain⟨ov,oq,oP⟩:=O2;replace oq:=a6 _ _ oq;replace oP:=Yx oP (Ext.same a6);clear f3 I c0 S5 S6 S3 S4 B3 B4 B5 B6 i6 h7;refine Yf ?_;dsimp only;refine Yr (Xa ?_);refine⟨_,rfl,_,rfl,lo,ov,rfl,.inl (SqL.of oq),λl7 k0=>?_⟩;have N7:=Same.new (o:=.lst ov) k0;have q7:(upd H6 l7 (.lst ov)) l7=some (.lst ov):=Za;generalize upd H6 l7 (.lst ov)=H7 at *
 refine⟨l7,n,91,90,os,rfl,⟨n2,n5⟩,⟨ov,q7,Yx oP (Ext.same N7)⟩,J5,J5,λo ho=>(fb.rep o ho).good,g6,gN,J5,J5,d7.same N7,λdt H8 rss o0 X8 T8 RT CR p3=>?_⟩;have f0:=(d7.same N7).tbl;have b5:=(Ext.same N7).trans (Z5f f0 X8);obtain⟨cs,qt,Pt⟩:=RT;have k7:=YY Pt;have c:Cx4 K n lo ag dt ov os as o ve cs rss H8:=⟨X8 _ _ (N7 _ _ oq) λz=>(by
  obtain⟨ps,h⟩:=f0;have e:=N7 _ _ oq;rw[z,h] at e;cases e),Yx oP b5,Ra.ext b5,Ev.ext b5,qt,Pt⟩
 clear X8 N7 q7 T8 b5 f0 d7 qt Pt Ra Ev oq oP;refine Yf ?_;dsimp only;refine Yr ?_;have rB:∀ e'∈paps n++gainsP os os.length,RowN 91 n e':=λe' he=>by
  rcases XS.mp he with he | he
  ·unfold paps at he;obtain⟨w0,_,rfl⟩:=YT.mp he;exact uP_row.mono J5
  exact gN e' he
 have n4:(n - 1)*(91+3)<=4*94:=zV J5 J5;have hs:∀ g∈rss,RowN 380 n g:=λg hg=>(CR.small8 J5 J5 rB hg).mono J5;have f1:(paps n).length=n:=by unfold paps;simp
 have n0:rss.length<=61:=by
  by_cases z:n=5
  ·subst z;exact CR.few11 (by rw[XD,f1];omega)
  have:=CR.few10 n2 n5 (by rw[XD,f1];omega);omega
 have bu:=fb.book;have ww:=fb.wts wt;have Y:∀ rs∈gainsP os os.length,RowR n rs:=λrs hr=>RowR.of (bu.rep rs hr).1 (bu.rep rs hr).2;have ne:rss≠[]:=by
  obtain⟨f,hf,_⟩:=CR.best (ww.toQ Y).inP (λ_=>0);exact Y23 hf
 have p5:=jn.mpr ne;have bm:BookM n 91 724 136 os:=bu.toM g6 J6 J6;clear rB n4 f1 bu;have i8:(cs.map V.ref).length=rss.length:=by rw[YC,k7]
 refine⟨_,rfl,_,_,_,_,rfl,TyOf.lst c.t,U5,_,rfl,?_⟩;refine⟨_,rfl,dt,_,rfl,.inl (SqL.of c.t),?_⟩;rw[i8];refine⟨rfl,_,rfl,?_⟩;rw[XN (λz=>by injection z with z;omega)];refine Xn (Jn ?_);dsimp only;refine Yr ⟨_,rfl,dt,rfl,⟨_,SqL.of c.t⟩,?_⟩;refine U8 (K:=K) (xs:=cs.map V.ref) (λi σ H'=>Same H8 H'/\∃ x,σ=[some (.ref a),some (.int (n:Int)),some (.ref aw),some (.ref lo),some (.ref ag),some ve,some (.ref dt),x,none,none,none,none,none,none]) ⟨Same.refl _,none,rfl⟩ (λi σ H' _ h=>SqL.of (h.1 _ _ c.t)) ?_ ?_
 ·rintro i y σ H9 hy ⟨S9,x9,rfl⟩;have hi:=(YH.mp hy).1;obtain⟨ac,ea⟩:=K9 (l:=cs) (i:=i) J5;obtain⟨O,ez⟩:=K9 (l:=rss) (i:=i) J5;rw[YI,ea] at hy
  cases hy;obtain⟨lr,D1,W1,R1⟩:=hs O (YE ez);refine Yf ?_;dsimp only;exact⟨_,rfl,_,rfl,ac,n,380,O,rfl,(Paired.getB c.c ea ez).ext (Ext.same S9),lr,R1.good,J5,λi4 a5=>⟨_,rfl,Xn ⟨S9.trans a5,_,rfl⟩⟩⟩
 rintro σ H9 ⟨S9,x9,rfl⟩;dsimp only;replace c:=c.same S9;have r6:=RepL.six six;have d0:Lows as:=λr hr=>(six r hr).g.low;have c5:=Xx n o;have a9:=X1 n o;have b4:∀ {H4:Hp} {ac ab:Addr} {O rs:UA} {m:Nat} {D:Int} {Z:TV} {G:VK},O∈rss->RowAt K H4 ac O->RowAt K H4 ab rs->rs.length=n->RepL m D Z rs->m<=1000->(∀ c H5,Same H4 H5->SqT K H5 c [.int (mn O rs).1,.int (mn O rs).2]->G (.ref c) H5)->spMeanP K [.ref ac,.ref ab] H4 G E0:=λ{H4 ac ab O rs m D Z G} mf ra rb lb Rb hm hG=>by
  obtain⟨xa,qa,k4⟩:=ra;obtain⟨xb,qb,m6⟩:=rb;obtain⟨l1,D1,W1,r1⟩:=hs O mf;exact⟨ac,ab,xa,xb,O,rs,380,m,D1,D,W1,Z,rfl,.inr qa,k4,.inr qb,m6,J5,J5,r1,Rb,J5,hG⟩
 have B:∀ {O rs:UA} {m:Nat} {D:Int} {Z:TV},O∈rss->rs.length=n->RepL m D Z rs->m<=1000->Good 1400 (mn O rs):=λ{O rs m D Z} mf lb Rb hm=>by
  obtain⟨l1,D1,W1,r1⟩:=hs O mf;exact (Ry r1 Rb J5 J5).mono J5
 have c9:∀ {H4:Hp} {ab:Addr} {rs:UA} {m:Nat} {D:Int} {Z:TV} {σ:_L.St} {fv:Nat} {G:VK},Cx4 K n lo ag dt ov os as o ve cs rss H4->σ[6]?=some (some (.ref dt))->σ.getD fv none=some (.ref ab)->RowAt K H4 ab rs->rs.length=n->RepL m D Z rs->m<=1000->(∀ d H5 bs,H4 d=none->Same H4 H5->H5 d=some (.lst (bs.map V.ref))->Paired (λc r=>SqT K H5 c [.int r.1,.int r.2]) bs (rss.map λf=>mn f rs)->G (.ref d) H5)->tComp (iList K (tVar 6)) (gName 0) tYes (tCall (spMeanP K) [] E0 (tCons (tVar 0) (tCons (tVar 1) tNil))) 1 [fv] σ H4 G:=λ{H4 ab rs m D Z σ fv G} c4 s6 sv rb lb Rb hm hG=>by
  refine Cv (K:=K) (α:=List Rat) (as:=cs) (zs:=rss) (g:=λf=>mn f rs) (RowAt K) (λ_ _ _ _ e h=>h.ext e) (λH' c r=>SqT K H' c [.int r.1,.int r.2]) (λ_ _ _ _ e h=>e.sq h) (λG hG=>⟨_,s6,hG⟩) (SqL.of c4.t) J5 c4.c (λi ac O i4 G ea ez a5 ra hG=>?_) hG;refine⟨_,rfl,_,?_,b4 (YE ez) ra (rb.same a5) lb Rb hm hG⟩;show some (σ.getD fv none)=_;rw[sv]
 refine Yr (Xa (Z2x (Wz (c9 c rfl rfl c.r la r6 J5 λdm i4 bs o4 a5 qm Pm=>?_))));refine⟨dm,_,rss.map λf=>mn f as,1400,rfl,qm,Rs.of_pairs Pm,by simpa using ne,by rw[YC];omega,λr hr=>?g,J5,λpd ad bd ud vd p4 i0 g4 h5 f6 M=>?_⟩
 case g =>
  obtain⟨f,hf,rfl⟩:=YT.mp hr;exact B hf la r6 J5
 refine Yf ?_;dsimp only;have a1:RepL 136 6 _ as:=r6.mono J6;replace c:=c.same (a5.trans i0);refine Yr ?_;refine⟨_,rfl,Wz (Z53 rfl c.q λl0 o1 e4 f8=>?_)⟩;have b9:=c.same e4;refine⟨_,rfl,l0,ag,n,91,724,136,os,as,6,_,rfl,⟨ov,f8,b9.p⟩,bm,b9.r,la,a1,⟨ws,ww⟩,n2,J5,λl2 p7 a3 m8 o9 p6 d5 lv d2 d4=>?_⟩;refine⟨l2,_,_,_,rfl,rfl,d4,Zh (j:=0) rfl,?_⟩;have e8:=b9.same d5;refine⟨_,rfl,Wz (Z53 rfl e8.q λl4 n1 d8 f9=>?_)⟩;have e5:=e8.same d8;refine⟨_,rfl,l4,ag,n,91,724,136,os,as,6,_,rfl,⟨ov,f9,e5.p⟩,bm,e5.r,la,a1,⟨ws,ww⟩,n2,J5,λm4 o3 a4 m9 n7 h2 i7 mv gv d1 c8=>?_⟩;refine⟨m4,_,_,_,rfl,rfl,c8,Zh (j:=0) rfl,sz2,λc3 h3=>?_⟩;have d6:=Same.new (o:=.tup [V.ref a3,V.ref a4]) h3;have h8:SqT K (upd h2 c3 (.tup [V.ref a3,V.ref a4])) c3 [V.ref a3,V.ref a4]:=SqT.of Za;generalize upd h2 c3 (.tup [V.ref a3,V.ref a4])=l9 at *
 have S:=(d8.trans i7).trans d6;have v:=(e4.trans d5).trans S;obtain⟨e1,e2⟩:=CR.ends Y d0 la M mv lv;refine⟨_,rfl,1,c3,pd,_,_,rfl,rfl,J5,.inr ⟨h8,Zo v g4⟩,Uw e1 e2 (Zo S d2) (Zo v h5) (Zo d6 d1) (Zo v f6),_,rfl,Xn (Jn ?_)⟩;dsimp only;replace c:=c.same v;clear v S e4 d8 d6 d5 i7 f8 f9 h8 d4 c8 d2 d1 g4 h5 f6 M mv lv gv e1 e2 a5 i0 qm Pm b9 e8 e5;refine Yr (Xa ?_);have et:(n:Int).toNat=n:=J5
 refine Z2x (Wz ?_);refine⟨_,rfl,(n:Int),rfl,J5,J5,λd3 g5=>?_⟩;rw[et];refine⟨n,λj zs H'=>Same l9 H'/\Rs K H' (List.replicate j (1,1)) zs,Zy J5,⟨Same.new g5,.nil⟩,?_,?_⟩
 ·rintro j zs H4 hj ⟨S4,R4⟩ j9;refine⟨hj,?_⟩;rintro x' H5 ⟨rfl,rfl⟩;refine Ym ?_;refine⟨sz2,λp m2=>?_⟩;have S6:=Same.new (o:=.tup [V.int 1,V.int 1]) m2;have f4:=S6 _ _ j9;refine⟨f4,Yh (S4.trans S6) g5,?_⟩;rw[Y1J];exact (R4.ext ((Ext.same S6).trans (Ext.upd f4))).snoc ⟨p,rfl,(Ext.upd f4).sq (SqT.of Za)⟩
 rintro zs o6 ⟨e9,g8⟩ c7;refine⟨YJ _,?_⟩;refine⟨_,rfl,d3,ve,zs,List.replicate n (1,1),o,rfl,.inl (SqL.of c7),g8,by rw[GY];exact (c.same e9).e,by rw[GY];omega,λap k9 i2 Rp=>?_⟩;replace Rp:RowAt K k9 ap (papR n o):=Rp;replace c:=c.same (e9.trans i2);refine Yf ?_;dsimp only;refine Yr (Xa (c9 c rfl rfl Rp a9 c5 J5 λdp p0 bp n8 i5 qp Pp=>?_));replace c:=c.same i5;refine Yf ?_;dsimp only;refine Yr ?_;refine⟨_,rfl,Wz (Z53 rfl c.q λk2 n3 f2 i3=>?_)⟩;have e3:=c.same f2;refine⟨_,rfl,k2,ve,n,91,724,136,os,o,rfl,⟨ov,i3,e3.p⟩,bm,e3.e,⟨ws,ww⟩,n2,J5,λj7 al ah n9 p1 g0 st h4 lu p2 g9 mv=>?_⟩;have J:=f2.trans g0;refine⟨_,rfl,dp,_,rss.map (shR n o),1400,rfl,J _ _ qp,(Rs.of_pairs Pp).ext (Ext.same J),by simpa using ne,by rw[YC];omega,λr hr=>?g2,J5,λpe ae be ue m0 c6 a7 c1 c2 b6 M=>?_⟩
 case g2 =>
  obtain⟨f,hf,rfl⟩:=YT.mp hr;exact B hf a9 c5 J5
 obtain⟨e1,e2⟩:=CR.ends Y (Xd n o) a9 M mv lu;refine⟨1,j7,pe,_,_,rfl,rfl,J5,.inr ⟨Zo a7 st,c1⟩,Uw e1 e2 (Zo a7 h4) c2 (Zo a7 g9) b6,_,rfl,Xn (Jn ?_)⟩;dsimp only;have L:=J.trans a7;replace qp:=L _ _ qp;replace Pp:=Paired.mapP Pp λb y h=>(Ext.same L).sq h;replace c:=c.same L;clear L J a7 g0 f2 i3 st h4 g9 c1 c2 b6 M mv lu e1 e2 e9 i2 i5 Rp g8 c7 e3;refine Yr (Xa (Z6b ?_));refine⟨sz0,λdm h9=>?_⟩;have h0:=Same.new (o:=.lst []) h9;have l6:(upd c6 dm (.lst [])) dm=some (.lst []):=Za;generalize upd c6 dm (.lst [])=n6 at *
 refine Yf ?_;dsimp only;refine Yr ⟨_,rfl,dt,_,rfl,.inl (SqL.of (h0 _ _ c.t)),_,rfl,J5,J5,?_⟩;rw[show ((cs.map V.ref).length:Int)=(rss.length:Int) by rw[i8],show ((rss.length:Int)).toNat=rss.length by omega];refine So (lo:=0) (n:=rss.length) (λi σ H'=>Same c6 H'/\(∃ x,σ=[some (.ref a),some (.int (n:Int)),some (.ref aw),some (.ref lo),some (.ref ag),some ve,some (.ref dt),x9,some (.ref pd),some (.ref ap),some (.ref dp),some (.ref dm),x,none])/\∃ bs:List Addr,H' dm=some (.lst (bs.map V.ref))/\Paired (λc r=>SqT K H' c [.int r.1,.int r.2]) bs (((rss.take i).filter λf=>decide (0<(shR n o f).1)).map (meanE n o as))) ⟨h0,⟨_,rfl⟩,[],l6,.nil⟩ ?_ ?_
 ·rintro i σ d9 hi ⟨I,⟨l5,rfl⟩,bs,a2,a0⟩;have e0:(0+(i:Int))=((i:Nat):Int):=J5
  rw[e0];have k3:=YY Pp;rw[YC] at k3;obtain⟨ac,ea⟩:=K9 (l:=cs) (i:=i) J5;obtain⟨ab,eb⟩:=K9 (l:=bp) (i:=i) J5;obtain⟨O,ez⟩:=K9 (l:=rss) (i:=i) J5;have c4:=c.same I;have mf:=YE ez;have j8:=Paired.getB (R:=λc (r:Rat)=>SqT K c6 c [.int r.1,.int r.2]) Pp eb (show (rss.map (shR n o))[i]?=some (shR n o O) by rw[YI,ez];rfl);have sb:SqT K d9 ab [.int (shR n o O).1,.int (shR n o O).2]:=Zo I j8;have k1:(cs.map V.ref)[i]?=some (V.ref ac):=by rw[YI,ea];rfl
  have i9:(bp.map V.ref)[i]?=some (V.ref ab):=by rw[YI,eb];rfl
  have b3:=YY a0;have lf:=GN (λf=>decide (0<(shR n o f).1)) (rss.take i);rw[JX] at lf;rw[YC] at b3;refine Yf ?_;dsimp only;refine⟨_,rfl,_,rfl,dp,_,_,_,rfl,rfl,SqL.of (I _ _ qp),Zh i9,ab,_,_,rfl,rfl,sb,_,_,rfl,rfl,_,rfl,?_⟩;by_cases z:0<(shR n o O).1
  ·rw[XE z];refine U6 ?_;refine⟨_,rfl,.inl ⟨rfl,_,SqL.of a2⟩,?_⟩;refine⟨_,rfl,_,rfl,dt,_,_,_,rfl,rfl,SqL.of c4.t,Zh k1,?_⟩;obtain⟨xa,qa,ra⟩:=c4.r;refine⟨_,rfl,_,rfl,ag,ve,xa,as,o,rfl,.inr qa,ra,by rw[la];exact c4.e,J5,λah j6 i1 m3=>?_⟩;have lc:(cutR o as).length=n:=by rw[Yo];exact la
   refine b4 mf ((Paired.getB c4.c ea ez).ext (Ext.same i1)) m3 lc (r6.cut o) J5 λam k5 a6 sm=>?_;have u:=i1.trans a6;refine⟨_,rfl,_,rfl,dp,_,_,_,rfl,rfl,SqL.of ((I.trans u) _ _ qp),Zh i9,?_⟩;refine⟨am,ab,mn O (cutR o as),shR n o O,1400,rfl,sm,Zo u sb,B mf lc (r6.cut o) J5,B mf a9 c5 J5,z,J5,λj0 e7 _ b0 j1=>?_⟩;have U:=u.trans b0;have g7:=U _ _ a2;refine⟨dm,_,_,rfl,rfl,g7,JK (show (bs.map V.ref).length<=1000 by rw[YC];omega) J6,?_⟩;have f7:Ext e7 (upd e7 dm (.lst (bs.map V.ref++[V.ref j0]))):=Ext.upd g7;refine⟨Yh (I.trans U) h9,⟨_,rfl⟩,bs++[j0],by rw[XF];exact Za,?_⟩;rw[Yj ez,GD,XF,Y1k (by exact XE z)];exact Paired.appP (Paired.mapP a0 λb y h=>((Ext.same U).trans f7).sq h) (.cons (f7.sq (SqT.of j1)) .nil)
  rw[XN z];refine Xn ⟨I,⟨_,rfl⟩,bs,a2,?_⟩;rw[Yj ez,GD,Y1l (by rw[XN z];decide)]
  simpa using a0
 rintro σ d9 ⟨I,⟨l5,rfl⟩,bs,a2,a0⟩;rw[GA] at a0;have b3:=YY a0;rw[YC] at b3;have lf:=GN (λf=>decide (0<(shR n o f).1)) rss;dsimp only;refine Fy (λcls dd H'=>cls=.ref C/\Same d9 H'/\∃ T gs,NoneT n (gainsP os os.length) o gs T) (λEX m5=>?_) ?_
 case refine_2 =>
  rintro cls dd H' ⟨rfl,S',T',gs,nt⟩;refine⟨rfl,?_⟩;have z:bs=[]:=by
   refine zX ?_;rw[b3];refine List.length_eq_zero_iff.mpr (Y1v.mpr λf hf y=>?_);have:=nt.noshareq Y (CR.isw hf);have:=XI y;omega
  subst z;refine Gj ?_;refine⟨_,rfl,dm,_,rfl,.inl (SqL.of (S' _ _ a2)),rfl,?_⟩;exact k _
 replace c:=c.same I;refine⟨_,rfl,Wz (Z53 rfl c.q λl3 j6 e6 j4=>?_)⟩;have f5:=c.same e6;refine⟨_,rfl,_,rfl,l3,ag,ve,n,91,724,136,os,o,as,6,_,rfl,⟨ov,j4,f5.p⟩,bm,f5.e,f5.r,la,a1,⟨ws,ww⟩,n2,J5,λj2 o2 o5 o7 o8 k5 a6 st sa sb cv cu gu gv=>?_,λd3 T3 m7 H' S' nt=>m5 _ _ _ ⟨rfl,e6.trans S',T3,m7,nt⟩⟩;obtain⟨nn,l8⟩:=CR.means Y d0 la cv cu gu.low;have u:=e6.trans a6;have pos:0<bs.length:=by
  rw[b3];exact jn.mpr nn
 refine Yf ?_;dsimp only;refine Gj ?_;refine⟨_,rfl,dm,_,rfl,.inl (SqL.of (u _ _ a2)),_,_,rfl,rfl,_,rfl,?_⟩;rw[YC,XE (show (0:Int)<(bs.length:Int) by omega)];refine U6 ?_;refine⟨_,rfl,_,rfl,dm,_,_,2810,rfl,u _ _ a2,(Rs.of_pairs a0).ext (Ext.same u),λz=>nn (List.map_eq_nil_iff.mp z),by rw[YC];omega,λr hr=>?g3,J5,λpe ae be ue m0 e7 b0 c1 c2 b6 M=>?_⟩
 case g3 =>
  obtain⟨f,hf,rfl⟩:=YT.mp hr;obtain⟨hf,z⟩:=XA.mp hf;have z:=XI z;have g1:=B hf (show (cutR o as).length=n by rw[Yo];exact la) (r6.cut o) J5;have g2:Good 1400 (shR n o f):=B hf a9 c5 J5;exact Wl ((g1.b1.mul g2.b2).mono J5) ((g1.b2.mul g2.b1).mono J5) (zO (XG g1.pos z))
 obtain⟨e1,e2⟩:=l8 M;refine⟨1,j2,pe,_,_,rfl,rfl,J5,.inr ⟨Zo b0 st,c1⟩,Uw e1 e2 (Zo b0 sa) c2 (Zo b0 sb) b6,?_⟩;exact k _
end
def Z5n {x:Str}{sl:Array (Option Value)}{kV:Value}(X:K.In h)(G:h.Ns mainGlobals mg)
  (a:W.nsIn K mainGlobals x=some (some (.ref f))) (l:K.lookup f=some ⟨oc,od,.func (W.fnOf x x (defArgs st) (defBody st) (defScope st) .none kV dc pm an (.ref cc) ct),sl⟩) (c:W.codeIn K (.ref cc) x=true) (k:W.keepIn K (.ref f)=true)
  (b:∀ (kV doc pm:Value) (an:TQ) (cdv ct:Value) (us:TH),us.length=ps.length->bindArgs (W.fnOf x x (defArgs st) (defBody st) (defScope st) .none kV doc pm an cdv ct) ⟨us,[]⟩=pure (ps.zip us)):DefC K mg x st ps cc :=
 ⟨f,_,U7 l c k,Y0J X G a,(U7 l c k).binds b,rfl⟩
def Z54 {P:TU}{x:Str}{fa:Addr}{sl:Array (Option Value)}{kV:Value}{n:Nat}(X:K.In h)(G:h.Ns mainGlobals mg)(d:mg "law"=some (.ref fa))
  (a:W.nsIn K mainGlobals "law"=some (some (.ref f))) (l:K.lookup f=some ⟨oc,od,.func (W.fnOf "law" "law" (defArgs st) (defBody st) (defScope st) .none kV dc pm an cd ct),sl⟩) (c:W.codeIn K cd "law"=true) (k:W.keepIn K (.ref f)=true)
  (b:∀ (s:Shared) (v:Value),BindsTo s (W.fnOf "law" "law" (defArgs st) (defBody st) (defScope st) .none kV dc pm an cd ct) ⟨[v],[]⟩ [(x,v)])
  (ok:∀ (fd:FuncData) (base:Heap),K.In base->BltIn mg base->Fun K "law" "law" st fa fd->FnOk P w K mg base CX0 n fa fd [x] sp sr) :
  ∃ fd:FuncData,(∀ (s:Shared) (v:Value),BindsTo s fd ⟨[v],[]⟩ [(x,v)])/\∀ base:Heap,K.In base->base.Ns mainGlobals mg->BltIn mg base->FnOk P w K mg base CX0 n fa fd [x] sp sr:=by
 have e:=d.symm.trans (Y0J X G a)
 cases e;exact⟨_,b,λbase kb _ hB=>ok _ base kb hB (U7 l c k)⟩
end _b
def _b.len0 {us:List PySem.Value}(h:us.length=0):us=[]:=zX h
def _b.len1 {us:List PySem.Value}(h:us.length=1):∃ a0,us=[a0]:=by
 cases us with
 | nil=>cases h
 | cons a0 t =>
  obtain rfl:=_b.len0 (Y0j h);exact⟨a0,rfl⟩
def _b.len2 {us:List PySem.Value}(h:us.length=2):∃ a0 a1,us=[a0,a1]:=by
 cases us with
 | nil=>cases h
 | cons a0 t =>
  obtain⟨a1,rfl⟩:=_b.len1 (Y0j h);exact⟨a0,a1,rfl⟩
namespace PySem.W.Fast
def q:True:=⟨⟩
def tw14705931533094198994:=q
def te2272181520591502629:=q
def tw2272181520591502629:=q
def tw10451324205077100679:=q
def tw3617062143559430578:=q
def tw16227340032281392783:=q
def tw11915365073833620960:=q
def tw15776564104331416657:=q
def tw7210008056803056258:=q
def tw16104210576150963273:=q
def tw15451175713283390167:=q
def tw15398457381856821108:=q
def tw6019999314574512669:=q
def tw13116961381301523087:=q
def tw5658322183760074227:=q
def tw9718476926794499347:=q
def tw5571330812817096118:=q
def tw17174303217881325061:=q
def tw11523919086536139835:=q
def tw2597301716833427177:=q
def tw9454801787276915885:=q
def tw1770990562669029668:=q
def tw3485067775403065329:=q
def tw1336724038046440453:=q
def tw4076218352455521624:=q
def tw11295370900209149944:=q
def tw14157116597688035491:=q
def tw14342857158383060498:=q
def tw8577257855417455568:=q
def tw16685120451401410503:=q
def tw12496700018844190585:=q
def tw3671711071360417928:=q
def tw15868518028520901218:=q
def tw2292779399669196408:=q
def tw12051167412173551323:=q
def tw12372774310926695939:=q
def tw14564366714463001558:=q
def tw12115846066176356287:=q
def tw3849383342318566233:=q
def tw17318681232710509823:=q
def tw14023949785810516200:=q
def tw10185146812272025311:=q
def tw746833483191510143:=q
def tw16529144852272390301:=q
def tw14796267590970398193:=q
def tw9970090964091869264:=q
def tw16527703389320207647:=q
def tw13505568838534255495:=q
def tw1887635353311494082:=q
def tw6550096174094501923:=q
def tw10266797882616215821:=q
def tw5603807368982554201:=q
def tw5595401727857055123:=q
def tw13591324595392339636:=q
def tw2355470120895728719:=q
def tw8270930922966974546:=q
def tw13050739225511805894:=q
def tw1070268227448731833:=q
def tw1189304863172712212:=q
def tw13769397468624910526:=q
def tw16384562348996646923:=q
def tw5330908112654409553:=q
def tw7461302659545520215:=q
def tw16486197132542858250:=q
def tw15086698105539873584:=q
def tw11143675122982838869:=q
def tw2149368520809428209:=q
def tw4988038036102899288:=q
def tw1147269026987463922:=q
def tw5942871477103318450:=q
def tw16264512975297566896:=q
def tw8580238303395322442:=q
def tw10912154116425425775:=q
def tw12488535509052531159:=q
def tw8167601404303331718:=q
def tw8103197094868875381:=q
def tw11202997269271295699:=q
def tw1338510169201577402:=q
def tw13639293692571154953:=q
def tw6103215144939699637:=q
def tw6173583904903924405:=q
def tw10918364773640828432:=q
def tw8371507108527711191:=q
def tw2956838254826979909:=q
def tw16325794197446650282:=q
def tw7594816399453002460:=q
def tw498932581366912051:=q
def tw8388292174185689483:=q
def tw5410365671045390155:=q
def tw13198207213680431012:=q
def tw9161317789573054141:=q
def tw7099922856780458627:=q
def tw5266177461241552972:=q
def tw3665134822756481202:=q
def tw1079265062109276488:=q
def tw14579842759936363999:=q
def tw15574493056142861037:=q
def tw9283267264775637668:=q
def tw14191878183423661045:=q
def tw7318667717862614801:=q
def tw5207518751052545071:=q
def tw6884562248004275515:=q
def tw13250618105506323576:=q
def tw6779769944308688354:=q
def tw4583768714771201957:=q
def tw10968511487060396898:=q
def tw12958679113346592676:=q
def tw9093660185399269016:=q
def tw8649144701889083209:=q
def tw6034418249682234861:=q
def tw1228028011119021808:=q
def tw1163676931578208275:=q
def tw6656617811243215101:=q
def tw17242412976423269351:=q
def tw14520612512440971678:=q
def tw13128409030209167486:=q
def tw16151449673172262267:=q
def tw446976150999134015:=q
def tw4680318501104922891:=q
def tw15398494731913931093:=q
def tw9445300673810191301:=q
def tw665473008480856594:=q
def tw5940914416023974970:=q
def tw350345042385332392:=q
def tw9353749311273486000:=q
def tw419824093496593171:=q
def tw4574004763893611518:=q
def tw4241189932696149095:=q
def tw16243994940630953765:=q
def tw13029770431202387449:=q
def tw7186847986801339947:=q
def tw10179457249922208896:=q
def tw1144740467873715821:=q
def tw17189643857306365887:=q
def tw1875811908615822844:=q
def tw546435608930389673:=q
def tw8759448710209495977:=q
def tw8382016229881463125:=q
def tw2082454304626918334:=q
def tw16624313792641328096:=q
def tw9098339006056899829:=q
def tw461630323718804200:=q
def tw13116247557969777031:=q
def tw16593676152877381153:=q
def tw5489062274278020526:=q
def tw707425339753876936:=q
def tw16295681000663255923:=q
def tw8589127321768547573:=q
def tw2050262924460453191:=q
def tw2988572800252173428:=q
def tw7520957140897943286:=q
def tw16952969560465720663:=q
def tw18346562748485627335:=q
def tw5233595216175931541:=q
def tw18228830795052013884:=q
def tw12133904101242887265:=q
def tw17269896068813144793:=q
def tw8451000765141808894:=q
def tw4207103446247014372:=q
def tw8153894909618800685:=q
def tw5459755196200212607:=q
def tw10419305616643648842:=q
def tw1278876521779523010:=q
def tw14296976437909292734:=q
def tw9507228865659153605:=q
def tw15408169942605965465:=q
def tw3682460877897361566:=q
def tw4428823512338803165:=q
def tw8099586135014747632:=q
def tw7118160129889253917:=q
def tw11057201627263077020:=q
def tw5530763660483344851:=q
def tw5563630370752555552:=q
def tw9933337629477844424:=q
def tw16515932545225410409:=q
def tw17512028012902924727:=q
def tw10157994811304866034:=q
def tw18212875562386476026:=q
def tw8853314290984198881:=q
def tw13197345456492041434:=q
def tw8391373379994624936:=q
def tw1205066026510373859:=q
def tw13733785309767652238:=q
def tw8039765849831962158:=q
def tw4038860443890480986:=q
def tw8284109358231092326:=q
def tw7442188606092829522:=q
def tw13753940632489359605:=q
def tw6528964978536238421:=q
def tw7491373109411308045:=q
def tw2834664489551140134:=q
def tw8248325371610411653:=q
def tw10030130385120700704:=q
def tw11439346089408884695:=q
def tw8227188932318082680:=q
def tw9385738664706076409:=q
def tw3392623496679750568:=q
def tw2302095943795202520:=q
def tw8464140882118489019:=q
def tw7741035837256286706:=q
def tw14775381787867550116:=q
def tw16407637133362914357:=q
def tw7508752191403515262:=q
def tw7759810459585133158:=q
def tw14933854567986635730:=q
def tw13909886001253014415:=q
def tw13297036960014076257:=q
def tw9310379500934536444:=q
def tw8775384022099278228:=q
def tw4847657047413459520:=q
def tw14793649269335075289:=q
def tw12802584780121690318:=q
def tw466423585505460337:=q
def tw938042174292685270:=q
def tw13833600820218364291:=q
def tw3492408362941601934:=q
def tw12911266590622499583:=q
def tw1427183052017272894:=q
def tw11627042526514586354:=q
def tw3490109339828756708:=q
def tw16573221427373658552:=q
def tw15258040779553968254:=q
def tw2410165479041438432:=q
def tw17445759188355682846:=q
def tw18356443353610709092:=q
def tw5662542062818195985:=q
def tw9415038492293677072:=q
def tw4405191805484891491:=q
def tw11538796544006724186:=q
def tw14053084151759830375:=q
def tw1646274402312423502:=q
def tw10298599718332136208:=q
def tw8168215601142766513:=q
def tw13494774680975592770:=q
def tw401384911447192664:=q
def tw14233609853671985200:=q
def tw18230210510551349686:=q
def tw3511550123470210743:=q
def tw14906620996153911248:=q
def tw15522666236017888321:=q
def tw4047027803077438831:=q
def tw17220576151820473738:=q
def tw9898393614824843959:=q
def tw4857140726800877708:=q
def tw5925750103059147847:=q
def tw11382231056035137392:=q
def tw2534065130232817623:=q
def tw14467509993975524452:=q
def tw5714099749089852890:=q
def tw3942501631155521762:=q
def tw9339872755514988998:=q
end PySem.W.Fast
abbrev _b.pk:PySem.Program:=PySem.Challenge.rw_surebook_k44_whole_corners_price.prog
abbrev _b.DZ{K:PySem.W.Frag}{h:PySem.Heap}(X:K.In h):=_b.Def (_L.KOf X)
open PySem PySem.W PyProof.Rows _b
set_option maxRecDepth 100000 in
set_option maxHeartbeats 0 in
theorem PySem.Challenge.cw_surebook_k44_whole_corners_price_holds : PySem.Challenge.rw_surebook_k44_whole_corners_price.Holds := by
 w_on; o_law; k_head; (case hw=>w_witness2)
 k_fill
 refine Bh (l:=PySem.Challenge.rw_surebook_k44_whole_corners_price) (n:=63) (k:=10) (x:="_law_script") (T:=248) (CX:=λ_=>_L.CX0) (sp:=λw=>spLaw _ 248) (sr:=true) rfl (by decide) ?IQ rfl rfl ⟨λ_=>rfl,by decide,by decide⟩ (λw h Y=>⟨PySem.W.km_in_of Y,PySem.W.km_tabs_of Y 248 (XC ..)⟩) (λw=>?TK) (λw=>?CC) ?F (λw H a ns hl hO hS=>⟨a,ns,rfl,hS,hO.1,λ_=>rfl⟩) (λ_ _ _ _ _ z=>z)
 case IQ=>kernel_rfl
 case TK=>kernel_rfl
 case CC=>exact ⟨252,by kernel_rfl⟩
 case F =>
  intro w mg fa h KX G hmg;have T:Blt mg:=by
   refine'⟨XV KX G ?z0,XV KX G ?z1,XV KX G ?z2,XV KX G ?z3,XV KX G ?z4,XV KX G ?z5,XV KX G ?z6,XV KX G ?z7,XV KX G ?z8,XV KX G ?z9,XV KX G ?z10,XV KX G ?z11,XV KX G ?z12⟩
   case z0|z1|z2|z3|z4|z5|z6|z7|z8|z9|z10|z11|z12=>k_is
  have⟨nY,lF,pE,pZ,qP,p7,pV,pD,pU,lQ,nV,qC⟩:DZ KX mg "is_whole" i9 ["value"]/\DZ KX mg "common_divisor" iJ UH/\DZ KX mg "lowest" jJ UI/\DZ KX mg "ratio" jH UI/\DZ KX mg "plus" kC UH/\DZ KX mg "minus" j0 UH/\DZ KX mg "times" jU UH/\DZ KX mg "parted" i6 UH/\DZ KX mg "under" jT UH/\DZ KX mg "common_bottom" iO ["several"]/\DZ KX mg "whole_by" i3 UZ/\DZ KX mg "added" j9 UH:=by
   dsimp only [_L.KOf,DZ];exact⟨Zm KX G,Zm KX G,Zm KX G,Zm KX G,Zm KX G,Zm KX G,Zm KX G,Zm KX G,Zm KX G,Zm KX G,Zm KX G,Zm KX G⟩
  have⟨mK,pB,qQ,p9,qV,nX,qR,nU,pY,qA,oR,lG⟩:DZ KX mg "multiplied" iP VF/\DZ KX mg "turned" jE ["row"]/\DZ KX mg "mean" kD VO/\DZ KX mg "is_in" kG UV/\DZ KX mg "cut" kT UW/\DZ KX mg "paper_of" i7 UY/\DZ KX mg "gain" kH ["offer","word"]/\DZ KX mg "words_of" iZ ["offer"]/\DZ KX mg "sides" jY VE/\DZ KX mg "gains" j5 VE/\DZ KX mg "touched" i5 VP/\DZ KX mg "are_neighbours" iK VR:=by
   dsimp only [_L.KOf,DZ];exact⟨Zm KX G,Zm KX G,Zm KX G,Zm KX G,Zm KX G,Zm KX G,Zm KX G,Zm KX G,Zm KX G,Zm KX G,Zm KX G,Zm KX G⟩
  have⟨n9,oW,nZ,oX,mE,oS,pG,m9,oV,mL,nC,nW⟩:DZ KX mg "crossing" iY VQ/\DZ KX mg "cut_off" jQ VS/\DZ KX mg "is_ahead" jB UH/\DZ KX mg "corners" jD VJ/\DZ KX mg "first_table" iQ ["lines"]/\DZ KX mg "line_of" jK UL/\DZ KX mg "end_of" j8 UM/\DZ KX mg "number_at" iV UN/\DZ KX mg "helping" jC UL/\DZ KX mg "goes_ahead" iS UQ/\DZ KX mg "going_out" iW ["table","column"]/\DZ KX mg "replaced" iU UR:=by
   dsimp only [_L.KOf,DZ];exact⟨Zm KX G,Zm KX G,Zm KX G,Zm KX G,Zm KX G,Zm KX G,Zm KX G,Zm KX G,Zm KX G,Zm KX G,Zm KX G,Zm KX G⟩
  have⟨qB,nD,pH,mJ,pW,lA,pX,pF,lO,pT,p8,pC⟩:DZ KX mg "freed" j6 US/\DZ KX mg "exchanged" iT UU/\DZ KX mg "driven" jP UL/\DZ KX mg "whole_line" iR ["row","end"]/\DZ KX mg "start" jV VA/\DZ KX mg "shown_multiples" iI VB/\DZ KX mg "solve" jW VC/\DZ KX mg "judged" jO VJ/\DZ KX mg "refuse_beaten" iL VJ/\DZ KX mg "upper" jS VM/\DZ KX mg "lower" j1 VM/\DZ KX mg "shares" jF VN:=by
   dsimp only [_L.KOf,DZ];exact⟨Zm KX G,Zm KX G,Zm KX G,Zm KX G,Zm KX G,Zm KX G,Zm KX G,Zm KX G,Zm KX G,Zm KX G,Zm KX G,Zm KX G⟩
  have⟨lP,oU,nJ,mM,oF,nE,oC,nF,mS,mP,lS,mG⟩:DZ KX mg "greatest_left" iN VL/\DZ KX mg "learned" i8 VL/\DZ KX mg "_law_cell" kK UF/\DZ KX mg "_law_whole" jR UK/\DZ KX mg "_law_bag" kU UG/\DZ KX mg "_law_take" kB ["_law_bag_here","_law_many"]/\DZ KX mg "_law_low" kP ["_law_top","_law_bottom"]/\DZ KX mg "_law_plus" j2 UJ/\DZ KX mg "_law_minus" jN UJ/\DZ KX mg "_law_times" jM UJ/\DZ KX mg "_law_is_ratio" jA UK/\DZ KX mg "_law_is_row" j4 VT:=by
   dsimp only [_L.KOf,DZ];exact⟨Zm KX G,Zm KX G,Zm KX G,Zm KX G,Zm KX G,Zm KX G,Zm KX G,Zm KX G,Zm KX G,Zm KX G,Zm KX G,Zm KX G⟩
  have⟨mO,mF,nG,oE,mQ,oA,lZ,mT,oB,mR,lH,nI⟩:DZ KX mg "_law_under" jL UJ/\DZ KX mg "_law_parted" jI UJ/\DZ KX mg "_law_mean" j3 VD/\DZ KX mg "_law_cut" kF UX/\DZ KX mg "_law_small" jX ["_law_bag_here"]/\DZ KX mg "_law_row" kL UO/\DZ KX mg "_law_weights" i4 UO/\DZ KX mg "_law_event" j7 UO/\DZ KX mg "_law_mid" kO VG/\DZ KX mg "_law_offer" jZ VH/\DZ KX mg "_law_fair_book" iX VI/\DZ KX mg "_law_ends" kJ ["_law_some"]:=by
   dsimp only [_L.KOf,DZ];exact⟨Zm KX G,Zm KX G,Zm KX G,Zm KX G,Zm KX G,Zm KX G,Zm KX G,Zm KX G,Zm KX G,Zm KX G,Zm KX G,Zm KX G⟩
  have kZ:Con (_L.KOf KX) mg "NOUGHT" (0,1):=by
   dsimp only [_L.KOf,DZ];refine' Z2t KX G ?a ?l
   case a|l=>k_is
  have qM:Con (_L.KOf KX) mg "ONE" (1,1):=by
   dsimp only [_L.KOf,DZ];refine' Z2t KX G ?a ?l
   case a|l=>k_is
  have qU:ConI mg "ROW" 0:=by
   refine' Q1 KX G ?a
   (case a=>k_is)
  have qO:ConI mg "ASK" 1:=by
   refine' Q1 KX G ?a
   (case a=>k_is)
  have qN:ConI mg "BID" 2:=by
   refine' Q1 KX G ?a
   (case a=>k_is)
  have pR:ConI mg "EVENT" 3:=by
   refine' Q1 KX G ?a
   (case a=>k_is)
  have y_Table:TabHere (_L.KOf KX) mg:=by
   dsimp only [_L.KOf,DZ];refine' Z6j KX G ?xaC ?xa1 ?xi1 ?xl1 ?xc1 ?xk1 ?xpg ?xhd ?xpo ?xsa ?xmk ?xkc ?xnL ?xnO ?xnH ?xnB ?xnK
   case xaC|xa1|xi1|xl1|xc1|xk1|xpg|xhd|xpo|xsa|xmk|xkc|xnL|xnO|xnH|xnB|xnK=>k_is
  obtain ⟨C_T,f_T,fd_T,tc,mk_T,F_T,b_T⟩:=y_Table;have y_NC:ErrHere (_L.KOf KX) mg "NoChance" "NoChance.__init__" iM:=by
   dsimp only [_L.KOf,DZ];refine' Z80 KX G ?zNCeC ?zNCe1 ?zNCei ?zNCel ?zNCec ?zNCek ?zNCes ?zNCen ?zNCeg ?zNCeh ?zNCex ?zNCet ?zNCeu ?zNCem ?zNCeb ?zNCeo ?zNCebd
   case zNCeC|zNCe1|zNCei|zNCel|zNCec|zNCek|zNCes|zNCen|zNCeg|zNCeh|zNCex|zNCet|zNCeu|zNCem|zNCeb=>k_is
   (case zNCeo=>kernel_rfl); (case zNCebd=>exact λus hl=>by obtain ⟨a0,a1,rfl⟩:=len2 hl; rfl)
  obtain ⟨C_NC,f_NC,fd_NC,x_NC,F_NC,b_NC,s_NC,r_NC⟩:=y_NC;have y_base:BaseHere (_L.KOf KX) mg "SureError":=by
   dsimp only [_L.KOf,DZ];refine' Z5t KX G ?ba ?br ?bt ?bf
   case ba|br|bt|bf=>k_is
  obtain ⟨D_SE,B_SE⟩:=y_base;have y_cNC:CatchHere (_L.KOf KX) mg "NoChance" "NoChance":=by
   dsimp only [_L.KOf,DZ];refine' Z2v KX G ?xcNCa ?xcNCb ?xcNCn ?xcNCe ?xcNCi ?xcNCk
   (case xcNCa=>k_is); (case xcNCb=>k_is); (case xcNCn=>k_is); (case xcNCe=>k_is); (case xcNCi=>kit_is); (case xcNCk=>k_is)
  obtain ⟨Cq_cNC,D_cNC,k_cNC,m_cNC,n_cNC⟩:=y_cNC;obtain rfl:=Z1w m_cNC x_NC.bd;obtain rfl:=Z1w n_cNC x_NC.bd;have n_sorted:mg "sorted"=none:=by
   refine' XV KX G ?z
   (case z=>k_is)
  have n_all:mg "all"=none:=by
   refine' XV KX G ?z
   (case z=>k_is)
  have n_dict:mg "dict"=none:=by
   refine' XV KX G ?z
   (case z=>k_is)
  have y_rising:∃ cc,DefC (_L.KOf KX) mg "rising" jG ["rows"] cc/\PySem.W.codeHdIn (_L.KOf KX) cc 248=true:=by
   dsimp only [_L.KOf,DZ];refine' ⟨_,Z5n KX G ?a ?l ?c ?k (λ_ _ _ _ _ _ _ h=>by obtain⟨a0,rfl⟩:=len1 h;rfl),?t⟩
   case a|l|c|k=>k_is
   (case t=>kernel_rfl)
  obtain ⟨cc,dc_rising,hcc⟩:=y_rising;refine' Z54 (st:=kR) KX G hmg ?a ?l ?c ?k ?b ?ok
  case a|l|c|k=>k_is
  (case b=>exact λs v=>.of_eq rfl)
  case ok =>
   intro fd base kb hB F;have lN:=Z7o (P:=pk) (w:=w) (base:=base) nJ T;have kW:=Z8r (P:=pk) (w:=w) (base:=base) oC T;have mD:=Z7p oF lN;have kY:=Z7d (P:=pk) (w:=w) (base:=base) nE;have k6:=Z8t (P:=pk) (w:=w) (base:=base) lF T;have k7:=Z1g pE k6;have lL:=Z4l nF kW;have m8:=Z1k mS kW;have m5:=Z1j mP kW;have mY:=Z48 (P:=pk) (w:=w) (base:=base) mM T;have lV:=Z7j lS T mY kW;have k8:=Z1e mF kW;have oJ:=Dw (P:=pk) (w:=w) (base:=base) nY T;have mW:=Z1d pZ oJ k7;have lI:=Z1i (P:=pk) (w:=w) (base:=base) oS tc;have pO:=Z4t pG tc lI;have nP:=Z4i m9 tc lI;have o0:=Dx oV T tc lI;have m6:=Z1b mQ kY kW;have mB:=Z7e oA T m6;have l9:=Jh lZ T kY kW;have mX:=Z7l (P:=pk) (w:=w) (base:=base) mL tc;have nQ:=Z4n nC T tc mX;have l8:=Ji (P:=pk) (w:=w) (base:=base) nW T;have qK:=Z4o qB T l8;have c_T:HasT _ w (_L.KOf KX) mg base C_T:=⟨f_T,fd_T,mk_T,Z4b (P:=pk) (w:=w) (base:=base) F_T tc,b_T⟩;have nR:=Z7n nD tc c_T qK l8;have mH:=Z4p mE T tc c_T;have pP:=Z1n pH tc o0 nR nQ;have qI:=Z7k (P:=pk) (w:=w) (base:=base) p9;have pQ:=Z8v qV T qI kZ;have mC:=Z7i (P:=pk) (w:=w) (base:=base) oE T;have k9:=Z4h nX pQ qM;have kX:=Z1p lQ k6;have l6:=Dq (P:=pk) (w:=w) (base:=base) nV;have mU:=Lv mJ kX l6;have qF:=Z4c pW mU k9 mH;have lC:=Z4f lA T tc nP kX mW;have lB:=Z1a pX T tc pQ qF pP lC kX mW pO;have qW:=Z4d lB;have lM:=Z1l nG T lL m5;have lE:=Z4r mT T kY;have lX:=Z4j p7 k7;have qT:=Z7m qR T lX pQ qU qO qN pR;have oG:=Z47 (P:=pk) (w:=w) (base:=base) nU qO qN;have qH:=Z4e pY T oG;have lY:=Z1m qA qH qT;have qD:=Z4a pV k7;have lD:=Me mK T qD;have nM:=Z19 pB lD;have oN:=Z8q oB T lM mC k8;have m7:=Z1f mR T kY lE mB oN kW lL m8;have lK:=Z4q lH T mD kY l9 m7;have pM:=Dv pF lB lY kZ;have lT:=Z7f lO pM;have qJ:=Qj (P:=pk) (w:=w) (base:=base) F_NC T x_NC B_SE s_NC;have lU:=Z8u lP x_NC qJ b_NC lB lY lT;have oZ:=Jj oU lU nM lX kZ;have mV:=Z17 pT lB lY;have oQ:=Z1h p8 mV nM lX kZ;have pI:=Du pC k9 mV oQ;have oO:=Z49 (P:=pk) (w:=w) (base:=base) pU;have oK:=Z4u nZ T oO;have pJ:=Z1c dc_rising T n_sorted kb hcc hB oK;have oH:=Z4k qQ T kX l6 mW;have oY:=Dt oR T oH kZ;have qS:=Z7g qP k7;have qL:=Z4v qC T qS;have pK:=Z4g pD k7;have oM:=Jk n9 oH lX pK qL lD qM;have lJ:=Z7h (P:=pk) (w:=w) (base:=base) lG T n_all;have o7:=Z1o oW n_dict oY oO oH lJ oM kZ;have pA:=Dy oX T k9 lY o7 pJ;have mI:=Z4m mG T lV;have mZ:=Z18 (P:=pk) (w:=w) (base:=base) mO;have nS:=Z4s nI mZ;exact Z8s F T k_cNC n_cNC lN mD lK mB lE pA mI lM nS oQ mV mC pI k8 oZ
