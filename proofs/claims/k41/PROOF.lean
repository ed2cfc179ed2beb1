import PyProof.Rows.All
import Wide.All
import OpenK.AllK
import Wide.FinOn
import Lean
import PyProof.EqAt
import PyProof.EqKinds
import PyProof.TupleCall
import PySem.Challenge.RW_surebook_k41_corners_fit
set_option Elab.async false
set_option linter.all false
set_option compiler.extract_closed false
set_option maxRecDepth 100000
set_option maxHeartbeats 3200000
abbrev TB:=PySem.Str->Option PySem.Value
abbrev TC:=PySem.Value->PySem.Shared->Prop
abbrev TD:=List (PySem.Addr × PySem.Obj)
abbrev TF:=List PySem.Str
abbrev TH:=List PySem.Value
abbrev TJ:=List PySem.Addr
abbrev TL:=List PySem.Expr
abbrev TM:=List PySem.Stmt
abbrev TN:=List PySem.Env
abbrev TQ:=Option PySem.Addr
abbrev TR:=PySem.W.Frag
abbrev TU:=PySem.Program
abbrev TV:=List Int
abbrev TW:=Option (Nat->Bool)
abbrev TX:=Nat->Nat
abbrev TY:=Nat->Int
noncomputable abbrev UE:List PySem.Str:=["_law_script","_law_k"]
noncomputable abbrev UF:List PySem.Str:=["_law_script","_law_at"]
noncomputable abbrev UG:List PySem.Str:=["one","other"]
noncomputable abbrev UH:List PySem.Str:=["top","bottom"]
noncomputable abbrev UI:List PySem.Str:=["_law_one","_law_other"]
noncomputable abbrev UJ:List PySem.Str:=["_law_found"]
noncomputable abbrev UK:List PySem.Str:=["table","owner"]
noncomputable abbrev UL:List PySem.Str:=["table","thing"]
noncomputable abbrev UM:List PySem.Str:=["table","owner","thing"]
noncomputable abbrev UN:List PySem.Str:=["_law_bag_here","_law_count"]
noncomputable abbrev UO:List PySem.Str:=["_law_k","_law_bag_here"]
noncomputable abbrev UP:List PySem.Str:=["table","column","one","other"]
noncomputable abbrev UQ:List PySem.Str:=["numbers","place","number"]
noncomputable abbrev UR:List PySem.Str:=["line","key_line","column","bottom"]
noncomputable abbrev US:List PySem.Str:=["self","lines","owners","heads","bottom","lack"]
noncomputable abbrev UT:List PySem.Str:=["table","place","column"]
noncomputable abbrev UU:List PySem.Str:=["world","event"]
noncomputable abbrev UV:List PySem.Str:=["row","event"]
noncomputable abbrev UW:List PySem.Str:=["_law_row_here","_law_event_here"]
noncomputable abbrev UX:List PySem.Str:=["count","event"]
noncomputable abbrev UY:List PySem.Str:=["several","bottom"]
noncomputable abbrev UZ:List PySem.Str:=["count","rows","event","goal"]
noncomputable abbrev VA:List PySem.Str:=["count","rows","table","owner","bottom"]
noncomputable abbrev VB:List PySem.Str:=["count","rows","event","aim"]
noncomputable abbrev VC:List PySem.Str:=["_law_weights_here","_law_row_here"]
noncomputable abbrev VD:List PySem.Str:=["offers"]
noncomputable abbrev VE:List PySem.Str:=["_law_weights_here","_law_row_here","_law_event_here"]
noncomputable abbrev VF:List PySem.Str:=["_law_bag_here","_law_weights_here","_law_loose"]
noncomputable abbrev VG:List PySem.Str:=["weights","row"]
noncomputable abbrev VH:List PySem.Str:=["edges","corner"]
noncomputable abbrev VI:List PySem.Str:=["one","other","row"]
noncomputable abbrev VJ:List PySem.Str:=["touching","one","other"]
noncomputable abbrev VL:List PySem.Str:=["found","edges","row"]
noncomputable abbrev VM:List PySem.Str:=["count","offers"]
noncomputable abbrev VN:List PySem.Str:=["_law_found","_law_count"]
noncomputable abbrev VO:List PySem.Str:=["_law_weights_here","_law_rows"]
noncomputable abbrev VP:List PySem.Str:=["_law_weights_here","_law_told"]
noncomputable abbrev VQ:List PySem.Str:=["_law_corner","_law_rows"]
noncomputable abbrev VR:List PySem.Str:=["_law_script","_law_count"]
abbrev YA:=@PySem.wpAny_bind
abbrev YB:=@List.length_map
abbrev YC:=@PySem.Heap.get?_push_of_some
abbrev YD:=@List.mem_of_getElem?
abbrev YE:=@Classical.byContradiction
abbrev YF:=@if_neg
abbrev YG:=@List.getElem?_eq_some_iff
abbrev YH:=@if_pos
abbrev YI:=@List.getElem?_map
abbrev YJ:=@Nat.le_refl
abbrev YK:=@PySem.wpAny_pure
abbrev YL:=@List.mem_cons_of_mem
abbrev YM:=@List.size_toArray
abbrev YN:=@List.mem_map
abbrev YO:=@Bool.false_ne_true
abbrev YQ:=@PySem.Heap.lt_size
abbrev YR:=@Nat.le_trans
abbrev YS:=@PySem.Heap.get?_push_size
abbrev YT:=@List.mem_cons
abbrev YU:=@Option.some.inj
abbrev YV:=@List.mem_cons_self
abbrev YW:=@List.mem_append_right
abbrev YX:=@Nat.lt_of_lt_of_le
abbrev YY:=@List.length_append
abbrev YZ:=@List.take_of_length_le
abbrev XA:=@decide_eq_true
abbrev XB:=@PySem.Paired.length
abbrev XC:=@List.getD_eq_getElem?_getD
abbrev XD:=@List.mem_singleton
abbrev XE:=@List.mem_filter
abbrev XF:=@decide_eq_false
abbrev XG:=@List.mem_append_left
abbrev XH:=@List.map_append
abbrev XI:=@List.mem_range
abbrev XJ:=@PySem.F.plainAttrs_list
abbrev XL:=@List.getElem?_eq_getElem
abbrev XM:=@Nat.ne_of_lt
abbrev XN:=@List.mem_append
abbrev XO:=@of_decide_eq_true
abbrev XQ:=@List.getElem?_of_mem
abbrev XR:=@List.getElem_mem
abbrev XS:=@PySem.PassesOwn.never
abbrev XT:=@List.length_cons
abbrev XU:=@Int.mul_pos
abbrev XV:=@PyProof.Rows.boot_tuple
abbrev XW:=@Bool.false_eq_true
abbrev XX:=@List.nodup_iff_pairwise_ne
abbrev XY:=@PySem.W.mg_none_of
abbrev XZ:=@List.lookup_cons
abbrev JA:=@PySem.F.slot_list_append
abbrev JB:=@PySem.F.type_list_append
abbrev JC:=@Ne.symm
abbrev JD:=@Nat.lt_of_le_of_lt
abbrev JE:=@Int.mul_comm
abbrev JF:=@PySem.Heap.SameBut.update
abbrev JG:=@List.getElem?_set_self
abbrev JH:=@Nat.le_of_lt
abbrev JI:=@beq_eq_false_iff_ne
abbrev JJ:=@PyProof.Rows.callWith_type1
abbrev JK:=@Nat.zero_le
abbrev JL:=@List.filter_cons
abbrev JM:=@List.getElem?_append_right
abbrev JN:=@PySem.wpAny_callSpecial?_slot
abbrev JO:=@List.getElem?_append_left
abbrev JP:=@List.not_mem_nil
abbrev JQ:=@List.take_length
abbrev JR:=@PyProof.Rows.boot_isinstance
abbrev JS:=@PySem.wpAny_field
abbrev JT:=@PySem.Heap.size_push
abbrev JU:=@PyProof.Rows.boot_list
abbrev JV:=@List.filter_append
abbrev JW:=@List.length_zipWith
abbrev JX:=@PySem.wpAny_call_entry
abbrev JY:=@List.length_take
abbrev JZ:=@Int.mul_le_mul_of_nonneg_right
abbrev GA:=@PySem.wpAny_holding
abbrev GB:=@Nat.lt_irrefl
abbrev GC:=@decide_eq_true_iff
abbrev GD:=@PySem.wpAny_seqItems
abbrev GE:=@Bool.eq_iff_iff
abbrev GF:=@List.nodup_cons
abbrev GG:=@List.range_succ
abbrev GH:=@Nat.le_add_right
abbrev GI:=@List.getElem?_zipWith
abbrev GJ:=@List.getElem?_eq_none
abbrev GK:=@Nat.pow_le_pow_right
abbrev GL:=@PySem.boot_len
abbrev GM:=@List.map_cons
abbrev GN:=@List.append_nil
abbrev GO:=@Int.mul_assoc
abbrev GP:=@PySem.Heap.get?_update_other
abbrev GQ:=@Nat.ne_of_gt
abbrev GR:=@Int.mul_zero
abbrev GS:=@Int.eq_of_mul_eq_mul_left
abbrev GT:=@Array.length_toList
abbrev GU:=@List.take_add_one
abbrev GV:=@List.pairwise_map
abbrev GW:=@PySem.Heap.get?_update_self
abbrev GX:=@Int.natAbs_mul
abbrev GY:=@PySem.wpAny_loadPart'
abbrev GZ:=@PySem.F.slot_dict_keyiterator_next
abbrev qh:=@Int.mul_nonpos_of_nonpos_of_nonneg
abbrev qi:=@List.getElem?_set_ne
abbrev qj:=@List.all_eq_true
abbrev qk:=@PySem.wpAny_truthy_bool
abbrev ql:=@List.length_range
abbrev qm:=@List.map_map
abbrev qo:=@PySem.mem_of_lookup
abbrev qq:=@List.getElem?_range
abbrev qy:=@PySem.sizeLine_eq
abbrev qU:=@List.length_set
abbrev qV:=@if_false
abbrev qW:=@Int.natAbs_dvd_natAbs
abbrev qX:=@List.length_filter_le
abbrev qY:=@PySem.wpAny_isInstance
abbrev qZ:=@PySem.wpAny_Call_Name_kw
abbrev zc:=@Bool.and_eq_true
abbrev zd:=@beq_self_eq_true
abbrev ze:=@Option.isSome_iff_exists
abbrev zf:=@List.eq_of_mem_replicate
abbrev zh:=@List.eq_nil_of_length_eq_zero
abbrev zj:=@PySem.wpAny_typeNameOfWhole_keyiter
abbrev zl:=@Int.toNat_natCast
abbrev zm:=@List.filter_nil
abbrev zn:=@Nat.mul_le_mul_left
abbrev zo:=@PySem.wpAny_rule
abbrev zq:=@PySem.F.slot_tuple_iterator_next
abbrev zt:=@PySem.wpAny_mono
abbrev zu:=@beq_iff_eq
abbrev zv:=@PySem.SeqAt.EqAt.int_int
abbrev zw:=@List.length_replicate
abbrev zx:=@Array.getElem?_eq_getElem
abbrev zy:=@Int.lt_of_mul_lt_mul_left
abbrev zz:=@PySem.wpAny_passesOwn
abbrev zA:=@PySem.SeqAt.EqAt.same
abbrev zB:=@Nat.lt_of_succ_lt
abbrev zC:=@Nat.lt_succ_of_lt
abbrev zD:=@PySem.wpAny_pyIter_list
abbrev zE:=@decide_eq_true_eq
abbrev zF:=@Nat.mul_le_mul_right
abbrev zG:=@PySem.wpAny_attempt
abbrev zH:=@PySem.call_meets
abbrev zI:=@Nat.add_assoc
abbrev zJ:=@PySem.wpAny_typeNameOf_keyiter
abbrev zK:=@List.replicate_succ
abbrev zL:=@List.filter_sublist
abbrev zM:=@PySem.wpAny_setField
abbrev zN:=@PySem.W.kia_one
abbrev zO:=@Nat.mul_le_mul
abbrev zP:=@decide_eq_decide
abbrev zQ:=@Nat.add_sub_cancel_left
abbrev zR:=@Nat.le_succ
abbrev zS:=@PySem.Obj.data_mapFields
abbrev zT:=@PySem.wpAny_setField_rec
abbrev zU:=@Nat.mul_comm
abbrev zV:=@Array.forIn_toList
abbrev zW:=@Int.ne_of_gt
abbrev zX:=@Bool.not_true
abbrev zY:=@PyProof.Rows.boot_int
abbrev zZ:=@List.append_assoc
abbrev ja:=@Int.mul_lt_mul_of_pos_right
abbrev jb:=@List.ext_getElem?
abbrev jc:=@or_false
abbrev jd:=@List.getElem?_mapIdx
abbrev je:=@Int.eq_of_mul_eq_mul_right
abbrev jf:=@Int.zero_mul
abbrev jg:=@List.mem_flatMap
abbrev jh:=@List.flatMap_append
abbrev ji:=@List.sum_cons
abbrev jj:=@PySem.F.slot_list_getattribute
abbrev jk:=@PySem.wpAny_specialOf
abbrev jm:=@List.forIn_cons
abbrev jn:=@Option.map_some
abbrev jo:=@Int.emod_nonneg
abbrev jp:=@List.length_nil
abbrev jq:=@PySem.slot_listiter_next
abbrev jr:=@PySem.wpAny_pyIter_tuple
abbrev js:=@Int.emod_lt_of_pos
abbrev jt:=@List.getElem?_replicate
abbrev ju:=@Nat.le_mul_of_pos_right
abbrev jv:=@PySem.F.slot_list_index
abbrev jw:=@PySem.F.type_list_index
abbrev jx:=@PySem.wpAny_newObj_type
abbrev jy:=@PySem.isSubtype_stop
abbrev jz:=@Nat.le_of_eq
abbrev Y00:=@PyProof.Rows.subscriptTail_builtinR
abbrev Y01:=@List.flatten_cons
abbrev Y02:=@Nat.succ_mul
abbrev Y03:=@Int.gcd_dvd_right
abbrev Y04:=@PySem.SeqAt.RcAt.tuples
abbrev Y05:=@Int.mul_nonneg
abbrev Y06:=@PySem.F.slot_tuple_hash
abbrev Y07:=@List.map_set
abbrev Y08:=@List.drop_of_length_le
abbrev Y09:=@Nat.succ.inj
abbrev Y0a:=@PySem.Obj.isFreed_of_fields
abbrev Y0b:=@PySem.isSubtype_tuple_tuple
abbrev Y0c:=@PyProof.Rows.boot_sum
abbrev Y0d:=@Classical.choose_spec
abbrev Y0e:=@Nat.lt_succ_self
abbrev Y0f:=@PySem.F.slot_tuple_mul
abbrev Y0g:=@PySem.wpAny_forIn_list
abbrev Y0h:=@PySem.F.args_dict_keyiterator_next_1
abbrev Y0i:=@Int.one_mul
abbrev Y0j:=@Int.mul_one
abbrev Y0k:=@PySem.F.entry_dict_keyiterator_next
abbrev Y0l:=@PySem.F.args_tuple_iterator_next_1
abbrev Y0m:=@PySem.wpAny_execs_nil
abbrev Y0n:=@List.of_mem_zip
abbrev Y0o:=@PySem.F.slot_zip_next
abbrev Y0p:=@PySem.wpAny_ite_false
abbrev Y0q:=@PySem.F.slot_int_rmul
abbrev Y0r:=@PySem.F.slot_tuple_eq
abbrev Y0s:=@Nat.two_pow_pos
abbrev Y0t:=@List.filterMap_cons
abbrev Y0u:=@Int.mul_fdiv_cancel
abbrev Y0v:=@PySem.F.entry_tuple_iterator_next
abbrev Y0w:=@PySem.codeAny_mono
abbrev Y0x:=@Int.gcd_comm
abbrev Y0y:=@if_true
abbrev Y0z:=@Int.gcd_pos_of_ne_zero_left
abbrev Y0A:=@PySem.F.slot_range_iterator_next
abbrev Y0B:=@PySem.Calls.Name_function_global
abbrev Y0C:=@PySem.Calls.spliced_cons
abbrev Y0D:=@Nat.eq_of_mul_eq_mul_right
abbrev Y0E:=@List.forIn_nil
abbrev Y0F:=@Nat.not_lt
abbrev Y0G:=@PySem.SeqAt.EqAt.of_refs
abbrev Y0H:=@List.zip_cons_cons
abbrev Y0I:=@PySem.wpAny_tupleItemsOf
abbrev Y0J:=@List.nodup_nil
abbrev Y0K:=@Int.gcd_sub_mul_left_left
abbrev Y0L:=@PySem.wpAny_binaryOp_repeat_ref
abbrev Y0M:=@Int.le_of_mul_le_mul_left
abbrev Y0N:=@List.drop_eq_getElem_cons
abbrev Y0O:=@List.pairwise_iff_getElem
abbrev Y0P:=@PySem.Obj.cls_mapFields
abbrev Y0Q:=@PySem.Calls.spliced_nil
abbrev Y0R:=@Nat.pow_add
abbrev Y0S:=@PySem.Paired.snoc
abbrev Y0T:=@PySem.wpAny_dictEntries
abbrev Y0U:=@Function.comp_def
abbrev Y0V:=@List.nodup_append
abbrev Y0W:=@List.all_eq_false
abbrev Y0X:=@PySem.wpAny_standAt
abbrev Y0Y:=@PySem.plainId_quiet
abbrev Y0Z:=@List.getElem?_take_of_lt
abbrev Y10:=@List.all_cons
abbrev Y11:=@PySem.wpAny_comprehension_free
abbrev Y12:=@PySem.AutoSeq1.sub_tuple_tuple
abbrev Y13:=@PyProof.Rows.listUpdate_at
abbrev Y14:=@PySem.F.slot_list_extend
abbrev Y15:=@PySem.F.type_list_extend
abbrev Y16:=@List.length_erase_of_mem
abbrev Y17:=@Int.gcd_dvd_left
abbrev Y18:=@List.ext_getElem
abbrev Y19:=@PySem.SeqAt.RcAt.lists
abbrev Y1a:=@Int.eq_ofNat_of_zero_le
abbrev Y1b:=@decide_eq_false_iff_not
abbrev Y1c:=@List.nodup_range
abbrev Y1d:=@List.length_eq_zero_iff
abbrev Y1e:=@PySem.typeIs_int
abbrev Y1f:=@Nat.pow_succ
abbrev Y1g:=@Int.fmod_nonneg_of_pos
abbrev Y1h:=@Array.getElem?_eq_none
abbrev Y1i:=@Int.zero_add
abbrev Y1j:=@PyProof.Rows.boot_bool
abbrev Y1k:=@PySem.codeAny_builtin
abbrev Y1l:=@PySem.wpAny_updateSeq
abbrev Y1m:=@PySem.wpAny_dictEpoch
abbrev Y1n:=@Int.mul_ne_zero
abbrev Y1o:=@PyProof.Rows.boot_abs
abbrev Y1p:=@PyProof.Rows.boot_all
abbrev Y1q:=@List.mem_of_mem_erase
abbrev Y1r:=@PySem.wpAny_letGo
abbrev Y1s:=@Nat.log2_lt
abbrev Y1t:=@Int.le_refl
abbrev Y1u:=@List.mem_of_mem_take
abbrev Y1v:=@List.take_zero
abbrev Y1w:=@Nat.pow_lt_pow_right
abbrev Y1x:=@Int.neg_mul
abbrev Y1y:=@List.length_reverse
abbrev Y1z:=@List.zipWith_append
abbrev Y1A:=@Nat.pow_le_pow_left
abbrev Y1B:=@Nat.lt_two_pow_self
abbrev Y1C:=@List.getElem_of_mem
abbrev Y1D:=@List.any_cons
abbrev Y1E:=@PySem.wpAny_onRaise
abbrev Y1F:=@Int.dvd_trans
abbrev Y1G:=@List.cons.inj
abbrev Y1H:=@Option.isSome_none
abbrev Y1I:=@List.mem_filterMap
abbrev Y1J:=@Nat.eq_zero_or_pos
abbrev Y1K:=@Int.fmod_lt_of_pos
abbrev Y1L:=@Option.isSome_some
abbrev Y1M:=@List.getElem?_take
abbrev Y1N:=@of_decide_eq_false
abbrev Y1O:=@Option.toList_some
abbrev Y1P:=@Nat.add_sub_cancel
abbrev Y1Q:=@Nat.add_comm
abbrev Y1R:=@PySem.W.mg_of
abbrev Y1S:=@List.all_map
abbrev Y1T:=@Nat.mul_succ
abbrev Y1U:=@Prod.ext
abbrev Y1V:=@Int.mul_add
abbrev Y1W:=@Nat.pow_pos
abbrev Y1X:=@not_or
def _b.sz0:0<=PySem.sizeLine:=by decide
def _b.sz1:1<=PySem.sizeLine:=by decide
def _b.sz2:2<=PySem.sizeLine:=by decide
def _b.sz3:3<=PySem.sizeLine:=by decide
def _b.sz4:4<=PySem.sizeLine:=by decide
def _b.sz8:8<=PySem.sizeLine:=by decide
variable {A:PySem.Around}{C cc f it:PySem.Addr}{D:Int}{E:TC}{K:TR}{Ws Zs:TV}{an od:TQ}{base h h':PySem.Heap}{cd ct dc oc pm u:PySem.Value}{e tg:PySem.Expr}{fd:PySem.FuncData}{i j:Nat}{its:TH}{mg:TB}{o:TW}{pins qs:TD}{pos pos':PySem.Pos}{prog:TU}{ps:TF}{qual:PySem.Str}{s:PySem.Shared}{scope:PySem.Scope}{sr:Bool}{st:PySem.Stmt}{tt:TT}{w:PySem.World}
noncomputable def J0{p:Prop}(h:p:=by omega):p:=h
noncomputable def J1{p:Prop}(h:p:=by decide):p:=h
noncomputable def ZJ{p:Prop}(h:p:=by simp):p:=h
noncomputable def ZZ{p:Prop}(h:p:=by decide +kernel):p:=h
noncomputable def ZQ{p:Prop}(h:p:=by grind):p:=h
def xj{α:Type}{a:α}{b:Prop}:a=a\/b:=.inl rfl
namespace _b
open PySem PySem.Spec PyProof.Rows
def NoCtx (o:Obj):Prop:=∃ vs,o.data=.fields vs/\vs[2]?=some .none
def Qt (A:Around)(h:Heap):Prop:=A.handled=none \/ ∃ a o,A.handled=some (.ref a)/\h.get? a=some o/\NoCtx o
def QtP (A:Around)(pn:TD):Prop:=A.handled=none \/ ∃ p∈pn,A.handled=some (.ref p.1)/\NoCtx p.2
def QtP.at {pn:TD}(q:QtP A pn)(k:∀ p∈pn,h.get? p.1=some p.2):Qt A h :=
 q.imp id λ⟨p,hp,e,n⟩=>⟨p.1,p.2,e,k p hp,n⟩
def Qt.keeps (q:Qt A h)(k:∀ b o,h.get? b=some o->NoCtx o->h'.get? b=some o):Qt A h':=q.imp id λ⟨a,o,e,g,n⟩=>⟨a,o,e,k a o g n,n⟩
def Qt.but {a:Addr}{o:Obj}{f:Obj->Obj}(q:Qt A h)(ha:h.get? a=some o)(n:¬ NoCtx o):Qt A (h.update a f) :=
 q.imp id λ⟨b,u,e,g,m⟩=>⟨b,u,e,(JF ..).extBut b u (λz=>n (by rw[z,ha] at g;cases g;exact m)) g,m⟩
def Pw:entryFor table "proto.unchain"=some Builtin.«proto.unchain»:=entryFor_of_tree (by kernel_rfl)
section
def J7 {α:Type}{e:Addr}{d:Obj}{vs:Array Value}{Q:α->Shared->Prop}(hq:Qt A s.heap)(b:s.heap.get? e=some d)(hd:d.data=.fields vs)(hz:2<vs.size)(hn:∀ a,A.handled=some (.ref a)->a≠e)
  (h:∀ h':Heap,Heap.SameBut e s.heap h'->(∃ o',h'.get? e=some o'/\o'.cls=d.cls)->E (.ref e) { s with heap:=h' }):wpAny (model prog w) A (raiseNew (.ref e):Sem α) Q E s:=by
 unfold raiseNew;refine YA (wpAny_handled ?_);rcases hq with c | ⟨a,o,c,ha,xs,hx,h2⟩
 ·rw[c]
  first
   | exact wpAny_throw (h s.heap (Heap.SameBut.refl ..) ⟨_,b,rfl⟩)
   | exact YA (YK (wpAny_throw (h s.heap (Heap.SameBut.refl ..) ⟨_,b,rfl⟩)))
 have ne:=hn a c;rw[c];dsimp only;have f:(Value.ref a != Value.ref e)=true:=by simpa using ne
 rw[YH f];refine YA (GA (wpAny_runValue (Y1k Pw ?_)));show wpAny _ _ (field (.ref a) 2 >>= _) _ _ s;refine YA (JS ha hx (x:=.none) h2 ?_);refine YK ?_;simp only [updateField];refine YA (YA (wpAny_load b ?_));rw[hd];show wpAny _ _ (if 2<vs.size then _ else _) _ _ _;rw[YH hz];refine wpAny_update b ?_;refine wpAny_throw (h _ (JF ..) ⟨_,GW _ b ?_,?_⟩)
 ·exact Y0a (zS hd _)
 exact Y0P ..
def Ts {α:Type}{Q:α->Shared->Prop}(hq:Qt A s.heap)
  (h:∀ (h':Heap) (e:Addr),(∀ b o,s.heap.get? b=some o->h'.get? b=some o)->(∃ o,h'.get? e=some o/\o.cls=.type "StopIteration")->E (.ref e) { s with heap:=h' }) :
  wpAny (model prog w) A (newExc (.type "StopIteration") [] >>= λe=>(raiseNew e:Sem α)) Q E s:=by
 refine YA ?_;simp only [newExc,newTuple];refine YA (jx ?_ (by size_fits));refine YA (m:=firstArgMember _ _) (wpAny_of_eq (a:=Value.none) (by first | rfl | (simp only [firstArgMember];rfl)) ?_);refine jx ?_ (by size_fits);have d:∀ (o:Obj),(s.heap.push o).objs.size=s.heap.objs.size+1:=λo=>JT ..;refine J7 (hq.keeps λb o c _=>YC _ (YC _ c)) (YS _ rfl) rfl (by simp[ownMembersOf]) (λa ha z=>?_) λh' f ho=>?_
 ·rcases hq with q | ⟨b,o,q,c,_⟩
  ·rw[q] at ha;cases ha
  rw[q] at ha
  cases ha;have:=YQ c;rw[z,d] at this;exact GB _ (zB this)
 refine h h' _ (λb o c=>?_) ho;refine f.extBut b o (λz=>?_) (YC _ (YC _ c));have:=YQ c;rw[z,d] at this;exact GB _ (zB this)
def Qv {l:Addr}{items}{Q:Option Value->Shared->Prop}(hq:Qt A s.heap)
  (hit:s.heap.IsListIter it l i) (hl:s.heap.IsList l items) (hx:items[i]?=none)
  (d:∀ h',Heap.ExtBut it s.heap h'->Q none { s with heap:=h' }):wpAny (model prog w) A (pyNext (.ref it)) Q E s:=by
 obtain⟨o,ho,hc,hd⟩:=id hit;obtain⟨h,a,_,nl,c⟩:=hl;unfold pyNext;refine YA (zG (JN (name:=Str.ofString "__next__") hit.typeIs jq
  (JX jq hit.typeIs entry_listiter_next ?_ (args_listiter_next _))))
 show wpAny _ _ (field (.ref it) 0 >>= _) _ _ s;refine YA (JS ho hd (x:=.ref l) rfl ?_);show wpAny _ _ (if (Value.ref l == Value.none)=true then _ else _) _ _ s;rw[YF (show ¬ ((Value.ref l == Value.none)=true) from YO)];show wpAny _ _ (field (.ref it) 1 >>= _) _ _ s;refine YA (JS ho hd (x:=.int i 0) rfl ?_);show wpAny _ _ (seqItems? (.ref l) >>= _) _ _ s;refine YA (GD a c ?_);simp only [zl,hx];refine YA (zo (YA (zM ho hd ZJ ?_)));refine Ts (hq:=(hq.but ho λn=>?_)) λh' e k f=>?_
 ·obtain⟨vs,e1,e2⟩:=n;rw[hd] at e1
  cases e1;simp at e2
 obtain⟨j,h1,h2⟩:=f;refine YA (qY (T:="StopIteration") (b:=true) ⟨_,h1,h2⟩ jy ?_);exact YK (d _ λb o g e=>k b o ((JF ..).extBut b o g e))
def Sn {t:Addr}{items}{Q:Option Value->Shared->Prop}(hq:Qt A s.heap)
  (hit:s.heap.IsTupleIter it t i) (h:s.heap.IsTuple t items) (hx:items[i]?=none)
  (d:∀ h',Heap.ExtBut it s.heap h'->Q none { s with heap:=h' }):wpAny (model prog w) A (pyNext (.ref it)) Q E s:=by
 obtain⟨o,ho,hc,hd⟩:=id hit;obtain⟨j,a,_,nl,c⟩:=h;unfold pyNext;refine YA (zG (JN (name:=Str.ofString "__next__") hit.typeIs zq
  (JX zq hit.typeIs Y0v ?_ (Y0l _))))
 show wpAny _ _ (field (.ref it) 0 >>= _) _ _ s;refine YA (JS ho hd (x:=.ref t) rfl ?_);show wpAny _ _ (if (Value.ref t == Value.none)=true then _ else _) _ _ s;rw[YF (show ¬ ((Value.ref t == Value.none)=true) from YO)];show wpAny _ _ (field (.ref it) 1 >>= _) _ _ s;refine YA (JS ho hd (x:=.int i 0) rfl ?_);show wpAny _ _ (seqItems? (.ref t) >>= _) _ _ s;refine YA (GD a c ?_);simp only [zl,hx];refine YA (zo (YA (zM ho hd ZJ ?_)));refine Ts (hq:=(hq.but ho λn=>?_)) λh' e k f=>?_
 ·obtain⟨vs,e1,e2⟩:=n;rw[hd] at e1
  cases e1;simp at e2
 obtain⟨l,h1,h2⟩:=f;refine YA (qY (T:="StopIteration") (b:=true) ⟨_,h1,h2⟩ jy ?_);exact YK (d _ λb o g e=>k b o ((JF ..).extBut b o g e))
def Ss {x a step:Int}{Q:Option Value->Shared->Prop}(hq:Qt A s.heap)(hit:IsRangeIter s.heap it x a step)(c:a<=0)
  (f:∀ h',Heap.ExtBut it s.heap h'->Q none { s with heap:=h' }):wpAny (model prog w) A (pyNext (.ref it)) Q E s:=by
 have d:s.TypeIs (.ref it) "range_iterator":=⟨_,hit,rfl⟩;unfold pyNext;refine YA (zG (JN (name:=Str.ofString "__next__") d Y0A
  (JX Y0A d F.entry_range_iterator_next ?_ (F.args_range_iterator_next_1 _))))
 show wpAny _ _ (field (.ref it) 0 >>= _) _ _ s;refine YA (JS hit rfl (x:=rawInt x) rfl ?_);show wpAny _ _ (field (.ref it) 1 >>= _) _ _ s;refine YA (JS hit rfl (x:=rawInt a) rfl ?_);show wpAny _ _ (field (.ref it) 2 >>= _) _ _ s;refine YA (JS hit rfl (x:=rawInt step) rfl ?_);show wpAny _ _ (if a<=0 then _ else _) _ _ s;rw[YH c];refine YA (zo ?_);refine YA ?_;refine Ts (hq:=hq) λh' e k g=>?_;obtain⟨i,h1,h2⟩:=g;refine YA (qY (T:="StopIteration") (b:=true) ⟨_,h1,h2⟩ jy ?_);exact YK (f _ λb o h e=>k b o e)
def Pu {t:Addr}{items:Array Value}{Q:List Value->Shared->Prop}(hq:Qt A s.heap)(j:IsTup s.heap t items)
  (l:∀ h',Heap.ExtBut s.heap.objs.size s.heap h'->Q items.toList { s with heap:=h' }):wpAny (model prog w) A (unpackItems (.ref t) items.size none) Q E s:=by
 have i:t≠s.heap.objs.size:=by obtain⟨o,ho,_⟩:=j;exact XM (YQ ho)
 unfold unpackItems;refine YA ?_;unfold notIterableAtAll;refine YA (jk j.typeIs slot_tuple_iter.lookup ?_);refine YK ?_;simp only [XW,qV];refine YA (GA (iter_tuple j ?_));refine YA (GA (draw_tuple i items.size 0 _ _ ⟨_,YS _ rfl,rfl,rfl⟩ (j.push _) J0 λd c a=>?_));have h:List.take items.size (List.drop 0 items.toList)=items.toList:=by
  rw[List.drop_zero];exact YZ ZJ
 rw[h];rw[YF ZJ];have f:IsTup d t items:=(j.push _).extBut a.extBut i;have kp:∀ b o,s.heap.get? b=some o->d.get? b=some o:=λb o e=>a.extBut b o (λz=>by have:=YQ e;rw[z] at this;exact GB _ this) (YC _ e);refine YA (GA (Sn (hq.keeps λb o e _=>kp b o e) c f ZJ λk g=>?_));simp only [Y1H,XW,qV];refine YK (l k λb o m e=>g b o m (kp b o e))
def Pr {env:Env}{a:TL}{x1}{pos:Pos}{t:Addr}{items:Array Value}{Q:Unit->Shared->Prop}(hq:Qt A s.heap)(c:IsTup s.heap t items)
  (hn:(assignEach a env).length=items.size) (b:(assignEach a env).findIdx? (·.1)=none)
  (h:∀ h',Heap.ExtBut s.heap.objs.size s.heap h'->wpAny (model prog w) A (assignInOrder ((assignEach a env).map (·.2)) items.toList) Q E { s with heap:=h' }) :
  wpAny (model prog w) A (assign (.Tuple a x1 pos) env (.ref t)) Q E s:=by
 rw[assign_Tuple];refine YA (Y0X ?_);unfold unpack;rw[hn,b];exact YA (GA (Pu hq c h))
end
def Walks.listQ (hq:QtP A qs)(I g:Addr)(k:g≠I)(l:∀ p∈qs,p.1≠I)(items:Array Value) :
  Walks prog w A I (I::g::qs.map Prod.fst) [I] items.size (λi v=>items[i]?=some v) (λi h=>h.IsListIter I g i/\h.IsList g items/\∀ p∈qs,h.get? p.1=some p.2) where
 sub:=λb c=>by simp at c;simp[c]
 frame:=λ_ _ _ st hk=>⟨st.1.at λo e=>hk I ZJ o e,st.2.1.at λo e=>hk g ZJ o e,λp hp=>hk p.1 (by simp;exact .inr (.inr ⟨p.2,hp⟩)) p.2 (st.2.2 p hp)⟩
 item:=λi s Q E hi st d=>by
  refine wpAny_pyNext_list_item st.1 st.2.1 (x:=items[i]) (by simp[hi]) λh' f a=>?_;exact d _ h' s.toks (by simp[hi]) ⟨f,st.2.1.extBut a.extBut k,λp hp=>a.extBut p.1 p.2 (l p hp) (st.2.2 p hp)⟩ λb o c e=>a.extBut b o (λh=>c (by simp[h])) e
 done:=λs Q E st d=>Qv (hq.at st.2.2) st.1 st.2.1 ZJ λh' j=>d h' s.toks λb o c e=>j b o (λh=>c (by simp[h])) e
 self:=λ_ _ _ _ st d=>wpAny_pyIter_listiter st.1 d
def Qc {prog:TU}{w:World}{A:Around}{I:Addr}{a c:Int}{n:Nat}(i:Nat)(s:Shared)(Q:Option Value->Shared->Prop)(E:TC)(hi:i<n)(st:IsRangeIter s.heap I (a+(i:Nat)*c) ((n:Int) - (i:Nat)) c)
  (g:∀ v h' tk,(∃ t,v=Value.int (a+i*c) t)->IsRangeIter h' I (a+((i+1:Nat):Int)*c) ((n:Int) - ((i+1:Nat):Int)) c->(∀ b o,b ∉ [I]->s.heap.get? b=some o->h'.get? b=some o)->Q (some v) { s with heap:=h',toks:=tk }) :
  wpAny (model prog w) A (pyNext (.ref I)) Q E s:=by
 refine wpAny_pyNext_range_item st J0 λh' d f=>?_;refine g _ h' _ ⟨_,rfl⟩ ?_ λb o j e=>f.extBut b o (λh=>j (by simp[h])) e;have e1:a+((i+1:Nat):Int)*c=a+(i:Int)*c+c:=by push_cast;rw[Int.add_mul,Y0i,Int.add_assoc]
 have e2:(n:Int) - ((i+1:Nat):Int)=(n:Int) - (i:Int) - 1:=by push_cast;omega
 rw[e1,e2];exact d
def QtE (A:Around)(h:Heap)(H:Addr->Option α)(fs:TJ):Prop:=A.handled=none \/ ∃ a o,A.handled=some (.ref a)/\h.get? a=some o/\NoCtx o/\H a=none/\a ∉ fs/\∀ v,o.data≠.cell v
noncomputable def qpin (A:Around)(h:Heap):List (Addr × Obj):=match A.handled with
 | some (.ref a)=>match h.get? a with
  | some o=>[(a,o)]
  | none=>[]
 | _=>[]
def QtE.pin {H:Addr->Option α}{fs:TJ}(q:QtE A h H fs):QtP A (qpin A h):=by
 rcases q with q | ⟨a,o,e,g,n,_⟩
 ·exact .inl q
 refine .inr ⟨(a,o),?_,e,n⟩;unfold qpin;rw[e];dsimp only;rw[g];simp
def QtE.mem {H:Addr->Option α}{fs:TJ}(q:QtE A h H fs)(p:Addr × Obj)(hp:p∈qpin A h):h.get? p.1=some p.2/\H p.1=none/\p.1 ∉ fs/\∀ v,p.2.data≠.cell v:=by
 rcases q with q | ⟨a,o,e,g,n,h1,h2,h3⟩
 ·unfold qpin at hp;rw[q] at hp
  cases hp
 unfold qpin at hp;rw[e] at hp;dsimp only at hp;rw[g] at hp;obtain rfl:p=(a,o):=by simpa using hp
 exact⟨g,h1,h2,h3⟩
section
def Ta {l:Addr}{items}{Q:TC}(hq:Qt A s.heap)
  (hit:s.heap.IsListIter it l i) (hl:s.heap.IsList l items) (hx:items[i]?=none)
  (d:∀ h' e,Heap.ExtBut it s.heap h'->(∃ o,h'.get? e=some o/\o.cls=.type "StopIteration")->E (.ref e) { s with heap:=h' }) :
  wpAny (model prog w) A (Builtin.SmallTypes.nextOf (.ref it)) Q E s:=by
 obtain⟨o,ho,hc,hd⟩:=id hit;obtain⟨h,a,_,nl,c⟩:=hl;unfold Builtin.SmallTypes.nextOf;refine YA (JN (name:=Str.ofString "__next__") hit.typeIs jq
  (JX jq hit.typeIs entry_listiter_next ?_ (args_listiter_next _)))
 show wpAny _ _ (field (.ref it) 0 >>= _) _ _ s;refine YA (JS ho hd (x:=.ref l) rfl ?_);show wpAny _ _ (if (Value.ref l == Value.none)=true then _ else _) _ _ s;rw[YF (show ¬ ((Value.ref l == Value.none)=true) from YO)];show wpAny _ _ (field (.ref it) 1 >>= _) _ _ s;refine YA (JS ho hd (x:=.int i 0) rfl ?_);show wpAny _ _ (seqItems? (.ref l) >>= _) _ _ s;refine YA (GD a c ?_);simp only [zl,hx];refine YA (zo (YA (zM ho hd ZJ ?_)));refine Ts (hq:=(hq.but ho λn=>?_)) λh' e k f=>?_
 ·obtain⟨vs,e1,e2⟩:=n;rw[hd] at e1
  cases e1;simp at e2
 exact d _ _ (λb o g e=>k b o ((JF ..).extBut b o g e)) f
end
def Draws.listQ (hq:QtP A qs)(it l:Addr)(c:l≠it)(d:∀ p∈qs,p.1≠it)(items:Array Value) :
  Draws prog w A it (it::l::qs.map Prod.fst) items.size (λi v=>items[i]?=some v) (λi h=>h.IsListIter it l i/\h.IsList l items/\∀ p∈qs,h.get? p.1=some p.2) where
 live:=λ_ _ st=>let ⟨o,ho,_⟩:=st.1;⟨o,ho⟩
 frame:=λ_ _ _ st hk=>⟨st.1.at λo e=>hk it ZJ o e,st.2.1.at λo e=>hk l ZJ o e,λp hp=>hk p.1 (by simp;exact .inr (.inr ⟨p.2,hp⟩)) p.2 (st.2.2 p hp)⟩
 item:=λi s Q E hi st f=>by
  refine wpAny_nextOf_list_item st.1 st.2.1 (x:=items[i]) (by simp[hi]) λh' b a=>?_;exact f _ h' s.toks (by simp[hi]) ⟨b,st.2.1.extBut a.extBut c,λp hp=>a.extBut p.1 p.2 (d p hp) (st.2.2 p hp)⟩ a
 done:=λs Q E st g=>Ta (hq.at st.2.2) st.1 st.2.1 ZJ g
section
variable {l:Addr}{xs:Array (Int × Tok)}
theorem Z1w {Q:TC}(hp:∀ p∈qs,s.heap.get? p.1=some p.2)(hl:s.heap.IsList l (intItems xs))
  (h:∀ a:Shared,a={ s with heap:=s.heap.push { cls:=.type "list_iterator",data:=.fields #[.ref l,.int 0 0] } } →
   (a.heap.IsListIter s.heap.objs.size l 0/\a.heap.IsList l (intItems xs)/\∀ p∈qs,a.heap.get? p.1=some p.2)->(∀ b∈s.heap.objs.size::l::qs.map Prod.fst,b<a.heap.objs.size)->l≠s.heap.objs.size->(∀ p∈qs,p.1≠s.heap.objs.size)->Q (.ref s.heap.objs.size) a) :
  wpAny (model prog w) A (pyIter (.ref l)) Q E s:=by
 refine iter_intList hl λa e st d c=>h a e ⟨st.1,st.2,λp q=>?_⟩ (λb m=>?_) c λp q=>XM (YQ (hp p q))
 ·rw[e];exact YC _ (hp p q)
 rcases YT.mp m with m | m
 ·exact d b (by simp[m])
 rcases YT.mp m with m | m
 ·exact d b (by simp[m])
 obtain⟨p,q,rfl⟩:=YN.mp m;rw[e];show _<(s.heap.push _).objs.size;rw[JT];exact zC (YQ (hp p q))
def Z84 {Q:TC}(hq:QtP A qs)(hp:∀ p∈qs,s.heap.get? p.1=some p.2)(hl:s.heap.IsList l (intItems xs))(f:0<xs.size)
  (h:∀ v h' tk,(intItems xs)[argBest (λi j=>decide (numAt xs i<numAt xs j)) (xs.size - 1)]?=some v->(∀ b o,s.heap.get? b=some o->h'.get? b=some o)->Q v { s with heap:=h',toks:=tk }) :
  wpAny (model prog w) A (call (.builtin "min") [.ref l]) Q E s:=by
 refine call_min_walk (Z1w hp hl λg e st a d c=>?_);subst e;refine⟨_,_,_,_,_,_,_,rfl,Walks.listQ (A:=A.in1) hq _ l d c (intItems xs),st,a,by simpa [intItems] using f,CmpOf.ints_lt (numAt xs) (λ_ _=>intItems_at),λv h' tk k hk=>?_⟩;exact h v h' tk (by simpa [intItems] using k) (old_kept hk)
def Z7f {Q:TC}(hq:QtP A qs)(hp:∀ p∈qs,s.heap.get? p.1=some p.2)(hl:s.heap.IsList l (intItems xs))
  (h:∀ h' tk t',(∀ b o,s.heap.get? b=some o->h'.get? b=some o)->Q (.int (preSum (numAt xs) xs.size) t') { s with heap:=h',toks:=tk }) :
  wpAny (model prog w) A (call (.builtin "sum") [.ref l]) Q E s:=by
 refine call_sum_walkG (Z1w hp hl λf e st d a c=>?_);subst e;refine⟨_,_,_,_,_,_,numAt xs,rfl,Walks.listQ (A:=A.in1) hq _ l a c (intItems xs),st,d,(λ_ _=>intItems_at),λh' tk t' hk=>?_⟩;have:=h h' tk t' (old_kept hk)
 simpa [intItems] using this
end
def Walks.rangeQ (hq:QtP A qs)(I:Addr)(k:∀ p∈qs,p.1≠I)(a c:Int)(n:Nat) :
  Walks prog w A I (I::qs.map Prod.fst) [I] n (λi v=>∃ t,v=.int (a+i*c) t) (λi h=>IsRangeIter h I (a+(i:Nat)*c) ((n:Int) - (i:Nat)) c/\∀ p∈qs,h.get? p.1=some p.2) where
 sub:=λb d=>by simp at d;simp[d]
 frame:=λ_ _ _ st hk=>⟨hk I ZJ _ st.1,λp hp=>hk p.1 (by simp;exact .inr ⟨p.2,hp⟩) p.2 (st.2 p hp)⟩
 item:=λi s Q E hi st f=>by
  refine Qc i s _ _ hi st.1 λv h' tk l j hk=>f v h' tk l ⟨j,λp hp=>hk p.1 p.2 (by simp[k p hp]) (st.2 p hp)⟩ λb o d e=>hk b o d e
 done:=λs Q E st f=>Ss (hq.at st.2) st.1 J0 λh' g=>f h' s.toks λb o d e=>g b o (λh=>d (by simp[h])) e
 self:=λ_ _ _ _ st f=>wpAny_pyIter_rangeiter st.1 f
section
def Ph {R:Result->Shared->Prop}{r:Addr}{a b c:Int}{t u v:Tok}{n:Nat}(hq:QtP A qs)(hp:∀ p∈qs,s.heap.get? p.1=some p.2)(hr:IsRange s.heap r a b c t u v)(x:Builtin.Range.small a b c=true)
  (hn:Builtin.Range.rangeSize a b c=n) (D:n<=2 ^ 24) (S:Addr) (res:Value) (y:Nat) (hS:s.heap.get? S=some { cls:=.type "list",data:=.seq #[] y }) (H:∀ p∈qs,p.1≠S)
  (M:∀ h' tk j c',(∀ b o,b≠S->s.heap.get? b=some o->h'.get? b=some o)->h'.get? S=some { cls:=.type "list",dict:=none,data:=.seq j c',slots:=#[] } →
   ItemsOf (λi v=>∃ t,v=.int (a+i*c) t) j n->R (.ok (.ret res)) { s with heap:=h',toks:=tk }) :
  wpAny (model prog w) A.in1 (Builtin.List.listExtendWith (.ref S) (.ref r) res)
   (λK s'=>match K with | .done f=>R (.ok f) s' | .again c'=>c'.quiet=true/\codeAny (model prog w) A c' R s') (λe s'=>R (.error e) s') s:=by
 have L:S≠r:=λe=>by rw[e,hr] at hS;simp at hS
 have G:S<s.heap.objs.size:=YQ hS;have z:S≠s.heap.objs.size:=XM G;have J:S ∉ s.heap.objs.size::qs.map Prod.fst:=λhm=>(YT.mp hm).elim z λhm=>by
  obtain⟨p,q,e⟩:=YN.mp hm;exact H p q e
 have W:=(Walks.rangeQ (prog:=prog) (w:=w) (A:=A.in1) hq s.heap.objs.size (λp q=>XM (YQ (hp p q))) a c n).toS;have key:∀ (h:Heap) (k tk:Nat),IsRangeIter h s.heap.objs.size (a+((0:Nat):Int)*c) ((n:Int) - ((0:Nat):Int)) c->(∀ b o,b≠S->s.heap.get? b=some o->h.get? b=some o) →
   h.get? S=some { cls:=.type "list",data:=.seq #[] k }->codeAny (model prog w) A (.builtin "list.extend.loop" ⟨[.ref S,.ref s.heap.objs.size,res],[]⟩) R { s with heap:=h,toks:=tk }:=by
  intro h k tk hit hk d;refine codeAny_extend_loopS W (by rw[qy];omega) S J res n 0 _ #[] k rfl (JK _) ⟨hit,λp q=>hk p.1 p.2 (H p q) (hp p q)⟩ d (ItemsOf.nil _) λs' j c' hm I E=>?_;rw[Moved.eq_with hm];refine M s'.heap s'.toks j c' (λb o C e=>hm.heap b o (λl=>?_) (hk b o C e)) I E;rcases YT.mp l with e' | l
  ·exact C e'
  exact absurd (YQ e) (by rw[XD.mp l];exact GB _)
 unfold Builtin.List.listExtendWith;refine YA (wpAny_typeOf (T:="range") ⟨_,hr,rfl⟩ ?_);have h1:Builtin.List.listSameRef (.ref S) (.ref r)=false:=by simp[Builtin.List.listSameRef,L]
 have h2:(Value.type "range" == Value.type "list")=false:=J1
 have h3:(Value.type "range" == Value.type "tuple")=false:=J1
 simp only [h1,h2,h3,Bool.or_false,XW,qV];refine YA (wpAny_pyIter_range hr x ?_);refine YA (GA (wpAny_hint_range (n:=n) (YC _ hr) hn D ?_));have g:IsRangeIter (s.heap.push { cls:=.type "range_iterator",data:=.fields #[rawInt a,rawInt (Builtin.Range.rangeSize a b c),rawInt c] }) s.heap.objs.size (a+((0:Nat):Int)*c) ((n:Int) - ((0:Nat):Int)) c:=by
  show IsRangeIter _ _ _ _ _;rw[hn];simpa using YS _ rfl
 have d:=YC { cls:=.type "range_iterator",data:=.fields #[rawInt a,rawInt (Builtin.Range.rangeSize a b c),rawInt c] } hS;refine wpAny_ite_split (λ_=>?_) (λ_=>YK ⟨Y0Y F.plain_extend_loop _,key _ y _ g (λb o _ e=>YC _ e) d⟩);refine YA (zo ?_);refine YA ?_;show wpAny _ _ (updateSeq S (·.push .none) >>= λ_=>updateSeq S (·.pop)) _ _ _;refine YA (Y1l d rfl ?_);have m:=GW (Obj.mapSeq (·.push Value.none)) d rfl;refine Y1l (hz:=by seq_fits) m rfl ?_;have B:=GW (Obj.mapSeq (·.pop)) m rfl;refine YK ⟨Y0Y F.plain_extend_loop _,key _ _ _ ?_ (λb o C e=>?_) B⟩
 ·exact (GP _ _ z).trans ((GP _ _ z).trans g)
 exact (GP _ _ (JC C)).trans ((GP _ _ (JC C)).trans (YC _ e))
def Te {R:Result->Shared->Prop}{r:Addr}{a b c:Int}{t u v:Tok}{n:Nat}(hq:QtP A qs)(hp:∀ p∈qs,s.heap.get? p.1=some p.2)(hr:IsRange s.heap r a b c t u v)(g:Builtin.Range.small a b c=true)
  (hn:Builtin.Range.rangeSize a b c=n) (k:n<=2 ^ 24) (S:Addr) (hS:s.heap.get? S=some { cls:=.type "list",data:=.seq #[] }) (m:∀ p∈qs,p.1≠S)
  (D:∀ h' tk d c',(∀ b o,b≠S->s.heap.get? b=some o->h'.get? b=some o)->h'.get? S=some { cls:=.type "list",dict:=none,data:=.seq d c',slots:=#[] } →
   ItemsOf (λi v=>∃ t,v=.int (a+i*c) t) d n->R (.ok (.ret .none)) { s with heap:=h',toks:=tk }) :
  wpAny (model prog w) A.in1 (Builtin.«list.__init__» ⟨[.ref S,.ref r],[]⟩)
   (λB s'=>match B with | .done f=>R (.ok f) s' | .again c'=>c'.quiet=true/\codeAny (model prog w) A c' R s') (λe s'=>R (.error e) s') s:=by
 have C:S≠r:=λe=>by rw[e,hr] at hS;simp at hS
 show wpAny _ _ (do let z <-Builtin.List.listItems (.ref S);Builtin.List.listUpdate (.ref S) (λ_=>#[]);letGo z.toList.reverse;Builtin.List.listExtendWith (.ref S) (.ref r) .none) _ _ s;refine YA ?_;unfold Builtin.List.listItems;refine YA (GD hS rfl (YK ?_));show wpAny _ _ (updateSeq S (λ_=>#[]) >>= λ_=>letGo (#[]:Array Value).toList.reverse >>= λ_=>Builtin.List.listExtendWith (.ref S) (.ref r) .none) _ _ s;refine YA (Y1l hS rfl ?_);have j:=GW (Obj.mapSeq (λ_=>(#[]:Array Value))) hS rfl;have h:∀ b o,b≠S->s.heap.get? b=some o->(s.heap.update S (Obj.mapSeq (λ_=>(#[]:Array Value)))).get? b=some o :=
  λb o x e=>(GP _ _ (JC x)).trans e
 refine YA (Y1r ?_);refine Ph hq (λp q=>h p.1 p.2 (m p q) (hp p q)) (h r _ (JC C) hr) g hn k S .none _ j m λh' tk d c' hk y l=>?_;exact D h' tk d c' (λb o x e=>hk b o x (h b o x e)) y l
end
section
def Mp {Q:TC}{r:Addr}{a b c:Int}{t u v:Tok}{n:Nat}(hq:QtP A qs)(hp:∀ p∈qs,s.heap.get? p.1=some p.2)(hr:IsRange s.heap r a b c t u v)(f:Builtin.Range.small a b c=true)
  (hn:Builtin.Range.rangeSize a b c=n) (h:n<=2 ^ 24)
  (m:∀ h' tk d c',(∀ b o,s.heap.get? b=some o->h'.get? b=some o) →
   h'.get? s.heap.objs.size=some { cls:=.type "list",dict:=none,data:=.seq d c',slots:=#[] }->ItemsOf (λi v=>∃ t,v=.int (a+i*c) t) d n->Q (.ref s.heap.objs.size) { s with heap:=h',toks:=tk }) :
  wpAny (model prog w) A (call (.type "list") [.ref r]) Q E s:=by
 refine callType_codes (Q₁:=λobj g=>obj=.ref s.heap.objs.size/\g={ s with heap:=s.heap.push { cls:=.type "list",data:=.seq #[] } }) F.called_list (F.typeCall_list_1 _) F.entry_list_init
  (code_list_new _ ⟨rfl,rfl⟩) λobj g k=>?_
 obtain⟨rfl,rfl⟩:=k;have hS:(s.heap.push { cls:=.type "list",data:=.seq #[] }).get? s.heap.objs.size=some { cls:=.type "list",data:=.seq #[] }:=YS _ rfl;refine⟨⟨_,hS,rfl⟩,F.args_list_init_2 _ _,Te (A:=A.in1) hq (λp q=>YC _ (hp p q)) (YC _ hr) f hn h _ hS (λp q=>XM (YQ (hp p q))) λh' tk d c' hk l j=>?_⟩;exact⟨rfl,m h' tk d c' (λb o e=>hk b o (XM (YQ e)) (YC _ e)) l j⟩
end
end _b
namespace _L
open PySem PySem.Spec PyProof.Rows
abbrev Key:=Sum Int Str
noncomputable def keyIs:Key->Value->Bool
 | .inl k,v=>Value.isInt k v
 | .inr x,v=>Value.isStrOf x v
noncomputable def keyH (w:World):Key->Int
 | .inl k=>hashInt k
 | .inr x=>hashStr w x
theorem Yv:∀ {k:Key} {v:Value},keyIs k v=true->(∃ i t,k=Sum.inl i/\v=Value.int i t) \/ (∃ x t,k=Sum.inr x/\v=Value.str x t)
 | .inl i,v,h=>by
  obtain⟨t,e⟩:=Value.isInt_shape (k:=i) (v:=v) h;exact .inl ⟨i,t,rfl,e⟩
 | .inr x,v,h=>by
  obtain⟨t,e⟩:=Value.isStrOf_shape (x:=x) (v:=v) h;exact .inr ⟨x,t,rfl,e⟩
def Z70 (a b:Int):decide ((Sum.inl a:Key)=Sum.inl b)=(a == b):=by
 by_cases e:a=b
 ·subst e;simp
 have h:¬ (Sum.inl a:Key)=Sum.inl b:=λq=>e (Sum.inl.inj q);rw[XF h];exact (JI.mpr e).symm
def Z6x (a b:Str):decide ((Sum.inr a:Key)=Sum.inr b)=decide (a=b):=by
 by_cases e:a=b
 ·subst e;simp
 have h:¬ (Sum.inr a:Key)=Sum.inr b:=λq=>e (Sum.inr.inj q);rw[XF h,XF e]
def Z6z (a:Int)(b:Str):decide ((Sum.inl a:Key)=Sum.inr b)=false:=XF (λq=>nomatch q)
def Z6y (a:Str)(b:Int):decide ((Sum.inr a:Key)=Sum.inl b)=false:=XF (λq=>nomatch q)
noncomputable def mixKind (prog:TU)(w:World):PySem.KeyKind prog w Key where
 is:=keyIs
 hash:=keyH w
 inj:=λv a b ha d=>by
  rcases Yv ha with ⟨i,t,rfl,rfl⟩ | ⟨x,t,rfl,rfl⟩
  ·rcases Yv d with ⟨j,u,rfl,e⟩ | ⟨y,u,rfl,e⟩
   ·injection e with e1 _;rw[e1]
   exact nomatch e
  rcases Yv d with ⟨j,u,rfl,e⟩ | ⟨y,u,rfl,e⟩
  ·exact nomatch e
  injection e with e1 _;rw[e1]
 byValue:=λk v h=>by
  rcases Yv h with ⟨i,t,rfl,rfl⟩ | ⟨x,t,rfl,rfl⟩ <;> rfl
 pyHash:=λc h=>by
  rcases Yv c with ⟨i,t,rfl,rfl⟩ | ⟨x,t,rfl,rfl⟩
  ·exact wpAny_pyHash_int h
  exact wpAny_pyHash_str h
 eqBool:=λhu c h=>by
  rcases Yv hu with ⟨i,t,rfl,rfl⟩ | ⟨x,t,rfl,rfl⟩
  ·rcases Yv c with ⟨j,u,rfl,rfl⟩ | ⟨y,u,rfl,rfl⟩
   ·rw[Z70] at h;exact wpAny_eqBool_int h
   rw[Z6z] at h;exact SeqAt.EqAt.int_str i t y u _ _ _ _ h
  rcases Yv c with ⟨j,u,rfl,rfl⟩ | ⟨y,u,rfl,rfl⟩
  ·rw[Z6y] at h;exact SeqAt.EqAt.str_int x t j u _ _ _ _ h
  rw[Z6x] at h;exact wpAny_eqBool_str h
 «strs»:=λk x t v h=>by
  rcases Yv h with ⟨i,u,rfl,e⟩ | ⟨y,u,rfl,e⟩
  ·exact nomatch e
  injection e with e1 _
  subst e1
  cases v <;> rfl
inductive V where
 | non | bl (b:Bool) | int (i:Int) | str (x:Str) | byt (b:Array UInt8) | flt (b:UInt64) | ref (a:Addr) | ty (n:String)
 deriving DecidableEq
abbrev _root_.TZ:=List V
def RelV:V->Value->Prop
 | .non,u=>u=Value.none
 | .bl b,u=>u=Value.bool b
 | .int i,u=>∃ t,u=Value.int i t
 | .str x,u=>∃ t,u=Value.str x t
 | .byt b,u=>∃ t,u=Value.bytes b t
 | .flt b,u=>∃ t,u=Value.float b t
 | .ref a,u=>u=Value.ref a
 | .ty n,u=>u=Value.type n
abbrev Vals:List V->List Value->Prop:=Paired RelV
theorem Vals.length {xs:TZ}{us:TH}(r:Vals xs us):xs.length=us.length:=XB r
theorem Vals.get:∀ {xs:TZ} {us:TH} {i:Nat} {x:V},Vals xs us->xs[i]?=some x->∃ u,us[i]?=some u/\RelV x u
 | _,_,_,_,.nil,e=>by simp at e
 | _,_,0,_,.cons r _,e=>by simp at e;subst e;exact⟨_,rfl,r⟩
 | _,_,i+1,x,.cons _ t,e=>by
  obtain⟨u,h1,h2⟩:=Vals.get (i:=i) (x:=x) t (by simpa using e);exact⟨u,by simpa using h1,h2⟩
theorem Vals.set {x:V}{u:Value}(r:RelV x u):∀ {xs:TZ} {us:TH} (i:Nat),Vals xs us->Vals (xs.set i x) (us.set i u)
 | _,_,_,.nil=>.nil
 | _,_,0,.cons _ t=>.cons r t
 | _,_,i+1,.cons q t=>.cons q (Vals.set r i t)
theorem Vals.append:∀ {xs ys:TZ} {us ws:TH},Vals xs us->Vals ys ws->Vals (xs++ys) (us++ws)
 | _,_,_,_,.nil,s=>s
 | _,_,_,_,.cons r t,s=>.cons r (Vals.append t s)
def RelO:Option V->Option Value->Prop
 | some v,some u=>RelV v u
 | none,none=>True
 | _,_=>False
def KV {κ:Type}:List (κ × V)->List (κ × Value)->Prop:=Paired λ(p:κ × V) (q:κ × Value)=>p.1=q.1/\RelV p.2 q.2
noncomputable def kV:Key->V
 | .inl i=>.int i
 | .inr x=>.str x
inductive HO where
 | lst (xs:TZ)
 | tup (xs:TZ)
 | dK (kvs:List (Key × V)) | dT (kvs:List (List Key × V))
 | set (S:Int->Bool) (n:Nat)
 | ins (C dx:Addr) (fs:List (Str × V))
 | own (x:Addr)
 | xd (fs:List (Str × V))
 | met (f x:Addr)
 | rng (lo hi:Int)
 | frz (o:Obj) (u:HO)
 | tbl (ps:Array Value)
 | ext (φ:Heap->Prop)
abbrev Hp:=Addr->Option HO
noncomputable def upd (H:Hp)(a:Addr)(o:HO):Hp:=λb=>if b=a then some o else H b
def Zc {H:Hp}{a:Addr}{o:HO}:upd H a o a=some o:=by unfold upd;rw[YH rfl]
def Ze {H:Hp}{a b:Addr}{o:HO}(h:b≠a):upd H a o b=H b:=by unfold upd;rw[YF h]
def Z5l {H:Hp}{a b:Addr}{o u:HO}(h:H a=some o)(h':H b=some u)(d:o≠u):a≠b:=by
 intro e;subst e;rw[h] at h';exact d (YU h')
def Zd {H:Hp}{a b:Addr}{o:HO}(h:H a=some o)(h':H b=none):a≠b:=by
 intro e;subst e;rw[h] at h';cases h'
section
variable (P:TU)(w:World)
def ObjOk (H:Hp)(h:Heap)(a:Addr):HO->Prop
 | .lst xs=>xs.length<=sizeLine/\∃ (its:TH) (n:Nat),Vals xs its/\h.get? a=some { cls:=.type "list",data:=.seq its.toArray n }
 | .tup xs=>xs.length<=sizeLine/\∃ its:List Value,Vals xs its/\IsTup h a its.toArray
 | .dK kvs=>kvs.length<=sizeLine/\(a == sysModules)=false/\∃ vs,KV kvs vs/\h.DictOf (mixKind P w) a vs
 | .dT kvs=>kvs.length<=sizeLine/\(a == sysModules)=false/\∃ xs:List (List Key × Addr × Value),
   Paired (λ(p:List Key × V) (q:List Key × Addr × Value)=>p.1=q.1/\H q.2.1=some (.tup (p.1.map kV))/\RelV p.2 q.2.2) kvs xs ∧
   ∃ o es ep,h.get? a=some o/\o.ExactDict/\o.data=.dict es ep/\es.toList=xs.map (entryOfKey (tupleKind (mixKind P w)))/\(xs.map (·.1)).Nodup
 | .set S n=>h.SetOf (intKind P w) a S n
 | .ins C dx fs=>H dx=some (.own a)/\fs.length<=1000/\dx≠a/\h.get? a=some (W.instObj C dx) ∧
   ∃ mA,h.Ns1 dx mA/\(∀ f,RelO (fs.lookup f) (mA f))/\PySem.Within mA (fs.map (·.1))
 | .own _=>∃ o,h.get? a=some o
 | .xd fs=>∃ mA,h.Ns1 a mA/\∀ f,RelO (fs.lookup f) (mA f)
 | .rng lo hi=>∃ t u v,h.get? a=some { cls:=.type "range",data:=.fields #[.int lo t,.int hi u,.int 1 v] }
 | .frz o u=>h.get? a=some o/\ObjOk H h a u
 | .tbl ps=>h.get? a=some { cls:=.none,data:=.fields ps }
 | .met f x=>h.get? a=some (W.methodObj (.ref f) (.ref x))
 | .ext φ=>φ h/\(∃ o,h.get? a=some o)/\∀ h1 h2:Heap,φ h1->(∀ o,h1.get? a=some o->h2.get? a=some o)->φ h2
def HOk (H:Hp)(h:Heap):Prop:=∀ a o,H a=some o->ObjOk P w H h a o
end
section
variable {P:TU}{H H':Hp}{a:Addr}{o:HO}
theorem ObjOk.lt (x:ObjOk P w H h a o):a<h.objs.size:=by
 cases o with
 | lst xs=>obtain⟨_,_,_,_,e⟩:=x;exact YQ e
 | tup xs=>obtain⟨_,_,_,p⟩:=x;exact p.lt
 | dK kvs=>obtain⟨_,_,_,_,o,_,_,e,_⟩:=x;exact YQ e
 | dT kvs=>obtain⟨_,_,_,_,o,_,_,e,_⟩:=x;exact YQ e
 | set S n=>obtain⟨o,_,_,_,e,_⟩:=x;exact YQ e
 | ins C dx fs=>obtain⟨_,_,_,e,_⟩:=x;exact YQ e
 | own y=>obtain⟨_,e⟩:=x;exact YQ e
 | xd fs=>obtain⟨_,⟨_,_,_,e,_⟩,_⟩:=x;exact YQ e
 | rng lo hi=>obtain⟨_,_,_,e⟩:=x;exact YQ e
 | frz ob u=>obtain⟨e,_⟩:=x;exact YQ e
 | tbl ps=>exact YQ (show h.get? a=some _ from x)
 | met f y=>exact YQ (show h.get? a=some _ from x)
 | ext φ=>obtain⟨_,⟨_,e⟩,_⟩:=x;exact YQ e
theorem Paired.mapP {α β:Type}{F G:α->β->Prop}:∀ {l₁:List α} {l₂:List β},Paired F l₁ l₂->(∀ a b,F a b->G a b)->Paired G l₁ l₂
 | _,_,.nil,_=>.nil
 | _,_,.cons r t,f=>.cons (f _ _ r) (Paired.mapP t f)
def ObjOk.stay (x:ObjOk P w H h a o)(k:∀ b u,(b=a \/ H b=some (.own a))->h.get? b=some u->h'.get? b=some u)
  (ho:∀ b,H b=some (.own a)->H' b=some (.own a)) (g:∀ b xs,H b=some (.tup xs)->H' b=some (.tup xs)):ObjOk P w H' h' a o:=by
 induction o with
 | lst xs=>obtain⟨z,its,n,r,e⟩:=x;exact⟨z,its,n,r,k _ _ (.inl rfl) e⟩
 | tup xs=>obtain⟨z,its,r,ob,e,c⟩:=x;exact⟨z,its,r,ob,k _ _ (.inl rfl) e,c⟩
 | dK kvs=>obtain⟨z,y,vs,r,ob,es,ep,e,c⟩:=x;exact⟨z,y,vs,r,ob,es,ep,k _ _ (.inl rfl) e,c⟩
 | dT kvs =>
  obtain⟨z,y,xs,r,ob,es,ep,e,c⟩:=x;exact⟨z,y,xs,Paired.mapP r λp q z=>⟨z.1,g _ _ z.2.1,z.2.2⟩,ob,es,ep,k _ _ (.inl rfl) e,c⟩
 | set S n=>obtain⟨ob,es,ep,t,e,c⟩:=x;exact⟨ob,es,ep,t,k _ _ (.inl rfl) e,c⟩
 | ins C dx fs =>
  obtain⟨d,z,ne,e,mA,⟨od,es,ep,e2,c⟩,r⟩:=x;exact⟨ho _ d,z,ne,k _ _ (.inl rfl) e,mA,⟨od,es,ep,k _ _ (.inr d) e2,c⟩,r⟩
 | own y=>obtain⟨ob,e⟩:=x;exact⟨ob,k _ _ (.inl rfl) e⟩
 | xd fs=>obtain⟨mA,⟨od,es,ep,e,c⟩,r⟩:=x;exact⟨mA,⟨od,es,ep,k _ _ (.inl rfl) e,c⟩,r⟩
 | rng lo hi=>obtain⟨t,u,v,e⟩:=x;exact⟨t,u,v,k _ _ (.inl rfl) e⟩
 | frz ob u i=>obtain⟨e,q⟩:=x;exact⟨k _ _ (.inl rfl) e,i q⟩
 | tbl ps =>
  have e:h.get? a=some { cls:=.none,data:=.fields ps }:=x;show h'.get? a=some { cls:=.none,data:=.fields ps };exact k a _ (.inl rfl) e
 | met f y =>
  have e:h.get? a=some (W.methodObj (.ref f) (.ref y)):=x;show h'.get? a=some (W.methodObj (.ref f) (.ref y));exact k a _ (.inl rfl) e
 | ext φ=>obtain⟨p,⟨o,e⟩,st⟩:=x;exact⟨st _ _ p λo q=>k _ _ (.inl rfl) q,⟨o,k _ _ (.inl rfl) e⟩,st⟩
theorem HOk.lt (x:HOk P w H h)(e:H a=some o):a<h.objs.size:=(x a o e).lt
def HOk.fresh (x:HOk P w H h)(e:h.objs.size<=a):H a=none:=by
 cases q:H a with
 | none=>rfl
 | some u=>exact absurd (YX (x.lt q) e) (GB _)
theorem HOk.kept (x:HOk P w H h)(k:∀ b u,h.get? b=some u->h'.get? b=some u):HOk P w H h':=λa o e =>
 (x a o e).stay (λb u _ q=>k b u q) (λ_ q=>q) λ_ _ q=>q
def HOk.laid (x:HOk P w H h)(k:∀ b u,h.get? b=some u->h'.get? b=some u)(hp:h.objs.size<=a)(d:ObjOk P w (upd H a o) h' a o):HOk P w (upd H a o) h':=λb u e=>by
 have hn:=x.fresh hp;by_cases f:b=a
 ·subst f;rw[Zc] at e;cases e;exact d
 rw[Ze f] at e;exact (x b u e).stay (λc v _ q=>k c v q) (λc q=>by rw[Ze (Zd q hn)];exact q) λc xs q=>by rw[Ze (Zd q hn)];exact q
end
def Rd (H:Hp)(a:Addr)(u:HO):Prop:=H a=some u \/ ∃ o,H a=some (.frz o u)
def Rd.ok {P:TU}{H:Hp}{a:Addr}{u:HO}(r:Rd H a u)(x:HOk P w H h):ObjOk P w H h a u:=by
 rcases r with r | ⟨o,r⟩
 ·exact x a u r
 obtain⟨_,q⟩:=x a _ r;exact q
def Mut:Option HO->Prop
 | some (.lst _)=>True
 | some (.dK _)=>True
 | some (.dT _)=>True
 | some (.set _ _)=>True
 | some (.ins _ _ _)=>True
 | some (.ext _)=>True
 | _=>False
section
variable {P:TU}{H:Hp}{x e:Addr}{o':HO}
def HOk.write (ok:HOk P w H h)(g:Mut (H x))(m:e=x \/ H e=some (.own x))(k:∀ b u,b≠e->h.get? b=some u->h'.get? b=some u)(j:∃ u,h'.get? e=some u)
  (l:ObjOk P w (upd H x o') h' x o'):HOk P w (upd H x o') h':=λb u q=>by
 have d:∀ c y,H c=some (.own y)->c≠x:=λc y r z=>by subst z;rw[r] at g;exact g
 have f:∀ c xs,H c=some (.tup xs)->c≠x:=λc xs r z=>by subst z;rw[r] at g;exact g
 by_cases i:b=x
 ·subst i;rw[Zc] at q;cases q;exact l
 rw[Ze i] at q;by_cases a:b=e
 ·have q':H b=some (.own x):=by
   rcases m with z | z
   ·exact absurd (a.trans z) i
   rw[a];exact z
  rw[q] at q';cases q';obtain⟨v,n⟩:=j;exact⟨v,by rw[a];exact n⟩
 refine (ok b u q).stay (λc v hc r=>k c v ?_ r) (λc r=>by rw[Ze (d c b r)];exact r) λc xs r=>by rw[Ze (f c xs r)];exact r
 rcases hc with rfl | hc
 ·exact a
 rintro rfl;rcases m with z | z
 ·exact d c b hc z
 rw[hc] at z;cases z;exact i rfl
end
structure Un (fs ex:TJ)(H H':Hp)(h h':Heap):Prop where
 keep:∀ b o,h.get? b=some o->H b=none->b ∉ fs->b ∉ ex->h'.get? b=some o
 slot:∀ b o,h.get? b=some o->H b=none->b∈fs->b ∉ ex->∃ sl,h'.get? b=some { o with slots:=sl }
 free:∀ b o,h.get? b=some o->H b=none->b ∉ ex->H' b=none
 there:∀ b o,h.get? b=some o->b ∉ ex->∃ o',h'.get? b=some o'
 tups:∀ b xs,H b=some (.tup xs)->H' b=some (.tup xs)
 frzs:∀ b o u,H b=some (.frz o u)->H' b=some (.frz o u)
 tbls:∀ b ps,H b=some (.tbl ps)->∃ more,H' b=some (.tbl (ps++more))
section
variable {fs ex:TJ}{H H1:Hp}{h1:Heap}{a x e:Addr}{o:HO}
def Un.any (u:Un fs ex H H1 h h1){b:Addr}{ob:Obj}(q:h.get? b=some ob)(n:H b=none)(hx:b ∉ ex):∃ sl,h1.get? b=some { ob with slots:=sl }:=by
 by_cases a:b∈fs
 ·exact u.slot b ob q n a hx
 exact⟨ob.slots,u.keep b ob q n a hx⟩
def Un.kept (k:∀ b u,h.get? b=some u->h'.get? b=some u):Un fs ex H H h h' :=
 ⟨λb ob q _ _ _=>k b ob q,λb ob q _ _ _=>⟨ob.slots,k b ob q⟩,λ_ _ _ n _=>n,λb ob q _=>⟨ob,k b ob q⟩,λ_ _ q=>q,λ_ _ _ q=>q,λ_ ps q=>⟨#[],by rw[q];simp⟩⟩
def Un.refl:Un fs ex H H h h:=Un.kept λ_ _ q=>q
def Un.laid (k:∀ b u,h.get? b=some u->h'.get? b=some u)(hp:h.objs.size<=a)(hn:H a=none):Un fs ex H (upd H a o) h h' where
 keep:=λb u q _ _ _=>k b u q
 slot:=λb u q _ _ _=>⟨u.slots,k b u q⟩
 free:=λb u q n _=>by rw[Ze (XM (YX (YQ q) hp))];exact n
 there:=λb u q _=>⟨u,k b u q⟩
 tups:=λb xs q=>by rw[Ze (Zd q hn)];exact q
 frzs:=λb u xs q=>by rw[Ze (Zd q hn)];exact q
 tbls:=λb ps q=>⟨#[],by rw[Ze (Zd q hn),q];simp⟩
def Un.write (c:Mut (H x))(g:e=x \/ H e=some (.own x))(k:∀ b u,b≠e->h.get? b=some u->h'.get? b=some u)(d:∃ u,h'.get? e=some u):Un fs ex H (upd H x o) h h':=by
 have hx:∀ b,H b=none->b≠x:=λb n z=>by subst z;rw[n] at c;exact c
 have f:∀ b,H b=none->b≠e:=λb n z=>by
  subst z;rcases g with r | r
  ·exact hx b n r
  rw[n] at r;cases r
 have hm:∀ b u,H b=some u->¬ Mut (some u)->b≠x:=λb u q i z=>by subst z;rw[q] at c;exact i c
 refine⟨λb u q n _ _=>k b u (f b n) q,λb u q n _ _=>⟨u.slots,k b u (f b n) q⟩,λb u q n _=>by rw[Ze (hx b n)];exact n,λb u q _=>?_,
  λb xs q=>by rw[Ze (hm b _ q λz=>z)];exact q,λb u xs q=>by rw[Ze (hm b _ q λz=>z)];exact q,λb ps q=>⟨#[],by rw[Ze (hm b _ q λz=>z),q];simp⟩⟩
 by_cases a:b=e
 ·subst a;exact d
 exact⟨u,k b u a q⟩
end
noncomputable def trk (h:Heap)(H:Hp):List Addr:=(List.range h.objs.size).filter λa=>(H a).isSome
noncomputable def hidT (h:Heap)(H:Hp):Heap:=W.hideAll h (trk h H)
def Ci (h:Heap)(H:Hp):(hidT h H).objs.size=h.objs.size:=W.hideAll_size _ _
def Z1y {H:Hp}{b:Addr}{o:Obj}(e:h.get? b=some o)(n:H b=none):(hidT h H).get? b=some o :=
 W.hideAll_get _ e λhm=>by
  have q:(H b).isSome=true:=(XE.mp hm).2;rw[n] at q;simp at q
def Z4d {h:Heap}{H:Hp}{b:Addr}{o:Obj}(e:(hidT h H).get? b=some o):h.get? b=some o/\H b=none:=by
 have e':h.get? b=some o:=W.of_hideAll (trk h H) e;refine⟨e',?_⟩
 cases q:H b with
 | none=>rfl
 | some x =>
  have hm:b∈trk h H:=XE.mpr ⟨XI.mpr (YQ e'),by simp[q]⟩;have z:(hidT h H).get? b=none:=W.hideAll_none (trk h H) hm;rw[z] at e;cases e
noncomputable def allNews (g h:Heap)(L:Addr):List (Addr × Obj):=(List.range h.objs.size).filterMap λa=>if a=L \/ (g.get? a).isSome=true then none else (h.get? a).map λo=>(a,o)
noncomputable def rest (g h:Heap)(L d:Addr):List (Addr × Obj):=(allNews g h L).filter λp=>decide (p.1≠d)
end _L
variable {H H' H1 H2:_L.Hp}{v:_L.V}{xs ys:TZ}
namespace _b
open PySem PySem.Spec PyProof.Rows
def Seen (P:TU)(l:TN):Prop:=P.given.tree=none/\∃ e r,l=e::r/\e.scope.isGenerator=false/\e.scope.isCoroutine=false/\e.builtins=builtinsNs/\e.globals=mainGlobals
end _b
namespace _L
open PySem PySem.Spec PyProof.Rows
structure Mod (K:TR)(mg:TB)(base:Heap):Prop where
 kin:K.In base
 glob:base.Ns mainGlobals mg
 blt:∃ mb,base.Ns builtinsNs mb/\∀ x:Str,x≠"__name__"->mb x=bootBuiltins x
 nolimit:base.NoLimit
 seer:base.NoSeer
structure Cx where
 prog:Program
 w:World
 K:W.Frag
 mg:Str->Option Value
 base:Heap
 A:Around
 N:List Str
 s₀:Shared
 H₀:Hp
 env:Env
 outer:List Env
 stack:List Env
 ex:List Addr
 fn:Str->Bool
 calm:Bool
 pn:List (Addr × Obj)
 xe:Value->Shared->Prop
abbrev wX(X:Cx){α:Type}(c:PySem.Sem α):(α->PySem.Shared->Prop)->(PySem.Value->PySem.Shared->Prop)->PySem.Shared->Prop:=PySem.wpAny (PySem.model X.prog X.w) X.A c
noncomputable def frs (l:TN):List Addr:=l.filterMap (·.frame)
noncomputable abbrev Cx.fs (X:Cx):List Addr:=frs X.outer
def Vis (sc:Scope)(x:Str):Prop:=sc.names.lookup x=some .local \/ sc.names.lookup x=some .cell \/ sc.names.lookup x=some .free
def Loc (sc:Scope)(x:Str):Prop:=sc.names.lookup x=some .local \/ sc.names.lookup x=some .cell
def Look (env:Env)(h:Heap)(m:TB)(x:Str)(u:Value):Prop :=
 (env.kindOf x=some .local/\m x=some u) \/ ((env.kindOf x=some .cell \/ env.kindOf x=some .free)/\∃ c,env.cells.lookup x=some c/\h.IsCell c (some u))
structure Cx.Ok (X:Cx):Prop where
 mod:Mod X.K X.mg X.base
 kind:X.env.scope.kind=.function
 glob:X.env.globals=mainGlobals
 blt:X.env.builtins=builtinsNs
 above:X.s₀.heap.objs.size<=X.env.locals
 inj:∀ x y c,X.env.cells.lookup x=some c->X.env.cells.lookup y=some c->x=y
 has:∀ x,(X.env.kindOf x=some .cell \/ X.env.kindOf x=some .free)->∃ c,X.env.cells.lookup x=some c
 cab:∀ x c,X.fn x=true->X.env.cells.lookup x=some c->X.s₀.heap.objs.size<=c
 hd:X.calm=true->_b.QtP X.A X.pn
 frames:X.A.frames=some X.stack
 stk:X.stack=X.outer \/ (X.stack=X.env::X.outer/\X.env.frame=some X.env.locals)
 exf:∀ b∈X.ex,b≠X.env.locals/\∀ x c,X.env.cells.lookup x=some c->c≠b
 bs:∀ b o,X.base.get? b=some o->X.s₀.heap.get? b=some o/\X.H₀ b=none
 bsz:X.base.objs.size<=X.s₀.heap.objs.size
 noex:∀ b o,X.base.get? b=some o->b ∉ X.ex
 exfs:∀ b∈X.ex,b ∉ X.fs
 funs:X.s₀.heap.FunFrames X.base X.outer
 frf:∀ b∈X.fs,X.H₀ b=none
 seen:_b.Seen X.prog X.stack
 dpt:X.A.depth+100<recursionLimit
structure Inv (X:Cx)(pins:TD)(σ:List (Option V))(H:Hp)(s:Shared):Prop where
 ok:X.Ok
 os:s.os=X.s₀.os
 bare:AllBare s.gens
 base:Un X.fs X.ex X.H₀ H X.s₀.heap s.heap
 loc:∃ m,s.heap.Ns X.env.locals m/\∀ (i:Nat) (x:Str) (v:V),X.N[i]?=some x->σ[i]?=some (some v)->Vis X.env.scope x->∃ u,RelV v u/\Look X.env s.heap m x u
 cell:∀ x c,X.env.cells.lookup x=some c->∃ v,s.heap.IsCell c v
 free:H X.env.locals=none
 freeC:∀ x c,X.env.cells.lookup x=some c->H c=none
 pin:∀ p∈X.pn++pins,s.heap.get? p.1=some p.2/\H p.1=none/\p.1≠X.env.locals/\p.1 ∉ X.fs/\∀ v,p.2.data≠.cell v
 hok:HOk X.prog X.w H s.heap
 len:σ.length=X.N.length
def Inv.qt {X:Cx}{σ:List (Option V)}(I:Inv X pins σ H s)(hc:X.calm=true):_b.Qt X.A s.heap:=(I.ok.hd hc).at λp hp=>(I.pin p (XG _ hp)).1
section
variable {X:Cx}{σ:List (Option V)}{H H':Hp}
def Cx.Ok.nofr (ok:X.Ok){b:Addr}{o:Obj}(e:X.base.get? b=some o):b ∉ X.fs:=λa=>by
 have:=(ok.funs.mem a).1;rw[e] at this;cases this
theorem Inv.bs (I:Inv X pins σ H s):∀ b o,X.base.get? b=some o->s.heap.get? b=some o/\H b=none:=λb o e =>
 ⟨I.base.keep b o (I.ok.bs b o e).1 (I.ok.bs b o e).2 (I.ok.nofr e) (I.ok.noex b o e),I.base.free b o (I.ok.bs b o e).1 (I.ok.bs b o e).2 (I.ok.noex b o e)⟩
def Inv.bk (I:Inv X pins σ H s):∀ b o,X.base.get? b=some o->s.heap.get? b=some o:=λb o e=>(I.bs b o e).1
theorem Inv.mod (I:Inv X pins σ H s):Mod X.K X.mg X.base:=I.ok.mod
def Inv.kIn (I:Inv X pins σ H s):X.K.In s.heap:=I.ok.mod.kin.keeps I.bk
theorem Inv.nolimit (I:Inv X pins σ H s):s.heap.NoLimit:=I.ok.mod.nolimit.keeps I.bk
def Inv.pylong (I:Inv X pins σ H s):PySem.PylongRoom (model X.prog X.w) X.A s:=by
 obtain⟨a,e,l,hs,h1,h2,h3,h4⟩:=I.ok.seen;exact PySem.PylongRoom.of I.nolimit I.ok.dpt (PySem.SeerAt.of (I.ok.mod.seer.keeps I.bk) a (by rw[I.ok.frames,hs]) h1 h2 h3 h4)
theorem Inv.lt (I:Inv X pins σ H s):X.env.locals<s.heap.objs.size:=let ⟨_,hn,_⟩:=I.loc;hn.lt
def Inv.sz (I:Inv X pins σ H s):X.s₀.heap.objs.size<=s.heap.objs.size:=YR I.ok.above (JH I.lt)
def Inv.nofs (I:Inv X pins σ H s){a:Addr}(h:s.heap.objs.size<=a):a ∉ X.fs:=λb=>by
 obtain⟨_,o,ho,_⟩:=I.ok.funs.mem b;exact absurd (YX (YQ ho) (YR I.sz h)) (GB _)
theorem Inv.cne (I:Inv X pins σ H s):∀ x c,X.env.cells.lookup x=some c->c≠X.env.locals:=λx c e z=>by
 obtain⟨v,o,ho,hd⟩:=I.cell x c e;obtain⟨m,⟨o',es,ep,a,b,_⟩,_⟩:=I.loc;rw[z,a] at ho;cases ho;rw[b] at hd;cases hd
theorem Inv.funs (I:Inv X pins σ H s):s.heap.FunFrames X.base X.outer:=by
 have all:∀ (l:TN),(∀ b∈frs l,b∈X.fs)->X.s₀.heap.FunFrames X.base l->s.heap.FunFrames X.base l:=by
  intro l
  induction l with
  | nil=>intro _ _;trivial
  | cons env r d =>
   intro hs hl;obtain⟨hk,⟨L,o,hf,hn,ho,hd⟩,hr⟩:=hl;have c:L∈X.fs:=hs L (by unfold frs;rw[Y0t,hf];exact YV);obtain⟨sl,e⟩:=I.base.slot L o ho (I.ok.frf L c) c λz=>I.ok.exfs L z c;exact⟨hk,⟨L,_,hf,hn,e,hd⟩,d (λb a=>hs b (by unfold frs;rw[Y0t,hf];exact YL _ a)) hr⟩
 exact all X.outer (λ_ a=>a) I.ok.funs
theorem Inv.stack (I:Inv X pins σ H s):s.heap.FunFrames X.base X.stack:=by
 rcases I.ok.stk with e | ⟨e,hf⟩
 ·rw[e];exact I.funs
 rw[e];obtain⟨m,hn,_⟩:=I.loc;refine .cons (by rw[I.ok.kind];decide) hf hn ?_ I.funs;exact Heap.get?_none_of_le (YR I.ok.bsz I.ok.above)
def Inv.stkSub (I:Inv X pins σ H s):∀ b∈frs X.stack,b∈X.env.locals::X.fs:=λb a=>by
 rcases I.ok.stk with e | ⟨e,hf⟩
 ·rw[e] at a;exact YL _ a
 rw[e] at a;unfold frs at a;rw[Y0t,hf] at a;exact a
def Inv.stkFree (I:Inv X pins σ H s):∀ b∈frs X.stack,H b=none:=λb a=>by
 rcases YT.mp (I.stkSub b a) with e | a
 ·rw[e];exact I.free
 obtain⟨_,o,ho,_⟩:=I.ok.funs.mem a;exact I.base.free b o ho (I.ok.frf b a) λz=>I.ok.exfs b z a
theorem Inv.step {g':Array GenState}{t':Nat}{d':Drawn}{ch:TJ}(I:Inv X pins σ H s)
  (g:∀ b∈ch,(b∈X.ex \/ X.s₀.heap.objs.size<=b)/\b≠X.env.locals/\(∀ x c,X.env.cells.lookup x=some c->c≠b)/\∀ p∈X.pn++pins,p.1≠b)
  (keep:∀ b o,b≠X.env.locals->b ∉ X.fs->b ∉ ch->s.heap.get? b=some o->H b=none->h'.get? b=some o)
  (slot:∀ b o,b≠X.env.locals->b∈X.fs->b ∉ ch->s.heap.get? b=some o->H b=none->∃ sl,h'.get? b=some { o with slots:=sl }) (free:∀ b o,b ∉ ch->s.heap.get? b=some o->H b=none->H' b=none)
  (there:∀ b o,b ∉ ch->s.heap.get? b=some o->∃ o',h'.get? b=some o')
  (tups:∀ b xs,H b=some (.tup xs)->H' b=some (.tup xs)) (frzs:∀ b o u,H b=some (.frz o u)->H' b=some (.frz o u)) (tbls:∀ b ps,H b=some (.tbl ps)->∃ more,H' b=some (.tbl (ps++more)))
  (ns:∀ m,s.heap.Ns X.env.locals m->h'.Ns X.env.locals m) (hok:HOk X.prog X.w H' h') (hg:AllBare g') :
  Inv X pins σ H' { s with heap:=h',gens:=g',drawn:=d',toks:=t' }:=by
 have t:∀ b o,X.s₀.heap.get? b=some o->b≠X.env.locals:=λb o e=>XM (YX (YQ e) I.ok.above);have h:∀ b o,X.s₀.heap.get? b=some o->b ∉ X.ex->b ∉ ch:=λb o e hx j=>by
  rcases (g b j).1 with z | z
  ·exact hx z
  exact absurd (YX (YQ e) z) (GB _)
 have a:∀ x c,X.env.cells.lookup x=some c->∀ v,s.heap.IsCell c v->h'.IsCell c v:=λx c e v ⟨o,ho,hd⟩=>by
  have f:c ∉ ch:=λz=>(g c z).2.2.1 x c e rfl;by_cases hc:c∈X.fs
  ·obtain⟨sl,q⟩:=slot c o (I.cne x c e) hc f ho (I.freeC x c e);exact⟨_,q,hd⟩
  exact⟨o,keep c o (I.cne x c e) hc f ho (I.freeC x c e),hd⟩
 refine⟨I.ok,I.os,hg,⟨λb o e n j hx=>?_,λb o e n j hx=>?_,λb o e n hx=>?_,λb o e hx=>?_,λb xs e=>tups b xs (I.base.tups b xs e),λb o xs e=>frzs b o xs (I.base.frzs b o xs e),λb ps e=>?_⟩,?_,λx c e=>?_,?_,λx c e=>?_,λp hp=>?_,hok,I.len⟩
 ·exact keep b o (t b o e) j (h b o e hx) (I.base.keep b o e n j hx) (I.base.free b o e n hx)
 ·obtain⟨sl,e1⟩:=I.base.slot b o e n j hx;obtain⟨y,e2⟩:=slot b _ (t b o e) j (h b o e hx) e1 (I.base.free b o e n hx);exact⟨y,e2⟩
 ·obtain⟨o',e1⟩:=I.base.there b o e hx;exact free b o' (h b o e hx) e1 (I.base.free b o e n hx)
 ·obtain⟨o',e1⟩:=I.base.there b o e hx;exact there b o' (h b o e hx) e1
 ·obtain⟨C,e1⟩:=I.base.tbls b ps e;obtain⟨B,e2⟩:=tbls b _ e1;exact⟨C++B,by rw[e2,Array.append_assoc]⟩
 ·obtain⟨m,hn,hl⟩:=I.loc;refine⟨m,ns m hn,λi x v e1 e2 e3=>?_⟩;obtain⟨u,r,l⟩:=hl i x v e1 e2 e3;refine⟨u,r,?_⟩;rcases l with l | ⟨k,c,e,z⟩
  ·exact .inl l
  exact .inr ⟨k,c,e,a x c e _ z⟩
 ·obtain⟨v,z⟩:=I.cell x c e;exact⟨v,a x c e v z⟩
 ·obtain⟨m,⟨o,_,_,ho,_⟩,_⟩:=I.loc;exact free _ o (λz=>(g _ z).2.1 rfl) ho I.free
 ·obtain⟨v,o,ho,hd⟩:=I.cell x c e;exact free c o (λz=>(g c z).2.2.1 x c e rfl) ho (I.freeC x c e)
 obtain⟨e,n,ne,A,d⟩:=I.pin p hp;have f:p.1 ∉ ch:=λz=>(g p.1 z).2.2.2 p hp rfl;exact⟨keep p.1 p.2 ne A f e n,free p.1 p.2 f e n,ne,A,d⟩
def Inv.un {t':Nat}(I:Inv X pins σ H s)(u:Un X.fs [] H H' s.heap h')(hok:HOk X.prog X.w H' h'):Inv X pins σ H' { s with heap:=h',toks:=t' }:=by
 obtain⟨m,⟨o,es,ep,ho,r⟩,_⟩:=id I.loc;obtain⟨sl,g⟩:=u.any ho I.free ZJ;exact I.step (g':=s.gens) (d':=s.drawn) (ch:=[]) (λ_ z=>nomatch z) (λb o _ d _ e n=>u.keep b o e n d ZJ) (λb o _ d _ e n=>u.slot b o e n d ZJ) (λb o _ e n=>u.free b o e n ZJ) (λb o _ e=>u.there b o e ZJ) u.tups u.frzs u.tbls (λh hm=>by
  obtain⟨o',f,c,a,r'⟩:=hm;rw[ho] at a;cases a;exact⟨_,f,c,g,r'⟩) hok I.bare
def Inv.call {g':Array GenState}{t':Nat}{d':Drawn}{ch:TJ}(I:Inv X pins σ H s)(u:Un (frs X.stack) ch H H' s.heap h')(hok:HOk X.prog X.w H' h')(hg:AllBare g')
  (a:∀ b∈ch,(b∈X.ex \/ X.s₀.heap.objs.size<=b)/\b≠X.env.locals/\(∀ x c,X.env.cells.lookup x=some c->c≠b)/\∀ p∈X.pn++pins,p.1≠b) :
  Inv X pins σ H' { s with heap:=h',gens:=g',drawn:=d',toks:=t' }:=by
 obtain⟨m,⟨o,es,ep,ho,r⟩,_⟩:=id I.loc;obtain⟨sl,h⟩:=u.any ho I.free λz=>(a _ z).2.1 rfl;exact I.step (ch:=ch) a (λb o h i hc e n=>u.keep b o e n (λz=>(YT.mp (I.stkSub b z)).elim h i) hc) (λb o _ _ hc e n=>u.any e n hc) (λb o hc e n=>u.free b o e n hc) (λb o hc e=>u.there b o e hc) u.tups u.frzs u.tbls (λj hm=>by
  obtain⟨o',g,f,d,r'⟩:=hm;rw[ho] at d;cases d;exact⟨_,g,f,h,r'⟩) hok hg
theorem Inv.turned {t':Nat}(I:Inv X pins σ H s)(k:∀ b o,b≠it->s.heap.get? b=some o->h'.get? b=some o)(hn:H it=none)(d:it≠X.env.locals)
  (h1:it∈X.ex \/ X.s₀.heap.objs.size<=it) (h2:∀ x c,X.env.cells.lookup x=some c->c≠it) (h3:∀ p∈X.pn++pins,p.1≠it):Inv X pins σ H { s with heap:=h',toks:=t' }:=by
 have a:∀ b u,H b=some u->b≠it:=λb u e z=>by rw[z,hn] at e;cases e
 refine I.step (g':=s.gens) (d':=s.drawn) (ch:=[it]) (λb f=>?_) (λb o _ _ hc e _=>k b o (λz=>hc (by simp[z])) e) (λb o _ _ hc e _=>⟨o.slots,k b o (λz=>hc (by simp[z])) e⟩) (λ_ _ _ _ n=>n)
  (λb o hc e=>⟨o,k b o (λz=>hc (by simp[z])) e⟩) (λ_ _ e=>e) (λ_ _ _ e=>e) (λb ps e=>⟨#[],by rw[e];simp⟩) (λm hm=>?_) (λb u e=>?_) I.bare
 ·have e:b=it:=by simpa using f
  subst e;exact⟨h1,d,h2,h3⟩
 ·obtain⟨o,es,ep,ho,r⟩:=hm;exact⟨o,es,ep,k _ o (JC d) ho,r⟩
 refine (I.hok b u e).stay (λc v hc q=>k c v ?_ q) (λ_ q=>q) λ_ _ q=>q;rcases hc with z | z
 ·rw[z];exact a b u e
 exact a c _ z
theorem Inv.tok (I:Inv X pins σ H s)(t:Nat):Inv X pins σ H { s with toks:=t }:=I.un (h':=s.heap) (t':=t) Un.refl I.hok
theorem Inv.kept {t':Nat}(I:Inv X pins σ H s)(k:∀ b u,s.heap.get? b=some u->h'.get? b=some u):Inv X pins σ H { s with heap:=h',toks:=t' }:=I.un (Un.kept k) (I.hok.kept k)
theorem Inv.laid {a:Addr}{o:HO}{t':Nat}(I:Inv X pins σ H s)(k:∀ b u,s.heap.get? b=some u->h'.get? b=some u)(hp:s.heap.objs.size<=a)(c:ObjOk X.prog X.w (upd H a o) h' a o) :
  Inv X pins σ (upd H a o) { s with heap:=h',toks:=t' }:=I.un (Un.laid k hp (I.hok.fresh hp)) (I.hok.laid k hp c)
theorem Inv.write {x e:Addr}{o:HO}{t':Nat}(I:Inv X pins σ H s)(d:Mut (H x))(f:e=x \/ H e=some (.own x))(k:∀ b u,b≠e->s.heap.get? b=some u->h'.get? b=some u)(a:∃ u,h'.get? e=some u)
  (c:ObjOk X.prog X.w (upd H x o) h' x o):Inv X pins σ (upd H x o) { s with heap:=h',toks:=t' }:=I.un (Un.write d f k a) (I.hok.write d f k a c)
def Inv.weak {σ':List (Option V)}(I:Inv X pins σ H s)(hl:σ'.length=σ.length)(w:∀ (i:Nat) v,σ'[i]?=some (some v)->σ[i]?=some (some v)):Inv X pins σ' H s :=
 ⟨I.ok,I.os,I.bare,I.base,let ⟨m,hn,hl'⟩:=I.loc;⟨m,hn,λi x v e1 e2 e3=>hl' i x v e1 (w i v e2) e3⟩,I.cell,I.free,I.freeC,I.pin,I.hok,hl.trans I.len⟩
def Inv.pins_of {pins':TD}(I:Inv X pins σ H s)(h:∀ p∈pins',s.heap.get? p.1=some p.2/\H p.1=none/\p.1≠X.env.locals/\p.1 ∉ X.fs/\∀ v,p.2.data≠.cell v):Inv X pins' σ H s :=
 ⟨I.ok,I.os,I.bare,I.base,I.loc,I.cell,I.free,I.freeC,λp hp=>(XN.mp hp).elim (λz=>I.pin p (XG _ z)) (h p),I.hok,I.len⟩
def Lz {N:TF}(hN:N.Nodup){i j:Nat}{x:Str}(a:N[i]?=some x)(b:N[j]?=some x):i=j:=by
 obtain⟨h1,e1⟩:=YG.mp a;obtain⟨h2,e2⟩:=YG.mp b;exact (List.getElem_inj hN).mp (e1.trans e2.symm)
theorem N0 {M:Model}{A:Around}{E:TC}{x:Str}{Q:Unit->Shared->Prop}(I:Inv X pins σ H s)(hN:X.N.Nodup)(hi:X.N[i]?=some x)(hx:Loc X.env.scope x)(r:RelV v u)
  (h:∀ s',Inv X pins (σ.set i (some v)) H s'->(∃ a,Heap.SameBut a s.heap s'.heap/\(a=X.env.locals \/ X.env.cells.lookup x=some a))->Q () s') (hf:X.fn x=true \/ X.env.scope.names.lookup x=some .local:=by first | exact .inl rfl | exact .inr rfl | assumption):wpAny M A (storeName X.env x u) Q E s:=by
 obtain⟨m,hn,hl⟩:=id I.loc;have F:(X.env.scope.kind == .class || (X.env.scope.kind == .module && X.env.locals != X.env.globals))=false:=by rw[I.ok.kind];rfl
 have l:i<σ.length:=by rw[I.len];exact (YG.mp hi).1
 have B:=I.cne;have f:∀ {a:Addr} {h':Heap},(∃ o,s.heap.get? a=some o/\H a=none)->Heap.SameBut a s.heap h'->HOk X.prog X.w H h':=λ{a h'} ha hs b ob e=>by
  obtain⟨_,_,g⟩:=ha;refine (I.hok b ob e).stay (λc K hc q=>(hs.2 c ?_).trans q) (λ_ q=>q) λ_ _ q=>q;rintro rfl;rcases hc with rfl | hc
  ·rw[g] at e;cases e
  rw[g] at hc;cases hc
 rcases hx with hk | hk
 ·refine wpAny_storeName_local hk hn (λh' L hs=>?_) F;obtain⟨R,_,_,O,_⟩:=id hn;refine h _ ⟨I.ok,I.os,I.bare,⟨λb o e n C hx=>?_,λb o e n C hx=>?_,I.base.free,λb o e hx=>?_,I.base.tups,I.base.frzs,I.base.tbls⟩,⟨_,L,λj y v' e1 e2 e3=>?_⟩,λy c e=>?_,I.free,I.freeC,λp hp=>?_,f ⟨R,O,I.free⟩ hs,by simpa using I.len⟩ ⟨_,hs,.inl rfl⟩
  ·exact (hs.2 b (XM (YX (YQ e) I.ok.above))).trans (I.base.keep b o e n C hx)
  ·obtain⟨sl,e1⟩:=I.base.slot b o e n C hx;exact⟨sl,(hs.2 b (XM (YX (YQ e) I.ok.above))).trans e1⟩
  ·obtain⟨o',e1⟩:=I.base.there b o e hx;exact⟨o',(hs.2 b (XM (YX (YQ e) I.ok.above))).trans e1⟩
  ·by_cases hj:j=i
   ·subst hj;rw[hi] at e1;cases e1;rw[JG l] at e2
    cases e2;exact⟨u,r,.inl ⟨hk,ZJ⟩⟩
   rw[qi (JC hj)] at e2;obtain⟨u',r',q⟩:=hl j y v' e1 e2 e3;refine⟨u',r',?_⟩;rcases q with ⟨k,e⟩ | ⟨k,c,e,z⟩
   ·refine .inl ⟨k,?_⟩;have:y≠x:=λe=>hj (Lz hN e1 (e ▸ hi));simp[this,e]
   exact .inr ⟨k,c,e,z.sameBut hs (B y c e)⟩
  ·obtain⟨K,z⟩:=I.cell y c e;exact⟨K,z.sameBut hs (B y c e)⟩
  obtain⟨e,n,ne,P,d⟩:=I.pin p hp;exact⟨(hs.2 p.1 ne).trans e,n,ne,P,d⟩
 have t:X.fn x=true:=by
  rcases hf with z | z
  ·exact z
  rw[z] at hk;cases hk
 obtain⟨c,hc⟩:=I.ok.has x (.inl hk);obtain⟨K,z⟩:=I.cell x c hc;refine wpAny_storeName_cell I.ok.kind hk hc z (λh' J hs=>?_);obtain⟨oc,D,G⟩:=id z;refine h { s with heap:=h' } ⟨I.ok,I.os,I.bare,⟨λb o e n C hx=>?_,λb o e n C hx=>?_,I.base.free,λb o e hx=>?_,I.base.tups,I.base.frzs,I.base.tbls⟩,⟨m,hn.sameBut hs (JC (B x c hc)),λj y v' e1 e2 e3=>?_⟩,λy c' e=>?_,I.free,I.freeC,λp hp=>?_,f ⟨oc,D,I.freeC x c hc⟩ hs,by simpa using I.len⟩ ⟨c,hs,.inr hc⟩
 ·exact (hs.2 b (XM (YX (YQ e) (I.ok.cab x c t hc)))).trans (I.base.keep b o e n C hx)
 ·obtain⟨sl,e1⟩:=I.base.slot b o e n C hx;exact⟨sl,(hs.2 b (XM (YX (YQ e) (I.ok.cab x c t hc)))).trans e1⟩
 ·obtain⟨o',e1⟩:=I.base.there b o e hx;exact⟨o',(hs.2 b (XM (YX (YQ e) (I.ok.cab x c t hc)))).trans e1⟩
 ·by_cases hj:j=i
  ·subst hj;rw[hi] at e1;cases e1;rw[JG l] at e2
   cases e2;exact⟨u,r,.inr ⟨.inl hk,c,hc,J⟩⟩
  rw[qi (JC hj)] at e2;obtain⟨u',r',q⟩:=hl j y v' e1 e2 e3;refine⟨u',r',?_⟩;rcases q with q | ⟨k,c',e,T⟩
  ·exact .inl q
  refine .inr ⟨k,c',e,T.sameBut hs ?_⟩;rintro rfl;exact hj (Lz hN e1 (I.ok.inj _ _ _ e hc ▸ hi))
 ·by_cases hcc:c'=c
  ·subst hcc;exact⟨_,J⟩
  obtain⟨S,z2⟩:=I.cell y c' e;exact⟨S,z2.sameBut hs hcc⟩
 obtain⟨e,n,ne,P,d⟩:=I.pin p hp;refine⟨(hs.2 p.1 ?_).trans e,n,ne,P,d⟩;intro q;rw[q,D] at e;have q':oc=p.2:=YU e;exact d K (by rw[<-q'];exact G)
noncomputable def Lg {M:Model}{A:Around}{E:TC}{x:Str}{Q:Unit->Shared->Prop}(I:Inv X pins σ H s)(hN:X.N.Nodup)(hi:X.N[i]?=some x)(hx:Loc X.env.scope x)(r:RelV v u)
  (h:∀ s',Inv X pins (σ.set i (some v)) H s'->Q () s') (hf:X.fn x=true \/ X.env.scope.names.lookup x=some .local:=by first | exact .inl rfl | exact .inr rfl | assumption):wpAny M A (storeName X.env x u) Q E s :=
 N0 I hN hi hx r (λs' a _=>h s' a) hf
theorem Inv.call' {s':Shared}{ch:TJ}(I:Inv X pins σ H s)(ho:s'.os=s.os)(u:Un (frs X.stack) ch H H' s.heap s'.heap)(hok:HOk X.prog X.w H' s'.heap)(hg:AllBare s'.gens)
  (a:∀ b∈ch,(b∈X.ex \/ X.s₀.heap.objs.size<=b)/\b≠X.env.locals/\(∀ x c,X.env.cells.lookup x=some c->c≠b)/\∀ p∈X.pn++pins,p.1≠b):Inv X pins σ H' s':=by
 obtain⟨h',g',d',t',o'⟩:=s';have e:o'=s.os:=ho;subst e;exact I.call (g':=g') (t':=t') (d':=d') u hok hg a
end
abbrev XK:=Value->Option Addr->Hp->Prop
abbrev St:=List (Option V)
abbrev VK:=V->Hp->Prop
abbrev TE:=St->Hp->VK->Prop
abbrev TT:=St->Hp->(Bool->Hp->Prop)->Prop
abbrev TA:=St->Hp->(List V->Hp->Prop)->Prop
structure Ends where
 nx:St->Hp->Prop
 rt:VK
 bk:St->Hp->Prop:=λ_ _=>False
 ct:St->Hp->Prop:=λ_ _=>False
abbrev TS:=Ends->St->Hp->Prop
def EP (X:Cx)(pins:TD)(σ:St)(Q:VK)(u:Value)(s':Shared):Prop:=∃ v H',Inv X pins σ H' s'/\RelV v u/\Q v H'
def TP (X:Cx)(pins:TD)(σ:St)(Q:Bool->Hp->Prop)(b:Bool)(s':Shared):Prop:=∃ H',Inv X pins σ H' s'/\Q b H'
def AP (X:Cx)(pins:TD)(σ:St)(Q:List V->Hp->Prop)(us:TH)(s':Shared):Prop:=∃ vs H',Inv X pins σ H' s'/\Vals vs us/\Q vs H'
def SP (X:Cx)(pins:TD)(D:Ends)(f:Flow)(s':Shared):Prop :=
 match f with
 | .next=>∃ σ' H',Inv X pins σ' H' s'/\D.nx σ' H'
 | .brk=>∃ σ' H',Inv X pins σ' H' s'/\D.bk σ' H'
 | .cont=>∃ σ' H',Inv X pins σ' H' s'/\D.ct σ' H'
 | .ret u=>∃ v σ' H',Inv X pins σ' H' s'/\RelV v u/\D.rt v H'
def PE (X:Cx)(e:Expr)(t:TE):Prop :=
 ∀ (pins:TD) (s:Shared) (σ:St) (H:Hp) (Q:VK),Inv X pins σ H s->t σ H Q->wX X (eval e X.env) (EP X pins σ Q) X.xe s
def PT (X:Cx)(e:Expr)(t:TT):Prop :=
 ∀ (pins:TD) (s:Shared) (σ:St) (H:Hp) (Q:Bool->Hp->Prop),Inv X pins σ H s->t σ H Q->wX X (isTrue e X.env (eval e X.env)) (TP X pins σ Q) X.xe s
def PW (X:Cx)(e:Expr)(t:TT):Prop :=
 ∀ (a:Sem Value) (pins:TD) (s:Shared) (σ:St) (H:Hp) (Q:Bool->Hp->Prop),Inv X pins σ H s->t σ H Q->wX X (isTrue e X.env a) (TP X pins σ Q) X.xe s
def PW.pt {X:Cx}{t:TT}(h:PW X e t):PT X e t:=h _
def PA (X:Cx)(es:TL)(t:TA):Prop :=
 ∀ (pos:Pos) (pins:TD) (s:Shared) (σ:St) (H:Hp) (Q:List V->Hp->Prop),Inv X pins σ H s->t σ H Q->wX X (spliced (backTo pos (starEach es X.env))) (AP X pins σ Q) X.xe s
def PS (X:Cx)(st:Stmt)(t:TS):Prop :=
 ∀ (pins:TD) (s:Shared) (σ:St) (H:Hp) (D:Ends),Inv X pins σ H s->t D σ H->wX X (exec st X.env) (SP X pins D) X.xe s
def PSs (X:Cx)(st:TM)(t:TS):Prop :=
 ∀ (pins:TD) (s:Shared) (σ:St) (H:Hp) (D:Ends),Inv X pins σ H s->t D σ H->wX X (execs st X.env) (SP X pins D) X.xe s
def thn {α:Type}{t:Sem α}{Q b:α->Shared->Prop}{M:Model}(h:wpAny M A t Q E s)(c:∀ a s,Q a s->b a s):wpAny M A t b E s:=zt h c λ_ _ x=>x
end _L
variable {X:_L.Cx}{tb:_L.TS}{te tl:_L.TE}{σ:_L.St}
namespace _L
open PySem PySem.Spec PyProof.Rows
section
variable {X:Cx}
inductive tVar (i:Nat) (σ:_L.St) (H:Hp) (Q:VK):Prop
 | mk (v:_) (zz0:σ[i]?=some (some v)) (zz1:Q v H)
def tC (v:V):TE:=λ_ H Q=>Q v H
theorem Z6f {x:Str}{pos:Pos}(hN:X.N[i]?=some x)(f:Vis X.env.scope x)(hd:(x == ("__debug__":Str))=false:=by decide)(d:(x == ("__classdict__":Str))=false:=by decide):PE X (.Name x pos) (tVar i):=by
 intro pins s σ H Q I h;obtain⟨v,e,h⟩:=h;obtain⟨m,hn,hl⟩:=I.loc;obtain⟨u,r,l⟩:=hl i x v hN e f;have b:EP X pins σ Q u s:=⟨v,H,I,r,h⟩;rcases l with ⟨hk,hm⟩ | ⟨hk,c,hc,a⟩
 ·exact wpAny_Name (wpAny_loadName_local I.ok.kind hk hn hm b) hd
 rcases hk with hk | hk
 ·exact wpAny_Name (wpAny_loadName_cell I.ok.kind hk hc a b) hd
 exact wpAny_Name (wpAny_loadName_free I.ok.kind hk hc a b d) hd
theorem Za {i j pos}:PE X (.Constant (.int i) j pos) (tC (.int i)):=λ_ _ _ H _ I h=>wpAny_Constant_int ⟨.int i,H,I.tok _,⟨_,rfl⟩,h⟩
theorem W7 {b j pos}:PE X (.Constant (.bool b) j pos) (tC (.bl b)):=λ_ _ _ H _ I h=>Constant_bool ⟨.bl b,H,I,rfl,h⟩
theorem Xo {j pos}:PE X (.Constant .none j pos) (tC .non):=λ_ _ _ H _ I h=>Constant_none ⟨.non,H,I,rfl,h⟩
theorem Vk {x j pos}:PE X (.Constant (.str x) j pos) (tC (.str x)):=λ_ _ _ H _ I h=>Calls.Constant_str ⟨.str x,H,I.tok _,⟨_,rfl⟩,h⟩
def Gl (X:Cx)(x:Str):Prop:=X.env.kindOf x=some .globalImplicit
noncomputable def Mq {E:TC}{x:Str}{pos:Pos}{Q:TC}(I:Inv X pins σ H s)(hg:Gl X x)(hm:X.mg x=some u)(h:Q u s)
  (hd:(x == ("__debug__":Str))=false:=by decide):wX X (eval (.Name x pos) X.env) Q E s :=
 Y0B I.ok.kind hg (Calls.loadGlobal_global (by rw[I.ok.glob];exact I.mod.glob.keeps I.bk) hm h) hd
noncomputable def Wo {E:TC}{x:Str}{pos:Pos}{Q:TC}(I:Inv X pins σ H s)(hg:Gl X x)(hm:X.mg x=none)(a:bootBuiltins x=some u)(h:Q u s)
  (hn:x≠"__name__":=by decide) (hd:(x == ("__debug__":Str))=false:=by decide):wX X (eval (.Name x pos) X.env) Q E s:=by
 obtain⟨mb,h1,h2⟩:=I.mod.blt;exact Y0B I.ok.kind hg (Calls.loadGlobal_builtin (by rw[I.ok.glob];exact I.mod.glob.keeps I.bk) hm (by rw[I.ok.blt];exact h1.keeps I.bk) ((h2 x hn).trans a) h) hd
theorem Xb {x:Str}{pos:Pos}(hg:Gl X x)(hm:X.mg x=some u)(r:RelV v u)(hd:(x == ("__debug__":Str))=false:=by decide):PE X (.Name x pos) (tC v) :=
 λ_ _ _ H _ I h=>Mq I hg hm ⟨v,H,I,r,h⟩ hd
theorem Z3g {x:Str}{pos:Pos}(hg:Gl X x)(hm:X.mg x=none)(a:bootBuiltins x=some u)(r:RelV v u)(hn:x≠"__name__":=by decide)(hd:(x == ("__debug__":Str))=false:=by decide):PE X (.Name x pos) (tC v) :=
 λ_ _ _ H _ I h=>Wo I hg hm a ⟨v,H,I,r,h⟩ hn hd
variable {a b:Expr}{ta tb:TE}
inductive tB_i (Q:(Bool->Hp->Prop)) (x:V) (H1:Hp):Prop
 | mk (c:_) (zz0:x=.bl c) (zz1:Q c H1)
def tB (t:TE):TT:=λσ H Q=>t σ H (tB_i Q)
theorem Yp {t:TE}(h:PE X e t)(c:∀ a,isTrue e X.env a=(do let v <-a;standAt e.pos;holding [v] (truthy v)):=by intro _;rfl):PT X e (tB t):=by
 intro pins s σ H Q I hw;refine isTrue_plain (thn (h pins s σ H _ I hw) λv s1 ⟨x,H1,b,r1,f⟩=>?_) (c _);obtain⟨d,rfl,q⟩:=f
 cases r1;exact qk ⟨H1,b,q⟩
variable {tA tB':TT}{rest:TL}
def tAnd (t u:TT):TT:=λσ H Q=>t σ H λc H1=>if c=true then u σ H1 Q else Q false H1
def tOr (t u:TT):TT:=λσ H Q=>t σ H λc H1=>if c=true then Q true H1 else u σ H1 Q
def tNot (t:TT):TT:=λσ H Q=>t σ H λc H1=>Q (!c) H1
theorem Rx (ha:PT X a tA):PW X (.BoolOp .And [a] pos) tA:=by
 intro b pins s σ H Q I h;refine isTrue_and (thn (ha pins s σ H Q I h) λc s1 e=>?_)
 cases c with
 | true=>exact isTrue_and_nil e
 | false=>exact e
theorem Vr (ha:PT X a tA):PW X (.BoolOp .Or [a] pos) tA:=by
 intro b pins s σ H Q I h;refine isTrue_or (thn (ha pins s σ H Q I h) λc s1 e=>?_)
 cases c with
 | false=>exact isTrue_or_nil e
 | true=>exact e
theorem M9 (ha:PT X a tA)(f:PW X (.BoolOp .And (b::rest) pos) tB'):PW X (.BoolOp .And (a::b::rest) pos) (tAnd tA tB'):=by
 intro g pins s σ H Q I h;refine isTrue_and (thn (ha pins s σ H _ I h) λc s1 ⟨H1,e,d⟩=>?_)
 cases c with
 | true=>exact f g pins s1 σ H1 Q e d
 | false=>exact⟨H1,e,d⟩
theorem Uc (ha:PT X a tA)(f:PW X (.BoolOp .Or (b::rest) pos) tB'):PW X (.BoolOp .Or (a::b::rest) pos) (tOr tA tB'):=by
 intro g pins s σ H Q I h;refine isTrue_or (thn (ha pins s σ H _ I h) λc s1 ⟨H1,e,d⟩=>?_)
 cases c with
 | true=>exact⟨H1,e,d⟩
 | false=>exact f g pins s1 σ H1 Q e d
theorem Xz (ha:PT X a tA):PT X (.UnaryOp .Not a pos) (tNot tA):=by
 intro pins s σ H Q I h;exact isTrue_not (ha pins s σ H (λc H1=>Q (!c) H1) I h)
inductive tAndV_i (tb:TE) (σ:_L.St) (Q:VK) (x:V) (H1:Hp):Prop
 | mk (c:_) (zz0:x=.bl c) (zz1:if c=true then tb σ H1 Q else Q (.bl false) H1)
def tAndV (ta tb:TE):TE:=λσ H Q=>ta σ H (tAndV_i tb σ Q)
inductive tOrV_i (tb:TE) (σ:_L.St) (Q:VK) (x:V) (H1:Hp):Prop
 | mk (c:_) (zz0:x=.bl c) (zz1:if c=true then Q (.bl true) H1 else tb σ H1 Q)
def tOrV (ta tb:TE):TE:=λσ H Q=>ta σ H (tOrV_i tb σ Q)
inductive tNotV_i (Q:VK) (x:V) (H1:Hp):Prop
 | mk (c:_) (zz0:x=.bl c) (zz1:Q (.bl (!c)) H1)
def tNotV (ta:TE):TE:=λσ H Q=>ta σ H (tNotV_i Q)
theorem Me {op}{t:TE}(h:PE X a t):PE X (.BoolOp op [a] pos) t:=λpins s σ H Q I hw=>BoolOp_one (h pins s σ H Q I hw)
theorem Jb (ha:PE X a ta)(f:PE X (.BoolOp .And (b::rest) pos) tb):PE X (.BoolOp .And (a::b::rest) pos) (tAndV ta tb):=by
 intro pins s σ H Q I h;refine BoolOp_and (thn (ha pins s σ H _ I h) λv s1 ⟨x,H1,e,r1,d⟩=>?_);obtain⟨c,rfl,d⟩:=d
 cases r1;refine qk ?_
 cases c with
 | true=>exact f pins s1 σ H1 Q e d
 | false=>exact⟨.bl false,H1,e,rfl,d⟩
theorem Z7s (ha:PE X a ta)(f:PE X (.BoolOp .Or (b::rest) pos) tb):PE X (.BoolOp .Or (a::b::rest) pos) (tOrV ta tb):=by
 intro pins s σ H Q I h;refine BoolOp_or (thn (ha pins s σ H _ I h) λv s1 ⟨x,H1,e,r1,d⟩=>?_);obtain⟨c,rfl,d⟩:=d
 cases r1;refine qk ?_
 cases c with
 | false=>exact f pins s1 σ H1 Q e d
 | true=>exact⟨.bl true,H1,e,rfl,d⟩
theorem Z0q (ha:PE X a ta):PE X (.UnaryOp .Not a pos) (tNotV ta):=by
 intro pins s σ H Q I h;refine UnaryOp_ (thn (ha pins s σ H _ I h) λv s1 ⟨x,H1,d,r1,b⟩=>?_);obtain⟨c,rfl,b⟩:=b
 cases r1;exact not_of (qk ⟨.bl (!c),H1,d,rfl,b⟩)
def tIf (t:TT)(ta tb:TE):TE:=λσ H Q=>t σ H λc H1=>if c=true then ta σ H1 Q else tb σ H1 Q
theorem Vt {c:Expr}(hc:PT X c tA)(ha:PE X a ta)(g:PE X b tb):PE X (.IfExp c a b pos) (tIf tA ta tb):=by
 intro pins s σ H Q I h;refine wpAny_IfExp (thn (hc pins s σ H _ I h) λd s1 ⟨H1,f,e⟩=>?_)
 cases d with
 | true=>exact ha pins s1 σ H1 Q f e
 | false=>exact g pins s1 σ H1 Q f e
end
def SqL (K:TR)(H:Hp)(a:Addr)(xs:TZ):Prop :=
 Rd H a (.lst xs) ∨
  ∃ (o:Obj) (its:Array Value) (n:Nat),K.lookup a=some o/\o.cls=.type "list"/\o.dict=none/\o.data=.seq its n/\its.size<=sizeLine/\Vals xs its.toList
def SqT (K:TR)(H:Hp)(a:Addr)(xs:TZ):Prop :=
 Rd H a (.tup xs) ∨
  ∃ (o:Obj) (its:Array Value) (n:Nat),K.lookup a=some o/\o.cls=.type "tuple"/\o.data=.seq its n/\its.size<=sizeLine/\Vals xs its.toList
noncomputable def absV:Value->Option V
 | .none=>some .non
 | .bool b=>some (.bl b)
 | .int i _=>some (.int i)
 | .str x _=>some (.str x)
 | .bytes b _=>some (.byt b)
 | .float b _=>some (.flt b)
 | .ref a=>some (.ref a)
 | .type n=>some (.ty n)
 | _=>none
def RelV.abs {x:V}{u:Value}(r:RelV x u):absV u=some x:=by
 cases x with
 | non=>cases r;rfl
 | bl _=>cases r;rfl
 | int _=>obtain⟨t,rfl⟩:=r;rfl
 | str _=>obtain⟨t,rfl⟩:=r;rfl
 | byt _=>obtain⟨t,rfl⟩:=r;rfl
 | flt _=>obtain⟨t,rfl⟩:=r;rfl
 | ref _=>cases r;rfl
 | ty _=>cases r;rfl
def RelV.inj {x y:V}(r:RelV x u)(q:RelV y u):x=y:=YU (r.abs.symm.trans q.abs)
theorem Vals.inj:∀ {xs ys:TZ} {us:TH},Vals xs us->Vals ys us->xs=ys
 | _,_,_,.nil,.nil=>rfl
 | _,_,_,.cons r t,.cons r' t'=>by rw[r.inj r',Vals.inj t t']
section
variable {X:Cx}{σ:St}{H:Hp}{a:Addr}{xs ys:TZ}
def SqL.of (h:H a=some (.lst xs)):SqL K H a xs:=.inl (.inl h)
def SqT.of (h:H a=some (.tup xs)):SqT K H a xs:=.inl (.inl h)
def Inv.list (I:Inv X pins σ H s)(h:SqL X.K H a xs):∃ its:List Value,Vals xs its/\PlainL s.heap a its.toArray/\xs.length<=sizeLine:=by
 rcases h with h | ⟨o,its,n,hk,hc,hd,hs,hz,r⟩
 ·obtain⟨z,its,n,r,e⟩:=h.ok I.hok;exact⟨its,r,⟨_,n,e,rfl,rfl,rfl⟩,z⟩
 refine⟨its.toList,r,⟨o,n,I.kIn a o hk,hc,hd,by simpa using hs⟩,?_⟩;have e:=r.length;simp only [GT] at e;omega
def Inv.tuple (I:Inv X pins σ H s)(h:SqT X.K H a xs):∃ its:List Value,Vals xs its/\IsTup s.heap a its.toArray/\xs.length<=sizeLine:=by
 rcases h with h | ⟨o,its,n,hk,hc,hs,hz,r⟩
 ·obtain⟨z,its,r,p⟩:=h.ok I.hok;exact⟨its,r,p,z⟩
 refine⟨its.toList,r,⟨o,I.kIn a o hk,hc,n,by simpa using hs⟩,?_⟩;have e:=r.length;simp only [GT] at e;omega
def Inv.list_inj (I:Inv X pins σ H s)(h:SqL X.K H a xs)(h':SqL X.K H a ys):xs=ys:=by
 obtain⟨its,r,⟨o,n,e,_,_,d⟩,_⟩:=I.list h;obtain⟨its',r',⟨o',n',e',_,_,d'⟩,_⟩:=I.list h';rw[e] at e';cases e';rw[d] at d';injection d' with d1 _
 have:its=its':=by simpa using congrArg Array.toList d1
 subst this;exact r.inj r'
def Inv.tuple_inj (I:Inv X pins σ H s)(h:SqT X.K H a xs)(h':SqT X.K H a ys):xs=ys:=by
 obtain⟨its,r,⟨o,e,_,n,d⟩,_⟩:=I.tuple h;obtain⟨its',r',⟨o',e',_,n',d'⟩,_⟩:=I.tuple h';rw[e] at e';cases e';rw[d] at d';injection d' with d1 _
 have:its=its':=by simpa using congrArg Array.toList d1
 subst this;exact r.inj r'
end
noncomputable abbrev Cx.wish (X:Cx)(E:TC):Cx:={ X with xe:=E }
noncomputable abbrev Cx.nox (X:Cx):Cx:=X.wish λ_ _=>False
theorem Cx.Ok.wish {X:Cx}(ok:X.Ok)(E:TC):(X.wish E).Ok :=
 ⟨ok.mod,ok.kind,ok.glob,ok.blt,ok.above,ok.inj,ok.has,ok.cab,ok.hd,ok.frames,ok.stk,ok.exf,ok.bs,ok.bsz,ok.noex,ok.exfs,ok.funs,ok.frf,ok.seen,ok.dpt⟩
def Cx.Ok.unwish (ok:(X.wish E).Ok):X.Ok :=
 ⟨ok.mod,ok.kind,ok.glob,ok.blt,ok.above,ok.inj,ok.has,ok.cab,ok.hd,ok.frames,ok.stk,ok.exf,ok.bs,ok.bsz,ok.noex,ok.exfs,ok.funs,ok.frf,ok.seen,ok.dpt⟩
section
variable {X:Cx}{σ:St}{H:Hp}
theorem Inv.wish (I:Inv X pins σ H s)(E:TC):Inv (X.wish E) pins σ H s:=⟨I.ok.wish E,I.os,I.bare,I.base,I.loc,I.cell,I.free,I.freeC,I.pin,I.hok,I.len⟩
theorem Inv.unwish (I:Inv (X.wish E) pins σ H s):Inv X pins σ H s:=⟨I.ok.unwish,I.os,I.bare,I.base,I.loc,I.cell,I.free,I.freeC,I.pin,I.hok,I.len⟩
theorem SP.unwish {D:Ends}{f:Flow}{s':Shared}(h:SP (X.wish E) pins D f s'):SP X pins D f s':=by
 cases f with
 | next=>obtain⟨σ',H',I,q⟩:=h;exact⟨σ',H',I.unwish,q⟩
 | brk=>obtain⟨σ',H',I,q⟩:=h;exact⟨σ',H',I.unwish,q⟩
 | cont=>obtain⟨σ',H',I,q⟩:=h;exact⟨σ',H',I.unwish,q⟩
 | ret u=>obtain⟨v,σ',H',I,r,q⟩:=h;exact⟨v,σ',H',I.unwish,r,q⟩
theorem PSs.nox {st:TM}{t:TS}(h:PSs X.nox st t):PSs X st t:=λpins s σ H D I hw =>
 zt (h pins s σ H D (I.wish _) hw) (λ_ _ q=>q.unwish) λ_ _ z=>False.elim z
end
section
variable {X:Cx}{rest:TM}{t u:TS}{te:TE}
def tNext:TS:=λD σ H=>D.nx σ H
def tSeq (t u:TS):TS:=λD σ H=>t { D with nx:=u D } σ H
theorem Zw:PSs X [] tNext:=λ_ _ σ H _ I h=>Y0m ⟨σ,H,I,h⟩
theorem Z9 (h1:PS X st t)(h2:PSs X rest u):PSs X (st::rest) (tSeq t u):=by
 intro pins s σ H D I h;refine wpAny_execs_cons (thn (h1 pins s σ H { D with nx:=u D } I h) λf s1 q=>?_)
 cases f with
 | next =>
  obtain⟨σ',H',a,q⟩:=q;exact h2 pins s1 σ' H' D a q
 | ret v=>exact q
 | brk=>exact q
 | cont=>exact q
theorem Zb (h1:PS X st t):PSs X [st] t:=by
 intro pins s σ H D I h;refine wpAny_execs_cons (thn (h1 pins s σ H D I h) λf s1 q=>?_)
 cases f with
 | next=>exact Y0m q
 | ret v=>exact q
 | brk=>exact q
 | cont=>exact q
def Inv.quiet (I:Inv X pins σ H s):interactive X.env=false:=by simp[interactive,I.ok.kind]
def tDrop (te:TE):TS:=λD σ H=>te σ H λ_ H1=>D.nx σ H1
theorem Yz (b:PE X e te)(hs:swapsWith e none pos.line X.env=pure false:=by rfl):PS X (.Expr e pos) (tDrop te):=by
 intro pins s σ H D I h;exact wpAny_Expr_any (thn (b pins s σ H _ I h) λv s1 ⟨x,H1,c,r1,a⟩=>⟨σ,H1,c,a⟩) I.quiet hs
def tRet (te:TE):TS:=λD σ H=>te σ H D.rt
theorem Zh (b:PE X e te):PS X (.Return (some e) pos) (tRet te):=by
 intro pins s σ H D I h;exact wpAny_Return_some (thn (b pins s σ H _ I h) λv s1 ⟨x,H1,c,r1,a⟩=>⟨x,σ,H1,c,r1,a⟩)
def tIfS (c:TT)(t u:TS):TS:=λD σ H=>c σ H λb H1=>if b=true then t D σ H1 else u D σ H1
theorem Y9 {c:Expr}{a b:TM}{tc:TT}(hc:PT X c tc)(ha:PSs X a t)(g:PSs X b u):PS X (.If c a b pos) (tIfS tc t u):=by
 intro pins s σ H D I h;refine wpAny_If (thn (hc pins s σ H _ I h) λd s1 ⟨H1,e,f⟩=>?_)
 cases d with
 | true=>exact ha pins s1 σ H1 D e f
 | false=>exact g pins s1 σ H1 D e f
def tNever:TS:=λ_ _ _=>False
def Qi:PS X st tNever:=λ_ _ _ _ _ _ h=>h.elim
end
abbrev TG:=V->St->Hp->(St->Hp->Prop)->Prop
abbrev TGs:=List V->St->Hp->(St->Hp->Prop)->Prop
def PG (X:Cx)(a:Expr)(t:TG):Prop :=
 ∀ (pins:TD) (s:Shared) (σ:St) (H:Hp) (v:V) (u:Value) (Q:St->Hp->Prop),Inv X pins σ H s->RelV v u->t v σ H Q →
  wX X (assign a X.env u) (λ_ s'=>∃ σ' H',Inv X pins σ' H' s'/\Q σ' H') X.xe s
def PGs (X:Cx)(ts:TL)(t:TGs):Prop :=
 ∀ (pins:TD) (s:Shared) (σ:St) (H:Hp) (vs:TZ) (us:TH) (Q:St->Hp->Prop),Inv X pins σ H s->Vals vs us->t vs σ H Q →
  wX X (assignInOrder ((assignEach ts X.env).map (·.2)) us) (λ_ s'=>∃ σ' H',Inv X pins σ' H' s'/\Q σ' H') X.xe s
abbrev TSet:=V->V->V->Hp->(Hp->Prop)->Prop
def PSet (X:Cx)(t:TSet):Prop :=
 ∀ (pins:TD) (s:Shared) (σ:St) (H:Hp) (o i v:V) (ov iv u:Value) (Q:Hp->Prop),Inv X pins σ H s->RelV o ov->RelV i iv->RelV v u->t o i v H Q →
  wX X (setItem ov iv u) (λ_ s'=>∃ H',Inv X pins σ H' s'/\Q H') X.xe s
section
variable {X:Cx}
def gName (i:Nat):TG:=λv σ H Q=>Q (σ.set i (some v)) H
theorem Zi {x:Str}(hN:X.N.Nodup)(hi:X.N[i]?=some x)(hx:Loc X.env.scope x)(hf:X.fn x=true \/ X.env.scope.names.lookup x=some .local:=by first | exact .inl rfl | exact .inr rfl | assumption):PG X (.Name x pos) (gName i):=by
 intro pins s σ H v u Q I r h;exact wpAny_assign_Name (Lg I hN hi hx r (λs' a=>⟨_,H,a,h⟩) hf)
def gNil:TGs:=λvs σ H Q=>vs=[]/\Q σ H
inductive gCons (t:TG) (u:TGs) (vs:TZ) (σ:_L.St) (H:Hp) (Q:(_L.St->Hp->Prop)):Prop
 | mk (v r:_) (zz0:vs=v::r) (zz1:t v σ H λσ' H'=>u r σ' H' Q)
theorem Xg:PGs X [] gNil:=by
 intro pins s σ H vs us Q I r h;obtain⟨e,h⟩:=h;subst e
 cases r;exact assignInOrder_nil ⟨σ,H,I,h⟩
theorem Y1 {e:Expr}{es:TL}{t:TG}{u:TGs}(h1:PG X e t)(h2:PGs X es u)
  (hs:(assignEach (e::es) X.env).map (·.2)=assign e X.env::(assignEach es X.env).map (·.2):=by rfl):PGs X (e::es) (gCons t u):=by
 intro pins s σ H vs us Q I r h;obtain⟨v,d,e1,h⟩:=h;subst e1
 cases r with
 | cons r rr =>
  rw[hs];refine assignInOrder_cons (thn (h1 pins s σ H _ _ _ I r h) λ_ s1 ⟨a,H1,b,c⟩=>?_);exact h2 pins s1 a H1 _ _ Q b rr c
inductive gTup (K:TR) (n:Nat) (t:TGs) (v:V) (σ:_L.St) (H:Hp) (Q:(_L.St->Hp->Prop)):Prop
 | mk (a xs:_) (zz0:v=.ref a) (zz1:SqT K H a xs) (zz2:xs.length=n) (zz3:t xs σ H Q)
theorem W0 {es:TL}{k:Nat}{t:TGs}{n:Nat}(hc:X.calm=true)(h:PGs X es t)
  (hn:(assignEach es X.env).length=n:=by rfl) (c:(assignEach es X.env).findIdx? (·.1)=none:=by rfl):PG X (.Tuple es k pos) (gTup X.K n t):=by
 intro pins s σ H v u Q I r hw;obtain⟨a,xs,e1,hq,hl,hw⟩:=hw;subst e1
 cases r;obtain⟨its,rv,f,hz⟩:=I.tuple hq;refine _b.Pr (I.qt hc) f (by simp[hn,<-hl,rv.length]) c λh' hx=>?_;have d:Inv X pins σ H { s with heap:=h' }:=I.kept (t':=s.toks) λb o e=>hx b o (XM (YQ e)) e;exact h pins _ σ H xs _ Q d (by simpa using rv) hw
def gSub (to a:TE)(t:TSet):TG:=λv σ H Q=>to σ H λo H1=>a σ H1 λi H2=>t o i v H2 λb=>Q σ b
theorem Tw {o i:Expr}{to a:TE}{t:TSet}(ho:PE X o to)(hi:PE X i a)(hs:PSet X t)
  (ha:∀ v,assign (.Subscript o i pos) X.env v=(do
   let ov <-holding [v] (eval o X.env);let iv <-holding [v,ov] (eval i X.env)
   standAt pos
   holding [v,ov,iv] (setItem ov iv v)
   release [v,ov,iv] []):=by intro _;rfl):PG X (.Subscript o i pos) (gSub to a t):=by
 intro pins s σ H v u Q I r h;rw[ha];refine YA (GA (thn (ho pins s σ H _ I h) λov s1 ⟨x,H1,b,r1,g⟩=>?_));refine YA (GA (thn (hi pins s1 σ H1 _ b g) λiv s2 ⟨y,H2,j,r2,c⟩=>?_));refine YA (Y0X (YA (GA (thn (hs pins s2 σ H2 x y v ov iv u _ j r1 r2 r c) λ_ k ⟨f,d,e⟩=>?_))));exact wpAny_release ⟨σ,f,d,e⟩
def tAsg (te:TE)(g:TG):TS:=λD σ H=>te σ H λx H1=>g x σ H1 D.nx
theorem Uj {g:TG}(b:PE X e te)(hg:PG X tg g)(hs:swapsWithSole [tg] e pos.line X.env=pure false:=by rfl)(hw:swappedStores [tg] e X.env=pure none:=by rfl)
  (h1:(assignEach [tg] X.env).map (·.2)=[assign tg X.env]:=by rfl):PS X (.Assign [tg] e pos) (tAsg te g):=by
 intro pins s σ H D I h;refine wpAny_Assign_stores (thn (b pins s σ H _ I h) λv s1 ⟨x,H1,a,r1,c⟩=>?_) hs hw;rw[h1];exact thn (hg pins s1 σ H1 x v _ a r1 c) λ_ s2 q=>q
theorem Zj {x:Str}(hN:X.N.Nodup)(hi:X.N[i]?=some x)(hx:Loc X.env.scope x)(b:PE X e te)(hs:swapsWith e (some (.Name x pos')) pos.line X.env=pure false:=by rfl)(hf:X.fn x=true \/ X.env.scope.names.lookup x=some .local:=by first | exact .inl rfl | exact .inr rfl | assumption) :
  PS X (.Assign [.Name x pos'] e pos) (tAsg te (gName i)):=by
 intro pins s σ H D I h;refine wpAny_Assign_Name (thn (b pins s σ H _ I h) λv s1 ⟨y,H1,a,r1,c⟩=>?_) hs;exact Lg a hN hi hx r1 (λs2 d=>⟨_,H1,d,c⟩) hf
def tWhile (c:TT)(tb:TS):TS:=λD σ H=>∃ W:Nat->St->Hp->Prop,(∃ m,W m σ H)/\∀ m σ H,W m σ H →
 c σ H λb H1=>if b=true then ∃ N:St->Hp->Prop,(∀ σ' H',N σ' H'->∃ a,a<m/\W a σ' H')/\tb { D with nx:=N,ct:=N,bk:=D.nx } σ H1 else D.nx σ H1
theorem T4 {c:Expr}{body:TM}{tc:TT}{tb:TS}(hp:PassesOwn (model X.prog X.w) X.A X.env X.xe)(hc:PT X c tc)(t:PSs X body tb):PS X (.While c body [] pos) (tWhile tc tb):=by
 intro pins s σ H D I h;obtain⟨W,⟨u,x⟩,e⟩:=h;refine wpAny_While (codeAny_whileLoop (λn s'=>∃ σ' H',Inv X pins σ' H' s'/\W n σ' H') ?_ u ⟨σ,H,I,x⟩);rintro n s1 ⟨d,H1,r,q⟩;refine zz hp (thn (hc pins s1 d H1 _ r (e n d H1 q)) λb s2 ⟨H2,p,i⟩=>?_)
 cases b with
 | true =>
  obtain⟨N,hN,i⟩:=i;rw[YH rfl];refine zz hp (thn (t pins s2 d H2 _ p i) λf y j=>?_)
  cases f with
  | next =>
   obtain⟨a,g,l,m⟩:=j;obtain⟨o,hm,k⟩:=hN a g m;exact⟨o,hm,a,g,l,k⟩
  | cont =>
   obtain⟨a,g,l,m⟩:=j;obtain⟨o,hm,k⟩:=hN a g m;exact⟨o,hm,a,g,l,k⟩
  | brk=>exact j
  | ret v=>exact j
 | false =>
  rw[YF YO];exact Y0m ⟨d,H2,p,i⟩
end
structure It where
 go:Nat->Hp->Prop
 yld:Nat->Hp->V->Hp->Prop
 stop:Nat->Hp->Prop
def FpOk (X:Cx)(pins:TD)(H:Hp)(b:Addr):Prop :=
 H b=none/\b≠X.env.locals/\b ∉ X.fs/\(b∈X.ex \/ X.s₀.heap.objs.size<=b)/\(∀ x c,X.env.cells.lookup x=some c->c≠b)/\∀ p∈X.pn++pins,p.1≠b
theorem Inv.fpOk {b:Addr}(I:Inv X pins σ H s)(a:s.heap.objs.size<=b)(hn:H' b=none):FpOk X pins H' b:=by
 refine⟨hn,GQ (YX I.lt a),I.nofs a,.inr (YR I.sz a),λx c e z=>?_,λp hp z=>?_⟩
 ·obtain⟨v,q⟩:=I.cell x c e;exact absurd (YX q.lt (by rw[z];exact a)) (GB _)
 exact absurd (YX (YQ (I.pin p hp).1) (by rw[z];exact a)) (GB _)
structure Turn (P:TU)(w:World)(K:TR)(tg:Expr)(J:It)(fp:TJ)(it:Addr)(tn:Nat->Heap->Prop):Prop where
 mem:it∈fp
 obj:∀ i h,tn i h->∀ b∈fp,∃ o,h.get? b=some o/\∀ v,o.data≠.cell v
 keep:∀ i h h',tn i h->(∀ b∈fp,∀ o,h.get? b=some o->h'.get? b=some o)->tn i h'
 item:∀ (X:Cx),X.prog=P->X.w=w->X.K=K->X.calm=true->∀ (i:Nat) (pins:TD) (s:Shared) (σ:St) (H:Hp) (E:TC),Inv X pins σ H s->(∀ b∈fp,FpOk X pins H b)->tn i s.heap->J.go i H →
  wpAny (model P w) X.A (pyNext (.ref it)) (λr s1=>∃ u,r=some u ∧
   wpAny (model P w) X.A (letOwnedTupleGo tg (.ref it) u) (λ_ s2=>∃ x H',Inv X pins σ H' s2/\RelV x u/\J.yld i H x H'/\tn (i+1) s2.heap/\∀ b∈fp,H' b=none) E s1) E s
 done:∀ (X:Cx),X.prog=P->X.w=w->X.K=K->X.calm=true->∀ (i:Nat) (pins:TD) (s:Shared) (σ:St) (H:Hp) (E:TC),Inv X pins σ H s->(∀ b∈fp,FpOk X pins H b)->tn i s.heap->J.stop i H →
  wpAny (model P w) X.A (pyNext (.ref it)) (λr s1=>r=none/\Inv X pins σ H s1) E s
 self:∀ (A:Around) (i:Nat) (s:Shared) (Q:TC) (E:TC),tn i s.heap->Q (.ref it) s->wpAny (model P w) A (pyIter (.ref it)) Q E s
abbrev TI:=St->Hp->(It->Hp->Prop)->Prop
def PIE (X:Cx)(pins:TD)(σ:St)(tg:Expr)(R:It->Hp->Prop)(a:Value)(s2:Shared):Prop :=
 ∃ (it:Addr) (fp:TJ) (tn:Nat->Heap->Prop) (J:It) (H':Hp),a=.ref it/\Inv X pins σ H' s2/\Turn X.prog X.w X.K tg J fp it tn/\tn 0 s2.heap/\(∀ b∈fp,FpOk X pins H' b)/\R J H'
def PI (X:Cx)(tg a:Expr)(b:TI):Prop :=
 ∀ (pins:TD) (s:Shared) (σ:St) (H:Hp) (R:It->Hp->Prop),Inv X pins σ H s->b σ H R →
  wX X (eval a X.env) (λv s1=>wX X (pyIter v) (PIE X pins σ tg R) X.xe s1) X.xe s
def Ff {M:Model}{A:Around}{E:TC}{s:Shared}{tg:Expr}{it:Addr}{u:Value}{o:Obj}{n:String}{vs:Array Value}{Q:Unit->Shared->Prop}(ho:s.heap.get? it=some o)(hc:o.cls=.type n)(hd:o.data=.fields vs)
  (hn:["enumerate","zip","dict_itemiterator","dict_reverseitemiterator","odict_iterator","itertools.zip_longest","itertools.pairwise"].contains n=false) (a:Q () s):wpAny M A (letOwnedTupleGo tg (.ref it) u) Q E s:=by
 unfold letOwnedTupleGo
 cases tg <;> first
  | exact YK a
  | (cases u <;> first
    | exact YK a
    | (refine YA (wpAny_load ho ?_)
       rw[hc,hd];show wpAny M A (if (["enumerate","zip","dict_itemiterator","dict_reverseitemiterator","odict_iterator","itertools.zip_longest","itertools.pairwise"].contains n && vs[0]? == some (rawInt _))=true then _ else _) Q E s;rw[YF (by intro h;rw[hn,Bool.false_and] at h;cases h)];exact YK a))
noncomputable def Itl (K:TR)(a:Addr):It :=
 ⟨λi H=>∃ xs x,SqL K H a xs/\xs[i]?=some x,λi H x H'=>H'=H/\∀ xs,SqL K H a xs->xs[i]?=some x,λi H=>∃ xs,SqL K H a xs/\xs.length<=i⟩
noncomputable def Itt (K:TR)(a:Addr):It :=
 ⟨λi H=>∃ xs x,SqT K H a xs/\xs[i]?=some x,λi H x H'=>H'=H/\∀ xs,SqT K H a xs->xs[i]?=some x,λi H=>∃ xs,SqT K H a xs/\xs.length<=i⟩
noncomputable def Itr (lo:Int)(n:Nat):It:=⟨λi _=>i<n,λi H x H'=>H'=H/\x=.int (lo+i),λi _=>n<=i⟩
theorem Tp {P:TU}(a it:Addr):Turn P w K tg (Itl K a) [it] it (λi h=>h.IsListIter it a i) where
 mem:=ZJ
 obj:=λi h st b f=>by
  have e:b=it:=by simpa using f
  subst e;obtain⟨o,e,c,d⟩:=st;exact⟨o,e,λv z=>by rw[d] at z;cases z⟩
 keep:=λi h h' st k=>st.at λo e=>k it ZJ o e
 item:=by
  intro X q hw hK hc i pins s σ H E I hf st hg;subst q hw hK;obtain⟨xs,x,hq,hx⟩:=hg;obtain⟨its,rv,p,hz⟩:=I.list hq;obtain⟨u,hu,ru⟩:=rv.get hx;obtain⟨j,f1,f2,m,n,l⟩:=hf it ZJ;refine wpAny_pyNext_list_item st p.isList (x:=u) (by simpa using hu) λh' g t=>?_;have y:Inv X pins σ H { s with heap:=h' }:=I.turned (t':=s.toks) (λb o f e=>(t.2 b f).trans e) j f1 m n l;obtain⟨o,e,c,d⟩:=id g;exact⟨u,rfl,Ff (s:={ s with heap:=h' }) e c d J1 ⟨x,H,y,ru,⟨rfl,λys r=>by rw[I.list_inj r hq];exact hx⟩,g,λb f=>(hf b f).1⟩⟩
 done:=by
  intro X q hw hK hc i pins s σ H E I hf st hg;subst q hw hK;obtain⟨xs,hq,hx⟩:=hg;obtain⟨its,rv,p,hz⟩:=I.list hq;obtain⟨j,f1,f2,m,n,l⟩:=hf it ZJ;have hl:=rv.length;exact _b.Qv (I.qt hc) st p.isList (by simp;omega) λh' eb=>⟨rfl,I.turned (t':=s.toks) (λb o f e=>eb b o f e) j f1 m n l⟩
 self:=λ_ _ _ _ _ st h=>wpAny_pyIter_listiter st h
theorem Ug {P:TU}(a it:Addr):Turn P w K tg (Itt K a) [it] it (λi h=>h.IsTupleIter it a i) where
 mem:=ZJ
 obj:=λi h st b f=>by
  have e:b=it:=by simpa using f
  subst e;obtain⟨o,e,c,d⟩:=st;exact⟨o,e,λv z=>by rw[d] at z;cases z⟩
 keep:=λi h h' st k=>st.at λo e=>k it ZJ o e
 item:=by
  intro X q hw hK hc i pins s σ H E I hf st hg;subst q hw hK;obtain⟨xs,x,hq,hx⟩:=hg;obtain⟨its,rv,p,hz⟩:=I.tuple hq;obtain⟨u,hu,ru⟩:=rv.get hx;obtain⟨j,f1,f2,m,n,l⟩:=hf it ZJ;refine wpAny_pyNext_tuple_item st (show s.heap.IsTuple a its.toArray from p) (x:=u) (by simpa using hu) λh' g t=>?_;have y:Inv X pins σ H { s with heap:=h' }:=I.turned (t':=s.toks) (λb o f e=>(t.2 b f).trans e) j f1 m n l;obtain⟨o,e,c,d⟩:=id g;exact⟨u,rfl,Ff (s:={ s with heap:=h' }) e c d J1 ⟨x,H,y,ru,⟨rfl,λys r=>by rw[I.tuple_inj r hq];exact hx⟩,g,λb f=>(hf b f).1⟩⟩
 done:=by
  intro X q hw hK hc i pins s σ H E I hf st hg;subst q hw hK;obtain⟨xs,hq,hx⟩:=hg;obtain⟨its,rv,p,hz⟩:=I.tuple hq;obtain⟨j,f1,f2,m,n,l⟩:=hf it ZJ;have hl:=rv.length;exact _b.Sn (I.qt hc) st (show s.heap.IsTuple a its.toArray from p) (by simp;omega) λh' eb=>⟨rfl,I.turned (t':=s.toks) (λb o f e=>eb b o f e) j f1 m n l⟩
 self:=λ_ _ _ _ _ st h=>wpAny_pyIter_tupleiter st h
theorem Ko {P:TU}(it:Addr)(lo:Int)(n:Nat):Turn P w K tg (Itr lo n) [it] it (λi h=>IsRangeIter h it (lo+(i:Nat)*1) ((n:Int) - (i:Nat)) 1) where
 mem:=ZJ
 obj:=λi h st b a=>by
  have e:b=it:=by simpa using a
  subst e;exact⟨_,st,λv z=>by
   have q:Data.fields _=Data.cell v:=z
   cases q⟩
 keep:=λi h h' st k=>k it ZJ _ st
 item:=by
  intro X l hw hK hc i pins s σ H E I hf st hg;subst l hw hK;obtain⟨d,f1,f2,g,j,f⟩:=hf it ZJ;refine _b.Qc i s _ _ hg st λv h' tk p c kk=>?_;obtain⟨t,rfl⟩:=p;have m:Inv X pins σ H { s with heap:=h',toks:=tk }:=I.turned (λb o a e=>kk b o (by simpa using a) e) d f1 g j f;refine⟨_,rfl,Ff (s:={ s with heap:=h',toks:=tk }) (n:="range_iterator") c rfl rfl J1 ⟨.int (lo+i),H,m,⟨t,?_⟩,⟨rfl,rfl⟩,c,λb a=>(hf b a).1⟩⟩;rw[Y0j]
 done:=by
  intro X l hw hK hc i pins s σ H E I hf st hg;subst l hw hK;obtain⟨d,f1,f2,g,j,f⟩:=hf it ZJ;exact _b.Ss (I.qt hc) st (by have:n<=i:=hg;omega) λh' eb=>⟨rfl,I.turned (t':=s.toks) (λb o a e=>eb b o a e) d f1 g j f⟩
 self:=λ_ _ _ _ _ st h=>wpAny_pyIter_rangeiter st h
section
variable {X:Cx}
inductive iList_i (K:TR) (R:(It->Hp->Prop)) (x:V) (H1:Hp):Prop
 | mk (a:_) (zz0:x=.ref a) (zz1:(∃ xs,SqL K H1 a xs)) (zz2:R (Itl K a) H1)
def iList (K:TR)(tl:TE):TI:=λσ H R=>tl σ H (iList_i K R)
inductive iTup_i (K:TR) (R:(It->Hp->Prop)) (x:V) (H1:Hp):Prop
 | mk (a:_) (zz0:x=.ref a) (zz1:(∃ xs,SqT K H1 a xs)) (zz2:R (Itt K a) H1)
def iTup (K:TR)(tl:TE):TI:=λσ H R=>tl σ H (iTup_i K R)
theorem Yn {l:Expr}(hl:PE X l tl):PI X tg l (iList X.K tl):=by
 intro pins s σ H R I h;refine thn (hl pins s σ H _ I h) λv s1 ⟨x,H1,c,r1,f⟩=>?_;obtain⟨a,e,⟨xs,hq⟩,q⟩:=f;subst e
 cases r1;obtain⟨its,rv,p,hz⟩:=c.list hq;refine zD p.isList ?_;refine⟨s1.heap.objs.size,[s1.heap.objs.size],_,_,H1,rfl,c.kept (t':=s1.toks) λb o e=>YC _ e,Tp a _,⟨_,YS _ rfl,rfl,rfl⟩,λb d=>?_,q⟩;have e:b=s1.heap.objs.size:=by simpa using d
 subst e;exact c.fpOk (YJ _) (c.hok.fresh (YJ _))
theorem Vs {l:Expr}(hl:PE X l tl):PI X tg l (iTup X.K tl):=by
 intro pins s σ H R I h;refine thn (hl pins s σ H _ I h) λv s1 ⟨x,H1,c,r1,f⟩=>?_;obtain⟨a,e,⟨xs,hq⟩,q⟩:=f;subst e
 cases r1;obtain⟨its,rv,p,hz⟩:=c.tuple hq;refine jr (show s1.heap.IsTuple a its.toArray from p) ?_;refine⟨s1.heap.objs.size,[s1.heap.objs.size],_,_,H1,rfl,c.kept (t':=s1.toks) λb o e=>YC _ e,Ug a _,⟨_,YS _ rfl,rfl,rfl⟩,λb d=>?_,q⟩;have e:b=s1.heap.objs.size:=by simpa using d
 subst e;exact c.fpOk (YJ _) (c.hok.fresh (YJ _))
def Z0f {R:It->Hp->Prop}{lo hi:Int}{t u v:Tok}{tk:Nat}(I:Inv X pins σ H s)(h1:-(2 ^ 62)<=lo)(h2:lo<2 ^ 62)(h3:-(2 ^ 62)<=hi)(h4:hi<2 ^ 62)
  (q:R (Itr lo (hi - lo).toNat) H):wX X (pyIter (.ref s.heap.objs.size)) (PIE X pins σ tg R) E { s with heap:=s.heap.push { cls:=.type "range",data:=.fields #[.int lo t,.int hi u,.int 1 v] },toks:=tk }:=by
 refine wpAny_pyIter_range (IsRange.new ..) (small_one h1 h2 h3 h4) ?_;have a:Inv X pins σ H { s with heap:=s.heap.push { cls:=.type "range",data:=.fields #[.int lo t,.int hi u,.int 1 v] },toks:=tk }:=I.kept λb o e=>YC _ e;refine⟨(s.heap.push { cls:=.type "range",data:=.fields #[.int lo t,.int hi u,.int 1 v] }).objs.size,[(s.heap.push { cls:=.type "range",data:=.fields #[.int lo t,.int hi u,.int 1 v] }).objs.size],_,_,H,rfl,
  a.kept (t':=tk) λb o e=>YC _ e,Ko _ lo (hi - lo).toNat,?_,λb c=>?_,q⟩
 ·have e1:lo+((0:Nat):Int)*1=lo:=ZJ
  have e2:(((hi - lo).toNat:Nat):Int) - ((0:Nat):Int)=Builtin.Range.rangeSize lo hi 1:=by rw[rangeSize_one];split <;> omega
  show IsRangeIter _ _ (lo+((0:Nat):Int)*1) ((((hi - lo).toNat:Nat):Int) - ((0:Nat):Int)) 1;rw[e1,e2];exact YS _ rfl
 have e:b=(s.heap.push { cls:=.type "range",data:=.fields #[.int lo t,.int hi u,.int 1 v] }).objs.size:=by simpa using c
 subst e;exact a.fpOk (YJ _) (a.hok.fresh (YJ _))
inductive iRng1_i (R:(It->Hp->Prop)) (vs:TZ) (H1:Hp):Prop
 | mk (j:Int) (zz0:vs=[.int j]) (zz1:-(2 ^ 62)<=j) (zz2:j<2 ^ 62) (zz3:R (Itr 0 j.toNat) H1)
def iRng1 (ta:TA):TI:=λσ H R=>ta σ H (iRng1_i R)
theorem Yf {a:Expr}{ta:TA}{p pos:Pos}(hg:Gl X "range")(hm:X.mg "range"=none)(ha:PA X [a] ta)(hs:starEach [a] X.env=[(false,eval a X.env)]:=by rfl):PI X tg (.Call (.Name "range" p) [a] [] pos) (iRng1 ta):=by
 intro pins s σ H R I h;refine Call_ (Wo I hg hm boot_range (JJ (thn (ha pos pins s σ H _ I h) λus s1 ⟨vs,H1,c,r1,b⟩=>?_) hs rfl));obtain⟨j,e,b,d,q⟩:=b;subst e
 cases r1 with
 | cons r rr =>
  cases rr;obtain⟨t,rfl⟩:=r;exact call_range_1 (Z0f c J0 J0 b d (by simpa using q))
def tFor (c:TI)(g:TG)(tb:TS):TS:=λD σ H=>c σ H λJ H1=>∃ W:Nat->Nat->St->Hp->Prop,(∃ m,W 0 m σ H1)/\∀ i m σ H,W i m σ H →
 (J.stop i H/\D.nx σ H) \/ (J.go i H/\∃ N:St->Hp->Prop,(∀ σ' H',N σ' H'->∃ b,b<m/\W (i+1) b σ' H')/\∀ x H',J.yld i H x H'->g x σ H' λa H2=>tb { D with nx:=N,ct:=N,bk:=D.nx } a H2)
noncomputable def pinsAt (fp:TJ)(h:Heap):List (Addr × Obj):=fp.filterMap λb=>(h.get? b).map λo=>(b,o)
def Vm {fp:TJ}{b:Addr}{o:Obj}(a:b∈fp)(e:h.get? b=some o):(b,o)∈pinsAt fp h:=Y1I.mpr ⟨b,a,by rw[e];rfl⟩
def Dx {fp:TJ}{h:Heap}{p:Addr × Obj}(hp:p∈pinsAt fp h):p.1∈fp/\h.get? p.1=some p.2:=by
 obtain⟨b,a,e⟩:=Y1I.mp hp
 cases q:h.get? b with
 | none=>rw[q] at e;cases e
 | some o =>
  rw[q] at e;have e':(b,o)=p:=YU e;subst e';exact⟨a,q⟩
def Inv.pinned {fp:TJ}(I:Inv X pins σ H s)(hf:∀ b∈fp,FpOk X pins H b)(ho:∀ b∈fp,∃ o,s.heap.get? b=some o/\∀ v,o.data≠.cell v):Inv X (pins++pinsAt fp s.heap) σ H s :=
 I.pins_of λp hp=>(XN.mp hp).elim (λz=>I.pin p (YW _ z)) λz=>by
  obtain⟨a,e⟩:=Dx z;obtain⟨c,f1,f2,_⟩:=hf p.1 a;obtain⟨o,e',d⟩:=ho p.1 a;rw[e] at e';cases e';exact⟨e,c,f1,f2,d⟩
def Inv.unpinned {pl:TD}(I:Inv X (pins++pl) σ H s):Inv X pins σ H s:=I.pins_of λp hp=>I.pin p (YW _ (XG _ hp))
theorem Yw {j:Expr}{body:TM}{S:TI}{g:TG}{tb:TS}{pos:Pos}(hp:PassesOwn (model X.prog X.w) X.A X.env X.xe)(hc:X.calm=true)(hi:PI X tg j S)(hg:PG X tg g)(k:PSs X body tb)
  (hs:∀ x,foldedSetIterable j X.env x=pure x:=by intro _;rfl):PS X (.For tg j body [] pos) (tFor S g tb):=by
 intro pins s σ H D I h;refine wpAny_For (thn (hi pins s σ H _ I h) λv s1 h1=>thn h1 λY s2 h2=>?_) hs;obtain⟨it,fp,tn,J,H2,e,I2,T,M,f2,W,⟨m0,w0⟩,B⟩:=h2;subst e;have q:∀ {H':Hp},(∀ b∈fp,H' b=none)->∀ b∈fp,FpOk X pins H' b:=λhn b k=>⟨hn b k,(f2 b k).2⟩;refine codeAny_forLoop_any (λn s'=>∃ i σ' H',Inv X pins σ' H' s'/\tn i s'.heap/\(∀ b∈fp,H' b=none)/\W i n σ' H') ?_ m0 ⟨0,σ,H2,I2,M,λb k=>(f2 b k).1,w0⟩;rintro n U ⟨i,c,G,R,F,E,w3⟩;rcases B i n c G w3 with ⟨stop,qn⟩ | ⟨go,N,hN,step⟩
 ·refine zz hp (thn (T.done X rfl rfl rfl hc i pins U c G X.xe R (q E) F stop) λr s4 ⟨hr,Z⟩=>?_);subst hr;exact Y0m ⟨c,G,Z,qn⟩
 refine zz hp (thn (T.item X rfl rfl rfl hc i pins U c G X.xe R (q E) F go) λr s4 ⟨u,hr,h4⟩=>?_);subst hr;refine zz hp (thn h4 λ_ Q ⟨x,H5,I5,r5,y5,z,P⟩=>?_);have L:=I5.pinned (q P) (T.obj _ _ z);refine zz hp (thn (hg _ Q c H5 x u _ L r5 (step x H5 y5)) λ_ s6 ⟨O,H6,V,q6⟩=>?_);refine zz hp (thn (k _ s6 O H6 _ V q6) λf K y=>?_);have t:∀ {a:St} {l:Hp},Inv X (pins++pinsAt fp Q.heap) a l K->N a l->∃ m,m<n/\∃ i σ' H',Inv X pins σ' H' K/\tn i K.heap/\(∀ b∈fp,H' b=none)/\W i m σ' H':=λ{a l} p C=>by
  obtain⟨m',hm,w7⟩:=hN a l C;refine⟨m',hm,i+1,a,l,p.unpinned,T.keep _ _ _ z λb k o e=>(p.pin (b,o) (YW _ (YW _ (Vm k e)))).1,λb k=>?_,w7⟩;obtain⟨o,e,d⟩:=T.obj _ _ z b k;exact (p.pin (b,o) (YW _ (YW _ (Vm k e)))).2.1
 cases f with
 | next=>obtain⟨a,l,p,C⟩:=y;exact t p C
 | cont=>obtain⟨a,l,p,C⟩:=y;exact t p C
 | brk=>obtain⟨a,l,p,y⟩:=y;exact⟨a,l,p.unpinned,y⟩
 | ret v=>obtain⟨x7,a,l,p,r7,y⟩:=y;exact⟨x7,a,l,p.unpinned,r7,y⟩
end
def Wp {a:Addr}{g:TG}{D:Ends}(b:Nat->St->Hp->Prop)(h0:b 0 σ H)(hl:∀ i σ H,i<=xs.length->b i σ H->SqL K H a xs)
  (hs:∀ i x σ H,xs[i]?=some x->b i σ H->g x σ H λc H2=>tb { D with nx:=b (i+1),ct:=b (i+1),bk:=D.nx } c H2) (hd:∀ σ H,b xs.length σ H->D.nx σ H) :
  ∃ W:Nat->Nat->St->Hp->Prop,(∃ m,W 0 m σ H)/\∀ i m σ H,W i m σ H →
   ((Itl K a).stop i H/\D.nx σ H) \/ ((Itl K a).go i H/\∃ N:St->Hp->Prop,(∀ σ' H',N σ' H'->∃ f,f<m/\W (i+1) f σ' H')/\∀ x H',(Itl K a).yld i H x H'->g x σ H' λc H2=>tb { D with nx:=N,ct:=N,bk:=D.nx } c H2):=by
 refine⟨λi m σ H=>m=xs.length - i/\i<=xs.length/\b i σ H,⟨xs.length,ZJ,JK _,h0⟩,?_⟩;rintro i m σ H ⟨rfl,hi,p⟩;have q:=hl i σ H hi p;by_cases d:i<xs.length
 ·refine .inr ⟨⟨xs,xs[i],q,by simp[d]⟩,b (i+1),λσ' H' h=>⟨xs.length - (i+1),J0,rfl,d,h⟩,λx H' y=>?_⟩;obtain⟨e,y⟩:=y;subst e;exact hs i x σ _ (y xs q) p
 have e:i=xs.length:=J0
 subst e;exact .inl ⟨⟨xs,q,YJ _⟩,hd σ H p⟩
def Mu {a:Addr}{g:TG}{D:Ends}(b:Nat->St->Hp->Prop)(h0:b 0 σ H)(hl:∀ i σ H,i<=xs.length->b i σ H->SqT K H a xs)
  (hs:∀ i x σ H,xs[i]?=some x->b i σ H->g x σ H λc H2=>tb { D with nx:=b (i+1),ct:=b (i+1),bk:=D.nx } c H2) (hd:∀ σ H,b xs.length σ H->D.nx σ H) :
  ∃ W:Nat->Nat->St->Hp->Prop,(∃ m,W 0 m σ H)/\∀ i m σ H,W i m σ H →
   ((Itt K a).stop i H/\D.nx σ H) \/ ((Itt K a).go i H/\∃ N:St->Hp->Prop,(∀ σ' H',N σ' H'->∃ f,f<m/\W (i+1) f σ' H')/\∀ x H',(Itt K a).yld i H x H'->g x σ H' λc H2=>tb { D with nx:=N,ct:=N,bk:=D.nx } c H2):=by
 refine⟨λi m σ H=>m=xs.length - i/\i<=xs.length/\b i σ H,⟨xs.length,ZJ,JK _,h0⟩,?_⟩;rintro i m σ H ⟨rfl,hi,p⟩;have q:=hl i σ H hi p;by_cases d:i<xs.length
 ·refine .inr ⟨⟨xs,xs[i],q,by simp[d]⟩,b (i+1),λσ' H' h=>⟨xs.length - (i+1),J0,rfl,d,h⟩,λx H' y=>?_⟩;obtain⟨e,y⟩:=y;subst e;exact hs i x σ _ (y xs q) p
 have e:i=xs.length:=J0
 subst e;exact .inl ⟨⟨xs,q,YJ _⟩,hd σ H p⟩
def Xq {lo:Int}{n:Nat}{g:TG}{D:Ends}(c:Nat->St->Hp->Prop)(h0:c 0 σ H)
  (hs:∀ i σ H,i<n->c i σ H->g (.int (lo+i)) σ H λa H2=>tb { D with nx:=c (i+1),ct:=c (i+1),bk:=D.nx } a H2) (hd:∀ σ H,c n σ H->D.nx σ H) :
  ∃ W:Nat->Nat->St->Hp->Prop,(∃ m,W 0 m σ H)/\∀ i m σ H,W i m σ H →
   ((Itr lo n).stop i H/\D.nx σ H) \/ ((Itr lo n).go i H/\∃ N:St->Hp->Prop,(∀ σ' H',N σ' H'->∃ d,d<m/\W (i+1) d σ' H')/\∀ x H',(Itr lo n).yld i H x H'->g x σ H' λa H2=>tb { D with nx:=N,ct:=N,bk:=D.nx } a H2):=by
 refine⟨λi m σ H=>m=n - i/\i<=n/\c i σ H,⟨n,ZJ,JK _,h0⟩,?_⟩;rintro i m σ H ⟨rfl,hi,p⟩;by_cases b:i<n
 ·refine .inr ⟨b,c (i+1),λσ' H' f=>⟨n - (i+1),J0,rfl,b,f⟩,λx H' y=>?_⟩;obtain⟨e,y⟩:=y;subst e y;exact hs i σ _ b p
 have e:i=n:=J0
 subst e;exact .inl ⟨YJ _,hd σ H p⟩
def Q8 {c:TT}{tb:TS}{D:Ends}{σ:St}{H:Hp}(a:St->Hp->Prop)(μ:St->Hp->Nat)(h0:a σ H)
  (hs:∀ σ H,a σ H->c σ H λb H1=>if b=true then tb { D with nx:=λσ' H'=>a σ' H'/\μ σ' H'<μ σ H,ct:=λσ' H'=>a σ' H'/\μ σ' H'<μ σ H,bk:=D.nx } σ H1 else D.nx σ H1)
  (d:∀ σ H Q e,(∀ b H1,Q b H1->e b H1)->c σ H Q->c σ H e):tWhile c tb D σ H:=by
 refine⟨λm σ H=>m=μ σ H/\a σ H,⟨_,rfl,h0⟩,?_⟩;rintro m σ H ⟨rfl,p⟩;refine d σ H _ _ (λb H1 q=>?_) (hs σ H p)
 cases b with
 | true=>exact⟨_,λσ' H' ⟨f,l⟩=>⟨_,l,rfl,f⟩,q⟩
 | false=>exact q
abbrev R2:=V->V->Hp->VK->Prop
def OpR (X:Cx)(f:Value->Value->Sem Value)(r:R2):Prop :=
 ∀ (pins:TD) (s:Shared) (σ:St) (H:Hp) (x y:V) (v u:Value) (Q:VK),Inv X pins σ H s->RelV x v->RelV y u->r x y H Q →
  wX X (f v u) (EP X pins σ Q) X.xe s
def UnR (X:Cx)(f:Value->Sem Value)(r:V->Hp->VK->Prop):Prop :=
 ∀ (pins:TD) (s:Shared) (σ:St) (H:Hp) (x:V) (v:Value) (Q:VK),Inv X pins σ H s->RelV x v->r x H Q →
  wX X (f v) (EP X pins σ Q) X.xe s
def CallR (X:Cx)(f:Value)(r:List V->Hp->VK->Prop):Prop :=
 ∀ (pins:TD) (s:Shared) (σ:St) (H:Hp) (xs:TZ) (us:TH) (Q:VK),Inv X pins σ H s->Vals xs us->r xs H Q →
  wX X (call f us) (EP X pins σ Q) X.xe s
def TruR (X:Cx)(r:V->Hp->(Bool->Hp->Prop)->Prop):Prop :=
 ∀ (pins:TD) (s:Shared) (σ:St) (H:Hp) (x:V) (v:Value) (Q:Bool->Hp->Prop),Inv X pins σ H s->RelV x v->r x H Q →
  wX X (truthy v) (TP X pins σ Q) X.xe s
def tOp (r:R2)(ta tb:TE):TE:=λσ H Q=>ta σ H λx H1=>tb σ H1 λy H2=>r x y H2 Q
def tUn (r:V->Hp->VK->Prop)(ta:TE):TE:=λσ H Q=>ta σ H λx H1=>r x H1 Q
inductive rI (C:Int->Int->Prop) (g:Int->Int->V) (x:V) (y:V) (H:Hp) (Q:VK):Prop
 | mk (i j:_) (zz0:x=.int i) (zz1:y=.int j) (zz2:C i j) (zz3:Q (g i j) H)
inductive rI0 (g:Int->Int->V) (x:V) (y:V) (H:Hp) (Q:VK):Prop
 | mk (i j:_) (zz0:x=.int i) (zz1:y=.int j) (zz2:Q (g i j) H)
inductive rU (g:Int->V) (x:V) (H:Hp) (Q:VK):Prop
 | mk (i:_) (zz0:x=.int i) (zz1:Q (g i) H)
section
variable {X:Cx}{a b:Expr}{ta tb:TE}
def Z7b (ha:PE X a ta)(i:PE X b tb){pins:TD}{s:Shared}{σ:St}{H:Hp}{R:V->V->Hp->Prop}(I:Inv X pins σ H s)
  (h:ta σ H λx H1=>tb σ H1 λy H2=>R x y H2) {Q:TC} {f:Value->Value->Sem Value}
  (hf:∀ v u s2 x y H2,Inv X pins σ H2 s2->RelV x v->RelV y u->R x y H2->wX X (f v u) Q X.xe s2) :
  wX X (eval a X.env) (λv c=>wX X (eval b X.env) (λu d=>wX X (f v u) Q X.xe d) X.xe c) X.xe s:=by
 refine thn (ha pins s σ H _ I h) λv s1 ⟨x,H1,e,r1,j⟩=>?_;refine thn (i pins s1 σ H1 _ e j) λu s2 ⟨y,H2,k,r2,g⟩=>?_;exact hf v u s2 x y H2 k r1 r2 g
theorem Zl {op:Operator}{r:R2}(ho:OpR X (binaryOp op) r)(ha:PE X a ta)(c:PE X b tb):PE X (.BinOp a op b pos) (tOp r ta tb):=by
 intro pins s σ H Q I h;exact wpAny_BinOp (Z7b ha c I h λv u s2 x y H2 d e f q=>ho pins s2 σ H2 x y v u Q d e f q)
theorem V9 {op:UnaryOp}{r:V->Hp->VK->Prop}(ho:UnR X (unaryOp op) r)(ha:PE X a ta):PE X (.UnaryOp op a pos) (tUn r ta):=by
 intro pins s σ H Q I h;exact UnaryOp_ (thn (ha pins s σ H _ I h) λv s1 ⟨x,H1,c,r1,b⟩=>ho pins s1 σ H1 x v Q c r1 b)
theorem opI {f:Value->Value->Sem Value}{C:Int->Int->Prop}{g:Int->Int->Int}
  (a:∀ (i j:Int) (t u:Tok) (s:Shared) (Q:TC) (E:TC),C i j->Q (.int (g i j) s.toks) { s with toks:=s.toks+1 }->wX X (f (.int i t) (.int j u)) Q E s) :
  OpR X f (rI C λi j=>.int (g i j)):=by
 intro pins s σ H x y v u Q I b c h;obtain⟨i,j,rfl,rfl,hc,q⟩:=h;obtain⟨t,rfl⟩:=b;obtain⟨t',rfl⟩:=c;exact a i j t t' s _ _ hc ⟨.int (g i j),H,I.tok _,⟨_,rfl⟩,q⟩
theorem Z7u {f:Value->Value->Sem Value}{g:Int->Int->Int}
  (a:∀ (i j:Int) (t u:Tok) (s:Shared) (Q:TC) (E:TC),Q (.int (g i j) s.toks) { s with toks:=s.toks+1 }->wX X (f (.int i t) (.int j u)) Q E s) :
  OpR X f (rI0 λi j=>.int (g i j)):=by
 intro pins s σ H x y v u Q I b c h;obtain⟨i,j,rfl,rfl,q⟩:=h;obtain⟨t,rfl⟩:=b;obtain⟨t',rfl⟩:=c;exact a i j t t' s _ _ ⟨.int (g i j),H,I.tok _,⟨_,rfl⟩,q⟩
theorem Z3m {f:Value->Value->Sem Value}{g:Int->Int->Bool}
  (a:∀ (i j:Int) (t u:Tok) (s:Shared) (Q:TC) (E:TC),Q (.bool (g i j)) s->wX X (f (.int i t) (.int j u)) Q E s) :
  OpR X f (rI0 λi j=>.bl (g i j)):=by
 intro pins s σ H x y v u Q I b c h;obtain⟨i,j,rfl,rfl,q⟩:=h;obtain⟨t,rfl⟩:=b;obtain⟨t',rfl⟩:=c;exact a i j t t' s _ _ ⟨.bl (g i j),H,I,rfl,q⟩
def CPow (i j:Int):Prop:=0<=j/\j<=1000000/\i.natAbs<2 ^ 64
def CMul (i j:Int):Prop:=(-(2 ^ 64)<i/\i<2 ^ 64) \/ (-(2 ^ 64)<j/\j<2 ^ 64)
def X6:OpR X (binaryOp .Add) (rI0 λi j=>.int (i+j)):=Z7u λ_ _ _ _ _ _ _ q=>add_int q
def Wz:OpR X (binaryOp .Sub) (rI0 λi j=>.int (i - j)):=Z7u λ_ _ _ _ _ _ _ q=>sub_int q
def Wj:OpR X (binaryOp .Mod) (rI (λ_ j=>0<j) λi j=>.int (i % j)):=opI λi j _ _ _ _ _ hc q=>by
 have h1:(0:Int)<j:=hc;exact mod_int' J0 (by rw[Int.fmod_eq_emod_of_nonneg i J0];exact q)
def Z3k:OpR X (binaryOp .Mod) (rI (λ_ j=>j≠0) λi j=>.int (i.fmod j)):=opI λ_ _ _ _ _ _ _ hc q=>mod_int' hc q
def Mg:OpR X (binaryOp .Pow) (rI CPow λi j=>.int (i ^ j.toNat)):=opI λ_ _ _ _ _ _ _ hc q=>pow_int_small hc.1 hc.2.1 hc.2.2 q
theorem unI {f:Value->Sem Value}{g:Int->Int}
  (a:∀ (i:Int) (t:Tok) (s:Shared) (Q:TC) (E:TC),Q (.int (g i) s.toks) { s with toks:=s.toks+1 }->wX X (f (.int i t)) Q E s) :
  UnR X f (rU λi=>.int (g i)):=by
 intro pins s σ H x v Q I b h;obtain⟨i,rfl,q⟩:=h;obtain⟨t,rfl⟩:=b;exact a i t s _ _ ⟨.int (g i),H,I.tok _,⟨_,rfl⟩,q⟩
def Xx:UnR X (unaryOp .USub) (rU λi=>.int (-i)):=unI λ_ _ _ _ _ q=>neg_int q
end
noncomputable def scal:V->V->Bool
 | .non,.non=>true | .non,.int _=>true | .int _,.non=>true | .non,.bl _=>true | .bl _,.non=>true | .non,.str _=>true | .str _,.non=>true
 | .int _,.int _=>true | .bl _,.bl _=>true | .str _,.str _=>true | .byt _,.byt _=>true
 | .int _,.str _=>true | .str _,.int _=>true | .bl _,.str _=>true | .str _,.bl _=>true
 | _,_=>false
def rEq:R2:=λx y H Q=>scal x y=true/\Q (.bl (decide (x=y))) H
def rNe:R2:=λx y H Q=>scal x y=true/\Q (.bl (!decide (x=y))) H
def Fl {i j:Int}:decide (V.int i=V.int j)=(i == j):=by
 rw[GE];simp
def Z2d {i j:Bool}:decide (V.bl i=V.bl j)=(i == j):=by
 rw[GE];simp
def Fk {i j:Str}:decide (V.str i=V.str j)=(i == j):=by
 rw[GE];simp
def Fm {i j:Array UInt8}:decide (V.byt i=V.byt j)=(i.toList == j.toList):=by
 rw[GE]
 cases i
 cases j;simp
section
variable {X:Cx}{a b c:Expr}{ta tb:TE}
def Yb {Q:VK}{k k':Bool}(I:Inv X pins σ H s)(q:Q (.bl k) H)(e:k=k'):EP X pins σ Q (.bool k') s:=by
 subst e;exact⟨.bl k,H,I,rfl,q⟩
theorem Xp:OpR X (compareOp .Eq) rEq:=by
 intro pins s σ H x y v u Q I b a h;obtain⟨hs,q⟩:=h
 cases x with
 | non =>
  cases b
  cases y with
  | non=>cases a;exact PySem.EqNone.eq_none_none (Yb I q ZJ)
  | bl j=>cases a;exact PySem.EqNone.eq_none_bool (Yb I q ZJ)
  | int j=>obtain⟨t',rfl⟩:=a;exact PySem.EqNone.eq_none_int (Yb I q ZJ)
  | str j=>obtain⟨t',rfl⟩:=a;exact PySem.EqNone.eq_none_str (Yb I q ZJ)
  | _=>exact absurd (show false=true from hs) YO
 | bl i =>
  cases b
  cases y with
  | non=>cases a;exact PySem.EqNone.eq_bool_none (Yb I q ZJ)
  | bl j=>cases a;exact eq_bool (Yb I q Z2d)
  | str j=>obtain⟨t',rfl⟩:=a;exact PySem.EqMixed.eq_bool_str (Yb I q ZJ)
  | _=>exact absurd (show false=true from hs) YO
 | int i =>
  obtain⟨t,rfl⟩:=b
  cases y with
  | non=>cases a;exact PySem.EqNone.eq_int_none (Yb I q ZJ)
  | int j=>obtain⟨t',rfl⟩:=a;exact eq_int (Yb I q Fl)
  | str j=>obtain⟨t',rfl⟩:=a;exact PySem.EqMixed.eq_int_str (Yb I q ZJ)
  | _=>exact absurd (show false=true from hs) YO
 | str i =>
  obtain⟨t,rfl⟩:=b
  cases y with
  | non=>cases a;exact PySem.EqNone.eq_str_none (Yb I q ZJ)
  | bl j=>cases a;exact PySem.EqMixed.eq_str_bool (Yb I q ZJ)
  | int j=>obtain⟨t',rfl⟩:=a;exact PySem.EqMixed.eq_str_int (Yb I q ZJ)
  | str j=>obtain⟨t',rfl⟩:=a;exact eq_str (Yb I q Fk)
  | _=>exact absurd (show false=true from hs) YO
 | byt i =>
  obtain⟨t,rfl⟩:=b
  cases y with
  | byt j=>obtain⟨t',rfl⟩:=a;exact W.eq_bytes (Yb I q Fm)
  | _=>exact absurd (show false=true from hs) YO
 | _=>cases y <;> exact absurd (show false=true from hs) YO
theorem Qo:OpR X (compareOp .NotEq) rNe:=by
 intro pins s σ H x y v u Q I b a h;obtain⟨hs,q⟩:=h
 cases x with
 | non =>
  cases b
  cases y with
  | non=>cases a;exact PySem.EqNone.ne_none_none (Yb I q ZJ)
  | bl j=>cases a;exact PySem.EqNone.ne_none_bool (Yb I q ZJ)
  | int j=>obtain⟨t',rfl⟩:=a;exact PySem.EqNone.ne_none_int (Yb I q ZJ)
  | str j=>obtain⟨t',rfl⟩:=a;exact PySem.EqNone.ne_none_str (Yb I q ZJ)
  | _=>exact absurd (show false=true from hs) YO
 | bl i =>
  cases b
  cases y with
  | non=>cases a;exact PySem.EqNone.ne_bool_none (Yb I q ZJ)
  | bl j=>cases a;exact ne_bool (Yb I q (congrArg not Z2d))
  | str j=>obtain⟨t',rfl⟩:=a;exact PySem.EqMixed.ne_bool_str (Yb I q ZJ)
  | _=>exact absurd (show false=true from hs) YO
 | int i =>
  obtain⟨t,rfl⟩:=b
  cases y with
  | non=>cases a;exact PySem.EqNone.ne_int_none (Yb I q ZJ)
  | int j=>obtain⟨t',rfl⟩:=a;exact ne_int (Yb I q (congrArg not Fl))
  | str j=>obtain⟨t',rfl⟩:=a;exact PySem.EqMixed.ne_int_str (Yb I q ZJ)
  | _=>exact absurd (show false=true from hs) YO
 | str i =>
  obtain⟨t,rfl⟩:=b
  cases y with
  | non=>cases a;exact PySem.EqNone.ne_str_none (Yb I q ZJ)
  | bl j=>cases a;exact PySem.EqMixed.ne_str_bool (Yb I q ZJ)
  | int j=>obtain⟨t',rfl⟩:=a;exact PySem.EqMixed.ne_str_int (Yb I q ZJ)
  | str j=>obtain⟨t',rfl⟩:=a;exact ne_str (Yb I q (congrArg not Fk))
  | _=>exact absurd (show false=true from hs) YO
 | byt i =>
  obtain⟨t,rfl⟩:=b
  cases y with
  | byt j=>obtain⟨t',rfl⟩:=a;exact W.ne_bytes (Yb I q (congrArg not Fm))
  | _=>exact absurd (show false=true from hs) YO
 | _=>cases y <;> exact absurd (show false=true from hs) YO
def Ud:OpR X (compareOp .Lt) (rI0 λi j=>.bl (decide (i<j))):=Z3m λ_ _ _ _ _ _ _ q=>lt_int q
def Z5h:OpR X (compareOp .LtE) (rI0 λi j=>.bl (decide (i<=j))):=Z3m λ_ _ _ _ _ _ _ q=>le_int q
def Sx:OpR X (compareOp .Gt) (rI0 λi j=>.bl (decide (j<i))):=Z3m λ_ _ _ _ _ _ _ q=>gt_int q
def Z7t:OpR X (compareOp .GtE) (rI0 λi j=>.bl (decide (j<=i))):=Z3m λ_ _ _ _ _ _ _ q=>ge_int q
theorem Mh:OpR X (compareOp .Is) (λx y H Q=>y=.non/\Q (.bl (decide (x=.non))) H):=by
 intro pins s σ H x y v u Q I a b h;obtain⟨rfl,q⟩:=h
 cases b;refine is_none_gen (Yb I q ?_)
 cases x <;> first
  | (cases a;rfl)
  | (obtain⟨t,rfl⟩:=a;rfl)
theorem Q1:OpR X (compareOp .IsNot) (λx y H Q=>y=.non/\Q (.bl (!decide (x=.non))) H):=by
 intro pins s σ H x y v u Q I a b h;obtain⟨rfl,q⟩:=h
 cases b;refine isnot_none_gen (Yb I q ?_)
 cases x <;> first
  | (cases a;rfl)
  | (obtain⟨t,rfl⟩:=a;rfl)
noncomputable def Zp (b:Expr){op:CmpOp}(h:op≠.In:=by decide)(h2:op≠.NotIn:=by decide):behindInMarks op b=false:=by
 have e1:(op == CmpOp.In)=false:=by cases op <;> first | rfl | exact absurd rfl h
 have e2:(op == CmpOp.NotIn)=false:=by cases op <;> first | rfl | exact absurd rfl h2
 cases b <;> simp[behindInMarks,e1,e2]
theorem Yu {op:CmpOp}{r:R2}(ho:OpR X (compareOp op) r)(ha:PE X a ta)(c:PE X b tb)(hm:behindInMarks op b=false):PE X (.Compare a [op] [b] pos) (tOp r ta tb):=by
 intro pins s σ H Q I h;exact wpAny_Compare1 (Z7b ha c I h λv u s2 x y H2 d e f q=>ho pins s2 σ H2 x y v u Q d e f q) hm
def tTest (t:TE):TT:=λσ H Q=>t σ H λx H'=>∃ k,x=.bl k/\Q k H'
theorem Zo {op:CmpOp}{r:R2}(ho:OpR X (compareOp op) r)(ha:PE X a ta)(l:PE X b tb)(hm:behindInMarks op b=false):PT X (.Compare a [op] [b] pos) (tTest (tOp r ta tb)):=by
 intro pins s σ H Q I h;refine wpAny_isTrue_Compare1 (thn (ha pins s σ H _ I h) λv s1 ⟨x,H1,d,r1,m⟩=>thn (l pins s1 σ H1 _ d m) λu s2 ⟨y,H2,n,r2,f⟩ =>
  thn (ho pins s2 σ H2 x y v u _ n r1 r2 f) λc p ⟨z,j,g,o,k,e,i⟩=>?_) hm
 subst e
 cases o;exact qk ⟨j,g,i⟩
def TruV (K:TR)(x:V)(H:Hp)(k:Bool):Prop :=
 match x with
 | .non=>k=false
 | .bl b=>k=b
 | .int i=>k=(i != 0)
 | .str y=>y.length<=sizeLine/\k=((y.length:Int) != 0)
 | .byt y=>y.size<=sizeLine/\k=((y.size:Int) != 0)
 | .ref p=>(∃ xs,SqL K H p xs/\k=!xs.isEmpty) \/ (∃ xs,SqT K H p xs/\k=!xs.isEmpty) \/ ∃ kvs,H p=some (.dK kvs)/\k=!kvs.isEmpty
 | _=>False
def Ju {κ:Type}{kvs:List (κ × V)}{vs:List (κ × Value)}(r:KV kvs vs):(!vs.isEmpty)=!kvs.isEmpty:=by
 cases r <;> rfl
def Pa (r:Vals xs its):(!its.toArray.isEmpty)=!xs.isEmpty:=by
 cases r <;> simp
def Qw:(sizeLine:Nat)<2 ^ 63:=by rw[qy];decide
theorem Z5t:TruR X (λx H Q=>∃ k,TruV X.K x H k/\Q k H):=by
 intro pins s σ H x v Q I c h;obtain⟨k,e,q⟩:=h;have hl:=Qw;have hs:sizeLine=16777216:=qy
 cases x with
 | non =>
  cases c;have e':k=false:=e;subst e';exact truthy_none ⟨H,I,q⟩
 | bl b =>
  cases c;have e':k=b:=e;subst e';exact qk ⟨H,I,q⟩
 | int i =>
  obtain⟨t,rfl⟩:=c;have e':k=(i != 0):=e;subst e';exact PySem.P.truthy_int ⟨H,I,q⟩
 | str y =>
  obtain⟨t,rfl⟩:=c;obtain⟨d,e'⟩:y.length<=sizeLine/\k=((y.length:Int) != 0):=e;subst e';exact PySem.P.truthy_str J0 ⟨H,I.tok _,q⟩
 | byt y =>
  obtain⟨t,rfl⟩:=c;obtain⟨d,e'⟩:y.size<=sizeLine/\k=((y.size:Int) != 0):=e;subst e';exact W.truthy_bytes J0 ⟨H,I.tok _,q⟩
 | ref p =>
  cases c;have e':(∃ xs,SqL X.K H p xs/\k=!xs.isEmpty) \/ (∃ xs,SqT X.K H p xs/\k=!xs.isEmpty) \/ ∃ kvs,H p=some (.dK kvs)/\k=!kvs.isEmpty:=e;rcases e' with ⟨xs,hx,e'⟩ | ⟨xs,hx,e'⟩ | ⟨kvs,hx,e'⟩
  ·subst e';obtain⟨its,r,pl,hz⟩:=I.list hx;have a:=r.length;exact wpAny_truthy_list pl.isList (by simp only [YM];omega) ⟨H,I.tok _,by rw[Pa r];exact q⟩
  ·subst e';obtain⟨its,r,pl,hz⟩:=I.tuple hx;have a:=r.length;exact truthy_tuple pl (by simp only [YM];omega) ⟨H,I.tok _,by rw[Pa r];exact q⟩
  subst e';obtain⟨hz,hS,vs,r,m⟩:kvs.length<=sizeLine/\(p == sysModules)=false/\∃ vs,KV kvs vs/\s.heap.DictOf (mixKind X.prog X.w) p vs:=I.hok p _ hx;have a:kvs.length=vs.length:=XB r;exact wpAny_truthy_dict hS m J0 ⟨H,I.tok _,by rw[Ju r];exact q⟩
 | _=>exact (show False from e).elim
theorem Z0k (ha:PE X a ta)(d:∀ b,isTrue a X.env b=(do let v <-b;standAt a.pos;holding [v] (truthy v))) :
  PT X a (λσ H Q=>ta σ H λx H'=>∃ k,TruV X.K x H' k/\Q k H'):=by
 intro pins s σ H Q I h;exact isTrue_plain (thn (ha pins s σ H _ I h) λv s1 ⟨x,H1,c,r1,e⟩=>Z5t pins s1 σ H1 x v Q c r1 e) (d _)
def V4 {x:V}{us:TH}(r:Vals [x] us):∃ u,us=[u]/\RelV x u:=by
 cases r with
 | cons r1 r2=>cases r2;exact⟨_,rfl,r1⟩
def Ga {x y:V}{us:TH}(r:Vals [x,y] us):∃ u a,us=[u,a]/\RelV x u/\RelV y a:=by
 cases r with
 | cons r1 r2 =>
  cases r2 with
  | cons b c=>cases c;exact⟨_,_,rfl,r1,b⟩
theorem Km:CallR X (.builtin "abs") (λxs H Q=>∃ i,xs=[.int i]/\Q (.int (if i<0 then -i else i)) H):=by
 intro pins s σ H xs us Q I r h;obtain⟨i,rfl,q⟩:=h;obtain⟨u,rfl,t,rfl⟩:=V4 r;exact call_abs_int λu tk=>⟨.int (if i<0 then -i else i),H,I.tok _,⟨_,rfl⟩,q⟩
theorem Ni:CallR X (.type "int") (λxs H Q=>(∃ i,xs=[.int i]/\Q (.int i) H) \/ ∃ k,xs=[.bl k]/\Q (.int (if k then 1 else 0)) H):=by
 intro pins s σ H xs us Q I r h;rcases h with ⟨i,rfl,q⟩ | ⟨k,rfl,q⟩
 ·obtain⟨u,rfl,t,rfl⟩:=V4 r;exact call_int_int ⟨.int i,H,I,⟨_,rfl⟩,q⟩
 obtain⟨u,rfl,r1⟩:=V4 r
 cases r1;exact call_int_bool ⟨.int (if k then 1 else 0),H,I.tok _,⟨_,rfl⟩,q⟩
end
structure ObjM (h:Heap)(x dx C:Addr)(mA:TB):Prop where
 obj:h.get? x=some (W.instObj C dx)
 ns:h.Ns1 dx mA
 ne:dx≠x
def C8 {dx:Addr}{mA:TB}(n:h.Ns1 dx mA):∃ od,h.get? dx=some od/\∀ name,W.lookIn name od=some (mA name):=by
 obtain⟨o,es,ep,ho,hd,hk,_,hm⟩:=n;refine⟨o,ho,λname=>?_⟩;have e:=hm name;unfold nsFind findBy at e;rw[<-Array.find?_toList] at e;unfold W.lookIn;rw[hd];dsimp only;split
 ·rename_i y q
  rw[q] at e;exact congrArg some e
 rename_i q
 rw[q] at e;have a:es.toList.any (·.refKey)=false:=by
  rw[List.any_eq_false];intro y c;obtain⟨z,t,b⟩:=hk y (Array.mem_toList_iff.mp c);simp[DictEntry.refKey,b]
 have d:¬ es.toList.any (·.refKey)=true:=by rw[a];exact YO
 rw[YF d];exact congrArg some e
def ObjM.look {x dx:Addr}{mA:TB}(I:ObjM h x dx C mA):∃ od,W.InstAt h x (W.instObj C dx) C (some od)/\∀ name,W.lookIn name od=some (mA name) :=
 let ⟨od,ho,hl⟩:=C8 I.ns
 ⟨od,⟨I.obj,rfl,rfl,ho⟩,hl⟩
section
variable {x dx:Addr}{mA:TB}{name:Str}{v:Value}
def Z4t {a:Bool}{Q:TC}(X:K.In s.heap)(I:ObjM s.heap x dx C mA)(hg:W.plainGet K C name=true)(c:W.hasDictIn K C=true)
  (ha:W.findIn K (.ref C) name=some none) (d:mA name=some v) (b:W.handedIn v=true) (h:Q v { s with toks:=s.toks+1 }) :
  wpAny (model prog w) A (getAttr (.ref x) name a) Q E s:=by
 obtain⟨od,J,hl⟩:=I.look;exact W.get_value X J (W.plainGet_of hg).1 (W.findObj_own c ha rfl (by rw[hl,d])) b h
def Z2m {ns:TF}{Q:Unit->Shared->Prop}(X:K.In s.heap)(I:ObjM s.heap x dx C mA)
  (hs:W.findIn K (.ref C) "__setattr__"=some (some (.builtin "object.__setattr__"))) (hp:W.plainOver K C=true) (l:W.takerIn K C name=some none) (n:W.hasDictIn K C=true)
  (hw:PySem.Within mA ns) (k:ns.length<=sizeLine)
  (h:∀ h',ObjM h' x dx C (λy=>if y=name then some v else mA y)->Heap.SameBut dx s.heap h'->Q () { s with heap:=h',toks:=s.toks+2 }) :
  wpAny (model prog w) A (setAttr (.ref x) name v) Q E s:=by
 obtain⟨od,J,hl⟩:=I.look;refine W.set_plain X J hs (W.osa_open (s:={ s with toks:=s.toks+1 }) (r:=none) X J hp l λb=>?_);obtain⟨cd,hc,e⟩:=W.any_some n;have hx:s.heap.get? x=some ⟨.ref C,some dx,.plain,#[]⟩:=I.obj;refine YA (YK (YA (YA (wpAny_loadPart hx (YA (W.Looks.here (s:={ s with toks:=s.toks+1 }) (W.looks_clsIn X hc) ?_))))));rw[e];refine YK (a:=some dx) (YA (YK (YA ?_)));refine wpAny_nsSet1 (s:={ s with toks:=s.toks+1 }) I.ns λh' d c=>?_;obtain⟨o,m,j,g,f,i⟩:=d.count (PySem.Within.cons name v hw);refine YA (wpAny_lookBehind g (by rw[f];exact pastItsLine_dict (YR i (by rw[XT];omega))) ?_);exact YK (h _ ⟨(c.2 _ (JC I.ne)).trans I.obj,d,I.ne⟩ c)
def Z1p {R:Result->Shared->Prop}{vs:TH}{a:List (Str × Value)}(X:K.In s.heap)(hm:W.makesIn K C=true)
  (hi:W.findIn K (.ref C) "__init__"=some (some (.ref f))) (hf:W.typeIn K (.ref f)=some (.type "function"))
  (h:codeAny (model prog w) (A.under (.builtin "type.__call__" ⟨.ref C::vs,a⟩)) (.call (.ref f) ⟨.ref (s.heap.objs.size+1)::vs,a⟩) (W.InitBack (s.heap.objs.size+1) R)
   { s with heap:=(s.heap.push W.emptyDict).push (W.instObj C s.heap.objs.size) }) :
  codeAny (model prog w) A (.call (.ref C) ⟨vs,a⟩) R s:=by
 obtain⟨b,g,d,t,os⟩:=s;exact W.make_core (W.makes_of X hm) (W.looks_findIn X hi) (λself=>W.bind_fn X self hf) (.inl rfl) h
end
noncomputable def putF (f:Str)(v:V):List (Str × V)->List (Str × V)
 | []=>[(f,v)]
 | (g,x)::r=>if g=f then (g,v)::r else (g,x)::putF f v r
theorem Y3 (f g:Str)(v:V):∀ fs:List (Str × V),(putF f v fs).lookup g=if g=f then some v else fs.lookup g
 | []=>by
  show List.lookup g [(f,v)]=_;by_cases h:g=f
  ·have a:(g == f)=true:=zu.mpr h;simp only [List.lookup,a,YH h]
  have a:(g == f)=false:=JI.mpr h;simp only [List.lookup,a,YF h]
 | (k,x)::r=>by
  have b:=Y3 f g v r;rw[show putF f v ((k,x)::r)=(if k=f then (k,v)::r else (k,x)::putF f v r) from rfl];by_cases hk:k=f
  ·rw[YH hk];by_cases h:g=k
   ·have a:(g == k)=true:=zu.mpr h;simp only [List.lookup,a,YH (h.trans hk)]
   have a:(g == k)=false:=JI.mpr h;simp only [List.lookup,a,YF (λe:g=f=>h (e.trans hk.symm))]
  rw[YF hk];by_cases h:g=k
  ·have a:(g == k)=true:=zu.mpr h;simp only [List.lookup,a,YF (λe:g=f=>hk (h.symm.trans e))]
  have a:(g == k)=false:=JI.mpr h;simp only [List.lookup,a];exact b
theorem Sd (f:Str)(v:V):∀ fs:List (Str × V),f∈(putF f v fs).map (·.1)/\∀ g,g∈fs.map (·.1)->g∈(putF f v fs).map (·.1)
 | []=>⟨by simp[putF],λg h=>by simp at h⟩
 | (k,x)::r=>by
  obtain⟨i1,i2⟩:=Sd f v r;rw[show putF f v ((k,x)::r)=(if k=f then (k,v)::r else (k,x)::putF f v r) from rfl];by_cases hk:k=f
  ·rw[YH hk];subst hk;exact⟨ZJ,λg h=>by simpa using h⟩
  rw[YF hk];refine⟨?_,λg h=>?_⟩
  ·rw[GM];exact YL _ i1
  rw[GM] at h ⊢;rcases YT.mp h with e | e
  ·exact YT.mpr (.inl e)
  exact YL _ (i2 g e)
theorem R0 (f:Str)(v:V):∀ fs:List (Str × V),(putF f v fs).length<=fs.length+1
 | []=>by simp[putF]
 | (k,x)::r=>by
  have a:=R0 f v r;rw[show putF f v ((k,x)::r)=(if k=f then (k,v)::r else (k,x)::putF f v r) from rfl];by_cases hk:k=f
  ·rw[YH hk,XT,XT];omega
  rw[YF hk,XT,XT];omega
def RelO.some_of {v:V}{o:Option Value}(r:RelO (some v) o):∃ u,o=some u/\RelV v u:=by
 cases o with
 | none=>exact (show False from r).elim
 | some u=>exact⟨u,rfl,r⟩
def Cj {v:V}{u:Value}(r:RelV v u):W.handedIn u=true:=by
 cases v with
 | non=>cases (show u=Value.none from r);rfl
 | bl b=>cases (show u=Value.bool b from r);rfl
 | int i=>obtain⟨t,e⟩:=(show ∃ t,u=Value.int i t from r);cases e;rfl
 | str x=>obtain⟨t,e⟩:=(show ∃ t,u=Value.str x t from r);cases e;rfl
 | byt b=>obtain⟨t,e⟩:=(show ∃ t,u=Value.bytes b t from r);cases e;rfl
 | flt b=>obtain⟨t,e⟩:=(show ∃ t,u=Value.float b t from r);cases e;rfl
 | ref a=>cases (show u=Value.ref a from r);rfl
 | ty n=>cases (show u=Value.type n from r);rfl
section
variable {P:TU}{H:Hp}{a dx:Addr}{fs:List (Str × V)}
def Mr (hok:HOk P w H h)(e:H a=some (.ins C dx fs)):∃ mA,ObjM h a dx C mA/\(∀ f,RelO (fs.lookup f) (mA f))/\PySem.Within mA (fs.map (·.1))/\fs.length<=1000/\H dx=some (.own a):=by
 obtain⟨d,z,ne,ob,mA,n,r,q⟩:=(show ObjOk P w H h a (.ins C dx fs) from hok a _ e);exact⟨mA,⟨ob,n,ne⟩,r,q,z,d⟩
end
structure Cls (K:TR)(C:Addr):Prop where
 pg:W.plainGet K C Str.empty=true
 hd:W.hasDictIn K C=true
 po:W.plainOver K C=true
 sa:W.findIn K (.ref C) "__setattr__"=some (some (.builtin "object.__setattr__"))
def Cls.get (c:Cls K C)(f:Str):W.plainGet K C f=true:=c.pg
def NoAttr (K:TR)(C:Addr)(f:Str):Prop:=W.findIn K (.ref C) f=some none
def NoAttr.taker {f:Str}(n:NoAttr K C f):W.takerIn K C f=some none:=by
 unfold W.takerIn;rw[show W.findIn K (.ref C) f=some none from n];rfl
structure Con (K:TR)(C:Addr)(f:Str)(v:V)(u:Value):Prop where
 at_:W.findIn K (.ref C) f=some (some u)
 rel:RelV v u
 get:W.specialIn K u "__get__"=some none
 cp:W.copiedNames.contains f=false
section
variable {X:Cx}{σ:St}{H:Hp}{a dx:Addr}{fs:List (Str × V)}{f:Str}{v:V}
def Jv {b:Bool}{Q:TC}(I:Inv X pins σ H s)(e:H a=some (.ins C dx fs))(c:Cls X.K C)(n:NoAttr X.K C f)(l:fs.lookup f=some v)
  (h:∀ u s',Inv X pins σ H s'->RelV v u->Q u s'):wpAny (model X.prog X.w) A (getAttr (.ref a) f b) Q E s:=by
 obtain⟨mA,O,r,_,_,_⟩:=Mr I.hok e;obtain⟨u,hu,ru⟩:=RelO.some_of (v:=v) (o:=mA f) (by rw[<-l];exact r f);exact Z4t I.kIn O (c.get f) c.hd n hu (Cj ru) (h u _ (I.tok _) ru)
def Ky {y:V}{Q:Unit->Shared->Prop}(I:Inv X pins σ H s)(e:H a=some (.ins C dx fs))(c:Cls X.K C)(n:NoAttr X.K C f)(hl:fs.length<1000)(l:RelV y u)
  (h:∀ s',Inv X pins σ (upd H a (.ins C dx (putF f y fs))) s'->Q () s'):wpAny (model X.prog X.w) A (setAttr (.ref a) f u) Q E s:=by
 obtain⟨mA,O,r,i,_,ho⟩:=Mr I.hok e;have hz:(fs.map (·.1)).length<=sizeLine:=by rw[YB,qy];omega
 refine Z2m I.kIn O c.sa c.po n.taker c.hd i hz λh' d j=>h _ ?_;have hd:∃ o,h'.get? dx=some o:=let ⟨o,_,_,e',_⟩:=d.ns;⟨o,e'⟩;refine I.write (x:=a) (e:=dx) (by rw[e];exact True.intro) (.inr ho) (λb q k z=>(j.2 b k).trans z) hd ?_;refine⟨by rw[Ze O.ne];exact ho,?_,O.ne,d.obj,_,d.ns,λg=>?_,λg hg=>?_⟩
 ·have:=R0 f y fs;omega
 ·show RelO ((putF f y fs).lookup g) (if g=f then some u else mA g);rw[Y3];by_cases q:g=f
  ·rw[YH q,YH q];exact l
  rw[YF q,YF q];exact r g
 by_cases q:g=f
 ·rw[q];exact (Sd f y fs).1
 refine (Sd f y fs).2 g (i g λz=>hg ?_);show (if g=f then some u else mA g)=none;rw[YF q];exact z
theorem Inv.made (I:Inv X pins σ H s):Inv X pins σ (upd (upd H s.heap.objs.size (.own (s.heap.objs.size+1))) (s.heap.objs.size+1) (.ins C s.heap.objs.size []))
  { s with heap:=(s.heap.push W.emptyDict).push (W.instObj C s.heap.objs.size) }:=by
 have e1:(s.heap.push W.emptyDict).get? s.heap.objs.size=some W.emptyDict:=YS s.heap rfl;have e2:((s.heap.push W.emptyDict).push (W.instObj C s.heap.objs.size)).get? (s.heap.objs.size+1)=some (W.instObj C s.heap.objs.size):=by
  have:=YS (s.heap.push W.emptyDict) (o:=W.instObj C s.heap.objs.size) rfl
  rwa [JT] at this
 have e3:(s.heap.push W.emptyDict).Ns s.heap.objs.size (λ_=>none):=⟨W.emptyDict,#[],_,e1,rfl,(λe d=>absurd d ZJ),λ_=>rfl⟩;have f:=I.laid (a:=s.heap.objs.size) (o:=.own (s.heap.objs.size+1)) (h':=s.heap.push W.emptyDict) (t':=s.toks) (λb u q=>YC _ q) (YJ _) ⟨_,e1⟩;refine f.laid (a:=s.heap.objs.size+1) (o:=.ins C s.heap.objs.size []) (t':=s.toks) (λb u q=>YC _ q) (jz (JT _ _)) ?_;have ne:s.heap.objs.size≠s.heap.objs.size+1:=XM (Y0e _);refine⟨by rw[Ze ne,Zc],JK _,ne,e2,λ_=>none,(Heap.Ns1.of_empty e3).at λo q=>YC _ q,λ_=>True.intro,λy c=>absurd rfl c⟩
def Z57 {env:Env}{f:Str}{Q:TC}(b:attributeBase e f env (eval e env)=eval e env)
  (h:wpAny (model prog w) A (eval e env) (λo a=>wpAny (model prog w) A (getAttr o f true) Q E a) E s):wpAny (model prog w) A (eval (.Attribute e f pos) env) Q E s :=
 Attribute_any_ h (by rw[arm_eval_Attribute,b])
end
inductive tFld_i (K:TR) (f:Str) (Q:VK) (x:V) (H1:Hp):Prop
 | mk (a C dx fs v:_) (zz0:x=.ref a) (zz1:H1 a=some (.ins C dx fs)) (zz2:Cls K C) (zz3:NoAttr K C f) (zz4:fs.lookup f=some v) (zz5:Q v H1)
def tFld (K:TR)(ta:TE)(f:Str):TE:=λσ H Q=>ta σ H (tFld_i K f Q)
inductive sFld_i (K:TR) (f:Str) (D:Ends) (σ:_L.St) (y:V) (x:V) (H2:Hp):Prop
 | mk (a C dx fs:_) (zz0:x=.ref a) (zz1:H2 a=some (.ins C dx fs)) (zz2:Cls K C) (zz3:NoAttr K C f) (zz4:fs.length<1000) (zz5:D.nx σ (upd H2 a (.ins C dx (putF f y fs))))
def sFld (K:TR)(ta tv:TE)(f:Str):TS:=λD σ H=>tv σ H λy H1=>ta σ H1 (sFld_i K f D σ y)
section
variable {X:Cx}{o value:Expr}{f:Str}{ta tv:TE}
theorem Yg (d:PE X e ta)(g:attributeBase e f X.env (eval e X.env)=eval e X.env):PE X (.Attribute e f pos) (tFld X.K ta f):=by
 intro pins s σ H Q I h;refine Z57 g (thn (d pins s σ H _ I h) λu s1 ⟨x,H1,b,j,a,C,dx,fs,v,ex,ea,c,n,l,q⟩=>?_);subst ex;obtain rfl:u=Value.ref a:=j;exact Jv b ea c n l λu' s2 i ru=>⟨v,H1,i,ru,q⟩
theorem Qj (ha:PE X o ta)(d:PE X value tv)(hs:swapsWith value (some (.Attribute o f pos')) pos.line X.env=pure false):PS X (.Assign [.Attribute o f pos'] value pos) (sFld X.K ta tv f):=by
 intro pins s σ H D I h;refine plainObj_wpAny_Assign_Attribute (thn (d pins s σ H _ I h) λu s1 ⟨y,H1,b,k,q⟩=>thn (ha pins s1 σ H1 _ b q) λov s2 ⟨x,H2,i,j,a,C,dx,fs,ex,ea,c,n,l,e⟩=>?_) hs;subst ex;obtain rfl:ov=Value.ref a:=j;exact Ky i ea c n l k λm g=>⟨σ,_,g,e⟩
end
section
variable {X:Cx}{σ:St}{H:Hp}{Q:TC}{c:Value}{b:Bool}
inductive TyOf (K:TR) (H:Hp):V->Value->Prop where
 | non:TyOf K H .non (.type "NoneType")
 | bl (x:Bool):TyOf K H (.bl x) (.type "bool")
 | int (i:Int):TyOf K H (.int i) (.type "int")
 | str (x:Str):TyOf K H (.str x) (.type "str")
 | flt (x:UInt64):TyOf K H (.flt x) (.type "float")
 | lst {a:Addr} {xs:TZ} (e:H a=some (.lst xs)):TyOf K H (.ref a) (.type "list")
 | frz {a:Addr} {o:Obj} {xs:TZ} (e:H a=some (.frz o (.lst xs))):TyOf K H (.ref a) (.type "list")
 | tup {a:Addr} {xs:TZ} (e:H a=some (.tup xs)):TyOf K H (.ref a) (.type "tuple")
 | dK {a:Addr} {kvs:List (Key × V)} (e:H a=some (.dK kvs)):TyOf K H (.ref a) (.type "dict")
 | dT {a:Addr} {kvs:List (List Key × V)} (e:H a=some (.dT kvs)):TyOf K H (.ref a) (.type "dict")
 | ins {a C dx:Addr} {fs:List (Str × V)} (e:H a=some (.ins C dx fs)) (cl:Cls K C) (ha:W.findIn K (.ref C) "__class__"=some (some (.builtin "object.__class__")))
   (hn:W.specialIn K (.builtin "object.__class__") "__get__"=some (some (.builtin "getset_descriptor.__get__"))) (htk:W.takesIn K (.builtin "object.__class__")=some true)
   (hm:W.mroIn K C (.type "object")=some true):TyOf K H (.ref a) (.ref C)
theorem Cf {x:V}{u t:Value}(I:Inv X pins σ H s)(d:RelV x u)(ty:TyOf X.K H x t)(e:W.kitOne X.K t c=some b)(h:∀ tk,Q (.bool b) { s with toks:=tk }) :
  wpAny (model X.prog X.w) A (call (.builtin "isinstance") [u,c]) Q E s:=by
 cases ty with
 | non=>cases (show u=Value.none from d);exact zN W.kitx_none I.kIn True.intro e (λz=>nomatch z) h
 | bl y=>cases (show u=Value.bool y from d);exact zN W.kitx_bool I.kIn True.intro e (λz=>nomatch z) h
 | int i=>obtain⟨t,q⟩:=(show ∃ t,u=Value.int i t from d);cases q;exact zN W.kitx_int I.kIn True.intro e (λz=>nomatch z) h
 | str y=>obtain⟨t,q⟩:=(show ∃ t,u=Value.str y t from d);cases q;exact zN W.kitx_str I.kIn True.intro e (λz=>nomatch z) h
 | flt y=>obtain⟨t,q⟩:=(show ∃ t,u=Value.float y t from d);cases q;exact zN W.kitx_float I.kIn True.intro e (λz=>nomatch z) h
 | @lst a xs ea =>
  cases (show u=Value.ref a from d);obtain⟨_,_,n,_,h1⟩:=(show ObjOk X.prog X.w H s.heap a (.lst xs) from I.hok a _ ea);exact zN W.kitx_list I.kIn ⟨_,h1,rfl⟩ e (λz=>nomatch z) h
 | @frz a ob xs ea =>
  cases (show u=Value.ref a from d);obtain⟨_,_,_,n,_,h1⟩:=(show ObjOk X.prog X.w H s.heap a (.frz ob (.lst xs)) from I.hok a _ ea);exact zN W.kitx_list I.kIn ⟨_,h1,rfl⟩ e (λz=>nomatch z) h
 | @tup a xs ea =>
  cases (show u=Value.ref a from d);obtain⟨_,_,_,p⟩:=(show ObjOk X.prog X.w H s.heap a (.tup xs) from I.hok a _ ea);obtain⟨o,h1,h2,_⟩:=p;exact zN W.kitx_tuple I.kIn ⟨o,h1,h2⟩ e (λz=>nomatch z) h
 | @dK a kvs ea =>
  cases (show u=Value.ref a from d);obtain⟨_,_,vs,_,p⟩:=(show ObjOk X.prog X.w H s.heap a (.dK kvs) from I.hok a _ ea);obtain⟨o,es,ep,h1,h2,_⟩:=p;exact zN W.kitx_dict I.kIn ⟨o,h1,h2.1⟩ e (λz=>nomatch z) h
 | @dT a kvs ea =>
  cases (show u=Value.ref a from d);obtain⟨_,_,xs,_,o,es,ep,h1,h2,_⟩:=(show ObjOk X.prog X.w H s.heap a (.dT kvs) from I.hok a _ ea);exact zN W.kitx_dict I.kIn ⟨o,h1,h2.1⟩ e (λz=>nomatch z) h
 | @ins a C dx fs ea cl ha hn htk hm =>
  cases (show u=Value.ref a from d);obtain⟨mA,O,_⟩:=Mr I.hok ea;obtain⟨od,J,_⟩:=O.look;exact zN (W.kitx_own (cl.get _) cl.hd ha hn htk hm) I.kIn J e (λz=>nomatch z) h
end
structure Room (k:Nat)(A:Around)(sr:Bool:=false):Prop where
 hd:sr=true->A.handled=none
 dp:A.depth+3*k+105<recursionLimit
 un:A.units+16*k+200<cLine
def Room.mono {k:Nat}(r:Room k A sr)(h:j<=k):Room j A sr:=⟨r.hd,by have:=r.dp;omega,by have:=r.un;omega⟩
theorem Room.deeper {k:Nat}{A:Around}{sr:Bool}(r:Room (k+1) A sr)(env:Env):Room k (A.deeper env) sr :=
 ⟨r.hd,by have:=r.dp;show A.depth+1+3*k+105<_;omega,by have:=r.un;show A.units+3+16*k+200<_;omega⟩
theorem Room.in1 {k:Nat}{A:Around}{sr:Bool}(r:Room (k+1) A sr):Room k A.in1 sr :=
 ⟨r.hd,by have:=r.dp;show A.depth+3*k+105<_;omega,by have:=r.un;show A.units+1+16*k+200<_;omega⟩
def Jq {us:TH}{a:List (Str × Value)}:(A.under (.builtin "type.__call__" ⟨.ref C::us,a⟩)).depth=A.depth+1:=by
 first | rfl | simp[Around.under,Code.weight,Code.isCreation,Code.isGuard,Code.isCaller,Code.frames,Code.isFrame,guardIds]
def Jp {us:TH}{a:List (Str × Value)}:(A.under (.builtin "type.__call__" ⟨.ref C::us,a⟩)).units=A.units+1:=by
 first | rfl | simp[Around.under,Code.cUnits,Code.frames,Code.isFrame]
def Room.make {k:Nat}(r:Room (k+1) A sr)(C:Addr)(us:TH)(a:List (Str × Value)):Room k (A.under (.builtin "type.__call__" ⟨.ref C::us,a⟩)) sr :=
 ⟨r.hd,by have:=r.dp;rw[Jq];omega,by have:=r.un;rw[Jp];omega⟩
theorem Room.depth {k:Nat}{A:Around}{sr:Bool}(r:Room k A sr):A.depth<recursionLimit:=by have:=r.dp;omega
theorem Room.units {k:Nat}{A:Around}{sr:Bool}(r:Room k A sr):A.units+64<cLine:=by have:=r.un;omega
def Room.loose {k:Nat}(r:Room k A sr):Room k A:=⟨(λz=>nomatch z),r.dp,r.un⟩
def tNil:TA:=λ_ H Q=>Q [] H
def tCons (ta:TE)(a:TA):TA:=λσ H Q=>ta σ H λx H1=>a σ H1 λxs H2=>Q (x::xs) H2
section
variable {X:Cx}{es:TL}{te:TE}{t:TA}
theorem Z8:PA X [] tNil:=λ_ _ _ _ H Q I h=>Y0Q ⟨[],H,I,.nil,h⟩
theorem Z0 (ha:PE X e te)(hr:PA X es t)(hs:starEach (e::es) X.env=(false,eval e X.env)::starEach es X.env:=by rfl):PA X (e::es) (tCons te t):=by
 intro pos pins s σ H Q I h;rw[hs];show wpAny _ _ (spliced ((false,eval e X.env)::backTo pos (starEach es X.env))) _ _ s;refine Y0C (thn (ha pins s σ H _ I h) λu s1 ⟨x,H1,a,r1,c⟩=>?_);exact thn (hr pos pins s1 σ H1 _ a c) λus s2 ⟨xs,H2,d,r2,b⟩=>⟨x::xs,H2,d,.cons r1 r2,b⟩
def tTup (t:TA):TE:=λσ H Q=>t σ H λxs H1=>xs.length<=sizeLine/\∀ p,H1 p=none->Q (.ref p) (upd H1 p (.tup xs))
def tLst (t:TA):TE:=λσ H Q=>t σ H λxs H1=>xs.length<=sizeLine/\∀ p,H1 p=none->Q (.ref p) (upd H1 p (.lst xs))
theorem Yx {x1}(h:PA X es t):PE X (.Tuple es x1 pos) (tTup t):=by
 intro pins s σ H Q I hq;refine wpAny_Tuple_spliced (thn (h pos pins s σ H _ I hq) λus s1 ⟨xs,H1,a,r,z,q⟩=>⟨by rw[<-r.length];exact z,?_⟩);have hf:H1 s1.heap.objs.size=none:=a.hok.fresh (YJ _);refine⟨.ref s1.heap.objs.size,upd H1 s1.heap.objs.size (.tup xs),a.laid (t':=s1.toks) (λb u e=>YC _ e) (YJ _) ?_,rfl,q _ hf⟩;exact⟨z,us,r,⟨_,YS _ rfl,rfl,_,rfl⟩⟩
theorem Xe (h:PA X es t):PE X (.List es pos) (tLst t):=by
 intro pins s σ H Q I hq;refine wpAny_List_spliced (thn (h pos pins s σ H _ I hq) λus s1 ⟨xs,H1,a,r,z,q⟩=>⟨by rw[<-r.length];exact z,?_⟩);have hf:H1 s1.heap.objs.size=none:=a.hok.fresh (YJ _);refine⟨.ref s1.heap.objs.size,upd H1 s1.heap.objs.size (.lst xs),a.laid (t':=s1.toks) (λb u e=>YC _ e) (YJ _) ?_,rfl,q _ hf⟩;exact⟨z,us,0,r,YS _ rfl⟩
end
abbrev Sp:=List V->Hp->VK->XK->Prop
abbrev CXT:=List Env->Hp->Shared->XK->Value->Shared->Prop
structure Env0 (P:TU)(w:World)(K:TR)(mg:TB)(base:Heap)(A:Around)(outer:TN)(s:Shared)(H:Hp):Prop where
 frames:A.frames=some outer
 mod:Mod K mg base
 bs:∀ b o,base.get? b=some o->s.heap.get? b=some o/\H b=none
 bsz:base.objs.size<=s.heap.objs.size
 funs:s.heap.FunFrames base outer
 frf:∀ b∈frs outer,H b=none
 hok:HOk P w H s.heap
 bare:AllBare s.gens
 qt:_b.QtE A s.heap H (frs outer)
 tree:P.given.tree=none
def CE (outer:TN)(P:TU)(w:World)(H:Hp)(s:Shared)(Q:VK)(u:Value)(s':Shared):Prop :=
 ∃ v H',s'.os=s.os/\AllBare s'.gens/\Un (frs outer) [] H H' s.heap s'.heap/\HOk P w H' s'.heap/\RelV v u/\Q v H'
def CR (CX:CXT)(outer:TN)(P:TU)(w:World)(H:Hp)(s:Shared)(Q:VK)(E:XK)(r:Result)(s':Shared):Prop :=
 match r with
 | .ok (.ret u)=>CE outer P w H s Q u s'
 | .ok _=>False
 | .error e=>CX outer H s E e s'
structure FnOk (P:TU)(w:World)(K:TR)(mg:TB)(base:Heap)(CX:CXT)(k:Nat)(f:Addr)(fd:FuncData)(ps:TF)(sp:Sp)(sr:Bool:=false):Prop where
 len:∀ vs H Q E,sp vs H Q E->vs.length=ps.length
 run:∀ (A:Around) (outer:TN) (s:Shared) (H:Hp) (args:Args) (us:TH) (vs:TZ) (Q:VK) (E:XK),Room k A sr->Env0 P w K mg base A outer s H->BindsTo s fd args (ps.zip us)->Vals vs us->sp vs H Q E →
  codeAny (model P w) A (.call (.ref f) args) (CR CX outer P w H s Q E) s
def FnOk.imp {P:TU}{CX:CXT}{k:Nat}{sp a:Sp}(F:FnOk P w K mg base CX k f fd ps sp sr)
  (h:∀ vs H Q E,a vs H Q E->sp vs H Q E):FnOk P w K mg base CX k f fd ps a sr :=
 ⟨λvs H Q E q=>F.len vs H Q E (h _ _ _ _ q),λA outer s H args us vs Q E hr c d b hs=>F.run A outer s H args us vs Q E hr c d b (h _ _ _ _ hs)⟩
def Env0.make {P:TU}{outer:TN}(e:Env0 P w K mg base A outer s H)(C:Addr)(us:TH)(a:List (Str × Value)) :
  Env0 P w K mg base (A.under (.builtin "type.__call__" ⟨.ref C::us,a⟩)) outer s H:=⟨by first | exact e.frames | (simpa [Around.under,Code.envs,Code.isFrame,pushEnvs] using e.frames),e.mod,e.bs,e.bsz,e.funs,e.frf,e.hok,e.bare,e.qt,e.tree⟩
theorem Env0.in1 {P:TU}{w:World}{K:TR}{mg:TB}{base:Heap}{A:Around}{outer:TN}{s:Shared}{H:Hp}(e:Env0 P w K mg base A outer s H) :
  Env0 P w K mg base A.in1 outer s H:=⟨e.frames,e.mod,e.bs,e.bsz,e.funs,e.frf,e.hok,e.bare,e.qt,e.tree⟩
section
variable {X:Cx}{σ:St}{H:Hp}{s':Shared}
def Inv.env0 (I:Inv X pins σ H s)(hc:X.calm=true):Env0 X.prog X.w X.K X.mg X.base X.A X.stack s H :=
 ⟨I.ok.frames,I.ok.mod,I.bs,YR I.ok.bsz I.sz,I.stack,I.stkFree,I.hok,I.bare,(I.ok.hd hc).imp id λ⟨p,hp,e,n⟩=>by
  obtain⟨a1,a2,a3,a4,a5⟩:=I.pin p (XG _ hp);exact⟨p.1,p.2,e,a1,n,a2,λz=>(YT.mp (I.stkSub p.1 z)).elim a3 a4,a5⟩,I.ok.seen.1⟩
theorem Inv.after {Q:VK}(I:Inv X pins σ H s)(h:CE X.stack X.prog X.w H s Q u s'):EP X pins σ Q u s':=by
 obtain⟨v,H',os,bare,un,hok,r,q⟩:=h;obtain⟨c,g,d,t,a⟩:=s';obtain rfl:a=s.os:=os;exact⟨v,H',I.call (h':=c) (g':=g) (d':=d) (t':=t) (ch:=[]) un hok bare (λb z=>absurd z ZJ),r,q⟩
end
def tCall (sp:Sp)(dvs:TZ)(E:XK)(t:TA):TE:=λσ H Q=>t σ H λvs H1=>sp (vs++dvs) H1 Q E
def tMake (C:Addr)(sp:Sp)(dvs:TZ)(E:XK)(t:TA):TE:=λσ H Q=>t σ H λvs H1=>∀ x dx,H1 x=none->H1 dx=none->dx≠x →
 sp (.ref x::(vs++dvs)) (upd (upd H1 dx (.own x)) x (.ins C dx [])) (λv H2=>v=.non/\Q (.ref x) H2) E
def Binds (K:TR)(fd:FuncData)(ps:TF)(ds:TH):Prop :=
 ∀ (s:Shared) (us:TH),K.In s.heap->(us++ds).length=ps.length->BindsTo s fd ⟨us,[]⟩ (ps.zip (us++ds))
def Binds.all (h:∀ us:List Value,us.length=ps.length->bindArgs fd ⟨us,[]⟩=pure (ps.zip us)):Binds K fd ps []:=λs us _ hl=>by
 rw[GN] at hl ⊢;exact .of_eq (h us hl)
def Passes (CX:CXT)(X:Cx)(E:XK):Prop:=∀ (pins:TD) (σ:St) (H:Hp) (s:Shared) (e:Value) (s':Shared),Inv X pins σ H s->CX X.stack H s E e s'->X.xe e s'
section
variable {X:Cx}{CX:CXT}{k:Nat}{sp:Sp}{dvs:TZ}{ds:TH}{E:XK}{x:Str}{p:Pos}{es:TL}{t:TA}
theorem Z69 {pins:TD}{σ:St}{H:Hp}{s:Shared}{Q:VK}{us:TH}{vs:TZ}{sr:Bool}(F:FnOk X.prog X.w X.K X.mg X.base CX k f fd ps sp sr)(hr:Room k X.A sr)(b:Binds X.K fd ps ds)(hd:Vals dvs ds)(hx:Passes CX X E)(hc:X.calm=true)
  (I:Inv X pins σ H s) (r:Vals vs us) (h:sp (vs++dvs) H Q E):wX X (call (.ref f) us) (EP X pins σ Q) X.xe s:=by
 have r2:Vals (vs++dvs) (us++ds):=r.append hd;have hl:(us++ds).length=ps.length:=by rw[<-r2.length];exact F.len _ _ _ _ h
 refine wpAny_call (Y0w (F.run X.A X.stack s H ⟨us,[]⟩ (us++ds) (vs++dvs) Q E hr (I.env0 hc) (b s us I.kIn hl) r2 h) λr s' hq=>?_)
 cases r with
 | error e=>exact hx pins σ H s e s' I hq
 | ok a =>
  cases a with
  | ret u=>exact I.after hq
  | next=>exact False.elim hq
  | brk=>exact False.elim hq
  | cont=>exact False.elim hq
theorem Gr (F:FnOk X.prog X.w X.K X.mg X.base CX k f fd ps sp sr)(hr:Room k X.A sr)(hg:Gl X x)(hm:X.mg x=some (.ref f))(hk:W.keepIn X.K (.ref f)=true)(g:Binds X.K fd ps ds)(hd:Vals dvs ds)(hx:Passes CX X E)
  (ha:PA X (e::es) t) (b:(x == ("__debug__":Str))=false:=by decide) (d:starEach (e::es) X.env=(false,eval e X.env)::starEach es X.env:=by rfl) (a:(backTo pos (starEach es X.env)).any (·.1)=false:=by rfl) (hc:X.calm=true:=by rfl) :
  PE X (.Call (.Name x p) (e::es) [] pos) (tCall sp dvs E t):=by
 intro pins s σ H Q I h;refine qZ (Mq I hg hm ?_ b);refine W.callWith_K (h₀:=X.base) I.ok.mod.kin hk (thn (ha pos pins s σ H _ I h) λus s1 ⟨vs,H1,c,r,q⟩=>⟨c.kIn,?_⟩) d a;exact Z69 F hr g hd hx hc c r q
structure Mk (K:TR)(C f:Addr):Prop where
 makes:W.makesIn K C=true
 init:W.findIn K (.ref C) "__init__"=some (some (.ref f))
 fn:W.isFn K (.ref f)=true
 kp:W.keepIn K (.ref C)=true
theorem Z09 {pins:TD}{σ:St}{H:Hp}{s:Shared}{Q:VK}{us:TH}{vs:TZ}(M:Mk X.K C f){sr:Bool}(F:FnOk X.prog X.w X.K X.mg X.base CX k f fd ps sp sr)(hr:Room (k+1) X.A sr)(i:Binds X.K fd ps ds)(hd:Vals dvs ds)
  (hx:Passes CX X E) (hc:X.calm=true) (I:Inv X pins σ H s) (r:Vals vs us)
  (h:∀ x dx,H x=none->H dx=none->dx≠x->sp (.ref x::(vs++dvs)) (upd (upd H dx (.own x)) x (.ins C dx [])) (λv H2=>v=.non/\Q (.ref x) H2) E) :
  wX X (call (.ref C) us) (EP X pins σ Q) X.xe s:=by
 have hq:=h (s.heap.objs.size+1) s.heap.objs.size (I.hok.fresh (zR _)) (I.hok.fresh (YJ _)) (XM (Y0e _));have b:=Inv.made (C:=C) I;have r2:Vals (V.ref (s.heap.objs.size+1)::(vs++dvs)) (Value.ref (s.heap.objs.size+1)::(us++ds)):=.cons rfl (r.append hd);have hl:(Value.ref (s.heap.objs.size+1)::us++ds).length=ps.length:=by
  have e:=r2.length;rw[F.len _ _ _ _ hq] at e;exact e.symm
 refine wpAny_call (Z1p (f:=f) I.kIn M.makes M.init (zu.mp M.fn) (Y0w (F.run _ X.stack _ _ ⟨Value.ref (s.heap.objs.size+1)::us,[]⟩ (Value.ref (s.heap.objs.size+1)::(us++ds)) _ _ E (hr.make C us [])
  ((b.env0 hc).make C us []) (i _ (Value.ref (s.heap.objs.size+1)::us) b.kIn hl) r2 hq) λr s' a=>?_))
 cases r with
 | error e=>exact hx pins σ _ _ e s' b a
 | ok g =>
  cases g with
  | ret u =>
   obtain⟨v,H',c,rv,ev,d⟩:=b.after a;subst ev;exact⟨rv,⟨V.ref (s.heap.objs.size+1),H',c,rfl,d⟩⟩
  | next=>exact False.elim a
  | brk=>exact False.elim a
  | cont=>exact False.elim a
theorem Gq (M:Mk X.K C f){sr:Bool}(F:FnOk X.prog X.w X.K X.mg X.base CX k f fd ps sp sr)(hr:Room (k+1) X.A sr)(hg:Gl X x)(hm:X.mg x=some (.ref C))(g:Binds X.K fd ps ds)(hd:Vals dvs ds)(hx:Passes CX X E)
  (ha:PA X (e::es) t) (b:(x == ("__debug__":Str))=false:=by decide) (d:starEach (e::es) X.env=(false,eval e X.env)::starEach es X.env:=by rfl) (a:(backTo pos (starEach es X.env)).any (·.1)=false:=by rfl) (hc:X.calm=true:=by rfl) :
  PE X (.Call (.Name x p) (e::es) [] pos) (tMake C sp dvs E t):=by
 intro pins s σ H Q I h;refine qZ (Mq I hg hm ?_ b);refine W.callWith_K (h₀:=X.base) I.ok.mod.kin M.kp (thn (ha pos pins s σ H _ I h) λus s1 ⟨vs,H1,c,r,q⟩=>⟨c.kIn,?_⟩) d a;exact Z09 M F hr g hd hx hc c r q
end
structure FnScope (N P:TF)(sc:Scope):Prop where
 kind:sc.kind=.function
 co:sc.isCoroutine=false
 gen:sc.isGenerator=false
 nd:N.Nodup
 pre:N.take P.length=P
 par:∀ x∈P,sc.names.lookup x=some .local \/ sc.names.lookup x=some .cell
 nofree:∀ y∈sc.names,y.2≠.free
noncomputable def fsc {N P:TF}{sc:Scope}(a:sc.kind=.function:=by rfl)(b:sc.isCoroutine=false:=by rfl)(c:sc.isGenerator=false:=by rfl)(d:N.Nodup:=by decide +kernel)(e:N.take P.length=P:=by rfl)(f:∀ x∈P,sc.names.lookup x=some .local ∨ sc.names.lookup x=some .cell:=by decide +kernel)(g:∀ y∈sc.names,y.2≠.free:=by decide +kernel):FnScope N P sc:=⟨a,b,c,d,e,f,g⟩
theorem Nk {b:Str->Option NameKind}{x:Str}:∀ {a:List (Str × Value)} {m:TB},(∀ v,(x,v) ∉ a)->bindL b a m x=m x
 | [],_,_=>rfl
 | (n,v)::r,m,h=>by
  unfold bindL;rw[Nk λw hw=>h w (YL _ hw)];split
  ·have:x≠n:=by rintro rfl;exact h v YV
   simp[this]
  rfl
theorem Nm {b:Str->Option NameKind}{x:Str}:∀ {a:List (Str × Value)} {m:TB},(∀ v,(x,v) ∉ a)->bindC b a m x=m x
 | [],_,_=>rfl
 | (n,v)::r,m,h=>by
  unfold bindC;rw[Nm λw hw=>h w (YL _ hw)];split
  ·rfl
  have:x≠n:=by rintro rfl;exact h v YV
  simp[this]
theorem Nl {a:Str->Option NameKind}{x:Str}{v:Value}:∀ {P:TF} {vs:TH} {i:Nat} {m:TB},P.Nodup->P[i]?=some x->vs[i]?=some v->a x=some .local →
  bindL a (P.zip vs) m x=some v
 | [],_,_,_,_,h,_,_=>by simp at h
 | _::_,[],_,_,_,_,h,_=>by simp at h
 | p::P,w::vs,0,m,nd,h1,h2,hk=>by
  simp at h1 h2;subst h1;subst h2;show bindL a ((p,w)::P.zip vs) m p=_;unfold bindL;rw[Nk λv b=>(GF.mp nd).1 (Y0n b).1,YH hk];simp
 | p::P,w::vs,i+1,m,nd,h1,h2,hk=>by
  show bindL a ((p,w)::P.zip vs) m x=_;unfold bindL;exact Nl (i:=i) (GF.mp nd).2 (by simpa using h1) (by simpa using h2) hk
theorem No {a:Str->Option NameKind}{x:Str}{v:Value}:∀ {P:TF} {vs:TH} {i:Nat} {m:TB},P.Nodup->P[i]?=some x->vs[i]?=some v->a x≠some .local →
  bindC a (P.zip vs) m x=some v
 | [],_,_,_,_,h,_,_=>by simp at h
 | _::_,[],_,_,_,_,h,_=>by simp at h
 | p::P,w::vs,0,m,nd,h1,h2,hk=>by
  simp at h1 h2;subst h1;subst h2;show bindC a ((p,w)::P.zip vs) m p=_;unfold bindC;rw[Nm λv b=>(GF.mp nd).1 (Y0n b).1,YF hk];simp
 | p::P,w::vs,i+1,m,nd,h1,h2,hk=>by
  show bindC a ((p,w)::P.zip vs) m x=_;unfold bindC;exact No (i:=i) (GF.mp nd).2 (by simpa using h1) (by simpa using h2) hk
noncomputable def start (N:TF)(vs:TZ):St:=vs.map some++List.replicate (N.length - vs.length) none
abbrev wY(q:Str)(c:Scope)(s:Shared)(f:Addr)(d:Value):=envOfC q c s.heap.objs.size f d
noncomputable def cxOf (CX:CXT)(P:TU)(w:World)(K:TR)(mg:TB)(base:Heap)(N:TF)(qual:Str)(scope:Scope)(f:Addr)(cd:Value)(A:Around)(outer:TN)(s:Shared)(H:Hp)(E:XK):Cx where
 prog:=P
 w:=w
 K:=K
 mg:=mg
 base:=base
 A:=A.deeper (wY qual scope s f cd)
 N:=N
 s₀:=s
 H₀:=H
 env:=wY qual scope s f cd
 outer:=outer
 stack:=wY qual scope s f cd::outer
 ex:=[]
 calm:=true
 fn:=λ_=>true
 pn:=_b.qpin A s.heap
 xe:=λe s'=>wpAny (model P w) (A.deeper (wY qual scope s f cd)) (leaving (wY qual scope s f cd) e) (λ_ a=>CX outer H s E e a) (λe' a=>CX outer H s E e' a) s'
def Kl {sc:Scope}{n:Nat}{x:Str}(h:sc.names.lookup x=some .cell):∃ c,(cellsFrom n sc.names []).lookup x=some c:=by
 have q:=W.cellsFrom_some sc.names n [] (.inl h);exact ze.mp q
theorem Ch {CX:CXT}{P:TU}{w:World}{K:TR}{mg:TB}{base:Heap}{N ps:TF}{qual:Str}{scope:Scope}{f:Addr}{cd:Value}{A:Around}{outer:TN}{s s1:Shared}{H:Hp}{E:XK}{us:TH}{vs:TZ}
  (S:FnScope N ps scope) (e0:Env0 P w K mg base A outer s H) (l:A.depth+1+100<recursionLimit) (hl:vs.length=ps.length) (r:Vals vs us)
  (x:InCallC s s.heap.objs.size (bindL (wY qual scope s f cd).kindOf (ps.zip us) λ_=>none) (cellsFrom (s.heap.objs.size+1) scope.names []) (bindC (wY qual scope s f cd).kindOf (ps.zip us) λ_=>none) s1) :
  Inv (cxOf CX P w K mg base N qual scope f cd A outer s H E) [] (start N vs) H s1:=by
 have m:ps.length<=N.length:=by have:=congrArg List.length S.pre;rw[JY] at this;omega
 obtain⟨h1,tk,rfl,hk⟩:=x.done;have g:∀ b:Addr,b ∉ (cxOf CX P w K mg base N qual scope f cd A outer s H E).ex:=λb z=>absurd (show b∈([]:TJ) from z) ZJ;refine⟨⟨e0.mod,S.kind,rfl,rfl,YJ _,λy z c h1 h2=>?_,λy d=>?_,λy c _ h=>?_,λ_=>e0.qt.pin,Around.frames_deeper e0.frames,.inr ⟨rfl,rfl⟩,λb z=>absurd z (g b),e0.bs,e0.bsz,λb _ _=>g b,λb z=>absurd z (g b),e0.funs,e0.frf,⟨e0.tree,_,_,rfl,S.gen,S.co,rfl,rfl⟩,l⟩,
  rfl,e0.bare,Un.kept hk,⟨_,x.toInCall.ns,λi y v h1 h2 h3=>?_⟩,λy c h=>⟨_,x.cell y c h⟩,e0.hok.fresh (YJ _),λy c h=>?_,λp hp=>?_,e0.hok.kept hk,?_⟩
 rotate_right 2
 ·obtain⟨a1,a2,a3,a4⟩:=e0.qt.mem p ((XN.mp hp).elim id λz=>absurd z ZJ);exact⟨hk _ _ a1,a2,XM (YQ a1),a3,a4⟩
 rotate_left 1
 ·exact name_of_addr x.apart (qo h1) (qo h2)
 ·have d:scope.names.lookup y=some .cell \/ scope.names.lookup y=some .free:=d;rcases d with d | d
  ·exact Kl d
  exact absurd rfl (S.nofree _ (qo d))
 ·exact JH (x.above y c (qo h))
 ·have hi:i<vs.length:=by
   unfold start at h2;by_cases hi:i<vs.length
   ·exact hi
   rw[JM (by simpa using hi)] at h2;rw[jt] at h2;split at h2 <;> cases h2
  have ha:vs[i]?=some v:=by
   unfold start at h2;rw[JO (by simpa using hi),YI] at h2
   cases e:vs[i]? with
   | none=>rw[e] at h2;cases h2
   | some a=>rw[e] at h2;cases h2;rfl
  obtain⟨u,hu,rv⟩:=r.get ha;have hp:ps[i]?=some y:=by
   rw[<-S.pre,Y0Z J0];exact h1
  have j:ps.Nodup:=by rw[<-S.pre];exact S.nd.sublist (List.take_sublist _ _)
  refine⟨u,rv,?_⟩;rcases S.par y (YD hp) with k | k
  ·exact .inl ⟨k,Nl j hp hu k⟩
  obtain⟨c,e⟩:=Kl (n:=s.heap.objs.size+1) k;refine .inr ⟨.inl k,c,e,?_⟩;have q:=x.cell y c e;rw[No j hp hu (by show scope.names.lookup y≠_;rw[k];decide)] at q;exact q
 ·exact e0.hok.fresh (JH (x.above y c (qo h)))
 unfold start;show _=N.length;rw[YY,YB,zw];omega
theorem Z5o {CX:CXT}{P:TU}{w:World}{K:TR}{mg:TB}{base:Heap}{k:Nat}{f:Addr}{name qual:Str}{a:Arguments}{body:TM}{scope:Scope}{l kV doc pm cdv ct oc:Value}{an od:TQ}
  {osl:Array (Option Value)} {N ps:TF} {sp:Sp} {sr:Bool} (lk:K.lookup f=some ⟨oc,od,.func (W.fnOf name qual a body scope l kV doc pm an cdv ct),osl⟩) (i:W.codeIn K cdv qual=true) (S:FnScope N ps scope)
  (len:∀ vs H Q E,sp vs H Q E->vs.length=ps.length)
  (c:∀ (A:Around) (outer:TN) (s:Shared) (H:Hp) (vs:TZ) (Q:VK) (E:XK),Room k (A.deeper (wY qual scope s f cdv)) sr->sp vs H Q E →
   ∃ t,PSs (cxOf CX P w K mg base N qual scope f cdv A outer s H E) body t/\t { nx:=λ_ H'=>Q .non H',rt:=Q } (start N vs) H) :
  FnOk P w K mg base CX (k+1) f (W.fnOf name qual a body scope l kV doc pm an cdv ct) ps sp sr:=by
 refine⟨len,λA outer s H args us vs Q E hr e0 B r h=>?_⟩;have hl:=len _ _ _ _ h;have KX:K.In s.heap:=e0.mod.kin.keeps λb o e=>(e0.bs b o e).1;have j:s.heap.NoLimit:=e0.mod.nolimit.keeps λb o e=>(e0.bs b o e).1;have d:∀ y∈ps.zip us,scope.names.lookup y.1=some .local \/ (scope.names.lookup y.1=some .cell/\((cellsFrom (s.heap.objs.size+1) scope.names []).lookup y.1).isSome=true):=λ⟨n,v⟩ m=>by
  rcases S.par n (Y0n m).1 with q | q
  ·exact .inl q
  exact .inr ⟨q,W.cellsFrom_some _ _ _ (.inl q)⟩
 refine codeAny_call_function hr.depth (KX _ _ lk) rfl S.co S.gen rfl (W.codeRec_of KX i) (B _ _ _ _ ?_);refine wpAny_newFunctionEnv_cells S.kind d λenv p s1 x=>?_;subst p;refine⟨j.keeps x.toInCall.keep,codeAny_func ?_⟩;obtain⟨t,C,hq⟩:=c A outer s H vs Q E (hr.deeper _) h;have I:Inv (cxOf CX P w K mg base N qual scope f cdv A outer s H E) [] (start N vs) H s1:=Ch S e0 (by have:=(hr.deeper (wY qual scope s f cdv)).dp;have:A.depth+1+3*k+105<recursionLimit:=this;omega) hl r x;refine zt (C [] s1 (start N vs) H _ I hq) (λz s' hs=>?_) λe s' hs=>hs;have g:∀ {σ':St} {H':Hp} {v:V} {u:Value},Inv (cxOf CX P w K mg base N qual scope f cdv A outer s H E) [] σ' H' s'->RelV v u->Q v H'->CE outer P w H s Q u s' :=
  λ{σ' H' v u} J rv q=>⟨v,H',J.os,J.bare,J.base,J.hok,rv,q⟩
 cases z with
 | ret u =>
  obtain⟨v,σ',H',J,rv,q⟩:=hs;exact g J rv q
 | next =>
  obtain⟨σ',H',J,q⟩:=hs;exact g (v:=V.non) (u:=Value.none) J rfl q
 | brk =>
  obtain⟨_,_,_,q⟩:=hs;exact False.elim q
 | cont =>
  obtain⟨_,_,_,q⟩:=hs;exact False.elim q
end _L
variable {sp:_L.Sp}
namespace _L
open PySem PySem.Spec PyProof.Rows
section
variable {X:Cx}{x:Str}{p:Pos}{es:TL}{t:TA}{id T:String}{r:List V->Hp->VK->Prop}
def tCB (r:List V->Hp->VK->Prop)(t:TA):TE:=λσ H Q=>t σ H λvs H1=>r vs H1 Q
theorem Zt (hc:CallR X (.builtin id) r)(hg:Gl X x)(hm:X.mg x=none)(d:bootBuiltins x=some (.builtin id))(ha:PA X (e::es) t)(hn:x≠"__name__":=by decide)(b:(x == ("__debug__":Str))=false:=by decide)
  (f:starEach (e::es) X.env=(false,eval e X.env)::starEach es X.env:=by rfl) (a:(backTo pos (starEach es X.env)).any (·.1)=false:=by rfl):PE X (.Call (.Name x p) (e::es) [] pos) (tCB r t):=by
 intro pins s σ H Q I h;refine qZ (Wo I hg hm d ?_ hn b);exact PyProof.Rows.callWith_builtin1 (thn (ha pos pins s σ H _ I h) λus s1 ⟨vs,H1,c,r1,g⟩=>hc pins s1 σ H1 vs us Q c r1 g) f a
theorem Y7 (hc:CallR X (.type T) r)(hg:Gl X x)(hm:X.mg x=none)(d:bootBuiltins x=some (.type T))(ha:PA X (e::es) t)(hn:x≠"__name__":=by decide)(b:(x == ("__debug__":Str))=false:=by decide)
  (f:starEach (e::es) X.env=(false,eval e X.env)::starEach es X.env:=by rfl) (a:(backTo pos (starEach es X.env)).any (·.1)=false:=by rfl):PE X (.Call (.Name x p) (e::es) [] pos) (tCB r t):=by
 intro pins s σ H Q I h;refine qZ (Wo I hg hm d ?_ hn b);exact JJ (thn (ha pos pins s σ H _ I h) λus s1 ⟨vs,H1,c,r1,g⟩=>hc pins s1 σ H1 vs us Q c r1 g) f a
end
abbrev TO:=St->Hp->(Option Int->Hp->Prop)->Prop
def Pc {ns:TV}:∀ {us:TH},Vals (ns.map V.int) us->IntsAre us ns:=by
 induction ns with
 | nil=>intro us r;rw[List.map_nil] at r;cases r;exact .nil
 | cons n ns a =>
  intro us r;rw[GM] at r
  cases r with
  | cons r1 r2 =>
   obtain⟨t,e⟩:=r1;subst e;exact .cons n t (a r2)
noncomputable def ixN (n:Nat)(i:Int):Option Nat:=if 0<=i then (if i<n then some i.toNat else none) else if -(n:Int)<=i then some (i+n).toNat else none
noncomputable def atI {α:Type}(xs:List α)(i:Int):Option α:=(ixN xs.length i).bind λj=>xs[j]?
def F8 {n:Nat}{i:Int}(h:ixN n i=some j):seqIndex? i n=some j/\j<n/\-(n:Int)<=i/\i<n:=by
 unfold ixN at h;by_cases h0:0<=i
 ·rw[YH h0] at h;by_cases h1:i<n
  ·rw[YH h1] at h;have e:i.toNat=j:=YU h;exact⟨by rw[seqIndex_of h0 h1,e],J0,J0,h1⟩
  rw[YF h1] at h;cases h
 rw[YF h0] at h;by_cases h1:-(n:Int)<=i
 ·rw[YH h1] at h;have e:(i+n).toNat=j:=YU h;exact⟨by rw[seqIndex_neg J0 h1,e],J0,h1,J0⟩
 rw[YF h1] at h;cases h
def Fq {α:Type}{xs:List α}{i:Int}{v:α}(h:atI xs i=some v):∃ j,seqIndex? i xs.length=some j/\xs[j]?=some v/\j<xs.length/\-(xs.length:Int)<=i/\i<xs.length:=by
 unfold atI at h
 cases e:ixN xs.length i with
 | none=>rw[e] at h;cases h
 | some j =>
  rw[e] at h;obtain⟨h1,h2,h3,h4⟩:=F8 e;exact⟨j,h1,h,h2,h3,h4⟩
def Zk {α:Type}{xs:List α}{v:α}(h:xs[j]?=some v):atI xs (j:Int)=some v:=by
 have hj:j<xs.length:=(YG.mp h).1;have e:ixN xs.length (j:Int)=some j:=by
  unfold ixN;rw[YH J0,YH J0];simp
 unfold atI;rw[e];exact h
def PlainIx (b:Expr):Prop:=∀ o i,subscripted b false o i=operate [o,i] (getItem o i)
def IxR (X:Cx)(r:R2):Prop :=
 ∀ (value a:Expr) (pins:TD) (s:Shared) (σ:St) (H:Hp) (x y:V) (v u:Value) (Q:VK),Inv X pins σ H s->RelV x v->RelV y u->r x y H Q →
  subscripted a false v u=operate [v,u] (getItem v u)->wX X (subscriptTail value a v u) (EP X pins σ Q) X.xe s
def MtR (X:Cx)(id:String)(r:V->List V->Hp->VK->Prop):Prop :=
 ∀ (pins:TD) (s:Shared) (σ:St) (H:Hp) (x:V) (xs:TZ) (v:Value) (us:TH) (Q:VK),Inv X pins σ H s->RelV x v->Vals xs us->r x xs H Q →
  wX X (call (.builtin id) (v::us)) (EP X pins σ Q) X.xe s
section
variable {X:Cx}{a b:Expr}{ta tb:TE}
theorem Zg {r:R2}(hr:IxR X r)(ha:PE X a ta)(c:PE X b tb)(hs:PlainIx b:=by exact λ_ _=>rfl):PE X (.Subscript a b pos) (tOp r ta tb):=by
 intro pins s σ H Q I h;exact Subscript_ (Z7b ha c I h λv u s2 x y H2 d e f q=>hr a b pins s2 σ H2 x y v u Q d e f q (hs _ _))
inductive rIxL (K:TR) (x:V) (y:V) (H:Hp) (Q:VK):Prop
 | mk (p xs i v:_) (zz0:x=.ref p) (zz1:y=.int i) (zz2:SqL K H p xs) (zz3:atI xs i=some v) (zz4:Q v H)
inductive rIxT (K:TR) (x:V) (y:V) (H:Hp) (Q:VK):Prop
 | mk (p xs i v:_) (zz0:x=.ref p) (zz1:y=.int i) (zz2:SqT K H p xs) (zz3:atI xs i=some v) (zz4:Q v H)
theorem Zy:IxR X (rIxL X.K):=by
 intro value c pins s σ H x y v u Q I g k h hs;obtain⟨p,xs,i,z,rfl,rfl,hq,f,q⟩:=h
 cases g;obtain⟨t,rfl⟩:=k;obtain⟨its,r,pl,hz⟩:=I.list hq;obtain⟨j,h1,h2,h3,h4,e⟩:=Fq f;obtain⟨w,d,b⟩:=r.get h2;have hl:=r.length;have hn:=Qw;have a:EP X pins σ Q w s:=⟨z,H,I,b,q⟩;by_cases h0:0<=i
 ·have hj:i.toNat=j:=by
   rw[seqIndex_of h0 e] at h1;exact YU h1
  exact item_listR pl.isList h0 J0 (by rw[hj];simpa using d) a hs
 have hj:(i+(its.toArray.size:Int)).toNat=j:=by
  rw[seqIndex_neg J0 h4] at h1;rw[YM,<-hl];exact YU h1
 exact Y00 (x:=w) pl.isList.typeIs slot_list_getitem.lookup
  (wpAny_getItem_list_neg (Q:=λr s'=>r=w/\EP X pins σ Q r s') pl.isList J0 (by rw[YM] <;> omega) J0 (by rw[hj];simpa using d) ⟨rfl,a⟩) hs
theorem X9:IxR X (rIxT X.K):=by
 intro value c pins s σ H x y v u Q I f g h hs;obtain⟨p,xs,i,z,rfl,rfl,hq,d,q⟩:=h
 cases f;obtain⟨t,rfl⟩:=g;obtain⟨its,r,pl,hz⟩:=I.tuple hq;obtain⟨j,h1,h2,h3,h4,k⟩:=Fq d;obtain⟨w,e,b⟩:=r.get h2;have hl:=r.length;have hn:=Qw;have a:EP X pins σ Q w s:=⟨z,H,I,b,q⟩;exact Y00 (x:=w) pl.typeIs slot_tuple_getitem.lookup
  (getItem_tuple (j:=j) (Q:=λr s'=>r=w/\EP X pins σ Q r s') pl J0 J0 (by rw[YM,<-hl];exact h1) (by simpa using e) ⟨rfl,a⟩) hs
def Jo (its:TH)(n j:Nat)(u:Value):Obj.mapSeq (·.setIfInBounds j u) { cls:=.type "list",data:=.seq its.toArray n }={ cls:=.type "list",data:=.seq (its.set j u).toArray n }:=by
 simp[Obj.mapSeq]
theorem Inv.lst {pins:TD}{σ:St}{H:Hp}{s:Shared}{p:Addr}{xs:TZ}(I:Inv X pins σ H s)(h:H p=some (.lst xs)) :
  ∃ (its:TH) (n:Nat),Vals xs its/\s.heap.get? p=some { cls:=.type "list",data:=.seq its.toArray n }/\xs.length<=sizeLine:=by
 obtain⟨z,its,n,r,e⟩:=I.hok p _ h;exact⟨its,n,r,e,z⟩
def Inv.lstUpd {p:Addr}{ys:TZ}{its its':TH}{n n':Nat}{f:Obj->Obj}(I:Inv X pins σ H s)(h:H p=some (.lst xs))
  (ho:s.heap.get? p=some { cls:=.type "list",data:=.seq its.toArray n }) (hf:f { cls:=.type "list",data:=.seq its.toArray n }={ cls:=.type "list",data:=.seq its'.toArray n' }) (r:Vals ys its') (hz:ys.length<=sizeLine) (t:Nat) :
  Inv X pins σ (upd H p (.lst ys)) { s with heap:=s.heap.update p f,toks:=t }:=by
 have e:(s.heap.update p f).get? p=some { cls:=.type "list",data:=.seq its'.toArray n' }:=by
  rw[GW f ho (by rw[hf] <;> rfl),hf]
 refine I.write (x:=p) (e:=p) (by rw[h];trivial) (.inl rfl) (λb u a q=>(GP _ _ (JC a)).trans q) ⟨_,e⟩ ?_;exact⟨hz,its',n',r,e⟩
inductive rSetL (o:V) (i:V) (v:V) (H:Hp) (Q:(Hp->Prop)):Prop
 | mk (p xs k j:_) (zz0:o=.ref p) (zz1:i=.int k) (zz2:H p=some (.lst xs)) (zz3:ixN xs.length k=some j) (zz4:Q (upd H p (.lst (xs.set j v))))
theorem V6:PSet X rSetL:=by
 intro pins s σ H o i v ov iv u Q I c b rv h;obtain⟨p,xs,k,j,rfl,rfl,hp,hj,q⟩:=h
 cases c;obtain⟨t,rfl⟩:=b;obtain⟨its,n,r,ho,hz⟩:=I.lst hp;obtain⟨h1,h2,h3,h4⟩:=F8 hj;have hl:=r.length;have hn:=Qw;have a:Inv X pins σ (upd H p (.lst (xs.set j v))) { s with heap:=s.heap.update p (Obj.mapSeq (·.setIfInBounds j u)) } :=
  I.lstUpd hp ho (Jo its n j u) (r.set rv j) (by rw[qU];exact hz) s.toks
 by_cases h0:0<=k
 ·have hk:k.toNat=j:=by
   rw[seqIndex_of h0 h4] at h1;exact YU h1
  exact W.ki_setAt ho h0 J0 (by rw[YM,<-hl];exact h4) (by rw[hk];exact⟨_,a,q⟩)
 have hk:(k+(its.toArray.size:Int)).toNat=j:=by
  rw[seqIndex_neg J0 h3] at h1;rw[YM,<-hl];exact YU h1
 exact W.ki_setBack ho J0 (by rw[YM,<-hl];exact h3) J0 (by rw[hk];exact⟨_,a,q⟩)
noncomputable def flatV:V->Bool
 | .non=>true
 | .bl _=>true
 | .int _=>true
 | .str _=>true
 | _=>false
noncomputable def eqV:V->V->Bool
 | .non,.non=>true
 | .bl a,.bl b=>a == b
 | .bl a,.int b=>(if a then 1 else 0) == b
 | .int a,.bl b=>a == (if b then 1 else 0)
 | .int a,.int b=>a == b
 | .str a,.str b=>a == b
 | _,_=>false
theorem Z76 {A:Around}{s:Shared}{y x:V}{u v:Value}(d:RelV y u)(c:RelV x v)(f:flatV y=true)(e:flatV x=true):SeqAt.EqAt A s u v (eqV y x):=by
 cases y with
 | non =>
  cases d
  cases x with
  | non=>cases c;exact zA _
  | bl b=>cases c;exact SeqAt.EqAt.none_bool b
  | int b=>obtain⟨t,rfl⟩:=c;exact SeqAt.EqAt.none_int b t
  | str b=>obtain⟨t,rfl⟩:=c;exact SeqAt.EqAt.none_str b t
  | _=>exact absurd (show false=true from e) YO
 | bl a =>
  cases d
  cases x with
  | non=>cases c;exact SeqAt.EqAt.bool_none a
  | bl b=>cases c;exact SeqAt.EqAt.bool_bool a b
  | int b=>obtain⟨t,rfl⟩:=c;exact SeqAt.EqAt.bool_int a b t
  | str b=>obtain⟨t,rfl⟩:=c;exact SeqAt.EqAt.bool_str a b t
  | _=>exact absurd (show false=true from e) YO
 | int a =>
  obtain⟨t',rfl⟩:=d
  cases x with
  | non=>cases c;exact SeqAt.EqAt.int_none a t'
  | bl b=>cases c;exact SeqAt.EqAt.int_bool a t' b
  | int b=>obtain⟨t,rfl⟩:=c;exact zv a t' b t
  | str b=>obtain⟨t,rfl⟩:=c;exact SeqAt.EqAt.int_str a t' b t
  | _=>exact absurd (show false=true from e) YO
 | str a =>
  obtain⟨t',rfl⟩:=d
  cases x with
  | non=>cases c;exact SeqAt.EqAt.str_none a t'
  | bl b=>cases c;exact SeqAt.EqAt.str_bool a t' b
  | int b=>obtain⟨t,rfl⟩:=c;exact SeqAt.EqAt.str_int a t' b t
  | str b=>obtain⟨t,rfl⟩:=c;exact SeqAt.EqAt.str_str a t' b t
  | _=>exact absurd (show false=true from e) YO
 | _=>exact absurd (show false=true from f) YO
noncomputable def eqU (x:V)(u:Value):Bool:=match u with
 | .none=>eqV .non x
 | .bool b=>eqV (.bl b) x
 | .int i _=>eqV (.int i) x
 | .str z _=>eqV (.str z) x
 | _=>false
theorem Z27 {x y:V}{u:Value}(r:RelV y u)(f:flatV y=true):eqU x u=eqV y x:=by
 cases y with
 | non=>cases r;rfl
 | bl b=>cases r;rfl
 | int i=>obtain⟨t,rfl⟩:=r;rfl
 | str z=>obtain⟨t,rfl⟩:=r;rfl
 | _=>exact absurd (show false=true from f) YO
theorem Lc {x:V}:∀ {xs:TZ} {us:TH},Vals xs us->xs.all flatV=true->us.any (eqU x)=xs.any λy=>eqV y x
 | _,_,.nil,_=>rfl
 | y::xs,u::us,.cons r t,f=>by
  rw[Y10,zc] at f;rw[Y1D,Y1D,Z27 r f.1,Lc t f.2]
theorem Qr {A:Around}{s:Shared}{x:V}{v:Value}(a:RelV x v)(b:flatV x=true):∀ {xs:TZ} {us:TH},Vals xs us->xs.all flatV=true->∀ u∈us,SeqAt.EqAt A s u v (eqU x u)
 | _,_,.nil,_=>λu hu=>by cases hu
 | y::xs,u::us,.cons r t,f=>λu' hu=>by
  rw[Y10,zc] at f;rcases YT.mp hu with rfl | hu
  ·rw[Z27 r f.1];exact Z76 r a f.1 b
  exact Qr a b t f.2 u' hu
noncomputable def inV (x:V)(xs:TZ):Bool:=xs.any λy=>eqV y x
inductive rIn (K:TR) (neg:Bool) (x:V) (y:V) (H:Hp) (Q:VK):Prop
 | mk (p xs:_) (zz0:y=.ref p) (zz1:(SqL K H p xs \/ SqT K H p xs)) (zz2:flatV x=true) (zz3:xs.all flatV=true) (zz4:Q (.bl (if neg then !inV x xs else inV x xs)) H)
theorem Wh:OpR X (compareOp .In) (rIn X.K false):=by
 intro pins s σ H x y v u Q I b c h;obtain⟨p,xs,rfl,hq,a,fs,q⟩:=h
 cases c;rcases hq with hq | hq
 ·obtain⟨its,r,pl,hz⟩:=I.list hq;refine SeqAt.in_listAt (eqU x) pl.isList (λw hw=>Qr b a r fs w (by simpa using hw)) ⟨.bl _,H,I,rfl,?_⟩;rw[show its.toArray.any (eqU x)=its.any (eqU x) by simp,Lc r fs];exact q
 obtain⟨its,r,pl,hz⟩:=I.tuple hq;refine SeqAt.in_tupleAt (eqU x) pl (λw hw=>Qr b a r fs w (by simpa using hw)) ⟨.bl _,H,I,rfl,?_⟩;rw[show its.toArray.any (eqU x)=its.any (eqU x) by simp,Lc r fs];exact q
theorem Zq:CallR X (.builtin "len") (λxs H Q=>∃ p ys,xs=[.ref p]/\(SqL X.K H p ys \/ SqT X.K H p ys)/\Q (.int ys.length) H):=by
 intro pins s σ H xs us Q I r h;obtain⟨p,ys,rfl,hq,q⟩:=h;obtain⟨u,rfl,b⟩:=V4 r
 cases b;have hn:=Qw;rcases hq with hq | hq
 ·obtain⟨its,r',pl,hz⟩:=I.list hq;have a:=r'.length;exact Calls.call_len_list pl.isList (by simp only [YM] <;> omega) ⟨.int ys.length,H,I.tok _,⟨s.toks+1,by rw[YM,a]⟩,q⟩
 obtain⟨its,r',pl,hz⟩:=I.tuple hq;have a:=r'.length;exact len_tuple pl (by simp only [YM] <;> omega) ⟨.int ys.length,H,I.tok _,⟨s.toks+1,by rw[YM,a]⟩,q⟩
theorem Xi:CallR X (.type "list") (λxs H Q=>∃ p ys,xs=[.ref p]/\(SqL X.K H p ys \/ SqT X.K H p ys)/\∀ l,H l=none->Q (.ref l) (upd H l (.lst ys))):=by
 intro pins s σ H xs us Q I r h;obtain⟨p,ys,rfl,hq,q⟩:=h;obtain⟨u,rfl,d⟩:=V4 r
 cases d;have a:∀ (its:TH),Vals ys its->ys.length<=sizeLine->∀ (h':Heap) (c':Nat),(∀ b o',s.heap.get? b=some o'->h'.get? b=some o') →
   h'.get? s.heap.objs.size=some { cls:=.type "list",dict:=none,data:=.seq its.toArray c',slots:=#[] }->EP X pins σ Q (.ref s.heap.objs.size) { s with heap:=h' }:=λits r' hz h' c' kp e =>
  ⟨.ref s.heap.objs.size,_,I.laid (t':=s.toks) kp (YJ _) (show ObjOk X.prog X.w _ h' _ (.lst ys) from ⟨hz,its,c',r',e⟩),rfl,q _ (I.hok.fresh (YJ _))⟩
 rcases hq with hq | hq
 ·obtain⟨its,r',pl,hz⟩:=I.list hq;have c:=r'.length;obtain⟨o,ho,hc,n,hd⟩:=pl.isList;exact call_list_seq p (.inl rfl) ho hc hd (λh' c' kp e=>a its r' hz h' c' kp e) (by simp only [YM] <;> omega)
 obtain⟨its,r',pl,hz⟩:=I.tuple hq;have c:=r'.length;obtain⟨o,ho,hc,n,hd⟩:=pl;exact call_list_seq p (.inr rfl) ho hc hd (λh' c' kp e=>a its r' hz h' c' kp e) (by simp only [YM] <;> omega)
theorem Yc:CallR X (.type "tuple") (λxs H Q=>∃ p ys,xs=[.ref p]/\((SqL X.K H p ys/\∀ l,H l=none->Q (.ref l) (upd H l (.tup ys))) \/ (SqT X.K H p ys/\Q (.ref p) H))):=by
 intro pins s σ H xs us Q I r h;obtain⟨p,ys,rfl,h⟩:=h;obtain⟨u,rfl,f⟩:=V4 r
 cases f;rcases h with ⟨hq,q⟩ | ⟨hq,q⟩
 ·obtain⟨its,r',pl,hz⟩:=I.list hq;have c:=r'.length;refine call_tuple_list pl.isList (λh' kp=>?_) (by simp only [YM] <;> omega);have a:Inv X pins σ H { s with heap:=h' }:=I.kept (t':=s.toks) kp;have d:Inv X pins σ (upd H h'.objs.size (.tup ys)) { s with heap:=h'.push { cls:=.type "tuple",data:=.seq its.toArray } } :=
   a.laid (t':=s.toks) (λb o e=>YC _ e) (YJ _) (show ObjOk X.prog X.w _ _ _ (.tup ys) from ⟨hz,its,r',IsTup.new _ _⟩)
  exact⟨.ref h'.objs.size,_,d,rfl,q _ (a.hok.fresh (YJ _))⟩
 obtain⟨its,r',pl,hz⟩:=I.tuple hq;exact call_tuple_same pl ⟨.ref p,H,I,rfl,q⟩
def tyV (K:TR)(T:String)(x:V)(H:Hp):Prop:=match x with
 | .str _=>T="str"
 | .int _=>T="int"
 | .ref p=>(T="list"/\∃ xs,SqL K H p xs) \/ (T="tuple"/\∃ o,K.lookup p=some o/\o.cls=.type "tuple"/\o.dict=none) ∨
   (T="dict"/\((∃ kvs,H p=some (.dK kvs)) \/ ∃ kvs,H p=some (.dT kvs))) \/ (T="set"/\∃ S n,H p=some (.set S n))
 | _=>False
theorem Bb {pins:TD}{σ:St}{H:Hp}{s:Shared}{T:String}{x:V}{v:Value}(I:Inv X pins σ H s)(r:RelV x v)(ty:tyV X.K T x H) :
  s.TypeIs v T/\∀ a,v=.ref a->∃ ob,s.heap.get? a=some ob/\ob.dict=none:=by
 cases x with
 | str z =>
  obtain⟨t,rfl⟩:=r
  cases (show T="str" from ty);exact⟨typeIs_str s z t,λ_ e=>nomatch e⟩
 | int i =>
  obtain⟨t,rfl⟩:=r
  cases (show T="int" from ty);exact⟨Y1e s i t,λ_ e=>nomatch e⟩
 | ref p =>
  cases r;rcases ty with ⟨rfl,xs,hq⟩ | ⟨rfl,o,hk,hc,hd⟩ | ⟨rfl,hk⟩ | ⟨rfl,S,n,hk⟩
  ·obtain⟨its,_,pl,_⟩:=I.list hq;refine⟨pl.isList.typeIs,λa e=>?_⟩
   cases e;obtain⟨o,n,e,c,hd,_⟩:=pl;exact⟨o,e,hd⟩
  ·refine⟨⟨o,I.kIn p o hk,hc⟩,λa e=>?_⟩
   cases e;exact⟨o,I.kIn _ o hk,hd⟩
  ·have z:∃ o,s.heap.get? p=some o/\o.ExactDict:=by
    rcases hk with ⟨kvs,hk⟩ | ⟨kvs,hk⟩
    ·obtain⟨_,_,_,_,o,_,_,e,ex,_⟩:=I.hok p _ hk;exact⟨o,e,ex⟩
    obtain⟨_,_,_,_,o,_,_,e,ex,_⟩:=I.hok p _ hk;exact⟨o,e,ex⟩
   obtain⟨o,e,ex⟩:=z;refine⟨⟨o,e,ex.1⟩,λa e2=>?_⟩
   cases e2;exact⟨o,e,ex.2.1⟩
  obtain⟨o,_,_,_,e,ex,_⟩:=I.hok p _ hk;refine⟨⟨o,e,ex.1⟩,λa e2=>?_⟩
  cases e2;exact⟨o,e,ex.2.1⟩
 | _=>exact False.elim ty
def tBM0 (K:TR)(T:String)(r:V->List V->Hp->VK->Prop)(to:TE):TE:=λσ H Q=>to σ H λx H1=>tyV K T x H1/\r x [] H1 Q
def tBM (K:TR)(T:String)(r:V->List V->Hp->VK->Prop)(to:TE)(t:TA):TE:=λσ H Q=>to σ H λx H1=>tyV K T x H1/\t σ H1 λxs H2=>r x xs H2 Q
variable {o:Expr}{es:TL}{to:TE}{t:TA}{name:Str}{apos cpos:Pos}{T id:String}{r:V->List V->Hp->VK->Prop}
theorem Z0r (f:PlainAttrs T)(slot:Slot T name id)(c:typeOf (.builtin id)=pure (.type "method_descriptor"))(hm:MtR X id r)(ho:PE X o to)
  (b:attributeBase o name X.env (eval o X.env)=eval o X.env:=by rfl) (a:(apos.endLine == cpos.line)=true:=by rfl):PE X (.Call (.Attribute o name apos) [] [] cpos) (tBM0 X.K T r to):=by
 intro pins s σ H Q I h;refine wpAny_Call_method0_late b a (thn (ho pins s σ H _ I h) λv s1 ⟨x,H1,d,r1,ty,e⟩=>?_);obtain⟨h1,h2⟩:=Bb d r1 ty;exact⟨T,id,f,slot,c,h1,h2,Calls.callWith_builtin rfl (PySem.evalArgs_none (hm pins s1 σ H1 x [] v [] Q d r1 .nil e))⟩
theorem W6 (m:PlainAttrs T)(slot:Slot T name id)(f:typeOf (.builtin id)=pure (.type "method_descriptor"))(hm:MtR X id r)(ho:PE X o to)(ha:PA X (e::es) t)
  (c:attributeBase o name X.env (eval o X.env)=eval o X.env:=by rfl)
  (d:((backTo cpos (starEach (e::es) X.env)).all (λx=>!x.1) && (backToKw cpos (keywordEach [] X.env)).all (λx=>x.1.isSome)
   && decide ((e::es).length+([]:List Keyword).length+(if ([]:List Keyword).isEmpty then 0 else 1)<30))=true:=by rfl)
  (b:(apos.endLine == cpos.line)=true:=by rfl) (hs:starEach (e::es) X.env=(false,eval e X.env)::starEach es X.env:=by rfl) (a:(backTo cpos (starEach es X.env)).any (·.1)=false:=by rfl) :
  PE X (.Call (.Attribute o name apos) (e::es) [] cpos) (tBM X.K T r to t):=by
 intro pins s σ H Q I h;refine wpAny_Call_method_late c d b rfl (thn (ho pins s σ H _ I h) λv s1 ⟨x,H1,g,r1,ty,k⟩=>?_);obtain⟨h1,h2⟩:=Bb g r1 ty;refine⟨T,id,m,slot,f,h1,h2,?_⟩;have i:=ha cpos pins s1 σ H1 _ g k;rw[hs] at i ⊢;refine Calls.callWith_builtin (by show (false || (backTo cpos (starEach es X.env)).any (·.1))=false;rw[a] <;> rfl) (Calls.evalArgs_plain ?_);exact thn i λus s2 ⟨vs,H2,l,r2,j⟩=>hm pins s2 σ H2 x vs v us Q l r1 r2 j
end
def MtM (X:Cx)(id:String)(r:V->List V->Hp->VK->Prop):Prop :=
 ∀ (pins:TD) (s:Shared) (σ:St) (H:Hp) (x:V) (xs:TZ) (v:Value) (us:TH) (Q:VK),Inv X pins σ H s->RelV x v->Vals xs us->r x xs H Q →
  wX X (call (.builtin id) (v::us)) (EP X pins σ Q) X.xe s
theorem Vals.one:∀ {x:V} {us:TH},Vals [x] us->∃ u,us=[u]/\RelV x u
 | _,_,.cons r .nil=>⟨_,rfl,r⟩
theorem Vals.two:∀ {x y:V} {us:TH},Vals [x,y] us->∃ u v,us=[u,v]/\RelV x u/\RelV y v
 | _,_,_,.cons r (.cons q .nil)=>⟨_,_,rfl,r,q⟩
theorem Vals.zero:∀ {us:TH},Vals [] us->us=[]
 | _,.nil=>rfl
theorem Vals.dropLast {xs:TZ}{us:TH}(h:Vals xs us):Vals xs.dropLast us.dropLast:=by
 induction h with
 | nil=>exact .nil
 | cons r t a =>
  cases t with
  | nil=>exact .nil
  | cons q t'=>exact .cons r a
theorem Vals.reverse {xs:TZ}{us:TH}(h:Vals xs us):Vals xs.reverse us.reverse:=by
 induction h with
 | nil=>exact .nil
 | cons r t a=>rw[List.reverse_cons,List.reverse_cons];exact Vals.append a (.cons r .nil)
theorem Vals.rep {xs:TZ}{us:TH}(h:Vals xs us):∀ k:Nat,Vals (List.replicate k xs).flatten (List.replicate k us).flatten
 | 0=>.nil
 | k+1=>by
  rw[zK,zK,Y01,Y01];exact Vals.append h (Vals.rep h k)
def Jz {α:Type}(l:List α):l.eraseIdx (l.length - 1)=l.dropLast:=by
 induction l with
 | nil=>rfl
 | cons a r c =>
  cases r with
  | nil=>rfl
  | cons b r =>
   have e:(a::b::r).length - 1=((b::r).length - 1)+1:=by
    have h1:(a::b::r).length=r.length+2:=rfl;have h2:(b::r).length=r.length+1:=rfl;omega
   rw[e,List.eraseIdx_cons_succ,c]
   all_goals rfl
theorem Ng (its:TH):∀ (k:Nat) (acc:TH),
  List.foldl (λx1 a=>x1++a) acc.toArray (List.replicate k its.toArray)=(acc++(List.replicate k its).flatten).toArray
 | 0,acc=>ZJ
 | k+1,acc=>by
  have e:acc.toArray++its.toArray=(acc++its).toArray:=ZJ
  have e2:(acc++its)++(List.replicate k its).flatten=acc++(List.replicate (k+1) its).flatten:=by
   rw[zK,Y01,zZ]
  rw[<-e2,<-Ng its k (acc++its),<-e,zK,List.foldl_cons]
section
variable {X:Cx}{σ:St}{H:Hp}{l:Addr}{xs ys:TZ}
def Inv.lset {its its':TH}{n:Nat}{f:Array Value->Array Value}{t':Nat}(I:Inv X pins σ H s)(b:H l=some (.lst xs))
  (e:s.heap.get? l=some { cls:=.type "list",data:=.seq its.toArray n }) (hf:f its.toArray=its'.toArray) (c:Vals ys its') (hz:ys.length<=sizeLine) :
  Inv X pins σ (upd H l (.lst ys)) { s with heap:=s.heap.update l (Obj.mapSeq f),toks:=t' }:=by
 have q:=PySem.IsL.update e f;rw[hf] at q;refine I.write (x:=l) (e:=l) (by rw[b];exact trivial) (.inl rfl) (λd u a hu=>(GP s.heap (Obj.mapSeq f) (JC a)).trans hu) ⟨_,q⟩ ?_;exact⟨hz,its',_,c,q⟩
def Inv.lnew {t':Nat}(I:Inv X pins σ H s)(a:Vals ys its)(hz:ys.length<=sizeLine) :
  Inv X pins σ (upd H s.heap.objs.size (.lst ys)) { s with heap:=s.heap.push { cls:=.type "list",data:=.seq its.toArray },toks:=t' } :=
 I.laid (λ_ _ q=>YC _ q) (YJ _) ⟨hz,its,0,a,YS _ rfl⟩
theorem Inv.fresh (I:Inv X pins σ H s):H s.heap.objs.size=none:=I.hok.fresh (YJ _)
def Inv.lstM (I:Inv X pins σ H s)(a:H l=some (.lst xs)):xs.length<=sizeLine/\∃ (its:TH) (n:Nat),Vals xs its/\xs.length=its.length/\s.heap.get? l=some { cls:=.type "list",data:=.seq its.toArray n }:=by
 obtain⟨z,its,n,r,e⟩:=I.hok l _ a;exact⟨z,its,n,r,r.length,e⟩
def Z1i {n:Nat}(h:n<=sizeLine):Builtin.List.listTooLong n=false:=by
 unfold Builtin.List.listTooLong;exact XF J0
end
section
variable {X:Cx}
inductive rAppend (x:V) (vs:TZ) (H:Hp) (Q:VK):Prop
 | mk (l xs y:_) (zz0:x=.ref l) (zz1:vs=[y]) (zz2:H l=some (.lst xs)) (zz3:xs.length<sizeLine) (zz4:Q .non (upd H l (.lst (xs++[y]))))
theorem Ys:MtM X "list.append" rAppend:=by
 intro pins s σ H x vs v us Q I b rv h;obtain⟨l,xs,y,rfl,rfl,a,hz,q⟩:=h
 cases b;obtain⟨u,rfl,ru⟩:=rv.one;obtain⟨z,its,n,r,hl,e⟩:=I.lstM a;refine zH F.slot_list_append ⟨_,e,rfl⟩ F.entry_list_append (F.args_list_append_2 _ _) (PySem.list_append l its.toArray n u (by rw[YM];omega)) ⟨e,?_⟩;refine⟨.non,_,I.lset (its':=its++[u]) a e ZJ (r.append (.cons ru .nil)) ?_,rfl,q⟩;rw[YY,List.length_singleton];omega
inductive rExtend (x:V) (vs:TZ) (H:Hp) (Q:VK):Prop
 | mk (l b xs zs:_) (zz0:x=.ref l) (zz1:vs=[.ref b]) (zz2:H l=some (.lst xs)) (zz3:H b=some (.lst zs)) (zz4:xs.length+zs.length<=sizeLine) (zz5:Q .non (upd H l (.lst (xs++zs))))
theorem Nd:MtM X "list.extend" rExtend:=by
 intro pins s σ H x vs v us Q I i rv h;obtain⟨l,b,xs,zs,rfl,rfl,f,hB,hz,q⟩:=h
 cases i;obtain⟨u,rfl,ru⟩:=rv.one
 cases ru;obtain⟨z,its,n,r,hl,e⟩:=I.lstM f;obtain⟨z2,a,n2,r2,g,e2⟩:=I.lstM hB;have d:its.toArray.size+a.toArray.size<=sizeLine:=by rw[YM,YM];omega
 have c:¬ (!its.toArray.isEmpty && Builtin.List.listTooLong (its.toArray.size+a.toArray.size))=true:=by
  rw[Z1i d,Bool.and_false];exact YO
 refine zH F.slot_list_extend ⟨_,e,rfl⟩ F.entry_list_extend (F.args_list_extend_2 _ _)
  (AutoSeq1.list_extend_list_list_0 l its.toArray n b a.toArray n2 c (by rw[YM];omega) J0) ⟨e,e2,?_⟩
 refine⟨.non,_,I.lset (its':=its++a) f e ZJ (r.append r2) ?_,rfl,q⟩;rw[YY];omega
inductive rPop (x:V) (vs:TZ) (H:Hp) (Q:VK):Prop
 | mk (l xs y:_) (zz0:x=.ref l) (zz1:vs=[]) (zz2:H l=some (.lst xs)) (zz3:xs[xs.length - 1]?=some y) (zz4:Q y (upd H l (.lst xs.dropLast)))
theorem Z6w:MtM X "list.pop" rPop:=by
 intro pins s σ H x vs v us Q I f rv h;obtain⟨l,xs,y,rfl,rfl,c,d,q⟩:=h
 cases f;have b:=rv.zero;subst b;obtain⟨z,its,n,r,hl,e⟩:=I.lstM c;obtain⟨u,hu,ru⟩:=r.get d;have a:its.toArray[its.toArray.size - 1]?=some u:=by
  show its.toArray[its.length - 1]?=some u;rw[<-Array.getElem?_toList,<-hl];exact hu
 refine zH F.slot_list_pop ⟨_,e,rfl⟩ F.entry_list_pop (F.args_list_pop_1 _) (MeetsSeq.list_pop_last l its.toArray n u a (by rw[YM];omega)) ⟨e,?_⟩;refine⟨y,_,I.lset (its':=its.dropLast) c e ?_ r.dropLast ?_,ru,q⟩
 ·show its.toArray.eraseIdxIfInBounds (its.toArray.size - 1)=its.dropLast.toArray;rw[YM,List.eraseIdxIfInBounds_toArray,Jz]
 rw[List.length_dropLast];omega
inductive rReverse (x:V) (vs:TZ) (H:Hp) (Q:VK):Prop
 | mk (l xs:_) (zz0:x=.ref l) (zz1:vs=[]) (zz2:H l=some (.lst xs)) (zz3:Q .non (upd H l (.lst xs.reverse)))
theorem Jl:MtM X "list.reverse" rReverse:=by
 intro pins s σ H x vs v us Q I c rv h;obtain⟨l,xs,rfl,rfl,b,q⟩:=h
 cases c;have a:=rv.zero;subst a;obtain⟨z,its,n,r,hl,e⟩:=I.lstM b;refine zH F.slot_list_reverse ⟨_,e,rfl⟩ F.entry_list_reverse (F.args_list_reverse_1 _) (AutoSeq1.list_reverse_list_0 l its.toArray n (by rw[YM];omega)) ⟨e,?_⟩;refine⟨.non,_,I.lset (its':=its.reverse) b e ZJ r.reverse ?_,rfl,q⟩;rw[Y1y];omega
inductive rCat (x:V) (y:V) (H:Hp) (Q:VK):Prop
 | mk (l b xs zs:_) (zz0:x=.ref l) (zz1:y=.ref b) (zz2:H l=some (.lst xs)) (zz3:H b=some (.lst zs)) (zz4:xs.length+zs.length<=sizeLine) (zz5:∀ p,H p=none->Q (.ref p) (upd H p (.lst (xs++zs))))
theorem Z0y:OpR X (binaryOp .Add) rCat:=by
 intro pins s σ H x y v u Q I f g h;obtain⟨l,b,xs,zs,rfl,rfl,c,hB,hz,q⟩:=h
 cases f
 cases g;obtain⟨z,its,n,r,hl,e⟩:=I.lstM c;obtain⟨z2,a,n2,r2,d,e2⟩:=I.lstM hB;refine PySem.P.add_list e e2 ?_ (by rw[YM,YM];omega);have ea:its.toArray++a.toArray=(its++a).toArray:=ZJ
 rw[ea];exact⟨.ref _,_,I.lnew (t':=s.toks) (r.append r2) (by rw[YY];omega),rfl,q _ I.fresh⟩
def Z4k {α:Type}(xs:List α)(k:Nat):(List.replicate k xs).flatten.length=k*xs.length:=by
 induction k with
 | zero=>simp
 | succ k a=>rw[zK,Y01,YY,a,Y02,Y1Q]
end
end _L
namespace Att
open PySem PySem.W PySem.Calls PyProof.Rows
def Rp {P:Params}{h:Heap}:∀ (ns:TV) (vs:TH),WellAll P h vs (ns.map WData.int)->IntsAre vs ns:=by
 intro ns
 induction ns with
 | nil =>
  intro vs w;rw[List.map_nil] at w
  cases w;exact .nil
 | cons n ns c =>
  intro vs w;rw[GM] at w
  cases w with
  | cons a b =>
   cases a;exact .cons _ _ (c _ b)
theorem D4 {l:OpenLaw}{n:Nat}(hn:l.most=some n){P:Params}{h:Heap}{args:List WData}{c:TH}
  (b:l.row.toRowW.claim.pre args=true) (j:WellAll P h c args) :
  ∃ a vs ns,c=[Value.ref a]/\args=[WData.list (ns.map WData.int)]/\h.get? a=some { cls:=.type "list",data:=.seq vs.toArray }/\IntsAre vs ns/\ns.length<=n:=by
 have i:WShape.hasAll [] args [.list .int]=true:=(pre_splitW b).1;have hc:l.pre.holds [] { args:=args }=true:=(pre_splitW b).2;obtain⟨d,r,rfl,h1,h2⟩:=hasAllW_cons i;obtain rfl:=hasAllW_nil h2;obtain⟨xs,rfl,h3⟩:=hasW_list h1;obtain⟨ns,rfl⟩:=items_int h3;have f:ns.length<=n:=by
  unfold OpenLaw.pre at hc;have h4:(WTm.not (.lt (.lit (.int (n:Int))) (.len (.arg 0)))).holds [] { args:=[.list (ns.map .int)] }=true:=by
   have h4:=(holds_andW hc).1;rw[hn] at h4;exact h4
  have g:=condW_of h4 (w_not (w_lt w_lit (w_len_list (w_arg rfl))));rw[YB] at g;refine Nat.le_of_not_lt λq=>?_;have q':(n:Int)<((ns.length:Nat):Int):=J0
  first
   | (rw[XA q'] at g;exact absurd g J1)
   | (simp at g;omega)
 cases j with
 | cons k m =>
  cases m
  cases k with
  | list ho e=>exact⟨_,_,ns,rfl,rfl,ho,Rp ns _ e,f⟩
theorem Di (l:OpenLaw)(args:List WData):l.row.toRowW.claim.post args (.bool true) args=true :=
 postW_of (r:=l.row.toRowW) (X:=(true == true))
  (show WShape.has [] (.bool true) .bool=true by first | rfl | decide | simp[WShape.has,WShape.arms,WShape.armsAll])
  (show (WTm.eq .res (.lit (.bool true))).value [] { args:=args,res:=some (.bool true),after:=args }=some (.bool (true == true)) from w_eq_bool (w_res rfl) w_lit) rfl
def attach_call {l:OpenLaw}{n:Nat}{q:TU}{c:TF}{s:(Str->Option Value)->Heap->Prop}{v:World->Heap->Prop}{d:DefRec}
  (hn:l.most=some n) (m:d.params.defaults=[])
  (call:∀ (w:World) (s₀ b:Shared) (mg mb:TB) (fa:Addr) (o:Obj) (pm cd doc:Value) (a:Addr) (vs:TH) (ns:TV),
   Ground q c [] s w s₀ mg mb b.heap->v w b.heap →
   b.heap.get? fa=some o->o.data=.func (docDef d.name d.params d.body d.scope pm cd doc)->b.heap.CodeRec cd d.name->mg d.name=some (.ref fa) →
   b.heap.get? a=some { cls:=.type "list",data:=.seq vs.toArray }->IntsAre vs ns->ns.length<=n->b.gens=#[] →
   codeAny (model l.prog w) callerA (.call (.ref fa) ⟨[.ref a],[]⟩) (λr s'=>r=.ok (.ret (.bool true))/\OldK b.heap s'.heap/\s'.os=b.os/\AllBare s'.gens) b) :
  WalkO q c s v l.row.toRowW d [] (λf vs=>PySem.call f vs):=by
 intro w s₀ b mg mb G Y fa o pm cd doc x kV ho hd j t hmg hg args u as g p z k y;obtain rfl:x=.none:=Dflts.none t m;obtain rfl:kV=.none:=Dflts.noKw t;obtain⟨a,vs,ns,rfl,rfl,h,e,i⟩:=D4 hn g k;refine enter_call (Y0w (call w s₀ b mg mb fa o pm cd doc a vs ns G Y ho (fd_plain hd) j hmg h e i hg) λr s' hq=>?_);obtain⟨rfl,h2,h3,h4⟩:=hq;exact⟨.inl ⟨.bool true,.bool true,[],rfl,λ_=>rfl,.bool true,Di l _,λ_=>⟨List.Pairwise.nil,λ_ hm=>(nomatch hm)⟩⟩,h2,h3,h4⟩
section
noncomputable def ledger (h:Heap)(L d:Addr):List (Addr × Obj):=(List.range h.objs.size).filterMap λa=>if a=L \/ a=d then none else (h.get? a).map λo=>(a,o)
end
end Att
namespace _L
open PySem PySem.Spec PyProof.Rows
theorem Py:∀ {vs:TH} {ns:TV},IntsAre vs ns->Vals (ns.map V.int) vs
 | _,_,.nil=>.nil
 | _,_,.cons n t h=>.cons ⟨t,rfl⟩ (Py h)
noncomputable abbrev KOf {K:TR}{h:Heap}(_:K.In h):W.Frag:=K
noncomputable def inClass (s:Stmt)(j:Nat):Stmt:=match s with
 | .ClassDef _ _ _ body _ _ _ _ _ _ _=>body.getD j (.Pass ⟨0,0,0,0⟩)
 | _=>.Pass ⟨0,0,0,0⟩
noncomputable def defArgs (s:Stmt):Arguments:=match s with
 | .FunctionDef _ a _ _ _ _ _ _ _ _=>a
 | _=>{ posonlyargs:=[],args:=[],vararg:=none,kwonlyargs:=[],kw_defaults:=[],kwarg:=none,defaults:=[] }
noncomputable def defBody (s:Stmt):List Stmt:=match s with
 | .FunctionDef _ _ b _ _ _ _ _ _ _=>b
 | _=>[]
noncomputable def defScope (s:Stmt):Scope:=match s with
 | .FunctionDef _ _ _ _ _ _ sc _ _ _=>sc
 | _=>{ kind:=.function,names:=[],isGenerator:=false,isCoroutine:=false }
abbrev CX0:CXT:=λ_ _ _ _ _ _=>False
abbrev E0:XK:=λ_ _ _=>False
def Gu:Passes CX0 X E0:=λ_ _ _ _ _ _ _ h=>h.elim
structure Fun (K:TR)(x qual:Str)(st:Stmt)(f:Addr)(fd:FuncData):Prop where
 ex:∃ (oc:Value) (od:TQ) (kV doc pm:Value) (an:TQ) (cdv ct:Value) (osl:Array (Option Value)),
  fd=W.fnOf x qual (defArgs st) (defBody st) (defScope st) .none kV doc pm an cdv ct/\K.lookup f=some ⟨oc,od,.func fd,osl⟩/\W.codeIn K cdv qual=true
 kp:W.keepIn K (.ref f)=true
section
variable {P:TU}
def Fun.ok {x:Str}{N:TF}{k:Nat}(F:Fun K x qual st f fd)(S:FnScope N ps (defScope st))(len:∀ vs H Q E,sp vs H Q E->vs.length=ps.length)
  (a:∀ (cdv:Value) (A:Around) (outer:TN) (s:Shared) (H:Hp) (vs:TZ) (Q:VK) (E:XK),Room k (A.deeper (envOfC qual (defScope st) s.heap.objs.size f cdv)) sr->sp vs H Q E →
   ∃ t,PSs (cxOf CX0 P w K mg base N qual (defScope st) f cdv A outer s H E).nox (defBody st) t/\t { nx:=λ_ H'=>Q .non H',rt:=Q } (start N vs) H):FnOk P w K mg base CX0 (k+1) f fd ps sp sr:=by
 obtain⟨oc,od,kV,doc,pm,an,cdv,ct,osl,rfl,lk,b⟩:=F.ex;refine Z5o lk b S len λA outer s H vs Q E hr c=>?_;obtain⟨t,h,q⟩:=a cdv A outer s H vs Q E hr c;exact⟨t,h.nox,q⟩
def Fun.binds {x:Str}(F:Fun K x qual st f fd)
  (h:∀ (kV doc pm:Value) (an:TQ) (cdv ct:Value) (us:TH),us.length=ps.length->bindArgs (W.fnOf x qual (defArgs st) (defBody st) (defScope st) .none kV doc pm an cdv ct) ⟨us,[]⟩=pure (ps.zip us)):Binds K fd ps []:=by
 obtain⟨oc,od,kV,doc,pm,an,cdv,ct,osl,rfl,lk,a⟩:=F.ex;exact .all (h kV doc pm an cdv ct)
def Up {x:Str}{osl:Array (Option Value)}{kV doc cdv:Value}(l:K.lookup f=some ⟨oc,od,.func (W.fnOf x qual (defArgs st) (defBody st) (defScope st) .none kV doc pm an cdv ct),osl⟩)
  (c:W.codeIn K cdv qual=true) (k:W.keepIn K (.ref f)=true):Fun K x qual st f (W.fnOf x qual (defArgs st) (defBody st) (defScope st) .none kV doc pm an cdv ct):=⟨⟨oc,od,kV,doc,pm,an,cdv,ct,osl,rfl,l,c⟩,k⟩
end
def Fe {k:Nat}(hr:Room k A sr):A.units+1<cLine:=JD (Nat.add_le_add_left (by decide:1<=64) _) hr.units
def Tt {n:Nat}(h:n<=1000):n<sizeLine:=JD h J1
section
variable {X:Cx}
noncomputable def pv (i:Nat){x:Str}{pos:Pos}(hN:X.N[i]?=some x:=by rfl)(b:Vis X.env.scope x:=by first | exact Or.inl rfl | exact Or.inr xj | exact Or.inr (Or.inr rfl))(hd:(x == ("__debug__":Str))=false:=by decide)
  (a:(x == ("__classdict__":Str))=false:=by decide):PE X (.Name x pos) (tVar i):=Z6f hN b hd a
end
def Xc {A B:Prop}(h:B):if false=true then A else B:=by
 rw[YF YO];exact h
def V0 {A B:Prop}(h:A):if true=true then A else B:=by
 rw[YH rfl];exact h
def Xu {c A B:Prop}[Decidable c](h1:c->A)(h2:¬ c->B):if c then A else B:=by
 by_cases h:c
 ·rw[YH h];exact h1 h
 rw[YF h];exact h2 h
def F9 {c A B:Prop}[Decidable c](hc:c)(h:B):if (!decide c)=true then A else B:=by
 rw[XA hc];exact Xc h
def Same (H H':Hp):Prop:=∀ b o,H b=some o->H' b=some o
def Same.refl (H:Hp):Same H H:=λ_ _ h=>h
def Same.trans (a:Same H H1)(b:Same H1 H2):Same H H2:=λc o h=>b c o (a c o h)
def Same.free {H H':Hp}(e:Same H H'){l:Addr}(h:H' l=Option.none):H l=Option.none:=by
 cases q:H l with
 | none=>rfl
 | some o =>
  rw[e l o q] at h
  cases h
end _L
namespace _b
def Bd (n:Nat)(x:Int):Prop:=x.natAbs<2 ^ n
def Bd.mono {m n:Nat}{x:Int}(h:Bd m x)(k:m<=n):Bd n x:=YX h (GK J1 k)
theorem Bd.mul {m n:Nat}{x y:Int}(h:Bd m x)(k:Bd n y):Bd (m+n) (x*y):=by
 unfold Bd at *
 rw[GX,Y0R];exact Nat.mul_lt_mul'' h k
theorem Bd.add {n:Nat}{x y:Int}(h:Bd n x)(k:Bd n y):Bd (n+1) (x+y):=by
 unfold Bd at *
 rw[Y1f];omega
theorem Bd.sub {n:Nat}{x y:Int}(h:Bd n x)(k:Bd n y):Bd (n+1) (x - y):=by
 unfold Bd at *
 rw[Y1f];omega
theorem Bd.neg {n:Nat}{x:Int}(h:Bd n x):Bd n (-x):=by
 unfold Bd at *
 omega
def Bd.of_le {n:Nat}{x y:Int}(h:x.natAbs<=y.natAbs)(k:Bd n y):Bd n x:=JD h k
def Bd.of_le' {n:Nat}{x y:Int}(k:Bd n y)(h:x.natAbs<=y.natAbs):Bd n x:=JD h k
def Bd.log {n:Nat}{x:Int}(h:Bd n x)(k:n<450000):x.natAbs.log2<450000:=by
 rcases Y1J x.natAbs with h0 | hp
 ·rw[h0];decide
 have:=(Y1s (GQ hp)).mpr h;omega
noncomputable def gI (p q:Int):Int:=(Int.gcd p q:Int)
noncomputable def sg (p q:Int):Int:=if q<0 then -(gI p q) else gI p q
noncomputable def nT (p q:Int):Int:=p.fdiv (sg p q)
noncomputable def nB (p q:Int):Int:=q.fdiv (sg p q)
def Jy {p q:Int}(h:q≠0):0<gI p q:=by
 have:=Int.gcd_pos_of_ne_zero_right p h;unfold gI;omega
def N2 {p q:Int}(h:q≠0):sg p q≠0:=by
 have:=Jy (p:=p) h;unfold sg;split <;> omega
def Kw (p q:Int):sg p q ∣ p:=by
 unfold sg gI;split
 ·exact Int.neg_dvd.mpr (Y17 ..)
 exact Y17 ..
def Kx (p q:Int):sg p q ∣ q:=by
 unfold sg gI;split
 ·exact Int.neg_dvd.mpr (Y03 ..)
 exact Y03 ..
def Uq {a b:Int}(h:b ∣ a):a.fdiv b*b=a:=by
 rw[Int.fdiv_eq_ediv_of_dvd h];exact Int.ediv_mul_cancel h
def Jj (p q:Int):nT p q*sg p q=p:=Uq (Kw p q)
def Ty (p q:Int):nB p q*sg p q=q:=Uq (Kx p q)
def Mj {p q:Int}(h:q≠0):0<nB p q:=by
 have e:=Ty p q;have g:=Jy (p:=p) h;by_cases hq:q<0
 ·have s:sg p q=-(gI p q):=by unfold sg;rw[YH hq]
  rw[s] at e;rcases Int.lt_trichotomy 0 (nB p q) with k | k | k
  ·exact k
  ·rw[<-k] at e;simp at e;omega
  have:=Int.mul_pos_of_neg_of_neg k (show -(gI p q)<0 by omega);omega
 have s:sg p q=gI p q:=by unfold sg;rw[YF hq]
 rw[s] at e;rcases Int.lt_trichotomy 0 (nB p q) with k | k | k
 ·exact k
 ·rw[<-k] at e;simp at e;omega
 have:=Int.mul_neg_of_neg_of_pos k g;omega
def Xt (p q:Int):nT p q*q=p*nB p q:=by
 have h1:=Jj p q;have h2:=Ty p q
 calc nT p q*q=nT p q*(nB p q*sg p q):=by rw[h2]
  _=(nT p q*sg p q)*nB p q:=by rw[JE (nB p q),GO]
  _=p*nB p q:=by rw[h1]
def Z1k {p q:Int}(h:q≠0):Int.gcd (nT p q) (nB p q)=1:=by
 have g:=Jy (p:=p) h;have e1:=Jj p q;have e2:=Ty p q;have e:Int.gcd p q=Int.gcd (nT p q) (nB p q)*(sg p q).natAbs:=by
  have z:=Int.gcd_mul_right (nT p q) (sg p q) (nB p q);rw[e1,e2] at z;exact z
 have s:(sg p q).natAbs=Int.gcd p q:=by
  unfold sg gI;split <;> simp
 rw[s] at e;have a:0<Int.gcd p q:=by unfold gI at g;omega
 have e':1*Int.gcd p q=Int.gcd (nT p q) (nB p q)*Int.gcd p q:=J0
 exact (Y0D a e').symm
def Bk {p q:Int}(h:q≠0):1<=(sg p q).natAbs:=by
 have:=N2 (p:=p) h;omega
def Sa {a b c:Int}(h:a*b=c)(d:1<=b.natAbs):a.natAbs<=c.natAbs:=by
 rw[<-h,GX];exact ju _ d
def Z82 {p q:Int}(h:q≠0):(nT p q).natAbs<=p.natAbs:=Sa (Jj p q) (Bk h)
def Z83 {p q:Int}(h:q≠0):(nB p q).natAbs<=q.natAbs:=Sa (Ty p q) (Bk h)
def Z7i {p q:Int}(h:q≠0):(sg p q).natAbs<=q.natAbs:=by
 have e:=Ty p q;rw[JE] at e;have:=Mj (p:=p) h;exact Sa e J0
def gcd_step {a b:Int}:Int.gcd b (a % b)=Int.gcd a b:=by
 rw[Y0x b,Int.emod_def];rw[Y0K]
def Ck (a b:Int):Int.gcd b (a.fmod b)=Int.gcd a b:=by
 rw[Y0x b,Int.fmod_def];rw[Y0K]
def Z23 (a:Int){b:Int}(h:b≠0):(a.fmod b).natAbs<b.natAbs:=by
 rcases Int.lt_or_gt_of_ne h with k | k
 ·have h0:=Int.neg_fmod_neg a b;have h1:=Y1g (-a) (show 0 < -b by omega);have h2:=Y1K (-a) (show 0 < -b by omega);omega
 have h1:=Y1g a k;have h2:=Y1K a k;omega
def Z73 (a b:Int)(ha:0<=a)(h:b=0):a=(Int.gcd a b:Int):=by
 subst h;simp;omega
open PySem PySem.Spec PyProof.Rows _L
def Bd.bits {n:Nat}{x:Int}(h:Bd n x):Builtin.Int.intBits x<=n:=by
 unfold Builtin.Int.intBits;split
 ·exact JK _
 rename_i h0
 have hn:x.natAbs≠0:=by
  intro z;have:x=0:=J0
  exact h0 (by simp[this])
 have:=(Y1s hn).mpr h;omega
def Bd.mulOk {m n:Nat}{x y:Int}(h:Bd m x)(k:Bd n y)(hm:m<=1048576)(hn:n<=1048576):IntMulOk x y :=
 IntMulOk.of_bits (YR h.bits (YR hm J1)) (YR k.bits (YR hn J1))
def C4 {x y:Int}(h1:-(2 ^ 64)<x)(h2:x<2 ^ 64):IntMulOk x y:=IntMulOk.of_left (intBits_le_64 h1 h2)
def C3 {x y:Int}(h1:-(2 ^ 64)<y)(h2:y<2 ^ 64):IntMulOk x y:=IntMulOk.of_right (intBits_le_64 h1 h2)
section
variable {X:Cx}
def Zu:OpR X (binaryOp .Mult) (rI IntMulOk λi j=>.int (i*j)):=opI λ_ _ _ _ _ _ _ hc q=>mul_int q hc
def DivOk (_ j:Int):Prop:=j≠0/\j.natAbs.log2<450000
theorem Wd:OpR X (binaryOp .FloorDiv) (rI DivOk λi j=>.int (i.fdiv j)):=by
 intro pins s σ H x y v u Q I a b h;obtain⟨i,j,rfl,rfl,hc,q⟩:=h;obtain⟨t,rfl⟩:=a;obtain⟨t',rfl⟩:=b;exact floordiv_int hc.1 ⟨.int (i.fdiv j),H,I.tok _,⟨_,rfl⟩,q⟩ (.inr I.pylong)
inductive rP0 (K:TR) (x:V) (y:V) (H:Hp) (Q:VK):Prop
 | mk (p u v:_) (zz0:x=.ref p) (zz1:y=.int 0) (zz2:SqT K H p [u,v]) (zz3:Q u H)
inductive rP1 (K:TR) (x:V) (y:V) (H:Hp) (Q:VK):Prop
 | mk (p u v:_) (zz0:x=.ref p) (zz1:y=.int 1) (zz2:SqT K H p [u,v]) (zz3:Q v H)
inductive rL0 (K:TR) (x:V) (y:V) (H:Hp) (Q:VK):Prop
 | mk (p u v:_) (zz0:x=.ref p) (zz1:y=.int 0) (zz2:SqL K H p [u,v]) (zz3:Q u H)
inductive rL1 (K:TR) (x:V) (y:V) (H:Hp) (Q:VK):Prop
 | mk (p u v:_) (zz0:x=.ref p) (zz1:y=.int 1) (zz2:SqL K H p [u,v]) (zz3:Q v H)
def at0 {α:Type}(x:α)(xs:List α):atI (x::xs) 0=some x:=Zk (j:=0) rfl
def at1 {α:Type}(x y:α)(xs:List α):atI (x::y::xs) 1=some y:=Zk (j:=1) rfl
theorem Yq:IxR X (rP0 X.K):=λc sl pins s σ H x y v u Q I d e ⟨p,a,b,e1,e2,h,q⟩ hs=>X9 c sl pins s σ H x y v u Q I d e ⟨p,_,_,_,e1,e2,h,at0 _ _,q⟩ hs
theorem Ym:IxR X (rP1 X.K):=λc sl pins s σ H x y v u Q I d e ⟨p,a,b,e1,e2,h,q⟩ hs=>X9 c sl pins s σ H x y v u Q I d e ⟨p,_,_,_,e1,e2,h,at1 _ _ _,q⟩ hs
theorem F7:IxR X (rL0 X.K):=λc sl pins s σ H x y v u Q I d e ⟨p,a,b,e1,e2,h,q⟩ hs=>Zy c sl pins s σ H x y v u Q I d e ⟨p,_,_,_,e1,e2,h,at0 _ _,q⟩ hs
theorem F6:IxR X (rL1 X.K):=λc sl pins s σ H x y v u Q I d e ⟨p,a,b,e1,e2,h,q⟩ hs=>Zy c sl pins s σ H x y v u Q I d e ⟨p,_,_,_,e1,e2,h,at1 _ _ _,q⟩ hs
noncomputable def Qk {x:Str}{T:String}{pos:Pos}(hm:X.mg x=none)(a:bootBuiltins x=some (.type T))(hg:Gl X x:=by rfl)(hn:x≠"__name__":=by decide)(hd:(x == ("__debug__":Str))=false:=by decide):PE X (.Name x pos) (tC (.ty T)) :=
 Z3g hg hm a rfl hn hd
theorem Wb:CallR X (.builtin "isinstance") (λxs H Q=>∃ x T t b,xs=[x,.ty T]/\TyOf X.K H x t/\W.kitOne X.K t (.type T)=some b/\Q (.bl b) H):=by
 intro pins s σ H xs us Q I r h;obtain⟨x,T,t,b,rfl,ty,k,q⟩:=h;obtain⟨u,d,rfl,a,c⟩:=Ga r
 cases (show d=Value.type T from c);exact Cf I a ty k λtk=>⟨.bl b,H,I.tok tk,rfl,q⟩
theorem Tm:CallR X (.builtin "isinstance") (λxs H Q=>∃ a ys T b,xs=[.ref a,.ty T]/\SqT X.K H a ys/\W.kitOne X.K (.type "tuple") (.type T)=some b/\Q (.bl b) H):=by
 intro pins s σ H xs us Q I r h;obtain⟨a,ys,T,b,rfl,hs,k,q⟩:=h;obtain⟨u,e,rfl,c,d⟩:=Ga r
 cases (show e=Value.type T from d)
 cases (show u=Value.ref a from c);obtain⟨its,_,tup,_⟩:=I.tuple hs;obtain⟨o,h1,h2,_⟩:=tup;exact zN W.kitx_tuple I.kIn ⟨o,h1,h2⟩ k (λz=>nomatch z) λtk=>⟨.bl b,H,I.tok tk,rfl,q⟩
end
def U1 {T:String}:W.kitOne K (.type T) (.type T)=some true:=by
 unfold W.kitOne;rw[YH ZJ]
def Tf:W.kitOne K (.type "int") (.type "bool")=some false:=by
 show (if (Value.type "int" == Value.type "bool")=true then some true else (if W.kitMeta "bool"=true then (fastBuiltinMro "int").map (·.contains (Value.type "bool")) else none))=some false
 decide +kernel
def Has (P:TU)(w:World)(K:TR)(mg:TB)(base:Heap)(k:Nat)(x:Str)(ps:TF)(sp:Sp)(sr:Bool:=false):Prop :=
 ∃ (f:Addr) (fd:FuncData),FnOk P w K mg base CX0 k f fd ps sp sr/\mg x=some (.ref f)/\W.keepIn K (.ref f)=true/\Binds K fd ps []
def Def (K:TR)(mg:TB)(x:Str)(st:Stmt)(ps:TF):Prop :=
 ∃ (f:Addr) (fd:FuncData),Fun K x x st f fd/\mg x=some (.ref f)/\Binds K fd ps []
def Def.has {P:TU}{k:Nat}{x:Str}(D:Def K mg x st ps)
  (h:∀ (f:Addr) (fd:FuncData),Fun K x x st f fd->FnOk P w K mg base CX0 k f fd ps sp sr):Has P w K mg base k x ps sp sr:=by
 obtain⟨f,fd,F,hm,b⟩:=D;exact⟨f,fd,h f fd F,hm,F.kp,b⟩
section
variable {X:Cx}{k:Nat}{x:Str}{sp:Sp}{es:TL}{t:TA}{p:Pos}
theorem Md (h:Has X.prog X.w X.K X.mg X.base k x ps sp)(hr:Room k X.A sr)(hg:Gl X x)(ha:PA X (e::es) t)(b:(x == ("__debug__":Str))=false:=by decide)
  (d:starEach (e::es) X.env=(false,eval e X.env)::starEach es X.env:=by rfl) (a:(backTo pos (starEach es X.env)).any (·.1)=false:=by rfl) (hc:X.calm=true:=by rfl):PE X (.Call (.Name x p) (e::es) [] pos) (tCall sp [] E0 t):=by
 obtain⟨f,fd,F,hm,hk,c⟩:=h;exact Gr F hr.loose hg hm hk c .nil Gu ha b d a hc
theorem Ry (h:Has X.prog X.w X.K X.mg X.base k x ps sp true)(hr:Room k X.A true)(hg:Gl X x)(ha:PA X (e::es) t)(b:(x == ("__debug__":Str))=false:=by decide)
  (d:starEach (e::es) X.env=(false,eval e X.env)::starEach es X.env:=by rfl) (a:(backTo pos (starEach es X.env)).any (·.1)=false:=by rfl) (hc:X.calm=true:=by rfl):PE X (.Call (.Name x p) (e::es) [] pos) (tCall sp [] E0 t):=by
 obtain⟨f,fd,F,hm,hk,c⟩:=h;exact Gr F hr hg hm hk c .nil Gu ha b d a hc
theorem Zf (h:Has X.prog X.w X.K X.mg X.base k x ps sp)(hr:Room j X.A sr)(ha:PA X (e::es) t)(hg:Gl X x:=by rfl)(hj:k<=j:=by decide)(b:(x == ("__debug__":Str))=false:=by decide)
  (c:starEach (e::es) X.env=(false,eval e X.env)::starEach es X.env:=by rfl) (a:(backTo pos (starEach es X.env)).any (·.1)=false:=by rfl) (hc:X.calm=true:=by rfl):PE X (.Call (.Name x p) (e::es) [] pos) (tCall sp [] E0 t):=Md h (hr.mono hj) hg ha b c a hc
end
section
variable {X:Cx}{t:TS}
inductive tJ (t:TS) (D:Ends) (σ:_L.St) (H:Hp):Prop
 | mk (J:_L.St->Hp->Prop) (zz0:t { D with nx:=J } σ H) (zz1:∀ σ' H',J σ' H'->D.nx σ' H')
theorem Vj (h:PS X st t):PS X st (tJ t):=by
 intro pins s σ H D I ⟨J,a,b⟩;refine thn (h pins s σ H _ I a) λf s' q=>?_
 cases f with
 | next=>obtain⟨σ',H',c,q⟩:=q;exact⟨σ',H',c,b _ _ q⟩
 | brk=>exact q
 | cont=>exact q
 | ret v=>exact q
end
def SameX (a:Addr)(H H':Hp):Prop:=∀ b o,H b=some o->b≠a->H' b=some o
def SameX.refl (a:Addr)(H:Hp):SameX a H H:=λ_ _ h _=>h
def SameX.trans {a:Addr}(x:SameX a H H1)(y:SameX a H1 H2):SameX a H H2:=λb o h n=>y b o (x b o h n) n
def SameX.of {a:Addr}(x:Same H H'):SameX a H H':=λb o h _=>x b o h
theorem SameX.upd (a:Addr)(H:Hp)(o:HO):SameX a H (upd H a o):=λb u h n=>by rw[Ze n];exact h
def Same.new {a:Addr}{o:HO}(h:H a=none):Same H (upd H a o):=λb u e=>by rw[Ze (Zd e h)];exact e
def Zx {a:Addr}(e:Same H H')(h:SqT K H a xs):SqT K H' a xs:=by
 rcases h with (h | ⟨o,h⟩) | h
 ·exact .inl (.inl (e _ _ h))
 ·exact .inl (.inr ⟨o,e _ _ h⟩)
 exact .inr h
def BagAt (H:Hp)(a:Addr)(n:Nat):Prop:=∃ x y:Int,H a=some (.lst [.int x,.int y])/\0<=y/\y<=n
def BagAt.mono {a:Addr}{m n:Nat}(h:BagAt H a m)(k:m<=n):BagAt H a n:=by
 obtain⟨x,y,e,h1,h2⟩:=h;exact⟨x,y,e,h1,J0⟩
def BagAt.same {a:Addr}{n:Nat}(h:BagAt H a n)(x:Same H H'):BagAt H' a n:=by
 obtain⟨p,q,e,r⟩:=h;exact⟨p,q,x _ _ e,r⟩
theorem BagAt.upd {H:Hp}{a l:Addr}{o:HO}{n:Nat}(h:BagAt H a n)(k:a≠l):BagAt (_L.upd H l o) a n:=by
 obtain⟨p,q,e,r⟩:=h;exact⟨p,q,by rw[Ze k];exact e,r⟩
theorem BagAt.lst {H:Hp}{a:Addr}{n:Nat}(h:BagAt H a n):∃ ys,H a=some (.lst ys):=by
 obtain⟨x,y,e,_⟩:=h;exact⟨_,e⟩
noncomputable def Zn {x:Str}{sl:Array (Option Value)}{kV:Value}(X:K.In h)(G:h.Ns mainGlobals mg)
  (a:W.nsIn K mainGlobals x=some (some (.ref f)):=by k_is) (l:K.lookup f=some ⟨oc,od,.func (W.fnOf x x (defArgs st) (defBody st) (defScope st) .none kV dc pm an cd ct),sl⟩:=by k_is) (c:W.codeIn K cd x=true:=by k_is) (k:W.keepIn K (.ref f)=true:=by k_is)
  (b:∀ (kV doc pm:Value) (an:TQ) (cdv ct:Value) (us:TH),us.length=ps.length->bindArgs (W.fnOf x x (defArgs st) (defBody st) (defScope st) .none kV doc pm an cdv ct) ⟨us,[]⟩=pure (ps.zip us):=by intro _ _ _ _ _ _ us h;(iterate 9 (try (rcases us with _|⟨_,us⟩;·cases h)));rcases us with _|⟨_,us⟩<;>first|rfl|cases h):Def K mg x st ps :=
 ⟨f,_,Up l c k,Y1R X G a,(Up l c k).binds b⟩
theorem Ur (env:Env):∀ (ns:List (Str × NameKind)) (cs:List (Str × Addr)),(∀ y∈ns,y.2=.free->∃ c,env.cells.lookup y.1=some c)->(∀ y c,cs.lookup y=some c->env.cells.lookup y=some c) →
  ∃ cl,(forIn ns cs (λ(x:Str × NameKind) (r:List (Str × Addr))=>(if (x.2 == .free)=true then do let a <-cellOf env x.1;pure (ForInStep.yield ((x.1,a)::r)) else pure (ForInStep.yield r):Sem (ForInStep (List (Str × Addr))))))=pure cl ∧
   (∀ y c,cl.lookup y=some c->env.cells.lookup y=some c)/\(∀ y c,cs.lookup y=some c->∃ c',cl.lookup y=some c')/\∀ y∈ns,y.2=.free->∃ c,cl.lookup y.1=some c
 | [],cs,_,hs=>⟨cs,ZJ,hs,λy c e=>⟨c,e⟩,λy b=>nomatch b⟩
 | (n,k)::r,cs,hf,hs=>by
  have hr:∀ y∈r,y.2=.free->∃ c,env.cells.lookup y.1=some c:=λy b=>hf y (YL _ b);by_cases hk:k=.free
  ·subst hk;obtain⟨c,hc⟩:=hf (n,.free) YV rfl;have h:env.cells.lookup n=some c:=hc;have i:∀ y d,((n,c)::cs).lookup y=some d->env.cells.lookup y=some d:=λy d e=>by
    by_cases b:y=n
    ·subst b;simp only [XZ,zd] at e
     cases e;exact h
    have g:(y == n)=false:=JI.mpr b;simp only [XZ,g] at e;exact hs y d e
   obtain⟨cl,h1,h2,h3,h4⟩:=Ur env r ((n,c)::cs) hr i;have up:∃ c',cl.lookup n=some c':=h3 n c (by simp[XZ]);refine⟨cl,?_,h2,λy d e=>?_,λy b f=>?_⟩
   ·have e:cellOf env n=pure c:=by unfold cellOf;rw[h]
    simp only [jm,zd,Y0y,e];exact h1
   ·by_cases b:y=n
    ·subst b;exact up
    have g:(y == n)=false:=JI.mpr b;exact h3 y d (by simp only [XZ,g];exact e)
   rcases YT.mp b with z | z
   ·subst z;exact up
   exact h4 y z f
  obtain⟨cl,h1,h2,h3,h4⟩:=Ur env r cs hr hs;refine⟨cl,?_,h2,h3,λy b f=>?_⟩
  ·have g:(k == NameKind.free)=false:=JI.mpr hk;simp only [jm,g,XW,qV];exact h1
  rcases YT.mp b with z | z
  ·subst z;exact absurd f hk
  exact h4 y z f
def Uf {env:Env}(hf:∀ y∈scope.names,y.2=.free->∃ c,env.cells.lookup y.1=some c) :
  ∃ cl,closureFor scope env=pure cl/\(∀ y c,cl.lookup y=some c->env.cells.lookup y=some c)/\∀ y∈scope.names,y.2=.free->∃ c,cl.lookup y.1=some c:=by
 obtain⟨cl,h1,h2,_,h4⟩:=Ur env scope.names [] hf (λy c e=>by simp at e);refine⟨cl,?_,h2,h4⟩;have e:closureFor scope env=((forIn scope.names ([]:List (Str × Addr)) (λ(x:Str × NameKind) (r:List (Str × Addr))=>(if (x.2 == .free)=true then do let a <-cellOf env x.1;pure (ForInStep.yield ((x.1,a)::r)) else pure (ForInStep.yield r):Sem (ForInStep (List (Str × Addr)))))) >>= λr=>pure r):=by
  unfold closureFor
  congr 1
 rw[e,h1];rfl
def Jm {l:List (Str × NameKind)}{x:Str}{q:NameKind}(h:l.lookup x=some q):(x,q)∈l:=by
 obtain⟨a,b,e,_⟩:=List.lookup_eq_some_iff.mp h;rw[e];simp
theorem Uz {env:Env}(hf:env.scope.kind=.function):∀ {names:List (Str × NameKind)} {x:Str},names.lookup x=some .free->env.kindOf x=some .cell →
  (names.map λ(n,k)=>if (k == .free && env.scope.kind == .function && env.kindOf n == some .cell) then (n,NameKind.cell) else (n,k)).lookup x=some .cell
 | [],_,h,_=>by simp at h
 | (n,k)::r,x,h,hx=>by
  by_cases e:x=n
  ·subst e;simp only [XZ,zd] at h
   cases h;simp[XZ,hf,hx]
  have a:(x == n)=false:=JI.mpr e;simp only [XZ,a] at h;have b:=Uz hf h hx;show List.lookup x ((if (k == .free && env.scope.kind == .function && env.kindOf n == some .cell)=true then (n,NameKind.cell) else (n,k))::_)=_;by_cases c:(k == .free && env.scope.kind == .function && env.kindOf n == some .cell)=true
  ·rw[YH c];simp only [XZ,a];exact b
  rw[YF c];simp only [XZ,a];exact b
theorem Vi {env:Env}:∀ {names:List (Str × NameKind)} {x:Str} {q:NameKind},(q=.cell \/ q=.free) →
  (names.map λ(n,k)=>if (k == .free && env.scope.kind == .function && env.kindOf n == some .cell) then (n,NameKind.cell) else (n,k)).lookup x=some q →
  ∃ y∈names,y.1=x/\(y.2=.free \/ y.2=.cell)
 | [],_,_,_,h=>by simp at h
 | (n,k)::r,x,q,hq,h=>by
  by_cases e:x=n
  ·subst e;refine⟨(x,k),YV,rfl,?_⟩;replace h:List.lookup x ((if (k == .free && env.scope.kind == .function && env.kindOf x == some .cell)=true then (x,NameKind.cell) else (x,k))::_)=some q:=h;by_cases c:(k == .free && env.scope.kind == .function && env.kindOf x == some .cell)=true
   ·have:k=.free:=by
     rw[zc,zc] at c;exact zu.mp c.1.1
    exact .inl this
   rw[YF c] at h;simp only [XZ,zd] at h
   cases h;rcases hq with z | z
   ·exact .inr z
   exact .inl z
  have a:(x == n)=false:=JI.mpr e;replace h:List.lookup x ((if (k == .free && env.scope.kind == .function && env.kindOf n == some .cell)=true then (n,NameKind.cell) else (n,k))::_)=some q:=h;have h':(r.map λ(n,k)=>if (k == .free && env.scope.kind == .function && env.kindOf n == some .cell) then (n,NameKind.cell) else (n,k)).lookup x=some q:=by
   by_cases c:(k == .free && env.scope.kind == .function && env.kindOf n == some .cell)=true
   ·rw[YH c] at h;simp only [XZ,a] at h;exact h
   rw[YF c] at h;simp only [XZ,a] at h;exact h
  obtain⟨y,b,z⟩:=Vi hq h';exact⟨y,YL _ b,z⟩
section
variable {R:Result->Shared->Prop}
abbrev noX:Value->Shared->Prop:=λ_ _=>False
def Cu {e tg d:Expr}{g:TL}{scope:Scope}{pos:Pos}{it acc:Value}{env:Env}(J:Nat->Shared->Prop)
  (i:∀ n s,J n s->wpAny (model prog w) A (pyNext it) (λr s1=>match r with
   | none=>R (.ok .next) s1
   | some v=>wpAny (model prog w) A (letOwnedTupleGo tg it v) (λ_ s2=>wpAny (model prog w) A (assign tg env v) (λ_ l =>
     wpAny (model prog w) A (forIn g true λc r=>if r=true then do let ok <-isTrue c env (eval c env);pure (ForInStep.yield ok) else pure (ForInStep.yield r)) (λok j =>
      if ok=true then wpAny (model prog w) A (eval e env) (λx k=>wpAny (model prog w) A (call (.builtin "list.append") [acc,x]) (λ_ o=>∃ m,m<n/\J m o) noX k) noX j
      else ∃ m,m<n/\J m j) noX l) noX s2) noX s1) noX s)
  (n:Nat) (h:J n s):codeAny (model prog w) A (.compLoop (.ListComp e [⟨tg,d,g,0⟩] scope pos) 0 it acc env) R s:=by
 have no:∀ {Z:TC} (a:Value) (b:Shared),noX a b->Z a b:=λ_ _ f=>f.elim;refine codeAny_loop rfl J (λn s q=>?_) n h;show wpAny _ A ((compTurn (.ListComp e [⟨tg,d,g,0⟩] scope pos) 0 it acc env).onRaise (λx=>do noteFrame x env;theTreesLotGoes x)) _ _ s;refine wpAny_noted ?_;rw[compTurn_list];refine YA (Y0X (YA (zt (i n s q) (λr s1 h1=>?_) no)))
 cases r with
 | none=>exact YK h1
 | some v =>
  refine YA (zt h1 (λ_ s2 h2=>YA (zt h2 (λ_ l h3=>YA (zt h3 (λok j h4=>?_) no)) no)) no)
  cases ok with
  | false=>exact YK ⟨rfl,h4⟩
  | true=>exact YA (YA (zt h4 (λx k p=>YA (zt p (λ_ o t=>YK (YK ⟨rfl,t⟩)) no)) no))
end
noncomputable def cellsO (ox:Option Str)(n:Addr)(cl:List (Str × Addr)):List (Str × Addr):=ox.elim cl λx=>(x,n)::cl
noncomputable def compCx (X:Cx)(N:TF)(scope:Scope)(ox:Option Str)(cl:List (Str × Addr))(C:Addr)(fp:TJ)(s:Shared)(H:Hp):Cx where
 prog:=X.prog
 w:=X.w
 K:=X.K
 mg:=X.mg
 base:=X.base
 A:=X.A
 N:=N
 s₀:=s
 H₀:=H
 env:=compEnvC scope (cellsO ox (C+1) cl) C X.env
 outer:=X.stack
 stack:=X.stack
 ex:=fp
 fn:=λy=>ox.elim false λx=>y == x
 calm:=true
 pn:=X.pn
 xe:=noX
noncomputable def comp0 (k:Nat)(fv:List Nat)(σ:_L.St):_L.St:=List.replicate k none++fv.map λj=>σ.getD j none
def PTs (X:Cx)(a:TL)(t:TT):Prop :=
 ∀ (pins:TD) (s:Shared) (σ:_L.St) (H:Hp) (Q:Bool->Hp->Prop),Inv X pins σ H s->t σ H Q →
  wX X (forIn a true λc r=>if r=true then do let ok <-isTrue c X.env (eval c X.env);pure (ForInStep.yield ok) else pure (ForInStep.yield r)) (TP X pins σ Q) X.xe s
def tYes:TT:=λ_ H Q=>Q true H
theorem Y8:PTs X [] tYes:=λ_ _ _ H _ I h=>wpAny_tests_nil ⟨H,I,h⟩
theorem Xs {c:Expr}{t:TT}(h:PT X c t):PTs X [c] t:=λpins s σ H Q I q=>wpAny_tests_one (h pins s σ H Q I q)
def Weaker (b a:_L.St):Prop:=a.length=b.length/\∀ (i:Nat) (v:V),a[i]?=some (some v)->b[i]?=some (some v)
def tComp (f:TI)(g:TG)(tt:TT)(te:TE)(k:Nat)(fv:List Nat):TE:=λσ H Q=>f σ H λJ H1=>∀ d,H1 d=none->∃ (n:Nat) (W:Nat->List V->Hp->Prop),n<=sizeLine/\W 0 [] (upd H1 d (.lst [])) ∧
 (∀ i ys H2,i<n->W i ys H2->H2 d=some (.lst ys)->J.go i H2/\∀ x e,J.yld i H2 x e->g x (comp0 k fv σ) e λa h=>tt a h λb H5 =>
  if b=true then te a H5 λy c=>c d=some (.lst ys)/\W (i+1) (ys++[y]) (upd c d (.lst (ys++[y]))) else H5 d=some (.lst ys)/\W (i+1) ys H5) ∧
 (∀ ys H2,W n ys H2->H2 d=some (.lst ys)->J.stop n H2/\Q (.ref d) H2)
def Z4s {P:TU}(x:HOk P w H h)(hn:H C=none)(k:∀ b,b≠C->h'.get? b=h.get? b):HOk P w H h':=λa o e =>
 (x a o e).stay (λb u c q=>by
  rw[k b]
  ·exact q
  rintro rfl;rcases c with rfl | c
  ·rw[hn] at e;cases e
  rw[hn] at c;cases c) (λ_ q=>q) λ_ _ q=>q
def Z5s {fs ex:TJ}{h1 h2:Heap}(u:Un fs ex H H' h h1)(a:h.get? C=none)(k:∀ b,b≠C->h2.get? b=h1.get? b):Un fs ex H H' h h2:=by
 have ne:∀ b o,h.get? b=some o->b≠C:=λb o e z=>by rw[z,a] at e;cases e
 exact⟨λb o e n hf hx=>by rw[k b (ne b o e)];exact u.keep b o e n hf hx,λb o e n hf hx=>by rw[k b (ne b o e)];exact u.slot b o e n hf hx,u.free,λb o e hx=>by rw[k b (ne b o e)];exact u.there b o e hx,u.tups,u.frzs,u.tbls⟩
def Z56:∀ (names:List (Str × NameKind)) (ox:Option Str) (n:Nat) (acc:List (Str × Addr)) (h:Heap),(names.filter λy=>y.2 == .cell)=ox.toList.map (λx=>(x,.cell))->cellsFrom n names acc=cellsO ox n acc/\pushCells h names=ox.elim h λ_=>h.push { cls:=.type "cell",data:=.cell none }:=by
 intro names
 induction names with
 | nil =>
  intro ox n acc h e
  cases ox with
  | none=>exact⟨rfl,rfl⟩
  | some x=>cases e
 | cons y r b =>
  obtain⟨m,k⟩:=y;intro ox n acc h e;by_cases hk:(k == NameKind.cell)=true
  ·rw[List.filter_cons_of_pos (a:=(m,k)) (l:=r) (p:=λy:Str × NameKind=>y.2 == .cell) hk] at e
   cases ox with
   | none=>cases e
   | some x =>
    injection e with e1 e2
    cases e1;unfold cellsFrom pushCells;rw[YH hk,YH hk];exact b none _ _ _ e2
  rw[List.filter_cons_of_neg (a:=(m,k)) (l:=r) (p:=λy:Str × NameKind=>y.2 == .cell) hk] at e;unfold cellsFrom pushCells;rw[YF hk,YF hk];exact b ox n acc h e
def Z80 {M:Model}{A:Around}{E:TC}{c:Addr}{cl:List (Str × Addr)}{d:TQ}{code:Value}{outer:Env}{a:Addr}{Q:Env->Shared->Prop}{ox:Option Str}
  (f:(scope.names.filter λy=>y.2 == .cell)=ox.toList.map (λx=>(x,.cell)))
  (j:∀ h',h'.Ns s.heap.objs.size (λ_=>none)->(∀ x,ox=some x->h'.IsCell (s.heap.objs.size+1) none)->(∀ b o,s.heap.get? b=some o->h'.get? b=some o)->Q (newEnv scope s.heap.objs.size c (cellsO ox (s.heap.objs.size+1) cl) qual d code (some outer) a) { s with heap:=h' }) :
  wpAny M A (newFunctionEnv scope c cl [] qual d code (some outer) a) Q E s:=by
 simp only [newFunctionEnv,Y1L,Y0y];refine YA (wpAny_alloc ?_);refine YA (wpAny_layCells _ (λname kind g=>by cases h:kind == NameKind.cell <;> simp[h]) _ _ _ _ ?_);have e:=JT s.heap { cls:=.type "dict",data:=.dict #[] };obtain⟨k,i⟩:=Z56 scope.names ox (s.heap.objs.size+1) cl (s.heap.push { cls:=.type "dict",data:=.dict #[] }) f;rw[show ({ s with heap:=s.heap.push { cls:=.type "dict",data:=.dict #[] } }:Shared).heap.objs.size=s.heap.objs.size+1 from e,k,i];refine YA ?_;rw[Y0E];refine YK (YK (j _ ?_ ?_ ?_))
 ·cases ox
  ·exact Heap.Ns.new s.heap (.type "dict")
  exact (Heap.Ns.new s.heap (.type "dict")).keeps λb o e=>YC _ e
 ·rintro x rfl;rw[<-e];exact⟨_,YS _ rfl,rfl⟩
 intro b o q
 cases ox
 ·exact YC _ q
 exact YC _ (YC _ q)
def K6 {ox:Option Str}{n:Addr}{cl:List (Str × Addr)}{y:Str}{c:Addr}(h:(cellsO ox n cl).lookup y=some c):(ox=some y/\c=n) \/ (ox≠some y/\cl.lookup y=some c):=by
 cases ox with
 | none=>exact .inr ⟨nofun,h⟩
 | some x =>
  replace h:((x,n)::cl).lookup y=some c:=h;rw[XZ] at h
  cases a:y == x with
  | true=>rw[a] at h;cases h;exact .inl ⟨by rw[zu.mp a],rfl⟩
  | false=>rw[a] at h;exact .inr ⟨λz=>JI.mp a (YU z).symm,h⟩
def Z85 {ox:Option Str}{n:Addr}{cl:List (Str × Addr)}{y:Str}(h:ox≠some y):(cellsO ox n cl).lookup y=cl.lookup y:=by
 cases ox with
 | none=>rfl
 | some x =>
  show ((x,n)::cl).lookup y=_;rw[XZ,JI.mpr λz=>h (by rw[z])]
section
variable {X:Cx}{σ:_L.St}{H:Hp}{N:TF}{cl:List (Str × Addr)}{fp:TJ}{k:Nat}{fv:List Nat}{ox:Option Str}
theorem Z55 (I:Inv X pins σ H s)(hc:X.calm=true)(hf:∀ b∈fp,FpOk X pins H b)(hl:∀ b∈fp,b<s.heap.objs.size)(g:scope.kind=.function)(i:(scope.names.filter λy=>y.2 == .cell)=ox.toList.map (λx=>(x,.cell)))
  (h1:∀ y c,cl.lookup y=some c->X.env.cells.lookup y=some c) (h2:∀ y∈scope.names,y.2=.free->∃ c,cl.lookup y.1=some c):(compCx X N scope ox cl s.heap.objs.size fp s H).Ok where
 mod:=I.ok.mod
 kind:=g
 glob:=I.ok.glob
 blt:=I.ok.blt
 above:=YJ _
 inj:=λy z c a b=>by
  have h:∀ {n:Str} {d:Addr},cl.lookup n=some d->d<s.heap.objs.size:=λ{n d} e=>by
   obtain⟨v,w⟩:=I.cell n d (h1 n d e);exact w.lt
  rcases K6 a with ⟨A,p⟩ | ⟨B,t⟩
  ·rcases K6 b with ⟨u,_⟩ | ⟨nz,k⟩
   ·exact YU (A.symm.trans u)
   have:=h k;rw[p] at this;exact absurd this (Y0F.mpr (zR _))
  rcases K6 b with ⟨u,p⟩ | ⟨nz,k⟩
  ·have:=h t;rw[p] at this;exact absurd this (Y0F.mpr (zR _))
  exact I.ok.inj y z c (h1 y c t) (h1 z c k)
 has:=λz hz=>by
  have:∃ y∈scope.names,y.1=z/\(y.2=.free \/ y.2=.cell):=by
   rcases hz with q | q
   ·exact Vi (.inl rfl) q
   exact Vi (.inr rfl) q
  obtain⟨y,r,e,q⟩:=this;by_cases hx:ox=some z
  ·refine⟨s.heap.objs.size+1,?_⟩;show (cellsO ox _ cl).lookup z=_;rw[hx];show ((z,_)::cl).lookup z=_;rw[XZ,zd]
  rcases q with q | q
  ·obtain⟨c,j⟩:=h2 y r q;exact⟨c,(Z85 hx).trans (by rw[<-e];exact j)⟩
  have m:y∈scope.names.filter λy=>y.2 == .cell:=XE.mpr ⟨r,by rw[q];rfl⟩;rw[i] at m;obtain⟨x,l,rfl⟩:=YN.mp m;exact absurd ((Option.mem_toList.mp l).trans (by rw[<-e])) hx
 cab:=λy c z e=>by
  rcases K6 e with ⟨_,rfl⟩ | ⟨n,_⟩
  ·exact zR _
  cases ox with
  | none=>cases z
  | some x=>exact absurd (congrArg some (zu.mp z).symm) n
 hd:=λ_=>I.ok.hd hc
 frames:=I.ok.frames
 stk:=.inl rfl
 exf:=λb f=>⟨XM (hl b f),λy c e=>by
  rcases K6 e with ⟨_,rfl⟩ | ⟨_,e⟩
  ·exact λz=>absurd (hl b f) (Y0F.mpr (by rw[<-z];exact zR _))
  exact (hf b f).2.2.2.2.1 y c (h1 y c e)⟩
 bs:=I.bs
 bsz:=YR I.ok.bsz I.sz
 noex:=λb o e f=>by
  rcases (hf b f).2.2.2.1 with z | z
  ·exact I.ok.noex b o e z
  exact absurd (YX (YQ (I.ok.bs b o e).1) z) (GB _)
 exfs:=λb f z=>(YT.mp (I.stkSub b z)).elim (λe=>(hf b f).2.1 e) λe=>(hf b f).2.2.1 e
 funs:=I.stack
 frf:=I.stkFree
 seen:=I.ok.seen
 dpt:=I.ok.dpt
theorem Z2f (I:Inv X pins σ H s)(hc:X.calm=true)(hf:∀ b∈fp,FpOk X pins H b)(hl:∀ b∈fp,b<s.heap.objs.size)(f:scope.kind=.function)(g:(scope.names.filter λy=>y.2 == .cell)=ox.toList.map (λx=>(x,.cell)))(hx:∀ y∈N.drop k,ox≠some y)
  (h1:∀ y c,cl.lookup y=some c->X.env.cells.lookup y=some c) (h2:∀ y∈scope.names,y.2=.free->∃ c,cl.lookup y.1=some c)
  (hN:N.length=k+fv.length) (w:fv.map (λj=>X.N[j]?)=(N.drop k).map some) (hk:(N.drop k).map X.env.kindOf=(N.drop k).map λ_=>some .cell) (A:∀ y∈N.drop k,scope.names.lookup y=some .free)
  {h':Heap} {tk:Nat} (hn:h'.Ns s.heap.objs.size λ_=>none) (B:∀ x,ox=some x->h'.IsCell (s.heap.objs.size+1) none) (h:∀ b o,s.heap.get? b=some o->h'.get? b=some o) :
  Inv (compCx X N scope ox cl s.heap.objs.size fp s H) [] (comp0 k fv σ) H { s with heap:=h',toks:=tk } where
 ok:=Z55 I hc hf hl f g h1 h2
 os:=rfl
 bare:=I.bare
 base:=Un.kept h
 loc:=⟨_,hn,λi y v e1 e2 e3=>by
  have M:k<=i:=by
   apply Nat.le_of_not_lt;intro z;have:(comp0 k fv σ)[i]?=some none:=by
    unfold comp0;rw[JO (by simpa using z)];simp[z]
   rw[this] at e2
   cases e2
  obtain⟨j,rfl⟩:∃ j,i=k+j:=⟨i - k,J0⟩;have d:(fv.map λj=>σ.getD j none)[j]?=some (some v):=by
   have:(comp0 k fv σ)[k+j]?=(fv.map λj=>σ.getD j none)[j]?:=by
    unfold comp0;rw[JM ZJ];simp
   rw[<-this];exact e2
  rw[YI] at d
  cases hj:fv[j]? with
  | none=>rw[hj] at d;cases d
  | some m =>
   rw[hj] at d;have r:σ.getD m none=some v:=YU d;have C:(N.drop k)[j]?=some y:=by rw[List.getElem?_drop];exact e1
   have J:X.N[m]?=some y:=by
    have a:=congrArg (λl=>l[j]?) w;simp only [YI,hj,C,jn] at a;exact YU a
   have t:X.env.kindOf y=some .cell:=by
    have a:=congrArg (λl=>l[j]?) hk;simp only [YI,C,jn] at a;exact YU a
   have L:σ[m]?=some (some v):=by
    cases q:σ[m]? with
    | none=>rw[List.getD,q] at r;cases r
    | some o=>rw[List.getD,q] at r;rw[show o=some v from r]
   obtain⟨O,G,D⟩:=I.loc;obtain⟨u,ru,lk⟩:=D m y v J L (.inr (.inl t));refine⟨u,ru,?_⟩;rcases lk with ⟨z,_⟩ | ⟨_,c,hcc,K⟩
   ·rw[t] at z;cases z
   have mem:y∈N.drop k:=YD C;have E:=A y mem;obtain⟨c',n⟩:=h2 (y,.free) (Jm E) rfl;have F:=h1 y c' n;rw[hcc] at F
   cases F;refine .inr ⟨.inl (Uz I.ok.kind E t),c,(Z85 (hx y mem)).trans n,?_⟩;obtain⟨o,ho,hd⟩:=K;exact⟨o,h _ _ ho,hd⟩⟩
 cell:=λy c e=>by
  rcases K6 e with ⟨z,rfl⟩ | ⟨_,e⟩
  ·exact⟨_,B y z⟩
  obtain⟨v,o,ho,hd⟩:=I.cell y c (h1 y c e);exact⟨v,o,h _ _ ho,hd⟩
 free:=I.hok.fresh (YJ _)
 freeC:=λy c e=>by
  rcases K6 e with ⟨_,rfl⟩ | ⟨_,e⟩
  ·exact I.hok.fresh (zR _)
  exact I.freeC y c (h1 y c e)
 pin:=λp hp=>by
  obtain⟨a1,a2,a3,a4,a5⟩:=I.pin p (XG _ ((XN.mp hp).elim id λz=>nomatch z));exact⟨h _ _ a1,a2,XM (YQ a1),λz=>(YT.mp (I.stkSub p.1 z)).elim a3 a4,a5⟩
 hok:=I.hok.kept h
 len:=by
  show (comp0 k fv σ).length=N.length;unfold comp0;simp[hN]
end
section
variable {X:Cx}
def Po {a4 G tg:Expr}{U:TL}{scope:Scope}{pos:Pos}{g:TG}{tt:TT}{te:TE}{N:TF}{k:Nat}{fv:List Nat}{cl:List (Str × Addr)}{ox:Option Str}
  {pins:TD} {σ:_L.St} {H:Hp} {s:Shared} {it:Addr} {fp:TJ} {tn:Nat->Heap->Prop} {J:It} {Q:VK} {RR:Value->Addr->Result->Shared->Prop} {E:TC}
  (hc:X.calm=true) (hg:∀ cl C fp s H,PG (compCx X N scope ox cl C fp s H) tg g) (ht:∀ cl C fp s H,PTs (compCx X N scope ox cl C fp s H) U tt) (he:∀ cl C fp s H,PE (compCx X N scope ox cl C fp s H) a4 te)
  (hw:∀ r x H Q,g x (List.replicate k none++r) H Q->g x (List.replicate k none++r) H λl H4=>Q l H4/\Weaker l (List.replicate k none++r))
  (hN:N.length=k+fv.length) (d5:fv.map (λj=>X.N[j]?)=(N.drop k).map some) (hk:(N.drop k).map X.env.kindOf=(N.drop k).map λ_=>some .cell) (c2:∀ y∈N.drop k,scope.names.lookup y=some .free)
  (L:(scope.names.filter λy=>y.2 == .cell)=ox.toList.map (λx=>(x,.cell))) (d3:∀ y∈N.drop k,ox≠some y) (Z:scope.kind=.function) (h1:∀ y c,cl.lookup y=some c->X.env.cells.lookup y=some c) (h2:∀ y∈scope.names,y.2=.free->∃ c,cl.lookup y.1=some c)
  (I:Inv X pins σ H s) (T:Turn X.prog X.w X.K tg J fp it tn) (st:tn 0 s.heap) (f:∀ b∈fp,FpOk X pins H b)
  (body:∀ d,H d=none->∃ (n:Nat) (W:Nat->List V->Hp->Prop),n<=sizeLine/\W 0 [] (upd H d (.lst [])) ∧
   (∀ i ys H2,i<n->W i ys H2->H2 d=some (.lst ys)->J.go i H2/\∀ x H3,J.yld i H2 x H3->g x (comp0 k fv σ) H3 λl H4=>tt l H4 λb H5 =>
    if b=true then te l H5 λy H6=>H6 d=some (.lst ys)/\W (i+1) (ys++[y]) (upd H6 d (.lst (ys++[y]))) else H5 d=some (.lst ys)/\W (i+1) ys H5) ∧
   (∀ ys H2,W n ys H2->H2 d=some (.lst ys)->J.stop n H2/\Q (.ref d) H2))
  (hR:∀ (D C:Addr) (H':Hp) (s':Shared),(∃ m,s'.heap.Ns C m)->FpOk X pins H' C->Q (.ref D) H'->(∀ h',Heap.SameBut C s'.heap h'->Inv X pins σ H' { s' with heap:=h' })->RR (.ref D) C (.ok .next) s') :
  wX X (newList []) (λacc h=>wX X (newFunctionEnv scope X.env.globals cl [] X.env.qual none .none (some X.env)) (λP s4 =>
   codeAny (model X.prog X.w) X.A (.compStart (.ListComp a4 [⟨tg,G,U,0⟩] scope pos) 0 (.ref it) acc { P with scope:=relabel scope X.env }) (RR acc P.locals) s4) E h) E s:=by
 refine jx ?_;have I3:=I.lnew (its:=[]) (ys:=[]) (t':=s.toks) .nil (JK _);have fresh:=I.fresh;generalize hD:s.heap.objs.size=D at I3 fresh ⊢;have B:∀ b∈fp,FpOk X pins (upd H D (.lst [])) b:=λb a=>by
  refine⟨?_,(f b a).2⟩;have c4:b≠D:=by
   obtain⟨o,e,_⟩:=T.obj 0 _ st b a;rw[<-hD];exact XM (YQ e)
  rw[Ze c4];exact (f b a).1
 have c8:∀ b o,s.heap.get? b=some o->(s.heap.push { cls:=.type "list",data:=.seq ([]:TH).toArray }).get? b=some o:=λb o e=>YC _ e;have a0:tn 0 (s.heap.push { cls:=.type "list",data:=.seq ([]:TH).toArray }):=T.keep 0 _ _ st λb _ o e=>c8 b o e;have F:∀ b∈fp,b<(s.heap.push { cls:=.type "list",data:=.seq ([]:TH).toArray }).objs.size:=λb a=>by
  obtain⟨o,e,_⟩:=T.obj 0 _ a0 b a;exact YQ e
 obtain⟨n,W,hn,w0,step,c5⟩:=body D fresh;generalize b6:({ s with heap:=s.heap.push { cls:=.type "list",data:=.seq ([]:TH).toArray },toks:=s.toks }:Shared)=h at I3;have c6:h.heap=s.heap.push { cls:=.type "list",data:=.seq ([]:TH).toArray }:=by rw[<-b6]
 rw[<-c6] at a0 F;refine Z80 L (λh4 d4 c3 a5=>?_);have I4:=Z2f (N:=N) (tk:=h.toks) I3 hc B F Z L d3 h1 h2 hN d5 hk c2 (h':=h4) d4 c3 a5;have b2:tn 0 h4:=T.keep 0 _ _ a0 λb _ o e=>a5 b o e;have b0:h.heap.get? h.heap.objs.size=none:=by
  cases e:h.heap.get? h.heap.objs.size with
  | none=>rfl
  | some o=>exact absurd (YQ e) (GB _)
 generalize hC:h.heap.objs.size=C at I4 b0 ⊢;have v:∀ {H':Hp} {ps:TD},(∀ b∈fp,H' b=none)->(∀ p∈ps,p.1 ∉ fp)->∀ b∈fp,FpOk (compCx X N scope ox cl C fp h (upd H D (.lst []))) ps H' b:=λ{H' ps} hn hp b a =>
  ⟨hn b a,by rw[<-hC];exact XM (F b a),λz=>(YT.mp (I3.stkSub b z)).elim (λe=>(B b a).2.1 e) λe=>(B b a).2.2.1 e,.inl a,λx c e=>(K6 e).elim (λz q=>absurd (F b a) (Y0F.mpr (by rw[<-q,z.2,<-hC];exact zR _))) (λz=>(B b a).2.2.2.2.1 x c (h1 x c z.2)),λp q z=>(XN.mp q).elim (λq=>(B b a).2.2.2.2.2 p (XG _ q) z) λq=>hp p q (by rw[z];exact a)⟩
 have M:∀ s4:Shared,s4={ h with heap:=h4,toks:=h.toks } →
   codeAny (model X.prog X.w) X.A (.compLoop (.ListComp a4 [⟨tg,G,U,0⟩] scope pos) 0 (.ref it) (.ref D) (compEnvC scope (cellsO ox (C+1) cl) C X.env)) (RR (.ref D) C) s4:=by
  rintro s4 rfl;refine Cu (λm s'=>∃ i ys H',Inv (compCx X N scope ox cl C fp h (upd H D (.lst []))) [] (comp0 k fv σ) H' s'/\tn i s'.heap/\(∀ b∈fp,H' b=none)/\i<=n/\m=n+1 - i/\ys.length<=i/\H' D=some (.lst ys)/\W i ys H') ?_ (n+1)
   ⟨0,[],_,I4,b2,λb a=>(B b a).1,JK _,rfl,YJ _,Zc,w0⟩
  rintro m s5 ⟨i,ys,H5,I5,b3,a9,hi,rfl,b4,b5,w5⟩;by_cases t:i<n
  ·obtain⟨go,d2⟩:=step i ys H5 t w5 b5;refine thn (T.item (compCx X N scope ox cl C fp h (upd H D (.lst []))) rfl rfl rfl rfl i [] s5 _ H5 noX I5 (v a9 ZJ) b3 go) λr s6 ⟨u,er,h6⟩=>?_;subst er;refine thn h6 λ_ s7 ⟨x,H7,I7,r7,y7,S,c1⟩=>?_;have d1:=I7.pinned (v c1 ZJ) (T.obj _ _ S);refine thn (hg cl C fp h _ _ s7 _ H7 x u _ d1 r7 (hw _ x H7 _ (d2 x H7 y7))) λ_ s8 ⟨Y,H8,I8,q8,wk⟩=>?_;refine thn (ht cl C fp h _ _ s8 Y H8 _ I8 q8) λok s9 ⟨H9,I9,q9⟩=>?_;have O:∀ {σ':_L.St} {H':Hp} {s':Shared},Inv (compCx X N scope ox cl C fp h (upd H D (.lst []))) ([]++pinsAt fp s7.heap) σ' H' s'->Weaker σ' (comp0 k fv σ) →
     Inv (compCx X N scope ox cl C fp h (upd H D (.lst []))) [] (comp0 k fv σ) H' s'/\tn (i+1) s'.heap/\∀ b∈fp,H' b=none:=λ{σ' H' s'} I' a8=>by
    refine⟨I'.unpinned.weak a8.1 a8.2,T.keep _ _ _ S λb a o e=>(I'.pin (b,o) (YW _ (YW _ (Vm a e)))).1,λb a=>?_⟩;obtain⟨o,e,_⟩:=T.obj _ _ S b a;exact (I'.pin (b,o) (YW _ (YW _ (Vm a e)))).2.1
   cases ok with
   | false =>
    rw[YF YO] at q9 ⊢;obtain⟨b8,w9⟩:=q9;obtain⟨a1,a2,a3⟩:=O I9 wk;exact⟨n+1 - (i+1),J0,i+1,ys,H9,a1,a2,a3,t,rfl,Nat.le_succ_of_le b4,b8,w9⟩
   | true =>
    rw[YH rfl] at q9 ⊢;refine thn (he cl C fp h _ _ s9 Y H9 _ I9 q9) λy d6 ⟨yv,a6,b9,c7,b1,c0⟩=>?_;refine thn (Ys _ d6 Y a6 (.ref D) [yv] (.ref D) [y] (λ_ H'=>H'=upd a6 D (.lst (ys++[yv]))) b9 rfl (.cons c7 .nil) ⟨D,ys,yv,rfl,rfl,b1,JD b4 (YX t hn),rfl⟩) λ_ d7 ⟨_,d8,c9,_,d0⟩=>?_;subst d0;obtain⟨a1,a2,a3⟩:=O c9 wk;exact⟨n+1 - (i+1),J0,i+1,ys++[yv],_,a1,a2,a3,t,rfl,by rw[YY];show ys.length+1<=i+1;omega,Zc,c0⟩
  obtain rfl:i=n:=Nat.le_antisymm hi (Y0F.mp t);obtain⟨stop,q⟩:=c5 ys H5 w5 b5;refine thn (T.done (compCx X N scope ox cl C fp h (upd H D (.lst []))) rfl rfl rfl rfl i [] s5 _ H5 noX I5 (v a9 ZJ) b3 stop) λr s6 ⟨er,R⟩=>?_;subst er;refine hR D C H5 s6 ?_ (I3.fpOk (by rw[hC];exact YJ _) R.free) q λh' b7=>?_
  ·obtain⟨m,hm,_⟩:=R.loc;exact⟨m,hm⟩
  have a7:∀ b,b≠C->h'.get? b=s6.heap.get? b:=λb a=>b7.2 b a;refine I3.call' (s':={ s6 with heap:=h' }) (ch:=fp) ?_ (Z5s R.base b0 a7) (Z4s R.hok R.free a7) R.bare λb a=>?_
  ·exact R.os
  exact⟨(B b a).2.2.2.1,(B b a).2.1,(B b a).2.2.2.2.1,(B b a).2.2.2.2.2⟩
 exact codeAny_compStart_list (M _ rfl) (T.self _ 0 _ _ _ b2 (M _ rfl))
theorem Yd {p b:Expr}{n:TL}{pos:Pos}{L:TI}{g:TG}{N:TF}{k:Nat}{fv:List Nat}{ox:Option Str}
  (hc:X.calm=true) (hi:PI X tg b L) (hg:∀ cl C fp s H,PG (compCx X N scope ox cl C fp s H) tg g) (P:∀ cl C fp s H,PTs (compCx X N scope ox cl C fp s H) n tt) (O:∀ cl C fp s H,PE (compCx X N scope ox cl C fp s H) p te)
  (hw:∀ r x H Q,g x (List.replicate k none++r) H Q->g x (List.replicate k none++r) H λi S=>Q i S/\Weaker i (List.replicate k none++r))
  (hN:N.length=k+fv.length:=by rfl) (G:fv.map (λj=>X.N[j]?)=(N.drop k).map some:=by rfl) (hk:(N.drop k).map X.env.kindOf=(N.drop k).map (λ_=>some .cell):=by rfl)
  (u:∀ y∈N.drop k,scope.names.lookup y=some .free:=by decide +kernel) (z:∀ y∈scope.names,y.2=.free->y.1∈N.drop k:=by decide +kernel)
  (o:(scope.names.filter λy=>y.2 == .cell)=ox.toList.map (λx=>(x,.cell)):=by decide +kernel) (F:∀ y∈N.drop k,ox≠some y:=by decide +kernel) (c:scope.kind=.function:=by rfl) (d:∀ y∈scope.names,y.2=.local->scope.names.lookup y.1=some .local:=by decide +kernel)
  (hs:∀ x,foldedSetIterable b X.env x=pure x:=by intro _;rfl):PE X (.ListComp p [⟨tg,b,n,0⟩] scope pos) (tComp L g tt te k fv):=by
 intro pins s σ H Q I h;have U:∀ y∈N.drop k,X.env.kindOf y=some .cell:=λy v=>by
  obtain⟨j,hj⟩:=XQ v;have a:=congrArg (λl=>l[j]?) hk;simp only [YI,hj,jn] at a;exact YU a
 obtain⟨cl,f,h1,h2⟩:=Uf (env:=X.env) (scope:=scope) λy v hf=>I.ok.has y.1 (.inl (U y.1 (z y v hf)));rw[eval_ListComp];refine Y11 (use:=none) rfl hs f c d (thn (hi pins s σ H _ I h) λV s1 K=>thn K λM s2 E=>?_);obtain⟨it,fp,tn,J,H2,e,R,T,B,f2,body⟩:=E;subst e;exact Po (RR:=λacc C=>compPost (model X.prog X.w) X.A X.xe none (EP X pins σ Q) acc C) hc hg P O hw hN G hk u o F c h1 h2 R T B f2 body λD C H' s' ⟨m,hm⟩ _ q iv=>⟨m,hm,λh' t=>⟨.ref D,H',iv h' t,rfl,q⟩⟩
theorem Zv:∀ (r:_L.St) (x:V) (H:Hp) (Q:_L.St->Hp->Prop),gName 0 x (List.replicate 1 none++r) H Q->gName 0 x (List.replicate 1 none++r) H λa b=>Q a b/\Weaker a (List.replicate 1 none++r):=λr x H Q h =>
 ⟨h,ZJ,λi v e=>by
  cases i with
  | zero=>cases e
  | succ j=>exact e⟩
theorem Xw {K:TR}:∀ (r:_L.St) (x:V) (H:Hp) (Q:_L.St->Hp->Prop),gTup K 2 (gCons (gName 0) (gCons (gName 1) gNil)) x (List.replicate 2 none++r) H Q →
  gTup K 2 (gCons (gName 0) (gCons (gName 1) gNil)) x (List.replicate 2 none++r) H λb d=>Q b d/\Weaker b (List.replicate 2 none++r):=by
 rintro r x H Q ⟨a,xs,e1,hq,hl,v,t,e2,v',t',e3,c,q⟩;refine⟨a,xs,e1,hq,hl,v,t,e2,v',t',e3,c,q,ZJ,λi z e=>?_⟩
 cases i with
 | zero=>cases e
 | succ j =>
  cases j with
  | zero=>cases e
  | succ j=>exact e
end
def Yh {x:V}{σ:_L.St}{A B:_L.St->Hp->Prop}(h:A (σ.set 0 (some x)) H):gName 0 x σ H λa c=>tYes a c λb H5=>if b=true then A a H5 else B a H5:=by
 show if true=true then A (σ.set 0 (some x)) H else B (σ.set 0 (some x)) H
 exact V0 h
section
variable {X:Cx}
inductive rIxA (K:TR) (x:V) (y:V) (H:Hp) (Q:VK):Prop
 | mk (p xs i v:_) (zz0:x=.ref p) (zz1:y=.int i) (zz2:(SqL K H p xs \/ SqT K H p xs)) (zz3:atI xs i=some v) (zz4:Q v H)
theorem Js:IxR X (rIxA X.K):=λa sl pins s σ H x y v u Q I b c ⟨p,xs,i,z,e1,e2,h,ea,q⟩ hs=>by
 rcases h with h | h
 ·exact Zy a sl pins s σ H x y v u Q I b c ⟨p,xs,i,z,e1,e2,h,ea,q⟩ hs
 exact X9 a sl pins s σ H x y v u Q I b c ⟨p,xs,i,z,e1,e2,h,ea,q⟩ hs
end
section
variable {X:Cx}
noncomputable def F4 (h:X.K=K:=by rfl):IxR X (rIxT K):=h ▸ X9
noncomputable def Z5n (h:X.K=K:=by rfl):IxR X (rIxL K):=h ▸ Zy
noncomputable def Z87 (h:X.K=K:=by rfl):IxR X (rIxA K):=h ▸ Js
noncomputable def Z1u (h:X.K=K:=by rfl):IxR X (rP0 K):=h ▸ Yq
noncomputable def Z71 (h:X.K=K:=by rfl):IxR X (rP1 K):=h ▸ Ym
end
def Vy {x:V}{σ:_L.St}{A B:_L.St->Hp->Prop}{t:TT}(h:t (σ.set 0 (some x)) H λb H5=>if b=true then A (σ.set 0 (some x)) H5 else B (σ.set 0 (some x)) H5) :
  gName 0 x σ H λa c=>t a c λb H5=>if b=true then A a H5 else B a H5:=h
def T9 {p:Addr}{u:V}{σ:_L.St}{A B:_L.St->Hp->Prop}(hp:SqT K H p [u,v])(h:A ((σ.set 0 (some u)).set 1 (some v)) H) :
  gTup K 2 (gCons (gName 0) (gCons (gName 1) gNil)) (.ref p) σ H λa c=>tYes a c λb H5=>if b=true then A a H5 else B a H5:=by
 refine⟨p,[u,v],rfl,hp,rfl,u,[v],rfl,v,[],rfl,rfl,?_⟩;show if true=true then A ((σ.set 0 (some u)).set 1 (some v)) H else B ((σ.set 0 (some u)).set 1 (some v)) H
 exact V0 h
end _b
namespace _b
open PySem PySem.Builtin.SmallTypes
noncomputable def kN (l:Bool):String:=cond l "list" "tuple"
noncomputable def kI (l:Bool):String:=cond l "list_iterator" "tuple_iterator"
def Iq (l:Bool)(h:Heap)(a:Addr)(ys:Array Value):Prop:=∃ o,h.get? a=some o/\o.cls=.type (kN l)/\∃ n,o.data=.seq ys n
def Ir (l:Bool)(h:Heap)(a t:Addr)(i:Nat):Prop:=∃ o,h.get? a=some o/\o.cls=.type (kI l)/\o.data=.fields #[.ref t,.int i 0]
section
def K0 {it t:Addr}{j:Nat}{ys:Array Value}{Q:TC}(hq:Qt A s.heap)(f:s.heap.IsTupleIter it t j)(tt:s.heap.IsTuple t ys)
  (g:∀ y,ys[j]?=some y->∀ h',h'.IsTupleIter it t (j+1)->Heap.SameBut it s.heap h'->Q y { s with heap:=h' })
  (h:ys[j]?=none->∀ h' e,Heap.ExtBut it s.heap h'->(∃ o,h'.get? e=some o/\o.cls=.type "StopIteration")->E (.ref e) { s with heap:=h' }):wpAny (model prog w) A (nextOf (.ref it)) Q E s:=by
 obtain⟨oi,c,m,a⟩:=id f;obtain⟨r,p,_,nt,dt⟩:=tt;unfold nextOf;refine YA (JN (name:=Str.ofString "__next__") f.typeIs zq (JX zq f.typeIs Y0v ?_ (Y0l _)));show wpAny _ _ (field (.ref it) 0 >>= _) _ _ _;refine YA (JS c a (x:=.ref t) rfl ?_);show wpAny _ _ (if (Value.ref t == Value.none)=true then _ else _) _ _ _;rw[YF (show ¬ ((Value.ref t == Value.none)=true) from λq=>YO q)];show wpAny _ _ (field (.ref it) 1 >>= _) _ _ _;refine YA (JS c a (x:=.int j 0) rfl ?_);show wpAny _ _ (seqItems? (.ref t) >>= _) _ _ _;refine YA (GD p dt ?_)
 cases d:ys[j]? with
 | some y =>
  simp only [zl,d];refine YA (zM c a ZJ (YK ⟨y,rfl,YK (g y d _ ?_ (JF ..))⟩));refine⟨_,GW _ c (Y0a (zS a _)),(Y0P ..).trans m,?_⟩;rw[zS a];simp[rawInt]
 | none =>
  simp only [zl,d];refine YA (zo (YA (zM c a ZJ ?_)));refine Ts (hq:=(hq.but c λn=>?_)) λh' e k i=>h d _ _ (λb o l e=>k b o ((JF ..).extBut b o l e)) i;obtain⟨vs,e1,e2⟩:=n;rw[a] at e1
  cases e1;simp at e2
theorem Cp (hq:QtP A qs)(it t:Addr)(ne:t≠it)(d:∀ p∈qs,p.1≠it)(ys:Array Value) :
  Draws prog w A it (it::t::qs.map Prod.fst) ys.size (λi x=>ys[i]?=some x) (λi h=>h.IsTupleIter it t i/\h.IsTuple t ys/\∀ p∈qs,h.get? p.1=some p.2) where
 live:=λi h st=>by
  obtain⟨⟨o,e,_⟩,_⟩:=st;exact⟨o,e⟩
 frame:=λi h h' st k=>by
  obtain⟨⟨o,e,r⟩,⟨o',e',r'⟩,st⟩:=st;exact⟨⟨o,k it ZJ o e,r⟩,⟨o',k t ZJ o' e',r'⟩,λp hp=>k p.1 (by simp;exact .inr (.inr ⟨p.2,hp⟩)) p.2 (st p hp)⟩
 item:=λi s Q E f st g=>K0 (hq.at st.2.2) st.1 st.2.1 (λy c h' a b=>g _ h' s.toks c ⟨a,st.2.1.extBut b.extBut ne,λp hp=>b.extBut p.1 p.2 (d p hp) (st.2.2 p hp)⟩ b) λz=>by
  rw[zx f] at z
  cases z
 done:=λs Q E st j=>K0 (hq.at st.2.2) st.1 st.2.1 (λy c=>by
  rw[Y1h (YJ _)] at c
  cases c) λ_=>j
def Z4y (l:Bool){qs:TD}(hq:QtP A qs)(it t:Addr)(ne:t≠it)(a:∀ p∈qs,p.1≠it)(ys:Array Value) :
  Draws prog w A it (it::t::qs.map Prod.fst) ys.size (λi x=>ys[i]?=some x) (λi h=>Ir l h it t i/\Iq l h t ys/\∀ p∈qs,h.get? p.1=some p.2):=by
 cases l
 ·exact Cp hq it t ne a ys
 exact Draws.listQ hq it t ne a ys
theorem Qy {l:Bool}{t:Addr}{ys:Array Value}{Q:TC}(hl:Iq l s.heap t ys)(a:Q (.ref s.heap.objs.size) { s with heap:=s.heap.push { cls:=.type (kI l),data:=.fields #[.ref t,.int 0 0] } }):wpAny (model prog w) A (pyIter (.ref t)) Q E s:=by
 cases l
 ·exact jr hl a
 exact zD hl a
end
structure ZOff (z TI TO i1 i2:Addr):Prop where
 a1:TI≠z
 a2:TO≠z
 a3:i1≠z
 a4:i2≠z
 a5:TI≠TO
 a6:TI≠i1
 a7:TI≠i2
 a8:TO≠i1
 a9:TO≠i2
 b1:i1≠i2
structure Off (z TI TO i1 i2:Addr)(f1 f2:TJ):Prop extends ZOff z TI TO i1 i2 where
 z1:z ∉ f1
 o1:TO ∉ f1
 n1:i2 ∉ f1
 z2:z ∉ f2
 o2:TO ∉ f2
 n2:i1 ∉ f2
section
variable {z TI TO i1 i2:Addr}{f1 f2:TJ}{n1 n2:Nat}{P1 P2:Nat->Value->Prop}{S1 S2:Nat->Heap->Prop}
def Fu {k:Nat}{a b:Value}{Q:TC}(D:Off z TI TO i1 i2 f1 f2)(j:Draws prog w A i1 f1 n1 P1 S1)(D2:Draws prog w A i2 f2 n2 P2 S2)
  (hz:IsZip s.heap z TI TO .none) (U:IsPair s.heap TI (.ref i1) (.ref i2)) (V:IsPair s.heap TO a b) (c1:S1 k s.heap) (c2:S2 k s.heap) (l1:k<n1) (l2:k<n2)
  (hQ:∀ x y h' tk,P1 k x->P2 k y->IsZip h' z TI TO (rawInt s.heap.objs.size)->IsPair h' TO x y->S1 (k+1) h'->S2 (k+1) h'->IsPair h' s.heap.objs.size x y->h'.objs.size=s.heap.objs.size+1 →
   (∀ c o,c≠z->c≠TO->c≠i1->c≠i2->s.heap.get? c=some o->h'.get? c=some o)->Q (.ref s.heap.objs.size) { s with heap:=h',toks:=tk }) :
  wpAny (model prog w) A (Builtin.«zip.__next__» ⟨[.ref z],[]⟩) (λN s'=>∃ v,N=.done (.ret v)/\Q v s') E s:=by
 show wpAny _ _ (field (.ref z) 2 >>= _) _ _ _;refine YA (JS hz rfl (x:=.bool false) rfl ?_);show wpAny _ _ (field (.ref z) 3 >>= _) _ _ _;refine YA (JS hz rfl (x:=.ref TI) rfl ?_);refine YA (GD U rfl ?_);show wpAny _ _ (ownedTupleIsFree (.ref z) >>= _) _ _ _;refine YA ?_;unfold ownedTupleIsFree;refine YA (JS hz rfl (x:=.none) rfl (YK ?_));simp only [Y0y];refine YA (zo ?_);refine YA (JS hz rfl (x:=.ref TO) rfl ?_);refine YA (zT hz ZJ λL z1 s1=>?_);replace z1:IsZip L z TI TO .ellipsis:=z1;refine YA ?_;simp only [List.zipIdx_cons,List.zipIdx_nil,jm,Y0E];refine YA (YA (Y1E ?_));show wpAny _ _ (nextOf (.ref i1) >>= _) _ _ _;have H:S1 k L:=j.frame _ _ _ c1 λb f o e=>s1.extBut b o (λq=>D.z1 (q ▸ f)) e;refine YA (j.item k _ _ _ l1 H λx C a0 p1 S s2=>YK ?_);replace s2:Heap.SameBut i1 L C:=s2;have Y:IsPair C TO a b:=s2.extBut _ _ D.a8 (s1.extBut _ _ D.a2 V);refine YA (GD Y rfl ?_);refine YA (wpAny_updateSeq_pair Y λm u i=>?_);replace u:IsPair m TO x b:=u;replace i:Heap.SameBut TO C m:=i;refine YA (Y1r (YK ?_));refine YA (YA (Y1E ?_));show wpAny _ _ (nextOf (.ref i2) >>= _) _ _ _;have J:S2 k m:=D2.frame _ _ _ c2 λb f o e=>i.extBut b o (λq=>D.o2 (q ▸ f)) (s2.extBut b o (λq=>D.n2 (q ▸ f)) (s1.extBut b o (λq=>D.z2 (q ▸ f)) e));have F:S1 (k+1) m:=j.frame _ _ _ S λb f o e=>i.extBut b o (λq=>D.o1 (q ▸ f)) e;refine YA (D2.item k _ _ _ l2 J λy K M p2 B h=>YK ?_);replace h:Heap.SameBut i2 m K:=h;have X:IsPair K TO x b:=h.extBut _ _ D.a9 u;refine YA (GD X rfl ?_);refine YA (wpAny_updateSeq_pair X λd p g=>?_);replace p:IsPair d TO x y:=p;replace g:Heap.SameBut TO K d:=g;refine YA (Y1r (YK (YK ?_)));refine YA (GD p rfl ?_);refine YA (wpAny_newTuple ?_);have W:d.objs.size=s.heap.objs.size:=by rw[g.1,h.1,i.1,s2.1,s1.1]
 have z5:IsZip d z TI TO .ellipsis:=g.extBut _ _ D.a2.symm (h.extBut _ _ D.a4.symm (i.extBut _ _ D.a2.symm (s2.extBut _ _ D.a3.symm z1)));have k5:∀ c o,c≠z->c≠TO->c≠i1->c≠i2->s.heap.get? c=some o->d.get? c=some o:=λc o t r O R e =>
  g.extBut _ _ r (h.extBut _ _ R (i.extBut _ _ r (s2.extBut _ _ O (s1.extBut _ _ t e))))
 have T:S1 (k+1) d:=j.frame _ _ _ F λb f o e=>g.extBut b o (λq=>D.o1 (q ▸ f)) (h.extBut b o (λq=>D.n1 (q ▸ f)) e);have P:S2 (k+1) d:=D2.frame _ _ _ B λb f o e=>g.extBut b o (λq=>D.o2 (q ▸ f)) e;have l:z<d.objs.size:=YQ z5;show wpAny _ _ (ownedTupleHandOut (.ref z) (.ref d.objs.size) >>= _) _ _ _;refine YA ?_;unfold ownedTupleHandOut;have z6:IsZip (d.push { cls:=.type "tuple",data:=.seq #[x,y] }) z TI TO .ellipsis:=YC _ z5;refine YA (zT z6 ZJ λg7 z7 I=>?_);replace z7:IsZip g7 z TI TO (rawInt d.objs.size):=z7;refine zT z7 ZJ λn z8 G=>?_;replace z8:IsZip n z TI TO (rawInt d.objs.size):=z8;have up:∀ c o,c≠z->d.get? c=some o->n.get? c=some o:=λc o q e=>G.extBut _ _ q (I.extBut _ _ q (YC _ e));have Z:IsPair n d.objs.size x y:=G.extBut _ _ (GQ l) (I.extBut _ _ (GQ l) (YS _ rfl));have sz8:n.objs.size=d.objs.size+1:=by rw[G.1,I.1,JT]
 rw[W] at z8 Z sz8;refine YK ⟨_,rfl,?_⟩;show Q (.ref d.objs.size) _;rw[W];exact hQ x y n M p1 p2 z8 (up _ _ D.a2 p) (j.frame _ _ _ T λb f o e=>up b o (λq=>D.z1 (q ▸ f)) e) (D2.frame _ _ _ P λb f o e=>up b o (λq=>D.z2 (q ▸ f)) e) Z sz8
  λc o t r O R e=>up c o t (k5 c o t r O R e)
def Ft {k:Nat}{a b:Value}{Q:Fin->Shared->Prop}(D:Off z TI TO i1 i2 f1 f2)(m:Draws prog w A i1 f1 n1 P1 S1)(hz:IsZip s.heap z TI TO .none)(i:IsPair s.heap TI (.ref i1) (.ref i2))(C:S1 n1 s.heap)
  (t:∀ h' e,(∀ c o,c≠z->c≠i1->s.heap.get? c=some o->h'.get? c=some o)->(∃ o,h'.get? e=some o/\o.cls=.type "StopIteration")->E (.ref e) { s with heap:=h' }) :
  wpAny (model prog w) A (Builtin.«zip.__next__» ⟨[.ref z],[]⟩) Q E s:=by
 show wpAny _ _ (field (.ref z) 2 >>= _) _ _ _;refine YA (JS hz rfl (x:=.bool false) rfl ?_);show wpAny _ _ (field (.ref z) 3 >>= _) _ _ _;refine YA (JS hz rfl (x:=.ref TI) rfl ?_);refine YA (GD i rfl ?_);show wpAny _ _ (ownedTupleIsFree (.ref z) >>= _) _ _ _;refine YA ?_;unfold ownedTupleIsFree;refine YA (JS hz rfl (x:=.none) rfl (YK ?_));simp only [Y0y];refine YA (zo ?_);refine YA (JS hz rfl (x:=.ref TO) rfl ?_);refine YA (zT hz ZJ λf z1 s1=>?_);replace z1:IsZip f z TI TO .ellipsis:=z1;refine YA ?_;simp only [List.zipIdx_cons,List.zipIdx_nil,jm,Y0E];refine YA (YA (Y1E ?_));show wpAny _ _ (nextOf (.ref i1) >>= _) _ _ _;have d:S1 n1 f:=m.frame _ _ _ C λb v o e=>s1.extBut b o (λq=>D.z1 (q ▸ v)) e;refine YA (m.done _ _ _ d λj e s2 u=>?_);obtain⟨F,g,l⟩:=u;replace s2:Heap.ExtBut i1 f j:=s2;have z2:IsZip j z TI TO .ellipsis:=s2 _ _ D.a3.symm z1;have B:e≠z:=λq=>by
  subst q;rw[z2] at g
  cases g;simp at l
 exact zT z2 ZJ λy _ n=>t y e (λc o p r h=>n.extBut _ _ p (s2 _ _ r (s1.extBut _ _ p h))) ⟨F,n.extBut _ _ B g,l⟩
def Lo {k:Nat}{a b:Value}{Q:Option Value->Shared->Prop}(D:Off z TI TO i1 i2 f1 f2)(m:Draws prog w A.in1 i1 f1 n1 P1 S1)(D2:Draws prog w A.in1 i2 f2 n2 P2 S2)
  (hz:IsZip s.heap z TI TO .none) (d:IsPair s.heap TI (.ref i1) (.ref i2)) (e:IsPair s.heap TO a b) (B:S1 k s.heap) (g:S2 k s.heap) (C:k<n1) (v:k<n2)
  (i:∀ x y h' tk,P1 k x->P2 k y->IsZip h' z TI TO (rawInt s.heap.objs.size)->IsPair h' TO x y->S1 (k+1) h'->S2 (k+1) h'->IsPair h' s.heap.objs.size x y->h'.objs.size=s.heap.objs.size+1 →
   (∀ c o,c≠z->c≠TO->c≠i1->c≠i2->s.heap.get? c=some o->h'.get? c=some o)->Q (some (.ref s.heap.objs.size)) { s with heap:=h',toks:=tk }):wpAny (model prog w) A (pyNext (.ref z)) Q E s:=by
 have f:s.TypeIs (.ref z) "zip":=⟨_,hz,rfl⟩;unfold pyNext;exact YA (zG (JN (name:=Str.ofString "__next__") f Y0o (JX Y0o f F.entry_zip_next
   (Fu D m D2 hz d e B g C v λx y h' tk r l t j p q n h u=>YK (i x y h' tk r l t j p q n h u)) (F.args_zip_next_1 _))))
def Rn {Q:Option Value->Shared->Prop}(D:Off z TI TO i1 i2 f1 f2)(g:Draws prog w A.in1 i1 f1 n1 P1 S1)(hz:IsZip s.heap z TI TO .none)(d:IsPair s.heap TI (.ref i1) (.ref i2))(j:S1 n1 s.heap)
  (h:∀ h',(∀ c o,c≠z->c≠i1->s.heap.get? c=some o->h'.get? c=some o)->Q none { s with heap:=h' }):wpAny (model prog w) A (pyNext (.ref z)) Q E s:=by
 have f:s.TypeIs (.ref z) "zip":=⟨_,hz,rfl⟩;unfold pyNext;refine YA (zG (JN (name:=Str.ofString "__next__") f Y0o (JX Y0o f F.entry_zip_next
  (Ft (k:=0) (a:=.none) (b:=.none) D g hz d j λh' e hk i=>?_) (F.args_zip_next_1 _))))
 obtain⟨o,ho,hc⟩:=i;exact YA (qY (T:="StopIteration") (b:=true) ⟨o,ho,hc⟩ jy (YK (h _ hk)))
end
noncomputable abbrev zH1 (l:Bool)(h:Heap)(t:Addr):Heap:=h.push { cls:=.type (kI l),data:=.fields #[.ref t,.int 0 0] }
noncomputable abbrev zH2 (l m:Bool)(h:Heap)(t u:Addr):Heap:=zH1 m (zH1 l h t) u
noncomputable abbrev zH3 (l m:Bool)(h:Heap)(t u:Addr):Heap:=(zH2 l m h t u).push { cls:=.type "tuple",data:=.seq #[.ref h.objs.size,.ref (zH1 l h t).objs.size] }
noncomputable abbrev zH4 (l m:Bool)(h:Heap)(t u:Addr):Heap:=(zH3 l m h t u).push { cls:=.type "tuple",data:=.seq #[.none,.none] }
noncomputable abbrev zH5 (l m:Bool)(h:Heap)(t u:Addr):Heap:=(zH4 l m h t u).push { cls:=.type "zip",data:=.fields #[.none,.bool false,.bool false,.ref (zH2 l m h t u).objs.size,.ref (zH3 l m h t u).objs.size] }
def C6 (l m:Bool)(t u:Addr)(xs ys:Array Value):Meets (Builtin.«zip.__new__» ⟨[.type "zip",.ref t,.ref u],[]⟩) (λ_ R s=>Iq l s.heap t xs/\Iq m s.heap u ys ∧
  R (.ok (.ret (.ref (zH4 l m s.heap t u).objs.size))) { s with heap:=zH5 l m s.heap t u }) :=
 .of_wp λprog w A R s h=>by
  obtain⟨hp,g,d,tk,os⟩:=s;obtain⟨h1,⟨o,e,r⟩,h⟩:=h;have a:=sub_zip;have c:Iq l (Shared.heap ⟨hp,g,d,tk,os⟩) t xs:=h1;have b:Iq m (Shared.heap ⟨zH1 l hp t,g,d,tk,os⟩) u ys:=⟨o,YC _ e,r⟩
  wp_walk using Qy c,Qy b
  exact⟨_,rfl,h⟩
def Z2h {prog:TU}{w:World}{A:Around}{E:TC}{t u:Addr}{xs ys:Array Value}{Q:TC}(l m:Bool)(h1:Iq l s.heap t xs)(h2:Iq m s.heap u ys)
  (h:∀ h',IsZip h' (s.heap.objs.size+4) (s.heap.objs.size+2) (s.heap.objs.size+3) .none->IsPair h' (s.heap.objs.size+2) (.ref s.heap.objs.size) (.ref (s.heap.objs.size+1))->IsPair h' (s.heap.objs.size+3) .none .none →
   Ir l h' s.heap.objs.size t 0->Ir m h' (s.heap.objs.size+1) u 0->h'.objs.size=s.heap.objs.size+5->(∀ c o,s.heap.get? c=some o->h'.get? c=some o)->Q (.ref (s.heap.objs.size+4)) { s with heap:=h' }) :
  wpAny (model prog w) A (call (.type "zip") [.ref t,.ref u]) Q E s:=by
 refine callType_new F.called_zip J1 (F.typeCall_zip_2 _ _) (F.newCall_zip_2 _ _) (λobj=>F.args_object_init_3 obj _ _) F.entry_zip_new (C6 l m t u xs ys) ⟨h1,h2,?_⟩;have e1:(zH1 l s.heap t).objs.size=s.heap.objs.size+1:=JT ..;have e2:(zH2 l m s.heap t u).objs.size=s.heap.objs.size+2:=by rw[JT,e1]
 have e3:(zH3 l m s.heap t u).objs.size=s.heap.objs.size+3:=by rw[JT,e2]
 have b:(zH4 l m s.heap t u).objs.size=s.heap.objs.size+4:=by rw[JT,e3]
 have up:∀ {h:Heap} {c:Addr} {x o:Obj},h.get? c=some o->(h.push x).get? c=some o:=λe=>YC _ e;have a:(zH5 l m s.heap t u).get? (zH4 l m s.heap t u).objs.size=some _:=YS _ rfl;have f:(zH5 l m s.heap t u).get? (zH3 l m s.heap t u).objs.size=some _:=up (YS _ rfl);have d:(zH5 l m s.heap t u).get? (zH2 l m s.heap t u).objs.size=some _:=up (up (YS _ rfl));have g:(zH5 l m s.heap t u).get? (zH1 l s.heap t).objs.size=some _:=up (up (up (YS _ rfl)));show _/\_;rw[e2,e3,b] at a;rw[e1,e2] at d;rw[e3] at f;rw[e1] at g;rw[b];exact⟨⟨_,a,rfl⟩,h _ a d f ⟨_,up (up (up (up (YS _ rfl)))),rfl,rfl⟩ ⟨_,g,rfl,rfl⟩ (by rw[JT,b]) λc o x=>up (up (up (up (up x))))⟩
def Jn (l:Bool)(t:Addr)(ys:Array Value)(n:Nat)(e:TQ)(sl:Array (Option Value)):Meets (Builtin.«enumerate.__new__» ⟨[.type "enumerate",.ref t],[]⟩) (λ_ R s=>s.heap.get? t=some { cls:=.type (kN l),dict:=e,data:=.seq ys n,slots:=sl } ∧
  R (.ok (.ret (.ref (zH1 l s.heap t).objs.size))) { s with heap:=(zH1 l s.heap t).push { cls:=.type "enumerate",data:=.fields #[.none,.bool false,.ref s.heap.objs.size,rawInt 0,.none,.none] } }) :=
 .of_wp λprog w A R s h=>by
  obtain⟨hp,g,d,tk,os⟩:=s;obtain⟨hl,h⟩:=h;have b:=sub_enumerate;have a:Iq l (Shared.heap ⟨hp,g,d,tk,os⟩) t ys:=⟨_,hl,rfl,n,rfl⟩
  wp_walk using GY hl
  refine wpAny_stack_any λst=>YK ?_;split
  ·rename_i c _ _ _ _ _
   cases (c == Value.type "enumerate")
   ·wp_walk using GY hl,Qy a
    exact⟨_,rfl,h⟩
   wp_walk using GY hl,Qy a
   exact⟨_,rfl,h⟩
  wp_walk using GY hl,Qy a
  exact⟨_,rfl,h⟩
def Cy {prog:TU}{w:World}{A:Around}{E:TC}{t:Addr}{ys:Array Value}{Q:TC}(l:Bool)(a:Iq l s.heap t ys)
  (h:∀ h',IsEnum h' (s.heap.objs.size+1) s.heap.objs.size 0 .none->Ir l h' s.heap.objs.size t 0->h'.objs.size=s.heap.objs.size+2->(∀ b o,s.heap.get? b=some o->h'.get? b=some o)->Q (.ref (s.heap.objs.size+1)) { s with heap:=h' }) :
  wpAny (model prog w) A (call (.type "enumerate") [.ref t]) Q E s:=by
 obtain⟨⟨c,d,dt,sl⟩,e,f,n,d1⟩:=a
 cases f
 cases d1;refine callType_new F.called_enumerate J1 (F.typeCall_enumerate_1 _) (F.newCall_enumerate_1 _) (λobj=>F.args_object_init_2 obj _) F.entry_enumerate_new (Jn l t ys n d sl) ⟨e,?_⟩;have hz:(zH1 l s.heap t).objs.size=s.heap.objs.size+1:=JT ..;have q:=YS (zH1 l s.heap t) (o:={ cls:=.type "enumerate",data:=.fields #[.none,.bool false,.ref s.heap.objs.size,rawInt 0,.none,.none] }) rfl;show _/\_;rw[hz] at q ⊢;exact⟨⟨_,q,rfl⟩,h _ q ⟨_,YC _ (YS _ rfl),rfl,rfl⟩ (by rw[JT,hz]) λb o x=>YC _ (YC _ x)⟩
end _b
namespace _b
open PySem PySem.Spec PyProof.Rows _L
section
variable {X:Cx}{σ:_L.St}{H:Hp}{t':Nat}{ch:TJ}
def Ka (I:Inv X pins σ H s)(hn:∀ b∈ch,H b=none)(k:∀ b o,b ∉ ch->s.heap.get? b=some o->h'.get? b=some o):HOk X.prog X.w H h':=λa o e =>
 (I.hok a o e).stay (λb u c q=>k b u (λz=>by
  have n:=hn b z;rcases c with rfl | c
  ·rw[n] at e;cases e
  rw[n] at c;cases c) q) (λ_ q=>q) λ_ _ q=>q
def Pb (I:Inv X pins σ H s)(hf:∀ b∈ch,FpOk X pins H b)(k:∀ b o,b ∉ ch->s.heap.get? b=some o->h'.get? b=some o):Inv X pins σ H { s with heap:=h',toks:=t' }:=by
 refine I.step (g':=s.gens) (d':=s.drawn) (ch:=ch) (λb a=>?_) (λb o _ _ hc e _=>k b o hc e) (λb o _ _ hc e _=>⟨o.slots,k b o hc e⟩) (λ_ _ _ _ n=>n) (λb o hc e=>⟨o,k b o hc e⟩) (λ_ _ e=>e) (λ_ _ _ e=>e)
  (λb ps e=>⟨#[],by rw[e];simp⟩) (λm hm=>?_) (Ka I (λb a=>(hf b a).1) k) I.bare
 ·exact⟨(hf b a).2.2.2.1,(hf b a).2.1,(hf b a).2.2.2.2.1,(hf b a).2.2.2.2.2⟩
 obtain⟨o,es,ep,ho,r⟩:=hm;exact⟨o,es,ep,k _ o (λz=>(hf _ z).2.1 rfl) ho,r⟩
theorem Tg {p:Addr}{u:HO}(I:Inv X pins σ H s)(hf:∀ b∈ch,FpOk X pins H b)(k:∀ b o,b ∉ ch->s.heap.get? b=some o->h'.get? b=some o)(hp:s.heap.objs.size<=p)(f:ObjOk X.prog X.w (upd H p u) h' p u) :
  Inv X pins σ (upd H p u) { s with heap:=h',toks:=t' }:=by
 have g:∀ b o,s.heap.get? b=some o->b≠p:=λb o e z=>absurd (YX (YQ e) hp) (by rw[z];exact GB _);have a:∀ b o,H b=some o->b≠p:=λb o e z=>absurd (YX (I.hok.lt e) hp) (by rw[z];exact GB _);have hk:=Ka I (λb d=>(hf b d).1) k;refine I.step (g':=s.gens) (d':=s.drawn) (ch:=ch) (λb d=>?_) (λb o _ _ hc e _=>k b o hc e) (λb o _ _ hc e _=>⟨o.slots,k b o hc e⟩) (λb o _ e n=>by rw[Ze (g b o e)];exact n) (λb o hc e=>⟨o,k b o hc e⟩)
  (λb _ e=>by rw[Ze (a b _ e)];exact e) (λb _ _ e=>by rw[Ze (a b _ e)];exact e) (λb ps e=>⟨#[],by rw[Ze (a b _ e),e];simp⟩) (λm hm=>?_) (λb o e=>?_) I.bare
 ·exact⟨(hf b d).2.2.2.1,(hf b d).2.1,(hf b d).2.2.2.2.1,(hf b d).2.2.2.2.2⟩
 ·obtain⟨o,es,ep,ho,r⟩:=hm;exact⟨o,es,ep,k _ o (λz=>(hf _ z).2.1 rfl) ho,r⟩
 by_cases d:b=p
 ·subst d;rw[Zc] at e
  cases e;exact f
 rw[Ze d] at e;exact (hk b o e).stay (λ_ _ _ q=>q) (λc q=>by rw[Ze (a c _ q)];exact q) λc xs q=>by rw[Ze (a c _ q)];exact q
def Sq (l:Bool)(K:TR)(H:Hp)(t:Addr)(xs:TZ):Prop:=cond l (SqL K H t xs) (SqT K H t xs)
theorem Vp {l:Bool}{t:Addr}(I:Inv X pins σ H s)(h:Sq l X.K H t xs):∃ us:List Value,Vals xs us/\Iq l s.heap t us.toArray:=by
 cases l
 ·obtain⟨u,v,p,_⟩:=I.tuple h;exact⟨u,v,p⟩
 obtain⟨u,v,p,_⟩:=I.list h;exact⟨u,v,p.isList⟩
def Kr {l:Bool}{t:Addr}(I:Inv X pins σ H s)(h:Sq l X.K H t xs)(h':Sq l X.K H t ys):xs=ys:=by
 cases l
 ·exact I.tuple_inj h h'
 exact I.list_inj h h'
def Z7g {l:Bool}{t:Addr}(h:Sq l K H t xs):(∃ u,Rd H t u) \/ ∃ o,K.lookup t=some o:=by
 cases l
 ·rcases h with h | ⟨o,its,n,h,_⟩
  ·exact .inl ⟨_,h⟩
  exact .inr ⟨o,h⟩
 rcases h with h | ⟨o,its,n,h,_⟩
 ·exact .inl ⟨_,h⟩
 exact .inr ⟨o,h⟩
def Gd {l:Bool}{b t:Addr}(I:Inv X pins σ H s)(hf:FpOk X pins H b)(h:Sq l X.K H t xs):t≠b:=by
 rintro rfl;rcases Z7g h with ⟨u,h | ⟨o,h⟩⟩ | ⟨o,h⟩
 ·rw[hf.1] at h;cases h
 ·rw[hf.1] at h;cases h
 have e:=I.ok.mod.kin _ _ h;rcases hf.2.2.2.1 with z | z
 ·exact I.ok.noex _ _ e z
 exact absurd (YX (YQ (I.ok.bs _ _ e).1) z) (GB _)
def Ja {b:Addr}(hf:FpOk X pins H b):(∀ x,(b,x) ∉ X.pn)/\∀ p∈X.pn,p.1≠b:=⟨λx m=>hf.2.2.2.2.2 _ (XG _ m) rfl,λp hp=>hf.2.2.2.2.2 p (XG _ hp)⟩
def Lp (I:Inv X pins σ H s):∀ p∈X.pn,s.heap.get? p.1=some p.2:=λp hp=>(I.pin p (XG _ hp)).1
def Tj {l:Bool}{t:Addr}(I:Inv X pins σ H s)(hc:X.calm=true)(hf:FpOk X pins H it)(hx:Sq l X.K H t xs)(us:TH) :
  Draws X.prog X.w X.A.in1 it (it::t::X.pn.map Prod.fst) us.toArray.size (λi x=>us.toArray[i]?=some x) (λi h=>Ir l h it t i/\Iq l h t us.toArray/\∀ p∈X.pn,h.get? p.1=some p.2) :=
 Z4y (A:=X.A.in1) l (I.ok.hd hc) it t (Gd I hf hx) (Ja hf).2 us.toArray
def Z1x {u:TH}{x:Value}(v:Vals xs u)(lx:i<xs.length)(b:u.toArray[i]?=some x):∃ x0,xs[i]?=some x0/\RelV x0 x:=by
 obtain⟨x1,a,c⟩:=v.get (i:=i) (x:=xs[i]) (by simp[lx]);rw[List.getElem?_toArray,a] at b
 cases b;exact⟨_,by simp[lx],c⟩
def Z5k {p:Addr}{u:HO}(hp:p=s.heap.objs.size)(hf:∀ b∈ch,FpOk X pins H b)(ob:∀ b∈ch,∃ o,s.heap.get? b=some o/\∀ v,o.data≠.cell v):∀ b∈ch,upd H p u b=none:=λb a=>by
 obtain⟨o,e,_⟩:=ob b a;rw[Ze (by rw[hp];exact XM (YQ e))];exact (hf b a).1
end
noncomputable def ItG (S T:Hp->Addr->List V->Prop)(t u:Addr):It :=
 ⟨λi H=>∃ xs ys,S H t xs/\T H u ys/\i<xs.length/\i<ys.length,
   λi H v H'=>∃ p x y,v=.ref p/\H p=none/\H'=upd H p (.tup [x,y])/\(∀ xs,S H t xs->xs[i]?=some x)/\∀ ys,T H u ys->ys[i]?=some y,
   λi H=>∃ xs ys,S H t xs/\T H u ys/\i=xs.length⟩
noncomputable abbrev Itz (K:TR):Addr->Addr->It:=ItG (SqT K) (SqT K)
section
variable {P:TU}{es:TL}{kk:Nat}{tp:Pos}{z TI TO i1 i2 t u:Addr}{l m:Bool}
def ZSt (l m:Bool)(z TI TO i1 i2 t u:Addr)(i:Nat)(h:Heap):Prop:=IsZip h z TI TO .none/\IsPair h TI (.ref i1) (.ref i2)/\(∃ a b,IsPair h TO a b)/\Ir l h i1 t i/\Ir m h i2 u i
def Z5a (st:ZSt l m z TI TO i1 i2 t u i h):∀ b∈[z,TI,TO,i1,i2],∃ o,h.get? b=some o/\∀ v,o.data≠.cell v:=λb e=>by
 obtain⟨hz,c,⟨a,g,d⟩,⟨o1,e1,_,d1⟩,⟨o2,e2,_,f⟩⟩:=st;simp only [YT,JP,jc] at e;rcases e with rfl | rfl | rfl | rfl | rfl
 ·exact⟨_,hz,λv q=>by have q':Data.fields _=Data.cell v:=q;cases q'⟩
 ·exact⟨_,c,λv q=>by have q':Data.seq _ _=Data.cell v:=q;cases q'⟩
 ·exact⟨_,d,λv q=>by have q':Data.seq _ _=Data.cell v:=q;cases q'⟩
 ·exact⟨_,e1,λv q=>by rw[d1] at q;cases q⟩
 exact⟨_,e2,λv q=>by rw[f] at q;cases q⟩
def Z59 {σ:_L.St}(O:ZOff z TI TO i1 i2)(I:Inv X pins σ H s)(hf:∀ b∈[z,TI,TO,i1,i2],FpOk X pins H b)(hx:Sq l X.K H t xs)(c:Sq m X.K H u ys) :
  Off z TI TO i1 i2 (i1::t::X.pn.map Prod.fst) (i2::u::X.pn.map Prod.fst):=by
 have ne:∀ b∈[z,TI,TO,i1,i2],b≠t/\b≠u/\∀ x,(b,x) ∉ X.pn:=λb a=>⟨(Gd I (hf b a) hx).symm,(Gd I (hf b a) c).symm,(Ja (hf b a)).1⟩;have nz:=ne z ZJ;have no:=ne TO ZJ;have n1:=ne i1 ZJ;have n2:=ne i2 ZJ;exact⟨O,by simp[O.a3.symm,nz],by simp[O.a8,no],by simp[O.b1.symm,n2],by simp[O.a4.symm,nz],by simp[O.a9,no],by simp[O.b1,n1]⟩
theorem Bc (O:ZOff z TI TO i1 i2)(t u:Addr):Turn P w K (.Tuple es kk tp) (ItG (Sq l K) (Sq m K) t u) [z,TI,TO,i1,i2] z (ZSt l m z TI TO i1 i2 t u) where
 mem:=ZJ
 obj:=λi h st=>Z5a st
 keep:=λi h h' st k=>by
  obtain⟨hz,c,⟨a,b,j⟩,⟨o1,e1,r1⟩,⟨o2,e2,r2⟩⟩:=st;exact⟨k z ZJ _ hz,k TI ZJ _ c,⟨a,b,k TO ZJ _ j⟩,⟨o1,k i1 ZJ _ e1,r1⟩,⟨o2,k i2 ZJ _ e2,r2⟩⟩
 item:=by
  intro X F hw hK hc i pins s σ H E I hf st hg;subst F hw hK;obtain⟨xs,ys,hx,n,lx,Q⟩:=hg;have ob:=Z5a st;obtain⟨hz,c,⟨a,b,j⟩,q,J⟩:=st;obtain⟨D,p,C⟩:=Vp I hx;obtain⟨N,G,R⟩:=Vp I n;have n1:=p.length;have n2:=G.length;refine Lo (Z59 O I hf hx n) (Tj I hc (hf i1 ZJ) hx D) (Tj I hc (hf i2 ZJ) n N) hz c j ⟨q,C,Lp I⟩ ⟨J,R,Lp I⟩ (by simp;omega) (by simp;omega) λx y g tk Y M S B s1 s2 pr sz kp=>?_;refine⟨_,rfl,wpAny_letOwnedTupleGo_zip S λL z2 v=>?_⟩;obtain⟨x0,ex,T⟩:=Z1x p lx Y;obtain⟨y0,Z,U⟩:=Z1x G Q M;have f:∀ b,b≠z->L.get? b=g.get? b:=λb d=>v.2 b d;have A:ObjOk X.prog X.w (upd H s.heap.objs.size (.tup [x0,y0])) L s.heap.objs.size (.tup [x0,y0]) :=
   ⟨by show 2<=sizeLine;decide,[x,y],.cons T (.cons U .nil),⟨_,by rw[f _ (GQ (YQ hz))];exact pr,rfl,0,rfl⟩⟩
  have V:=Tg (t':=tk) I hf (λb o d e=>by
   simp only [YT,JP,jc,Y1X] at d;rw[f b d.1];exact kp b o d.1 d.2.2.1 d.2.2.2.1 d.2.2.2.2 e) (YJ _) A
  refine⟨.ref s.heap.objs.size,_,V,rfl,⟨_,x0,y0,rfl,I.fresh,rfl,λW h1=>by rw[Kr I h1 hx];exact ex,λys' h2=>by rw[Kr I h2 n];exact Z⟩,⟨z2,(f TI O.a1).trans (kp _ _ O.a1 O.a5 O.a6 O.a7 c),⟨x,y,(f TO O.a2).trans B⟩,?_,?_⟩,Z5k rfl hf ob⟩
  ·obtain⟨⟨o,e,r⟩,_⟩:=s1;exact⟨o,v.extBut _ _ O.a3 e,r⟩
  obtain⟨⟨o,e,r⟩,_⟩:=s2;exact⟨o,v.extBut _ _ O.a4 e,r⟩
 done:=by
  intro X F hw hK hc i pins s σ H E I hf st hg;subst F hw hK;obtain⟨xs,ys,hx,n,rfl⟩:=hg;obtain⟨hz,c,⟨a,b,j⟩,q,J⟩:=st;obtain⟨D,p,C⟩:=Vp I hx;rw[p.length,<-YM] at q;refine Rn (Z59 O I hf hx n) (Tj I hc (hf i1 ZJ) hx D) hz c ⟨q,C,Lp I⟩ λg kp=>⟨rfl,?_⟩;exact Pb (t':=s.toks) I hf λb o d e=>by
   simp only [YT,JP,jc,Y1X] at d;exact kp b o d.1 d.2.2.2.1 e
 self:=λ_ _ _ _ _ st h=>wpAny_pyIter_zip st.1 h
end
section
variable {X:Cx}{es:TL}{kk:Nat}{tp:Pos}{p:Pos}{ta:TA}{a b:Expr}
def Z21 {σ:_L.St}{ch:List Nat}(I:Inv X pins σ H s)(h:∀ b∈ch,s.heap.objs.size<=b):∀ b∈ch,FpOk X pins H b:=λb a=>I.fpOk (h b a) (I.hok.fresh (h b a))
inductive iZip_i (S T:Hp->Addr->List V->Prop) (R:(It->Hp->Prop)) (vs:TZ) (H1:Hp):Prop
 | mk (t u:_) (zz0:vs=[.ref t,.ref u]) (zz1:(∃ xs,S H1 t xs)) (zz2:(∃ ys,T H1 u ys)) (zz3:R (ItG S T t u) H1)
def iZip (S T:Hp->Addr->List V->Prop)(ta:TA):TI:=λσ H R=>ta σ H (iZip_i S T R)
theorem Gp (l m:Bool)(hg:Gl X "zip")(hm:X.mg "zip"=none)(ha:PA X [a,b] ta)(hs:starEach [a,b] X.env=[(false,eval a X.env),(false,eval b X.env)])
  (c:starEach [b] X.env=[(false,eval b X.env)]):PI X (.Tuple es kk tp) (.Call (.Name "zip" p) [a,b] [] pos) (iZip (Sq l X.K) (Sq m X.K) ta):=by
 intro pins s σ H R I h;refine Call_ (Wo I hg hm boot_zip (JJ (thn (ha pos pins s σ H _ I h) λus s1 ⟨vs,H1,d,r1,o⟩=>?_) (by rw[hs,c]) (by rw[c];rfl)));obtain⟨t,u,e,⟨xs,hx⟩,⟨ys,f⟩,q⟩:=o;subst e;obtain⟨j,r,e0,rt,ru⟩:=Ga r1
 cases (show j=Value.ref t from rt)
 cases (show r=Value.ref u from ru);subst e0;obtain⟨x,z,k⟩:=Vp d hx;obtain⟨w,y,i⟩:=Vp d f;refine Z2h l m k i λg z0 n to i1 i2 v kp=>wpAny_pyIter_zip z0 ?_;refine⟨s1.heap.objs.size+4,[s1.heap.objs.size+4,s1.heap.objs.size+2,s1.heap.objs.size+3,s1.heap.objs.size,s1.heap.objs.size+1],_,_,H1,rfl,d.kept (t':=s1.toks) kp,Bc (O:=?_) t u,⟨z0,n,⟨_,_,to⟩,i1,i2⟩,Z21 d ?_,q⟩
 ·refine⟨?_,?_,?_,?_,?_,?_,?_,?_,?_,?_⟩ <;> (show @Ne Nat _ _;omega)
 simp
theorem Z0n (hg:Gl X "zip")(hm:X.mg "zip"=none)(ha:PA X [a,b] ta)(hs:starEach [a,b] X.env=[(false,eval a X.env),(false,eval b X.env)]:=by rfl)
  (c:starEach [b] X.env=[(false,eval b X.env)]:=by rfl):PI X (.Tuple es kk tp) (.Call (.Name "zip" p) [a,b] [] pos) (iZip (SqT X.K) (SqT X.K) ta):=Gp false false hg hm ha hs c
theorem Mc (hg:Gl X "zip")(hm:X.mg "zip"=none)(ha:PA X [a,b] ta)(hs:starEach [a,b] X.env=[(false,eval a X.env),(false,eval b X.env)]:=by rfl)
  (c:starEach [b] X.env=[(false,eval b X.env)]:=by rfl):PI X (.Tuple es kk tp) (.Call (.Name "zip" p) [a,b] [] pos) (iZip (SqL X.K) (SqL X.K) ta):=Gp true true hg hm ha hs c
end
noncomputable def IteG (S:Hp->Addr->List V->Prop)(t:Addr):It :=
 ⟨λi H=>∃ xs,S H t xs/\i<xs.length,
   λi H v H'=>∃ p x,v=.ref p/\H p=none/\H'=upd H p (.tup [.int (i:Int),x])/\∀ xs,S H t xs->xs[i]?=some x,
   λi H=>∃ xs,S H t xs/\i=xs.length⟩
noncomputable abbrev IteL (K:TR):Addr->It:=IteG (SqL K)
section
variable {P:TU}{es:TL}{kk:Nat}{tp:Pos}{e t:Addr}{l:Bool}
def Z5q (st:(∃ a,IsEnum h e it (i:Int) a)/\Ir l h it t i):∀ b∈[e,it],∃ o,h.get? b=some o/\∀ v,o.data≠.cell v:=λb c=>by
 obtain⟨⟨a,d⟩,⟨o1,e1,_,d1⟩⟩:=st;simp only [YT,JP,jc] at c;rcases c with rfl | rfl
 ·exact⟨_,d,λv q=>by have q':Data.fields _=Data.cell v:=q;cases q'⟩
 exact⟨_,e1,λv q=>by rw[d1] at q;cases q⟩
theorem Fw (O:e≠it)(t:Addr):Turn P w K (.Tuple es kk tp) (IteG (Sq l K) t) [e,it] e (λi h=>(∃ a,IsEnum h e it (i:Int) a)/\Ir l h it t i) where
 mem:=ZJ
 obj:=λi h st=>Z5q st
 keep:=λi h h' st k=>by
  obtain⟨⟨a,d⟩,⟨o1,e1,r1⟩⟩:=st;exact⟨⟨a,k e ZJ _ d⟩,⟨o1,k it ZJ _ e1,r1⟩⟩
 item:=by
  intro X z hw hK hc i pins s σ H E I hf st hg;subst z hw hK;obtain⟨xs,hx,lx⟩:=hg;have ob:=Z5q st;obtain⟨⟨a,d⟩,v⟩:=st;obtain⟨j,m,n⟩:=Vp I hx;have n1:=m.length;have C:=hf e ZJ;refine wpAny_pyNext_enum_itemD (Tj I hc (hf it ZJ) hx j) d ⟨v,n,Lp I⟩ (by simp;omega) O (by simp[O,(Gd I C hx).symm,(Ja C).1]) λx g tk F p s1 pr L kp=>?_;refine⟨_,rfl,wpAny_letOwnedTupleGo_enum p λA z2 B=>?_⟩;obtain⟨x0,ex,J⟩:=Z1x m lx F;have f:∀ b,b≠e->A.get? b=g.get? b:=λb c=>B.2 b c;have u:ObjOk X.prog X.w (upd H s.heap.objs.size (.tup [.int (i:Int),x0])) A s.heap.objs.size (.tup [.int (i:Int),x0]) :=
   ⟨by show 2<=sizeLine;decide,[.int (i:Int) tk,x],.cons ⟨tk,rfl⟩ (.cons J .nil),⟨_,by rw[f _ (GQ (YQ d))];exact pr,rfl,0,rfl⟩⟩
  have G:=Tg (t':=tk+1) I hf (λb o c q=>by
   simp only [YT,JP,jc,Y1X] at c;rw[f b c.1];exact kp b o c.1 c.2 q) (YJ _) u
  refine⟨.ref s.heap.objs.size,_,G,rfl,⟨_,x0,rfl,I.fresh,rfl,λD h1=>by rw[Kr I h1 hx];exact ex⟩,⟨⟨x,z2⟩,?_⟩,Z5k rfl hf ob⟩;obtain⟨⟨o,q,r⟩,_⟩:=s1;exact⟨o,B.extBut _ _ O.symm q,r⟩
 done:=by
  intro X z hw hK hc i pins s σ H E I hf st hg;subst z hw hK;obtain⟨xs,hx,rfl⟩:=hg;obtain⟨⟨a,d⟩,v⟩:=st;obtain⟨j,m,n⟩:=Vp I hx;have y:Ir l s.heap it t j.toArray.size:=by
   rw[YM,<-m.length];exact v
  refine wpAny_pyNext_enum_endD (Tj I hc (hf it ZJ) hx j) d ⟨y,n,Lp I⟩ λg kp=>⟨rfl,?_⟩;exact Pb (t':=s.toks) I hf λb o c q=>by
   simp only [YT,JP,jc,Y1X] at c;exact kp b o c.2 q
 self:=λ_ _ _ _ _ st h=>by
  obtain⟨⟨a,d⟩,_⟩:=st;exact wpAny_pyIter_enum d h
end
section
variable {X:Cx}{es:TL}{kk:Nat}{tp:Pos}{p:Pos}{ta:TA}{a:Expr}
inductive iEnum_i (S:Hp->Addr->List V->Prop) (R:(It->Hp->Prop)) (vs:TZ) (H1:Hp):Prop
 | mk (t:_) (zz0:vs=[.ref t]) (zz1:(∃ xs,S H1 t xs)) (zz2:R (IteG S t) H1)
def iEnum (S:Hp->Addr->List V->Prop)(ta:TA):TI:=λσ H R=>ta σ H (iEnum_i S R)
theorem Lr (l:Bool)(hg:Gl X "enumerate")(hm:X.mg "enumerate"=none)(ha:PA X [a] ta)(hs:starEach [a] X.env=[(false,eval a X.env)]):PI X (.Tuple es kk tp) (.Call (.Name "enumerate" p) [a] [] pos) (iEnum (Sq l X.K) ta):=by
 intro pins s σ H R I h;refine Call_ (Wo I hg hm boot_enumerate (JJ (thn (ha pos pins s σ H _ I h) λus s1 ⟨vs,H1,b,r1,f⟩=>?_) hs rfl));obtain⟨t,e,⟨xs,hx⟩,q⟩:=f;subst e;obtain⟨c,e0,rt⟩:=V4 r1
 cases (show c=Value.ref t from rt);subst e0;obtain⟨j,k,d⟩:=Vp b hx;refine Cy l d λg z0 i1 i kp=>wpAny_pyIter_enum z0 ?_;refine⟨s1.heap.objs.size+1,[s1.heap.objs.size+1,s1.heap.objs.size],_,_,H1,rfl,b.kept (t':=s1.toks) kp,Fw (O:=?_) t,⟨⟨_,z0⟩,i1⟩,Z21 b ?_,q⟩
 ·show @Ne Nat _ _;omega
 simp
theorem Z3e (hg:Gl X "enumerate")(hm:X.mg "enumerate"=none)(ha:PA X [a] ta)(hs:starEach [a] X.env=[(false,eval a X.env)]:=by rfl):PI X (.Tuple es kk tp) (.Call (.Name "enumerate" p) [a] [] pos) (iEnum (SqT X.K) ta):=Lr false hg hm ha hs
theorem T7 (hg:Gl X "enumerate")(hm:X.mg "enumerate"=none)(ha:PA X [a] ta)(hs:starEach [a] X.env=[(false,eval a X.env)]:=by rfl):PI X (.Tuple es kk tp) (.Call (.Name "enumerate" p) [a] [] pos) (iEnum (SqL X.K) ta):=Lr true hg hm ha hs
end
end _b
namespace _b
open PySem _L
structure Ext (H H':Hp):Prop where
 tup:∀ b xs,H b=some (.tup xs)->H' b=some (.tup xs)
 frz:∀ b o u,H b=some (.frz o u)->H' b=some (.frz o u)
theorem Ext.trans (a:Ext H H1)(b:Ext H1 H2):Ext H H2:=⟨λc xs h=>b.tup c xs (a.tup c xs h),λc o u h=>b.frz c o u (a.frz c o u h)⟩
def Ext.same (x:Same H H'):Ext H H':=⟨λb _ h=>x b _ h,λb _ _ h=>x b _ h⟩
theorem Ext.x {a:Addr}(x:SameX a H H')(ha:H a=some (.lst ys)):Ext H H' :=
 ⟨λb _ h=>x b _ h (Z5l h ha (by intro z;cases z)),λb _ _ h=>x b _ h (Z5l h ha (by intro z;cases z))⟩
theorem Ext.bag {a:Addr}{n:Nat}(x:SameX a H H')(ha:BagAt H a n):Ext H H':=by
 obtain⟨ys,e⟩:=ha.lst;exact Ext.x x e
theorem Ext.upd {l:Addr}{H:Hp}{ys:TZ}{o:HO}(hl:H l=some (.lst ys)):Ext H (_L.upd H l o):=Ext.x (SameX.upd l H o) hl
theorem Ext.new {l:Addr}{H:Hp}{o:HO}(hl:H l=none):Ext H (_L.upd H l o):=Ext.same (Same.new hl)
def Ext.sq {a:Addr}(e:Ext H H')(h:SqT K H a xs):SqT K H' a xs:=by
 rcases h with (h | ⟨o,h⟩) | h
 ·exact .inl (.inl (e.tup _ _ h))
 ·exact .inl (.inr ⟨o,e.frz _ _ _ h⟩)
 exact .inr h
abbrev Rat:=Int × Int
abbrev _root_.UB:=List (List Rat)
abbrev _root_.UA:=List Rat
def IsR (K:TR)(H:Hp)(r:Rat)(v:V):Prop:=∃ b,v=.ref b/\SqT K H b [.int r.1,.int r.2]
def IsR.ext {r:Rat}(h:IsR K H r v)(e:Ext H H'):IsR K H' r v:=by
 obtain⟨b,q,h⟩:=h;exact⟨b,q,e.sq h⟩
def Rs (K:TR)(H:Hp)(rs:UA)(xs:TZ):Prop:=Paired (IsR K H) rs xs
theorem Rs.ext {K:TR}{H H':Hp}{rs:UA}{xs:TZ}(h:Rs K H rs xs)(e:Ext H H'):Rs K H' rs xs:=Paired.mapP h λ_ _ q=>q.ext e
def Rs.snoc {rs:UA}{r:Rat}(h:Rs K H rs xs)(q:IsR K H r v):Rs K H (rs++[r]) (xs++[v]):=Y0S h q
def Rs.len {rs:UA}(h:Rs K H rs xs):rs.length=xs.length:=XB h
theorem Rs.at {K:TR}{H:Hp}:∀ {rs:UA} {xs:TZ} {i:Nat} {r:Rat},Rs K H rs xs->rs[i]?=some r->∃ v,xs[i]?=some v/\IsR K H r v
 | _,_,_,_,.nil,e=>by simp at e
 | _,_,0,_,.cons q _,e=>by
  simp at e;subst e;exact⟨_,rfl,q⟩
 | _,_,i+1,r,.cons _ t,e=>by
  obtain⟨v,h1,h2⟩:=Rs.at (i:=i) (r:=r) t (by simpa using e);exact⟨v,by simpa using h1,h2⟩
def Rs.back {rs:UA}(h:Rs K H rs xs)(e:xs[i]?=some v):∃ r,rs[i]?=some r/\IsR K H r v:=by
 have hi:i<xs.length:=(YG.mp e).1;have hr:i<rs.length:=by rw[h.len];exact hi
 obtain⟨w,h1,h2⟩:=h.at (i:=i) (r:=rs[i]) (by simp[hr]);rw[e] at h1
 cases h1;exact⟨_,by simp[hr],h2⟩
def RowAt (K:TR)(H:Hp)(a:Addr)(rs:UA):Prop:=∃ xs,SqT K H a xs/\Rs K H rs xs
theorem RowAt.ext {K:TR}{H H':Hp}{a:Addr}{rs:UA}(h:RowAt K H a rs)(e:Ext H H'):RowAt K H' a rs:=by
 obtain⟨xs,h1,h2⟩:=h;exact⟨xs,e.sq h1,h2.ext e⟩
structure Good (n:Nat)(r:Rat):Prop where
 b1:Bd n r.1
 b2:Bd n r.2
 pos:0<r.2
 cop:Int.gcd r.1 r.2=1
theorem Good.mono {m n:Nat}{r:Rat}(h:Good m r)(k:m<=n):Good n r:=⟨h.b1.mono k,h.b2.mono k,h.pos,h.cop⟩
noncomputable def nrm (p q:Int):Rat:=(nT p q,nB p q)
def Vw {n:Nat}{p q:Int}(hp:Bd n p)(hq:Bd n q)(h:q≠0):Good n (nrm p q):=⟨hp.of_le' (Z82 h),hq.of_le' (Z83 h),Mj h,Z1k h⟩
noncomputable def addR (r s:Rat):Rat:=nrm (r.1*s.2+s.1*r.2) (r.2*s.2)
noncomputable def subR (r s:Rat):Rat:=nrm (r.1*s.2 - s.1*r.2) (r.2*s.2)
noncomputable def mulR' (r s:Rat):Rat:=nrm (r.1*s.1) (r.2*s.2)
def Wl {a b:Int}(ha:0<a)(c:0<b):a*b≠0:=by
 have:=XU ha c;omega
end _b
variable {gs l rs:UA}{rss:UB}
namespace _b
open PySem PySem.Spec PyProof.Rows _L
set_option maxRecDepth 100000
def Va:fillsNumberSlot (.type "tuple") "mul"=pure false :=
 PySem.fillsNumberSlot_seq (id:="tuple.__mul__") (r:=some (.builtin "tuple.__rmul__")) Y0f.lookup ZZ F.slot_tuple_rmul.lookup ZZ
def Uy:seqRepeat? (.type "tuple")=pure (some (.builtin "tuple.__mul__")):=by
 unfold seqRepeat?;rw[PySem.seqSlot_of (T:="tuple") (name:="__mul__") (id:="tuple.__mul__") Y0f.lookup ZZ,PySem.seqSlot_of (T:="tuple") (name:="__rmul__") (id:="tuple.__rmul__") F.slot_tuple_rmul.lookup ZZ];rfl
def Ua (a:Int)(t:Tok)(l:Addr)(items:Array Value)(n:Nat)(b:TQ)(sl:Array (Option Value)) :
  Meets (Builtin.«int.__rmul__» ⟨[.int a t,.ref l],[]⟩) (λ_ R s=>s.heap.get? l=some { cls:=.type "tuple",dict:=b,data:=.seq items n,slots:=sl }/\R (.ok (.ret Value.notImplemented)) s) :=
 .of_wp λprog w A R s h=>by obtain⟨hp,g,d,tk,os⟩:=s;obtain⟨hl,h⟩:=h;wp_walk;exact⟨_,rfl,h⟩
def Fy (l:Addr)(items:Array Value)(n:Nat)(j:TQ)(sl:Array (Option Value))(x:Int)(u:Tok)(h1:2<=x)(h2:items.isEmpty=false)(h3:items.size*x.toNat<=1000) :
  Meets (Builtin.«tuple.__mul__» ⟨[.ref l,.int x u],[]⟩) (λ_ R s=>s.heap.get? l=some { cls:=.type "tuple",dict:=j,data:=.seq items n,slots:=sl } ∧
   R (.ok (.ret (Value.ref s.heap.objs.size))) { s with heap:=s.heap.push { cls:=Value.type "tuple",data:=Data.seq (List.foldl (·++·) #[] (List.replicate x.toNat items)) } }) :=
 .of_wp λprog w A R s h=>by
  obtain⟨hp,g,d,tk,os⟩:=s;obtain⟨hl,h⟩:=h;have f1:=AutoSeq1.idx_int;have f2:=Y12;have b1:(items.size:Int)*x<=1000:=by
   have e:x=(x.toNat:Int):=J0
   rw[e,<-Int.natCast_mul];omega
  have b2:0<items.size:=by
   cases items with
   | mk l=>cases l with
    | nil=>simp at h2
    | cons a r=>simp
  have o:x<=1000:=by
   have:(1:Int)*x<=(items.size:Int)*x:=JZ J0 J0;omega
  have i:¬ (decide (x < -2 ^ 63) || decide (x ≥ 2 ^ 63))=true:=by simp;omega
  have k:¬ (items.isEmpty || x == 1)=true:=by rw[h2];simp;omega
  have b:¬ (decide (x<=0) || items.isEmpty)=true:=by rw[h2];simp;omega
  have c:¬ ((items.size:Int)*x > (2 ^ 63 - 1) / 8):=by
   have:(1000:Int)<=(2 ^ 63 - 1) / 8:=J1
   omega
  have p:¬ Builtin.Tuple.tupleTooMany ((items.size:Int)*x)=true:=by
   unfold Builtin.Tuple.tupleTooMany;have:((items.size:Int)*x).toNat<=1000:=J0
   have:(1000:Nat)<=sizeLine:=J1
   simp;omega
  have m:(List.foldl (λx1 f=>x1++f) #[] (List.replicate x.toNat items)).size<=sizeLine:=by
   rw[AutoSeq1.size_joined];have:(1000:Nat)<=sizeLine:=J1
   have e:x.toNat*items.size=items.size*x.toNat:=zU ..;simp;omega
  wp_walk using GY hl
  refine Y0p (XF i) ?_
  wp_walk using GY hl
  refine Y0p (XF k) ?_
  wp_walk using GY hl
  refine Y0p (XF b) ?_
  wp_walk using GY hl
  refine Y0p (XF c) ?_
  wp_walk using GY hl
  exact⟨_,rfl,h⟩
section
variable {X:Cx}
inductive rRepT (K:TR) (x:V) (y:V) (H:Hp) (Q:VK):Prop
 | mk (a k xs:_) (zz0:x=.ref a) (zz1:y=.int k) (zz2:SqT K H a xs) (zz3:2<=k) (zz4:xs≠[]) (zz5:xs.length*k.toNat<=1000) (zz6:∀ p,H p=none->Q (.ref p) (upd H p (.tup (List.replicate k.toNat xs).flatten)))
theorem Z3j:OpR X (binaryOp .Mult) (rRepT X.K):=by
 intro pins s σ H x y v u Q I g i h;obtain⟨l,k,xs,rfl,rfl,hq,h1,h2,h3,q⟩:=h
 cases g;obtain⟨t,rfl⟩:=i;obtain⟨its,r,pl,hz⟩:=I.tuple hq;obtain⟨⟨cls,d,data,sl⟩,ho,hc,n,hd⟩:=id pl;simp only at hc hd;subst hc hd;have hl:=r.length;have f:its.toArray.isEmpty=false:=by
  cases its with
  | nil=>cases r;exact absurd rfl h2
  | cons a b=>rfl
 have c:List.foldl (λx1 e=>x1++e) #[] (List.replicate k.toNat its.toArray)=(List.replicate k.toNat its).flatten.toArray:=by
  have:=Ng its k.toNat [];rw[List.nil_append] at this;exact this
 refine Y0L (T:="tuple") (U:="int") J1 ⟨_,ho,rfl⟩ (λs'=>Y1e s' k t) Va F.fills_int_mul Y0q Uy F.slot_int_index.lookup
  (zH Y0q (Y1e s k t) F.entry_int_rmul (F.args_int_rmul_2 _ _) (Ua k t l its.toArray n d sl)
   ⟨ho,rfl,⟨_,ho,rfl⟩,zH Y0f ⟨_,ho,rfl⟩ F.entry_tuple_mul (F.args_tuple_mul_2 _ _) (Fy l its.toArray n d sl k t h1 f (by rw[YM,<-hl];exact h3)) ⟨ho,?_⟩⟩)
 rw[c];refine⟨.ref s.heap.objs.size,_,I.laid (t':=s.toks) (o:=.tup (List.replicate k.toNat xs).flatten) (λb ob q=>YC _ q) (YJ _) ?_,rfl,q _ (I.hok.fresh (YJ _))⟩;exact⟨by rw[Z4k,zU];exact YR h3 J1,_,r.rep k.toNat,IsTup.new _ _⟩
inductive rEqI (K:TR) (x:V) (y:V) (H:Hp) (Q:VK):Prop
 | mk (a b:Addr) (ns ms:TV) (zz0:x=.ref a) (zz1:y=.ref b) (zz2:SqT K H a (ns.map V.int)) (zz3:SqT K H b (ms.map V.int)) (zz4:Q (.bl (decide (ns=ms))) H)
def G7 (ns ms:TV):((List.range (min ns.length ms.length)).all (λj=>ns.getD j 0 == ms.getD j 0) && ns.length == ms.length)=decide (ns=ms):=by
 rw[GE];simp only [zc,qj,XI,zu,zE];constructor
 ·rintro ⟨h,hl⟩;refine Y18 hl λi h1 h2=>?_;have:=h i J0
  simpa [List.getD,h1,h2] using this
 rintro rfl;exact⟨λ_ _=>rfl,rfl⟩
def U9 {ns:TV}{us:TH}(r:Vals (ns.map V.int) us){j:Nat}(h:j<us.length):∃ t,us[j]=Value.int (ns.getD j 0) t:=by
 have hl:=r.length;rw[YB] at hl;have hj:j<ns.length:=J0
 obtain⟨u,e,q⟩:=r.get (i:=j) (show (ns.map V.int)[j]?=some (V.int ns[j]) by simp[hj]);obtain⟨t,rfl⟩:=q;have e2:us[j]?=some us[j]:=by simp[h]
 rw[e2] at e;refine⟨t,?_⟩;rw[YU e];simp[List.getD,hj]
theorem Jd (hu:X.A.units<cLine)(hK:X.K=K:=by rfl):OpR X (compareOp .Eq) (rEqI K):=by
 subst hK;intro pins s σ H x y v u Q I n o h;obtain⟨a,b,ns,ms,rfl,rfl,ha,l,q⟩:=h
 cases n
 cases o;obtain⟨its,r1,m,_⟩:=I.tuple ha;obtain⟨c,r2,k,_⟩:=I.tuple l;have i:=r1.length;have g:=r2.length;rw[YB] at i g;refine SeqAt.eq_tupleAt (e:=λj=>ns.getD j 0 == ms.getD j 0) m k hu (λj h1 h2=>?_) ?_
 ·obtain⟨t,e1⟩:=U9 r1 (j:=j) (by simpa using h1);obtain⟨t',e2⟩:=U9 r2 (j:=j) (by simpa using h2);have f:its.toArray[j]=Value.int (ns.getD j 0) t:=by simpa using e1
  have d:c.toArray[j]=Value.int (ms.getD j 0) t':=by simpa using e2
  rw[f,d];exact zv _ _ _ _
 rw[YM,YM,<-i,<-g,G7];exact⟨.bl _,H,I,rfl,q⟩
noncomputable def Jc (h:X.K=K:=by rfl):OpR X (compareOp .In) (rIn K false):=h ▸ Wh
end
def Pd (i:Int)(ns:TV):inV (.int i) (ns.map V.int)=decide (i∈ns):=by
 unfold inV;rw[List.any_map,GE];simp only [List.any_eq_true,zE,Function.comp];constructor
 ·rintro ⟨x,hx,e⟩;have:x=i:=by simpa [eqV] using e
  exact this ▸ hx
 intro h;exact⟨i,h,by simp[eqV]⟩
def Sh (ns:TV):(ns.map V.int).all flatV=true:=by
 rw[Y1S,qj];intro x _;rfl
end _b
namespace _b
open PySem _L
def Con (K:TR)(mg:TB)(x:Str)(r:Rat):Prop:=∃ a:Addr,mg x=some (.ref a)/\∀ H,SqT K H a [.int r.1,.int r.2]
def Z2e {x:Str}{a:Addr}{i j:Int}{b c:Tok}{n:Nat}{d:TQ}{sl:Array (Option Value)}(X:K.In h)(G:h.Ns mainGlobals mg)
  (e:W.nsIn K mainGlobals x=some (some (.ref a))) (l:K.lookup a=some ⟨.type "tuple",d,.seq #[.int i b,.int j c] n,sl⟩):Con K mg x (i,j) :=
 ⟨a,Y1R X G e,λH=>.inr ⟨_,_,_,l,rfl,rfl,sz2,.cons ⟨_,rfl⟩ (.cons ⟨_,rfl⟩ .nil)⟩⟩
noncomputable def evI (c:Nat)(p:Nat->Bool):List Int:=((List.range c).filter p).map λ(w:Nat)=>(w:Int)
def EvAt (K:TR)(H:Hp)(c:Nat)(o:TW)(v:V):Prop:=match o with
 | none=>v=.non
 | some p=>∃ a,v=.ref a/\SqT K H a ((evI c p).map V.int)
def EvAt.ext {K:TR}{H H':Hp}{c:Nat}{o:TW}{v:V}(h:EvAt K H c o v)(e:Ext H H'):EvAt K H' c o v:=by
 cases o with
 | none=>exact h
 | some p=>obtain⟨a,q,h⟩:=h;exact⟨a,q,e.sq h⟩
theorem EvAt.same {K:TR}{H H':Hp}{c:Nat}{o:TW}{v:V}(h:EvAt K H c o v)(e:Same H H'):EvAt K H' c o v:=h.ext (Ext.same e)
noncomputable def inE (o:TW)(i:Nat):Bool:=match o with
 | none=>true
 | some p=>p i
def Gw {c:Nat}{p:Nat->Bool}:((i:Int)∈evI c p) ↔ i<c/\p i=true:=by
 unfold evI;simp only [YN,XE,XI];constructor
 ·rintro ⟨j,h,e⟩;have:j=i:=J0
  exact this ▸ h
 intro h;exact⟨i,h,rfl⟩
def Kf (c:Nat)(p:Nat->Bool):evI (c+1) p=evI c p++if p c then [(c:Int)] else []:=by
 unfold evI;rw[GG,JV,XH]
 congr 1
 cases h:p c <;> simp[h]
def Co {c:Nat}{p q:Nat->Bool}(h:∀ i,i<c->p i=q i):evI c p=evI c q:=by
 unfold evI
 congr 1
 apply List.filter_congr;intro x hx;exact h x (XI.mp hx)
def K9 {c A B:Prop}[Decidable c](hc:c)(h:A):if decide c=true then A else B:=by rw[XA hc];exact V0 h
def Qz {c A B:Prop}[Decidable c](hc:¬ c)(h:B):if decide c=true then A else B:=by rw[XF hc];exact Xc h
def Z4o {b:Bool}{A B:Prop}(h1:b=true->A)(h0:b=false->B):if b=true then A else B:=by
 cases b with
 | true=>exact V0 (h1 rfl)
 | false=>exact Xc (h0 rfl)
def Yl {α:Type}{l:List α}{x:α}(h:l[i]?=some x):l.take (i+1)=l.take i++[x]:=by rw[GU,h];rfl
noncomputable def cutR (o:TW)(rs:UA):List Rat:=rs.mapIdx λi r=>if inE o i then r else (0,1)
def Ww {r:Rat}(h:rs[i]?=some r):(cutR o rs)[i]?=some (if inE o i then r else (0,1)):=by
 unfold cutR;rw[jd,h];rfl
def X1 (o:TW)(rs:UA):(cutR o rs).length=rs.length:=by unfold cutR;simp
noncomputable def zipR {α:Type}(op:Rat->Rat->α)(rs ss:UA)(i:Nat):List α:=List.zipWith op (rs.take i) (ss.take i)
def Fs {α:Type}(op:Rat->Rat->α){rs ss:UA}{i:Nat}{r s:Rat}(hr:rs[i]?=some r)(hs:ss[i]?=some s):zipR op rs ss (i+1)=zipR op rs ss i++[op r s]:=by
 have a:i<rs.length:=(YG.mp hr).1;have ls:i<ss.length:=(YG.mp hs).1;unfold zipR;rw[GU,GU,hr,hs,Y1z (by simp;omega)];rfl
def B0 {α:Type}(op:Rat->Rat->α){rs ss:UA}{n:Nat}(hr:rs.length=n)(hs:ss.length=n):zipR op rs ss n=List.zipWith op rs ss:=by
 unfold zipR;rw[YZ J0,YZ J0]
noncomputable def mapR {α:Type}(op:Rat->α)(rs:UA)(i:Nat):List α:=(rs.take i).map op
def C7 {α:Type}(op:Rat->α){rs:UA}{i:Nat}{r:Rat}(hr:rs[i]?=some r):mapR op rs (i+1)=mapR op rs i++[op r]:=by
 unfold mapR;rw[GU,hr,XH];rfl
def Z1o {α:Type}(op:Rat->α){rs:UA}{n:Nat}(hr:rs.length=n):mapR op rs n=rs.map op:=by
 unfold mapR;rw[YZ J0]
noncomputable def ltR (r s:Rat):Bool:=decide (r.1*s.2<s.1*r.2)
open PySem.Spec PyProof.Rows
section
variable {X:Cx}
def iSeq (K:TR)(tl:TE):TI:=λσ H R=>tl σ H λx H1=>∃ a,x=.ref a/\(((∃ xs,SqL K H1 a xs)/\R (Itl K a) H1) \/ ((∃ xs,SqT K H1 a xs)/\R (Itt K a) H1))
theorem Z6d {l:Expr}(hl:PE X l tl):PI X tg l (iSeq X.K tl):=by
 intro pins s σ H R I h;refine thn (hl pins s σ H _ I h) λv s1 ⟨x,H1,c,r1,f⟩=>?_;obtain⟨a,e,⟨⟨xs,hq⟩,q⟩ | ⟨⟨xs,hq⟩,q⟩⟩:=f
 ·subst e
  cases r1;obtain⟨its,rv,p,hz⟩:=c.list hq;refine zD p.isList ?_;refine⟨s1.heap.objs.size,[s1.heap.objs.size],_,_,H1,rfl,c.kept (t':=s1.toks) λb o e=>YC _ e,Tp a _,⟨_,YS _ rfl,rfl,rfl⟩,λb d=>?_,q⟩;have e:b=s1.heap.objs.size:=by simpa using d
  subst e;exact c.fpOk (YJ _) (c.hok.fresh (YJ _))
 subst e
 cases r1;obtain⟨its,rv,p,hz⟩:=c.tuple hq;refine jr (show s1.heap.IsTuple a its.toArray from p) ?_;refine⟨s1.heap.objs.size,[s1.heap.objs.size],_,_,H1,rfl,c.kept (t':=s1.toks) λb o e=>YC _ e,Ug a _,⟨_,YS _ rfl,rfl,rfl⟩,λb d=>?_,q⟩;have e:b=s1.heap.objs.size:=by simpa using d
 subst e;exact c.fpOk (YJ _) (c.hok.fresh (YJ _))
def Z4u {a:Addr}{g:TG}{D:Ends}{σ:_L.St}(d:Nat->_L.St->Hp->Prop)(hx:SqL K H a xs \/ SqT K H a xs)(h0:d 0 σ H)(hS:∀ i σ H',i<=xs.length->d i σ H'->Same H H')
  (hs:∀ i x σ H,xs[i]?=some x->d i σ H->g x σ H λc H2=>tb { D with nx:=d (i+1),ct:=d (i+1),bk:=D.nx } c H2) (hd:∀ σ H,d xs.length σ H->D.nx σ H) :
  ∃ b,V.ref a=.ref b/\(((∃ xs,SqL K H b xs)/\∃ W:Nat->Nat->_L.St->Hp->Prop,(∃ m,W 0 m σ H)/\∀ i m σ H,W i m σ H →
   ((Itl K b).stop i H/\D.nx σ H) \/ ((Itl K b).go i H/\∃ N:_L.St->Hp->Prop,(∀ σ' H',N σ' H'->∃ e,e<m/\W (i+1) e σ' H')/\∀ x H',(Itl K b).yld i H x H'->g x σ H' λc H2=>tb { D with nx:=N,ct:=N,bk:=D.nx } c H2)) ∨
   ((∃ xs,SqT K H b xs)/\∃ W:Nat->Nat->_L.St->Hp->Prop,(∃ m,W 0 m σ H)/\∀ i m σ H,W i m σ H →
   ((Itt K b).stop i H/\D.nx σ H) \/ ((Itt K b).go i H/\∃ N:_L.St->Hp->Prop,(∀ σ' H',N σ' H'->∃ e,e<m/\W (i+1) e σ' H')/\∀ x H',(Itt K b).yld i H x H'->g x σ H' λc H2=>tb { D with nx:=N,ct:=N,bk:=D.nx } c H2))):=by
 refine⟨a,rfl,?_⟩;rcases hx with hx | hx
 ·exact .inl ⟨⟨_,hx⟩,Wp (K:=K) (a:=a) (xs:=xs) d h0 (λi σ H' hi p=>by
   rcases hx with (z | ⟨o,z⟩) | z
   ·exact .inl (.inl (hS i σ H' hi p _ _ z))
   ·exact .inl (.inr ⟨o,hS i σ H' hi p _ _ z⟩)
   exact .inr z) hs hd⟩
 exact .inr ⟨⟨_,hx⟩,Mu (K:=K) (a:=a) (xs:=xs) d h0 (λi σ H' hi p=>Zx (hS i σ H' hi p) hx) hs hd⟩
theorem Sk (hc:X.calm=true)(hK:X.K=K:=by rfl):CallR X (.builtin "sum") (λxs H Q=>∃ (p:Addr) (ns:TV),xs=[.ref p]/\SqL K H p (ns.map V.int)/\Q (.int ns.sum) H):=by
 subst hK;intro pins s σ H xs us Q I r h;obtain⟨p,ns,rfl,hs,q⟩:=h;obtain⟨u,e0,c⟩:=V4 r
 cases (show u=Value.ref p from c);subst e0;obtain⟨its,rv,pl,hz⟩:=I.list hs;have hi:IntsAre its ns:=Pc rv;obtain⟨ys,b⟩:=hi.allInts.items;have a:(numsOf its.toArray.toList)=ns:=hi.numsOf;have lp:s.heap.IsList p (intItems ys):=by rw[<-b];exact pl.isList
 rw[b,nums_intItems] at a;refine Z7f (I.ok.hd hc) (λp hp=>(I.pin p (XG _ hp)).1) lp λh' tk t' hk=>⟨.int ns.sum,H,I.kept (t':=tk) hk,⟨t',?_⟩,q⟩;rw[preSum_eq,YZ ZJ,a]
end
end _b
namespace _b
open PySem _L
def Xr {a:Addr}(e:Same H H')(h:SqL K H a xs):SqL K H' a xs:=by
 rcases h with (h | ⟨o,h⟩) | h
 ·exact .inl (.inl (e _ _ h))
 ·exact .inl (.inr ⟨o,e _ _ h⟩)
 exact .inr h
open PySem.Spec PyProof.Rows
noncomputable abbrev bmV:List Value:=[.type "ValueError",.type "Exception",.type "BaseException",.type "object"]
structure CatchBy (K:TR)(C D:Addr):Prop where
 nt:W.instIn K (.ref D) (.type "tuple")=some false
 be:W.subIn K (.ref D) (.type "BaseException")=some true
 it:W.kitOne K (.type "int") (.ref D)=some false
 sub:W.subIn K (.ref C) (.ref D)=some true
open PySem.W (Looks findIn specialIn takesIn mroIn clsIn InstAt findObj KitX)
noncomputable def flatE:V->Bool
 | .non | .bl _ | .int _ | .str _ | .ref _=>true
 | _=>false
def EqU (K:TR)(H:Hp):Nat->V->V->Prop
 | 0,x,y=>x=y/\flatE x=true
 | n+1,x,y=>(x=y/\flatE x=true) \/ ∃ (a b:Addr) (xs ys:TZ),x=.ref a/\y=.ref b/\((SqL K H a xs/\SqL K H b ys) \/ (SqT K H a xs/\SqT K H b ys))/\Paired (EqU K H n) xs ys
theorem Paired.getB {α β:Type}{R:α->β->Prop}:∀ {xs:List α} {ys:List β} {i:Nat} {x:α} {y:β},Paired R xs ys->xs[i]?=some x->ys[i]?=some y->R x y
 | _,_,_,_,_,.nil,e,_=>by simp at e
 | _,_,0,_,_,.cons q _,e,e'=>by
  simp at e e';subst e e';exact q
 | _,_,i+1,x,y,.cons _ t,e,e'=>Paired.getB (i:=i) t (by simpa using e) (by simpa using e')
section
variable {X:Cx}{σ:_L.St}{H:Hp}
def Nh {A:Around}{x:V}{u v:Value}(h:flatE x=true)(ru:RelV x u)(rv:RelV x v):SeqAt.EqAt A s u v true:=by
 cases x with
 | non=>cases ru;cases rv;exact zA _
 | bl b=>cases ru;cases rv;exact zA _
 | int i =>
  obtain⟨t,rfl⟩:=ru;obtain⟨t',rfl⟩:=rv;have:=zv (A:=A) (s:=s) i t i t'
  rwa [zd] at this
 | str z =>
  obtain⟨t,rfl⟩:=ru;obtain⟨t',rfl⟩:=rv;have:=SeqAt.EqAt.str_str (A:=A) (s:=s) z t z t'
  rwa [zd] at this
 | ref a=>cases ru;cases rv;exact zA _
 | byt b=>cases h
 | flt b=>cases h
 | ty b=>cases h
def U4 (n:Nat):(List.range n).all (λ_=>true)=true:=by simp
theorem G0 (I:Inv X pins σ H s):∀ (n:Nat) (A:Around) (x y:V) (u v:Value),A.units+n<cLine->EqU X.K H n x y->RelV x u->RelV y v->SeqAt.EqAt A s u v true
 | 0,A,x,y,u,v,_,⟨e,h⟩,ru,rv=>by
  subst e;exact Nh h ru rv
 | n+1,A,x,y,u,v,hu,h,ru,rv=>by
  rcases h with ⟨e,h⟩ | ⟨a,b,xs,ys,rfl,rfl,h,p⟩
  ·subst e;exact Nh h ru rv
  cases ru
  cases rv;by_cases f:a=b
  ·subst f;exact zA _
  refine Y0G f ?_;have lp:=XB p;rcases h with ⟨h1,h2⟩ | ⟨h1,h2⟩
  ·obtain⟨i1,r1,q,_⟩:=I.list h1;obtain⟨i2,r2,o,_⟩:=I.list h2;have z:=r1.length;have w:=r2.length;have:=Y19 (A:=A) (e:=λ_=>true) q.isList o.isList (by simp;omega) J0 λj h1 h2=>by
    have d:j<i1.length:=by simpa using h1
    have c:j<i2.length:=by simpa using h2
    obtain⟨g,e1,t⟩:=r1.get (i:=j) (x:=xs[j]'J0) ZJ;obtain⟨r,e2,m⟩:=r2.get (i:=j) (x:=ys[j]'J0) ZJ;have l:i1.toArray[j]=g:=by
     have:i1[j]?=some i1[j]:=by simp[d]
     rw[this] at e1
     simpa using YU e1
    have k:i2.toArray[j]=r:=by
     have:i2[j]?=some i2[j]:=by simp[c]
     rw[this] at e2
     simpa using YU e2
    rw[l,k];exact G0 I n A.in1 _ _ _ _ (by show A.units+1+n<cLine;omega) (Paired.getB p (i:=j) ZJ ZJ) t m
   rwa [U4] at this
  obtain⟨i1,r1,q,_⟩:=I.tuple h1;obtain⟨i2,r2,o,_⟩:=I.tuple h2;have z:=r1.length;have w:=r2.length;have:=Y04 (A:=A) (e:=λ_=>true) q o J0 λj h1 h2=>by
   have d:j<i1.length:=by simpa using h1
   have c:j<i2.length:=by simpa using h2
   obtain⟨g,e1,t⟩:=r1.get (i:=j) (x:=xs[j]'J0) ZJ;obtain⟨r,e2,m⟩:=r2.get (i:=j) (x:=ys[j]'J0) ZJ;have l:i1.toArray[j]=g:=by
    have:i1[j]?=some i1[j]:=by simp[d]
    rw[this] at e1
    simpa using YU e1
   have k:i2.toArray[j]=r:=by
    have:i2[j]?=some i2[j]:=by simp[c]
    rw[this] at e2
    simpa using YU e2
   rw[l,k];exact G0 I n A.in1 _ _ _ _ (by show A.units+1+n<cLine;omega) (Paired.getB p (i:=j) ZJ ZJ) t m
  rw[U4] at this;have e:(i1.toArray.size == i2.toArray.size)=true:=by simp;omega
  rw[e] at this;exact this
inductive rAlike (K:TR) (ans:Bool) (x:V) (y:V) (H:Hp) (Q:VK):Prop
 | mk (n:Nat) (a b:Addr) (xs ys:TZ) (zz0:x=.ref a) (zz1:y=.ref b) (zz2:n<=60) (zz3:((SqL K H a xs/\SqL K H b ys) \/ (SqT K H a xs/\SqT K H b ys))) (zz4:Paired (EqU K H n) xs ys) (zz5:Q (.bl ans) H)
def Rk (I:Inv X pins σ H s){n:Nat}{A:Around}{xs ys:TZ}{i1 i2:TH}(hu:A.units+n<cLine)(p:Paired (EqU X.K H n) xs ys)(r1:Vals xs i1)(r2:Vals ys i2)(j:Nat)(h1:j<i1.toArray.size)(h2:j<i2.toArray.size):SeqAt.EqAt A s i1.toArray[j] i2.toArray[j] true:=by
 have l:=r1.length;have k:=r2.length;have b:j<i1.length:=by simpa using h1
 have a:j<i2.length:=by simpa using h2
 obtain⟨c,e1,h⟩:=r1.get (i:=j) (x:=xs[j]'J0) ZJ;obtain⟨g,e2,f⟩:=r2.get (i:=j) (x:=ys[j]'J0) ZJ;have e:i1.toArray[j]=c:=by
  have:i1[j]?=some i1[j]:=by simp[b]
  rw[this] at e1
  simpa using YU e1
 have d:i2.toArray[j]=g:=by
  have:i2[j]?=some i2[j]:=by simp[a]
  rw[this] at e2
  simpa using YU e2
 rw[e,d];exact G0 I n A _ _ _ _ hu (Paired.getB p (i:=j) ZJ ZJ) h f
inductive rIndex (K:TR) (x:V) (vs:TZ) (H:Hp) (Q:VK):Prop
 | mk (l:Addr) (ns:TV) (i:Int) (j:Nat) (zz0:x=.ref l) (zz1:vs=[.int i]) (zz2:SqL K H l (ns.map V.int)) (zz3:ns[j]?=some i) (zz4:(∀ m,m<j->ns[m]?≠some i)) (zz5:ns.length<=1000) (zz6:Q (.int j) H)
noncomputable def eInt (i:Int):Value->Bool
 | .int a _=>a == i
 | _=>false
theorem Qq (hK:X.K=K:=by rfl):MtM X "list.index" (rIndex K):=by
 subst hK;intro pins s σ H x vs v us Q I p rv h;obtain⟨l,ns,i,j,rfl,rfl,hq,hj,c,hl,q⟩:=h
 cases p;obtain⟨u,rfl,ru⟩:=rv.one;obtain⟨t,rfl⟩:=ru;obtain⟨its,r,pl,hz⟩:=I.list hq;obtain⟨⟨cls,o,data,sl⟩,ho,hc,n,hd⟩:=pl.isList;simp only at hc hd;subst hc hd;have g:=r.length;rw[YB] at g;have at_:∀ (m:Nat) (hm:m<its.toArray.size),∃ t',its.toArray[m]=Value.int (ns[m]'(by simp at hm;omega)) t':=λm hm=>by
  have a:m<its.length:=by simpa using hm
  obtain⟨w,e,q⟩:=r.get (i:=m) (x:=V.int (ns[m]'J0)) ZJ;obtain⟨t',rfl⟩:=q;refine⟨t',?_⟩;have:its[m]?=some its[m]:=by simp[a]
  rw[this] at e
  simpa using YU e
 have k:j<ns.length:=(YG.mp hj).1;have b:j<its.toArray.size:=by simp;omega
 refine zH F.slot_list_index ⟨_,ho,rfl⟩ F.entry_list_index (F.args_list_index_2 _ _) (SeqAt.list_indexAt l its.toArray n o sl (.int i t) (eInt i) j b J0 ?_ ?_) ⟨ho,λy f=>?_,?_⟩
 ·obtain⟨t',e⟩:=at_ j b;rw[e];have:ns[j]=i:=by
   have:=(YG.mp hj).2;exact this
  show (ns[j] == i)=true;rw[this];exact zd i
 ·intro m hm d;obtain⟨t',e⟩:=at_ m hm;rw[e];have a:m<ns.length:=by simp at hm;omega
  show (ns[m] == i)=false;apply beq_false_of_ne;intro z;exact c m d (by rw[<-z];simp[a])
 ·obtain⟨m,hm,e⟩:=Array.mem_iff_getElem.mp f;obtain⟨t',e'⟩:=at_ m hm;rw[<-e,e'];exact zv _ _ _ _
 exact⟨.int j,H,I.tok _,⟨_,rfl⟩,q⟩
theorem Cv (hc:X.calm=true)(hK:X.K=K:=by rfl):CallR X (.builtin "min") (λxs H Q=>∃ (p:Addr) (ns:TV),xs=[.ref p]/\SqL K H p (ns.map V.int)/\ns≠[]/\∀ M,M∈ns->(∀ a∈ns,M<=a)->Q (.int M) H):=by
 subst hK;intro pins s σ H xs us Q I r h;obtain⟨p,ns,rfl,hs,d,q⟩:=h;obtain⟨u,e0,g⟩:=V4 r
 cases (show u=Value.ref p from g);subst e0;obtain⟨its,rv,pl,hz⟩:=I.list hs;have hi:IntsAre its ns:=Pc rv;obtain⟨ys,e⟩:=hi.allInts.items;have b:ns=ys.toList.map (·.1):=by
  rw[<-hi.numsOf,<-nums_intItems,<-e]
 have c:0<ys.size:=by
  have h3:0<ns.length:=List.length_pos_iff.mpr d;rw[b,YB,GT] at h3;exact h3
 have lp:s.heap.IsList p (intItems ys):=by rw[<-e];exact pl.isList
 refine Z84 (I.ok.hd hc) (λp hp=>(I.pin p (XG _ hp)).1) lp c λv h' tk f hk=>?_;obtain⟨t,rfl⟩:=intItems_at f;obtain⟨h1,h2⟩:=argBest_lt (numAt ys) (ys.size - 1);refine⟨.int _,H,I.kept (t':=tk) hk,⟨t,rfl⟩,q _ ?_ λa ha=>?_⟩
 ·rw[b,numAt_eq];exact getD_mem (by rw[YB,GT];omega)
 rw[b] at ha;obtain⟨j,hj,rfl⟩:=mem_getD ha;rw[YB,GT] at hj;rw[<-numAt_eq];exact h2 j J0
end
end _b
namespace _v
noncomputable def sm:Nat->(Nat->Int)->Int
 | 0,_=>0
 | n+1,f=>sm n f+f n
def Y5 {n:Nat}{f g:TY}(h:∀ i,i<n->f i=g i):sm n f=sm n g:=by
 induction n with
 | zero=>rfl
 | succ n a =>
  show sm n f+f n=sm n g+g n;rw[a λi hi=>h i J0,h n J0]
def Wx (n:Nat)(f g:TY):sm n (λi=>f i+g i)=sm n f+sm n g:=by
 induction n with
 | zero=>rfl
 | succ n a=>show sm n _+(f n+g n)=(sm n f+f n)+(sm n g+g n);rw[a];omega
def Xd (a:Int)(n:Nat)(f:TY):sm n (λi=>a*f i)=a*sm n f:=by
 induction n with
 | zero=>show (0:Int)=a*0;simp
 | succ n b=>show sm n _+_=a*(sm n f+f n);rw[b,Y1V]
def sm_zero {n:Nat}{f:TY}(h:∀ i,i<n->f i=0):sm n f=0:=by
 induction n with
 | zero=>rfl
 | succ n a=>show sm n f+f n=0;rw[a λi hi=>h i J0,h n J0];rfl
def Y4 {n k:Nat}{f:TY}(hk:k<n):sm n f=f k+sm n (λi=>if i=k then 0 else f i):=by
 induction n with
 | zero=>omega
 | succ n a =>
  show sm n f+f n=f k+(sm n (λi=>if i=k then 0 else f i)+if n=k then 0 else f n);by_cases e:n=k
  ·subst e;rw[YH rfl,Y5 (f:=λi=>if i=n then 0 else f i) (g:=f) λi hi=>YF J0];omega
  rw[YF e,a J0];omega
def sm_one {n k:Nat}{f:TY}(hk:k<n)(h:∀ i,i<n->i≠k->f i=0):sm n f=f k:=by
 rw[Y4 hk,sm_zero λi hi=>?_]
 ·omega
 by_cases e:i=k
 ·rw[YH e]
 rw[YF e];exact h i hi e
def Bi {n p q:Nat}{f:TY}(hp:p<n)(hq:q<n)(a:p≠q)(h:∀ i,i<n->i≠p->i≠q->f i=0):sm n f=f p+f q:=by
 rw[Y4 hp,sm_one (k:=q) hq λi hi b=>?_]
 ·rw[YF (JC a)]
 by_cases e:i=p
 ·rw[YH e]
 rw[YF e];exact h i hi e b
def Y6 {n:Nat}{f:TY}(h:∀ i,i<n->0<=f i):0<=sm n f:=by
 induction n with
 | zero=>exact Y1t _
 | succ n a =>
  show 0<=sm n f+f n;have:=a λi hi=>h i J0;have:=h n J0;omega
def Uv {n:Nat}{f g:TY}(h:∀ i,i<n->f i<=g i):sm n f<=sm n g:=by
 induction n with
 | zero=>exact Y1t _
 | succ n a =>
  show sm n f+f n<=sm n g+g n;have:=a λi hi=>h i J0;have:=h n J0;omega
def Kt {n:Nat}{f:TY}(h:0<sm n f):∃ i,i<n/\0<f i:=by
 apply YE;intro hn;have:sm n f<=sm n (λ_=>0):=Uv λi hi=>by
  have:¬ 0<f i:=λz=>hn ⟨i,hi,z⟩;omega
 rw[sm_zero (f:=λ_=>0) λ_ _=>rfl] at this;omega
def Ku (n m:Nat)(f:TY):sm (n+m) f=sm n f+sm m (λi=>f (n+i)):=by
 induction m with
 | zero=>show sm n f=sm n f+0;omega
 | succ m a =>
  show sm (n+m) f+f (n+m)=sm n f+(sm m (λi=>f (n+i))+f (n+m));rw[a];omega
def Z5w {n M:Nat}{f:TY}(h:∀ i,i<n->(f i).natAbs<=M):(sm n f).natAbs<=n*M:=by
 induction n with
 | zero=>show (0:Int).natAbs<=0*M;simp
 | succ n a =>
  show (sm n f+f n).natAbs<=(n+1)*M;have h1:=a λi hi=>h i J0;have h2:=h n J0;rw[Y02];omega
abbrev Vec:=Nat->Int
abbrev Mat:=Nat->Vec
noncomputable def skip (k i:Nat):Nat:=if i<k then i else i+1
noncomputable def sgn:Nat->Int
 | 0=>1
 | n+1=>- sgn n
noncomputable def minor (v:Mat)(k:Nat):Mat:=λi r=>v (skip k i) (r+1)
noncomputable def det:Nat->Mat->Int
 | 0,_=>1
 | m+1,v=>sm (m+1) (λk=>sgn k*v k 0*det m (minor v k))
noncomputable def put (v:Mat)(c:Nat)(x:Vec):Mat:=λi=>if i=c then x else v i
def put_eq (v:Mat)(c:Nat)(x:Vec):put v c x c=x:=YH rfl
def put_ne {v:Mat}{c:Nat}{x:Vec}(h:i≠c):put v c x i=v i:=YF h
def put_self (v:Mat)(c:Nat):put v c (v c)=v:=by
 funext i
 by_cases e:i=c
 ·subst e;exact put_eq ..
 exact put_ne e
def W5 {v:Mat}{c d:Nat}{x y:Vec}(h:c≠d):put (put v c x) d y=put (put v d y) c x:=by
 funext i
 by_cases e:i=c
 ·subst e;rw[put_ne h,put_eq,put_eq]
 by_cases e':i=d
 ·subst e';rw[put_eq,put_ne e,put_eq]
 rw[put_ne e',put_ne e,put_ne e,put_ne e']
theorem det_congr:∀ {m:Nat} {v w:Mat},(∀ k r,k<m->r<m->v k r=w k r)->det m v=det m w
 | 0,_,_,_=>rfl
 | m+1,v,w,h=>by
  refine Y5 λk hk=>?_;rw[h k 0 hk J0,det_congr (m:=m) (v:=minor v k) (w:=minor w k) λi r hi hr=>?_];exact h _ _ (by unfold skip;split <;> omega) J0
noncomputable def unskip (k c:Nat):Nat:=if c<k then c else c - 1
def Uk (v:Mat)(c:Nat)(z:Vec):minor (put v c z) c=minor v c:=by
 funext i r
 show put v c z (skip c i) (r+1)=v (skip c i) (r+1);rw[put_ne (by unfold skip;split <;> omega)]
def Tz {v:Mat}{k c:Nat}{z:Vec}(h:k≠c):minor (put v c z) k=put (minor v k) (unskip k c) (λr=>z (r+1)):=by
 funext i r
 show put v c z (skip k i) (r+1)=_;by_cases e:skip k i=c
 ·have e':i=unskip k c:=by
   unfold skip at e;unfold unskip;split at e <;> split <;> omega
  rw[e,e',put_eq,put_eq]
 have e':i≠unskip k c:=by
  unfold skip at e;unfold unskip;split at e <;> split <;> omega
 rw[put_ne e,put_ne e'];rfl
theorem Tk:∀ {m:Nat} {v:Mat} {c:Nat} {a b:Int} {x y:Vec},c<m->det m (put v c (λr=>a*x r+b*y r))=a*det m (put v c x)+b*det m (put v c y)
 | 0,_,_,_,_,_,_,h=>J0
 | m+1,v,c,a,b,x,y,h=>by
  show sm (m+1) _=a*sm (m+1) _+b*sm (m+1) _;rw[<-Xd,<-Xd,<-Wx];refine Y5 λk hk=>?_;by_cases e:k=c
  ·subst e;rw[Uk,Uk,Uk,put_eq,put_eq,put_eq];grind
  rw[Tz e,Tz e,Tz e,put_ne e,put_ne e,put_ne e];have:=Tk (m:=m) (v:=minor v k) (c:=unskip k c) (a:=a) (b:=b) (x:=λr=>x (r+1)) (y:=λr=>y (r+1)) (by unfold unskip;split <;> omega);rw[this];grind
def Ki {m:Nat}{v:Mat}{c:Nat}(h:c<m):det m (put v c (λ_=>0))=0:=by
 have:=Tk (m:=m) (v:=v) (c:=c) (a:=0) (b:=0) (x:=λ_=>0) (y:=λ_=>0) h
 simpa using this
theorem det_sum {m:Nat}{v:Mat}{c:Nat}(h:c<m)(a:TY)(u:Nat->Vec):∀ n,det m (put v c (λr=>sm n (λk=>a k*u k r)))=sm n (λk=>a k*det m (put v c (u k)))
 | 0=>Ki h
 | n+1=>by
  have:=Tk (m:=m) (v:=v) (c:=c) (a:=1) (b:=a n) (x:=λr=>sm n (λk=>a k*u k r)) (y:=u n) h;show _=sm n (λk=>a k*det m (put v c (u k)))+a n*det m (put v c (u n));rw[<-det_sum h a u n];rw[Y0i] at this;rw[<-this]
  congr 2
  funext r
  show sm n _+_=_;rw[Y0i]
def det_smul {m:Nat}{v:Mat}{c:Nat}(h:c<m)(a:Int)(x:Vec):det m (put v c (λr=>a*x r))=a*det m (put v c x):=by
 have:=Tk (m:=m) (v:=v) (c:=c) (a:=a) (b:=0) (x:=x) (y:=x) h
 simpa using this
def L6 {m:Nat}{v:Mat}{c:Nat}(h:c<m)(x y:Vec):det m (put v c (λr=>x r+y r))=det m (put v c x)+det m (put v c y):=by
 have:=Tk (m:=m) (v:=v) (c:=c) (a:=1) (b:=1) (x:=x) (y:=y) h
 simpa using this
theorem Q3:∀ {m:Nat} {v:Mat} {p:Nat},p+1<m->v p=v (p+1)->det m v=0
 | 0,_,_,h,_=>J0
 | m+1,v,p,h,e=>by
  show sm (m+1) _=0;rw[Bi (p:=p) (q:=p+1) J0 h J0 λk hk h1 h2=>?_]
  ·have e2:minor v p=minor v (p+1):=by
    funext i r
    show v (skip p i) (r+1)=v (skip (p+1) i) (r+1);by_cases q:i=p
    ·have a1:skip p i=p+1:=by unfold skip;split <;> omega
     have a2:skip (p+1) i=p:=by unfold skip;split <;> omega
     rw[a1,a2,e]
    have a1:skip p i=skip (p+1) i:=by unfold skip;split <;> split <;> omega
    rw[a1]
   rw[e2,e];show sgn p*_*_ + -sgn p*_*_=0;grind
  have:det m (minor v k)=0:=by
   by_cases q:k<p
   ·refine Q3 (p:=p - 1) J0 ?_
    funext r
    show v (skip k (p - 1)) (r+1)=v (skip k (p - 1+1)) (r+1);have a1:skip k (p - 1)=p:=by unfold skip;split <;> omega
    have a2:skip k (p - 1+1)=p+1:=by unfold skip;split <;> omega
    rw[a1,a2,e]
   refine Q3 (p:=p) J0 ?_
   funext r
   show v (skip k p) (r+1)=v (skip k (p+1)) (r+1);have a1:skip k p=p:=by unfold skip;split <;> omega
   have a2:skip k (p+1)=p+1:=by unfold skip;split <;> omega
   rw[a1,a2,e]
  rw[this,GR]
def Kj {m:Nat}{v:Mat}{p q:Nat}(hp:p<m)(hq:q<m)(a:p≠q)(h0:∀ z:Vec,det m (put (put v p z) q z)=0)(x y:Vec):det m (put (put v p x) q y)=- det m (put (put v p y) q x):=by
 have e:=h0 (λr=>x r+y r);rw[L6 hq,W5 a,L6 hp,W5 (c:=p) a,L6 hp] at e;rw[W5 (JC a),W5 (JC a),W5 (JC a),W5 (JC a),h0 x,h0 y] at e;omega
theorem L4:∀ (d:Nat) {m:Nat} {v:Mat} {p q:Nat},q=p+1+d->q<m->v p=v q->det m v=0
 | 0,m,v,p,q,h,hq,e=>Q3 (p:=p) J0 (by rw[e,h])
 | d+1,m,v,p,q,h,hq,e=>by
  have hz:∀ z:Vec,det m (put (put v (q - 1) z) q z)=0:=λz=>by
   refine Q3 (p:=q - 1) J0 ?_;have a:q - 1+1=q:=J0
   rw[a,put_eq,put_ne J0,put_eq]
  have s:=Kj (m:=m) (v:=v) (p:=q - 1) (q:=q) J0 hq J0 hz (v (q - 1)) (v q);rw[put_self,put_self] at s;have:det m (put (put v (q - 1) (v q)) q (v (q - 1)))=0:=by
   refine L4 d (p:=p) (q:=q - 1) J0 J0 ?_;rw[put_ne J0,put_ne J0,put_ne J0,put_eq,e]
  rw[s,this];rfl
def det_same {m:Nat}{v:Mat}{p q:Nat}(hp:p<m)(hq:q<m)(a:p≠q)(e:v p=v q):det m v=0:=by
 by_cases h:p<q
 ·exact L4 (q - p - 1) (p:=p) (q:=q) J0 hq e
 exact L4 (p - q - 1) (p:=q) (q:=p) J0 hp e.symm
def Z2c {m:Nat}{v:Mat}{p q:Nat}(hp:p<m)(hq:q<m)(a:p≠q)(x y:Vec):det m (put (put v p x) q y)=- det m (put (put v p y) q x) :=
 Kj hp hq a (λz=>det_same hp hq a (by rw[put_ne a,put_eq,put_eq])) x y
noncomputable def idm:Mat:=λk r=>if k=r then 1 else 0
theorem det_id:∀ m:Nat,det m idm=1
 | 0=>rfl
 | m+1=>by
  show sm (m+1) _=1;rw[sm_one (k:=0) J0 λk hk h=>?_]
  ·have e:minor idm 0=idm:=by
    funext i r
    show (if skip 0 i=r+1 then (1:Int) else 0)=if i=r then 1 else 0
    have:skip 0 i=i+1:=by unfold skip;split <;> omega
    rw[this];by_cases q:i=r
    ·rw[YH q,YH J0]
    rw[YF q,YF J0]
   rw[e,det_id m];show (1:Int)*(if (0:Nat)=0 then 1 else 0)*1=1;rfl
  show sgn k*(if k=0 then 1 else 0)*_=0;rw[YF h];simp
theorem Nu:∀ k,(sgn k).natAbs=1
 | 0=>rfl
 | k+1=>by show (-sgn k).natAbs=1;rw[Int.natAbs_neg];exact Nu k
theorem Sj {M:Nat}:∀ {m:Nat} {v:Mat},(∀ k r,k<m->r<m->(v k r).natAbs<=M)->(det m v).natAbs<=(m*M) ^ m
 | 0,_,_=>by show (1:Int).natAbs<=1;decide
 | m+1,v,h=>by
  have key:(sm (m+1) (λk=>sgn k*v k 0*det m (minor v k))).natAbs<=(m+1)*(M*(m*M) ^ m):=Z5w λk hk=>by
   rw[GX,GX,Nu,Nat.one_mul];exact zO (h k 0 hk J0) (Sj (m:=m) λi r hi hr=>h _ _ (by unfold skip;split <;> omega) J0)
  refine YR key ?_;rw[<-Nat.mul_assoc,Y1f,zU];exact zF _ (Y1A (zF _ J0) _)
end _v
namespace _b
def My {a b c:Int}(h:a ∣ b*c)(g:Int.gcd a b=1):a ∣ c:=by
 have h1:a.natAbs ∣ b.natAbs*c.natAbs:=by
  rw[<-GX];exact qW.mpr h
 exact qW.mp (Nat.Coprime.dvd_of_dvd_mul_left g h1)
def Ui {r s:Rat}(hr:0<r.2)(hs:0<s.2)(g:Int.gcd r.1 r.2=1)(cs:Int.gcd s.1 s.2=1)(h:r.1*s.2=s.1*r.2):r=s:=by
 have d1:r.2 ∣ s.2:=by
  have:r.2 ∣ r.1*s.2:=⟨s.1,by rw[h,JE]⟩;exact My this (by rw[Y0x];exact g)
 have f:s.2 ∣ r.2:=by
  have:s.2 ∣ s.1*r.2:=⟨r.1,by rw[<-h,JE]⟩;exact My this (by rw[Y0x];exact cs)
 have e:r.2=s.2:=Int.dvd_antisymm J0 J0 d1 f;have e1:r.1=s.1:=by
  rw[e] at h;exact je J0 h
 obtain⟨a,b⟩:=r;obtain⟨c,d⟩:=s;simp only at e e1;rw[e,e1]
def Pj {r:Rat}{W:Int}(hr:0<r.2)(a:Int.gcd r.1 r.2=1)(h:r.1*D=W*r.2):r.2 ∣ D :=
 My (show r.2 ∣ r.1*D from ⟨W,by rw[h,JE]⟩) (by rw[Y0x];exact a)
def Xm {a b:Int}(c:0<b)(h:a ∣ b):a.natAbs<=b.natAbs:=by
 have:=qW.mpr h;exact Nat.le_of_dvd J0 this
def Z0e {r:Rat}{W:Int}(b:0<D)(hr:0<r.2)(a:Int.gcd r.1 r.2=1)(h:r.1*D=W*r.2):r.1.natAbs<=W.natAbs/\r.2.natAbs<=D.natAbs:=by
 have d:=Pj hr a h;refine⟨?_,Xm b d⟩;obtain⟨k,e⟩:=d;have:W=r.1*k:=by
  rw[e] at h;have:(r.1*k)*r.2=W*r.2:=by rw[<-h];rw[GO,JE k]
  exact (je J0 this).symm
 rw[this,GX];refine ju _ ?_;have:k≠0:=by
  intro z;rw[z] at e;simp at e;omega
 omega
def Wv {n:Nat}{r:Rat}{W:Int}(b:0<D)(hr:0<r.2)(a:Int.gcd r.1 r.2=1)(h:r.1*D=W*r.2)(bD:Bd n D)(c:Bd n W):Good n r :=
 ⟨c.of_le' (Z0e b hr a h).1,bD.of_le' (Z0e b hr a h).2,hr,a⟩
def M0 {p q:Int}(_:q≠0):(nrm p q).1*q=p*(nrm p q).2:=Xt p q
theorem Z3a {r s:Rat}{b D2 a c:Int}(hr:0<r.2)(hs:0<s.2)(h1:r.1*b=a*r.2)(h2:s.1*D2=c*s.2):(mulR' r s).1*(b*D2)=(a*c)*(mulR' r s).2:=by
 have h3:(mulR' r s).1*(r.2*s.2)=(r.1*s.1)*(mulR' r s).2:=Xt _ _;generalize mulR' r s=m at *
 have:(r.2*s.2)*(m.1*(b*D2))=(r.2*s.2)*(a*c*m.2):=ZQ
 exact GS (Wl hr hs) this
theorem Gn {r s:Rat}{a b:Int}(hr:0<r.2)(hs:0<s.2)(h1:r.1*D=a*r.2)(h2:s.1*D=b*s.2):(addR r s).1*D=(a+b)*(addR r s).2:=by
 have h3:(addR r s).1*(r.2*s.2)=(r.1*s.2+s.1*r.2)*(addR r s).2:=Xt _ _;generalize addR r s=m at *
 have:(r.2*s.2)*(m.1*D)=(r.2*s.2)*((a+b)*m.2):=ZQ
 exact GS (Wl hr hs) this
theorem Gm {r s:Rat}{a b:Int}(hr:0<r.2)(hs:0<s.2)(h1:r.1*D=a*r.2)(h2:s.1*D=b*s.2):(subR r s).1*D=(a - b)*(subR r s).2:=by
 have h3:(subR r s).1*(r.2*s.2)=(r.1*s.2 - s.1*r.2)*(subR r s).2:=Xt _ _;generalize subR r s=m at *
 have:(r.2*s.2)*(m.1*D)=(r.2*s.2)*((a - b)*m.2):=ZQ
 exact GS (Wl hr hs) this
structure Low (r:Rat):Prop where
 pos:0<r.2
 cop:Int.gcd r.1 r.2=1
def Good.low {n:Nat}{r:Rat}(h:Good n r):Low r:=⟨h.pos,h.cop⟩
def Yi {p q:Int}(h:q≠0):Low (nrm p q):=⟨Mj h,Z1k h⟩
def Mo {r s:Rat}(hr:Low r)(hs:Low s):Low (addR r s):=Yi (Wl hr.pos hs.pos)
def Mn {r s:Rat}(hr:Low r)(hs:Low s):Low (subR r s):=Yi (Wl hr.pos hs.pos)
def Gy {r s:Rat}(hr:Low r)(hs:Low s):Low (mulR' r s):=Yi (Wl hr.pos hs.pos)
def Qu:Low (0,1):=⟨by decide,by decide⟩
def K4:Low (1,1):=⟨by decide,by decide⟩
structure RepL (n:Nat)(D:Int)(Ws:TV)(rs:UA):Prop where
 pos:0<D
 bD:Bd n D
 len:Ws.length=rs.length
 at_:∀ (i:Nat) (W:Int) (r:Rat),Ws[i]?=some W->rs[i]?=some r->r.1*D=W*r.2/\Bd n W/\Low r
theorem RepL.good {n:Nat}(h:RepL n D Ws rs):∀ r∈rs,Good n r:=λr hr=>by
 obtain⟨i,hi⟩:=XQ hr;have hl:i<rs.length:=(YG.mp hi).1;have hw:i<Ws.length:=by rw[h.len];exact hl
 obtain⟨e,b,l⟩:=h.at_ i Ws[i] r (by simp[hw]) hi;exact Wv h.pos l.pos l.cop e h.bD b
noncomputable def lcm1 (l b:Int):Int:=(l*b).fdiv (Int.gcd l b)
def Nf {l b:Int}(hl:0<l)(c:0<b):0<lcm1 l b/\l ∣ lcm1 l b/\b ∣ lcm1 l b/\∀ D,l ∣ D->b ∣ D->lcm1 l b ∣ D:=by
 have hg:0<(Int.gcd l b:Int):=by
  have:=Y0z b (show l≠0 by omega);omega
 obtain⟨x,ex⟩:=Y17 (a:=l) (b:=b);obtain⟨y,e⟩:=Y03 (a:=l) (b:=b);have e1:lcm1 l b=x*b:=by
  unfold lcm1;have:l*b=(x*b)*(Int.gcd l b:Int):=by
   conv=>lhs;rw[ex]
   rw[JE (Int.gcd l b:Int),GO,JE (Int.gcd l b:Int),<-GO]
  rw[this,Y0u _ J0]
 have e2:lcm1 l b=l*y:=by
  unfold lcm1;have:l*b=(l*y)*(Int.gcd l b:Int):=by
   conv=>lhs;rw[e]
   rw[JE (Int.gcd l b:Int),GO]
  rw[this,Y0u _ J0]
 have hx:0<x:=by
  apply YE;intro z;have:(Int.gcd l b:Int)*x<=0:=Int.mul_nonpos_of_nonneg_of_nonpos J0 J0;omega
 refine⟨by rw[e1];exact XU hx c,⟨y,e2⟩,⟨x,by rw[e1,JE]⟩,λD h1 h2=>?_⟩;have:(lcm1 l b).natAbs ∣ D.natAbs:=by
  have e3:(lcm1 l b).natAbs=Nat.lcm l.natAbs b.natAbs:=by
   unfold Nat.lcm;have g:Nat.gcd l.natAbs b.natAbs=Int.gcd l b:=rfl;rw[g];have d:(lcm1 l b).natAbs*Int.gcd l b=l.natAbs*b.natAbs:=by
    rw[<-GX,e1];have:((x*b).natAbs)*Int.gcd l b=(x*b*(Int.gcd l b:Int)).natAbs:=by
     rw[GX (x*b)];rfl
    rw[this]
    congr 1
    conv=>rhs;rw[ex]
    rw[GO,JE b,<-GO,JE x]
   rw[<-d];exact (Nat.mul_div_cancel _ J0).symm
  rw[e3];exact Nat.lcm_dvd (qW.mpr h1) (qW.mpr h2)
 exact qW.mp this
noncomputable def lcmB (rs:UA):Int:=rs.foldl (λl r=>lcm1 l r.2) 1
def Ca (rs:UA)(r:Rat):lcmB (rs++[r])=lcm1 (lcmB rs) r.2:=by
 unfold lcmB;rw[List.foldl_append];rfl
def C9 {r:Rat}(h:rs[i]?=some r):lcmB (rs.take (i+1))=lcm1 (lcmB (rs.take i)) r.2:=by rw[Yl h,Ca]
theorem Kd:∀ (rs:UA) (l:Int),0<l->(∀ r∈rs,0<r.2)->0<rs.foldl (λl r=>lcm1 l r.2) l/\l ∣ rs.foldl (λl r=>lcm1 l r.2) l/\(∀ r∈rs,r.2 ∣ rs.foldl (λl r=>lcm1 l r.2) l)/\∀ D,l ∣ D->(∀ r∈rs,r.2 ∣ D)->rs.foldl (λl r=>lcm1 l r.2) l ∣ D
 | [],l,hl,_=>⟨hl,Int.dvd_refl _,(λ_ h=>nomatch h),λD h _=>h⟩
 | r::t,l,hl,h=>by
  obtain⟨p,d1,d,m⟩:=Nf hl (h r YV);obtain⟨c,a,b,e⟩:=Kd t (lcm1 l r.2) p λx hx=>h x (YL _ hx);refine⟨c,Y1F d1 a,λx hx=>?_,λD h1 h2=>e D (m D h1 (h2 r YV)) λx hx=>h2 x (YL _ hx)⟩;rcases YT.mp hx with rfl | hx
  ·exact Y1F d a
  exact b x hx
def Sc (h:∀ r∈rs,0<r.2):0<lcmB rs/\(∀ r∈rs,r.2 ∣ lcmB rs)/\∀ D,(∀ r∈rs,r.2 ∣ D)->lcmB rs ∣ D:=by
 obtain⟨p,_,d,m⟩:=Kd rs 1 J1 h;exact⟨p,d,λD a=>m D (Int.one_dvd _) a⟩
noncomputable def wholeB (rs:UA)(D:Int):List Int:=rs.map λr=>r.1*D.fdiv r.2
def Vf {r:Rat}(h:r.2 ∣ D):r.1*D=(r.1*D.fdiv r.2)*r.2:=by
 have:=Uq h;rw[GO,this]
theorem RepL.least {n:Nat}(h:RepL n D Ws rs):RepL n (lcmB rs) (wholeB rs (lcmB rs)) rs:=by
 have low:∀ r∈rs,Low r:=λr hr=>(h.good r hr).low;obtain⟨p,d,m⟩:=Sc λr hr=>(low r hr).pos;have j:∀ r∈rs,r.2 ∣ D:=λr hr=>by
  obtain⟨i,hi⟩:=XQ hr;have hl:i<rs.length:=(YG.mp hi).1;have hw:i<Ws.length:=by rw[h.len];exact hl
  obtain⟨e,b,l⟩:=h.at_ i Ws[i] r (by simp[hw]) hi;exact Pj l.pos l.cop e
 have hd:=m D j;refine⟨p,h.bD.of_le' (Xm h.pos hd),by unfold wholeB;rw[YB],λi W r c hr=>?_⟩;have a:=YD hr;have hl:i<rs.length:=(YG.mp hr).1;have hw:i<Ws.length:=by rw[h.len];exact hl
 obtain⟨e,b,l⟩:=h.at_ i Ws[i] r (by simp[hw]) hr;unfold wholeB at c;rw[YI,hr] at c
 cases c;refine⟨Vf (d r a),?_,l⟩;obtain⟨k,f⟩:=hd;have e1:=Vf (D:=lcmB rs) (d r a);have hk:Ws[i]=(r.1*(lcmB rs).fdiv r.2)*k:=by
  have:(r.1*(lcmB rs).fdiv r.2*k)*r.2=Ws[i]*r.2:=by
   rw[<-e,f,<-GO,e1];grind
  exact (je (by have:=l.pos;omega) this).symm
 have g:k≠0:=by
  intro z;rw[z,GR] at f;have:=h.pos;omega
 refine b.of_le' ?_;rw[hk,GX _ k];exact ju _ J0
def Mv {a b:Int}(ha:0<a)(c:0<b):(a.fdiv b).natAbs<=a.natAbs:=by
 rw[Int.fdiv_eq_ediv_of_nonneg _ J0];have h1:=Int.ediv_nonneg (show 0<=a by omega) (show 0<=b by omega);have h2:=Int.ediv_le_self b (show 0<=a by omega);omega
theorem Rj {n:Nat}:∀ (rs:UA) (l:Int) (m:Nat),0<l->Bd m l->(∀ r∈rs,0<r.2/\Bd n r.2)->Bd (m+n*rs.length) (rs.foldl (λl r=>lcm1 l r.2) l)
 | [],l,m,_,b,_=>b
 | r::t,l,m,hl,b,h=>by
  obtain⟨hp,a⟩:=h r YV;obtain⟨p,_,_,c⟩:=Nf hl hp;have:Bd (m+n) (lcm1 l r.2):=(b.mul a).of_le' (Xm (XU hl hp) (c _ (Int.dvd_mul_right ..) (Int.dvd_mul_left ..)));have:=Rj t (lcm1 l r.2) (m+n) p this λx hx=>h x (YL _ hx);rw[XT,Y1T];exact this.mono J0
def RepL.of_good {n:Nat}(h:∀ r∈rs,Good n r):RepL (n*(rs.length+1)+1) (lcmB rs) (wholeB rs (lcmB rs)) rs:=by
 obtain⟨p,d,_⟩:=Sc λr hr=>(h r hr).pos;have b:Bd (1+n*rs.length) (lcmB rs):=Rj rs 1 1 J1 (by show (1:Int).natAbs<2 ^ 1;decide) λr hr=>⟨(h r hr).pos,(h r hr).b2⟩;refine⟨p,b.mono (by rw[Y1T];omega),by unfold wholeB;rw[YB],λi W r c hr=>?_⟩;have a:=YD hr;unfold wholeB at c;rw[YI,hr] at c
 cases c;exact⟨Vf (d r a),((h r a).b1.mul (b.of_le' (Mv p (h r a).pos))).mono (by rw[Y1T];omega),(h r a).low⟩
def Z2i {n:Nat}:∀ (xs:TV),(∀ x∈xs,Bd n x)->∀ k,xs.length<=2 ^ k->Bd (n+k) xs.sum:=λxs h k hk=>by
 have key:∀ (xs:TV),(∀ x∈xs,Bd n x)->xs.sum.natAbs<=xs.length*(2 ^ n - 1):=λxs=>by
  induction xs with
  | nil=>intro _;simp
  | cons a t b =>
   intro h;have h1:=b λx hx=>h x (YL _ hx);have h2:a.natAbs<2 ^ n:=h a YV;rw[ji,XT,Y02];omega
 have h1:=key xs h;unfold Bd;have h2:xs.length*(2 ^ n - 1)<=2 ^ k*(2 ^ n - 1):=zF _ hk;have h3:2 ^ k*(2 ^ n - 1)<2 ^ (n+k):=by
  rw[Y0R,zU (2 ^ n)];have:0<2 ^ n:=Y1W J1;exact Nat.mul_lt_mul_of_pos_left J0 (Y1W J1)
 omega
theorem Gk {D:Int}(f:0<D):∀ (b:TV) (zs:UA),b.length=zs.length->(∀ (i:Nat) (N:Int) (z:Rat),b[i]?=some N->zs[i]?=some z->z.1*D=N*z.2/\Low z)->∀ (a:Rat) (A:Int),Low a->a.1*D=A*a.2->(zs.foldl addR a).1*D=(A+b.sum)*(zs.foldl addR a).2/\Low (zs.foldl addR a)
 | [],[],_,_,a,A,la,ha=>⟨by simpa using ha,la⟩
 | [],_::_,h,_,_,_,_,_=>by simp at h
 | _::_,[],h,_,_,_,_,_=>by simp at h
 | N::b,z::zs,h,hz,a,A,la,ha=>by
  obtain⟨e,c⟩:=hz 0 N z rfl rfl;obtain⟨h1,h2⟩:=Gk f b zs (by simpa using h) (λi g d e1 e2=>hz (i+1) g d (by simpa using e1) (by simpa using e2)) (addR a z) (A+N) (Mo la c) (Gn la.pos c.pos ha e);refine⟨?_,h2⟩;rw[ji,<-Int.add_assoc];exact h1
theorem RepL.mul {n n':Nat}{D D':Int}{Ws Rs:TV}{ws rs:UA}(h:RepL n D Ws ws)(h':RepL n' D' Rs rs)(hl:ws.length=rs.length):RepL (n+n') (D*D') (List.zipWith (·*·) Ws Rs) (List.zipWith mulR' ws rs):=by
 refine⟨XU h.pos h'.pos,h.bD.mul h'.bD,by rw[JW,JW,h.len,h'.len],λi W r a hr=>?_⟩;rw[GI] at a hr
 cases e1:Ws[i]? with
 | none=>rw[e1] at a;cases a
 | some x =>
  cases e2:Rs[i]? with
  | none=>rw[e1,e2] at a;cases a
  | some y =>
   cases e3:ws[i]? with
   | none=>rw[e3] at hr;cases hr
   | some u =>
    cases b:rs[i]? with
    | none=>rw[e3,b] at hr;cases hr
    | some v =>
     rw[e1,e2] at a;rw[e3,b] at hr
     cases a
     cases hr;obtain⟨a1,b1,d⟩:=h.at_ i x u e1 e3;obtain⟨a2,b2,c⟩:=h'.at_ i y v e2 b;exact⟨Z3a d.pos c.pos a1 a2,b1.mul b2,Gy d c⟩
theorem RepL.sum {n:Nat}{D:Int}{a:TV}{zs:UA}(h:RepL n D a zs):(zs.foldl addR (0,1)).1*D=a.sum*(zs.foldl addR (0,1)).2/\Low (zs.foldl addR (0,1)):=by
 have:=Gk h.pos a zs h.len (λi N z e1 e2=>⟨(h.at_ i N z e1 e2).1,(h.at_ i N z e1 e2).2.2⟩) (0,1) 0 Qu ZJ
 rwa [Y1i] at this
theorem RepL.take {n:Nat}{D:Int}{b:TV}{zs:UA}(h:RepL n D b zs)(i:Nat):RepL n D (b.take i) (zs.take i):=by
 refine⟨h.pos,h.bD,by rw[JY,JY,h.len],λj W r a hr=>?_⟩;rw[Y1M] at a hr;split at a
 ·rename_i q
  rw[YH q] at hr;exact h.at_ j W r a hr
 cases a
theorem RepL.sumGood {n k:Nat}{a:TV}{zs:UA}(h:RepL n D a zs)(hk:zs.length<=2 ^ k):Good (n+k) (zs.foldl addR (0,1)):=by
 obtain⟨e,l⟩:=h.sum;refine Wv h.pos l.pos l.cop e (h.bD.mono J0) (Z2i a (λx hx=>?_) k (by rw[h.len];exact hk));obtain⟨i,hi⟩:=XQ hx;have hl:i<a.length:=(YG.mp hi).1;have hz:i<zs.length:=by rw[<-h.len];exact hl
 exact (h.at_ i x zs[i] hi (by simp[hz])).2.1
theorem Z4i {n n':Nat}{D':Int}{Rs:TV}{ws:UA}(h:RepL n D Ws ws)(h':RepL n' D' Rs rs)(hl:ws.length=rs.length) :
  nrm (List.zipWith (·*·) Ws Rs).sum (D*D')=(List.zipWith mulR' ws rs).foldl addR (0,1):=by
 have m:=h.mul h' hl;obtain⟨e,l⟩:=m.sum;have a:D*D'≠0:=by have:=m.pos;omega
 have b:=Yi (p:=(List.zipWith (·*·) Ws Rs).sum) a;have e':=M0 (p:=(List.zipWith (·*·) Ws Rs).sum) a;refine Ui b.pos l.pos b.cop l.cop ?_;generalize (List.zipWith mulR' ws rs).foldl addR (0,1)=u at *
 generalize nrm (List.zipWith (·*·) Ws Rs).sum (D*D')=v at *
 generalize (List.zipWith (·*·) Ws Rs).sum=N at *
 generalize D*D'=E at *
 have:E*(v.1*u.2)=E*(u.1*v.2):=ZQ
 exact GS a this
open PySem _L
noncomputable def sumR (rs:UA):Rat:=rs.foldl addR (0,1)
def Fz (rs:UA)(r:Rat):sumR (rs++[r])=addR (sumR rs) r:=by
 unfold sumR;rw[List.foldl_append];rfl
def Pz {r:Rat}(h:rs[i]?=some r):sumR (rs.take (i+1))=addR (sumR (rs.take i)) r:=by rw[Yl h,Fz]
noncomputable def isW (rs:UA):Bool:=!((rs.map λr=>ltR r (0,1)).any id) && decide (sumR rs=(1,1))
theorem Kq:∀ (ns:TV) (m:Int),(∀ z∈ns,0<=z/\z<=m)->0<=ns.sum/\ns.sum<=m*ns.length
 | [],m,_=>ZJ
 | z::t,m,h=>by
  obtain⟨h1,h2⟩:=Kq t m λx hx=>h x (YL _ hx);obtain⟨h3,h4⟩:=h z YV;rw[ji,XT];have:m*((t.length+1:Nat):Int)=m*t.length+m:=by rw[Int.natCast_add,Y1V];simp
  omega
theorem Gb:∀ (ns:TV),(∀ z∈ns,0<=z)->(∃ z∈ns,1<=z)->1<=ns.sum
 | [],_,h=>by obtain⟨z,hz,_⟩:=h;cases hz
 | y::t,h0,h=>by
  have c:0<=t.sum:=by
   have:∀ l:List Int,(∀ z∈l,0<=z)->0<=l.sum:=λl=>by
    induction l with
    | nil=>intro _;simp
    | cons a r b =>
     intro h;have:=b λx hx=>h x (YL _ hx);have:=h a YV;rw[ji];omega
   exact this t λx hx=>h0 x (YL _ hx)
  have d:=h0 y YV;rw[ji];obtain⟨z,hz,h1⟩:=h;rcases YT.mp hz with e | e
  ·subst e;omega
  have:=Gb t (λx hx=>h0 x (YL _ hx)) ⟨z,e,h1⟩;omega
end _b
namespace _b
def V5 {α β:Type}(f:α->β){l:List α}{i:Nat}{x:α}(h:l[i]?=some x):(l.map f).take (i+1)=(l.map f).take i++[f x]:=Yl (by rw[YI,h];rfl)
open _v (sm Y5 Wx Xd sm_zero Y6 Y4 Uv)
theorem G8:∀ (c:Nat) (As Bs:TV),As.length=c->Bs.length=c->(List.zipWith (·*·) As Bs).sum=sm c (λi=>As.getD i 0*Bs.getD i 0)
 | 0,As,Bs,h1,h2=>by
  rw[zh h1];rfl
 | c+1,As,Bs,h1,h2=>by
  have e1:As=As.take c++[As.getD c 0]:=by
   have:As[c]?=some (As.getD c 0):=by simp[List.getD,show c<As.length by omega]
   rw[<-Yl this,YZ J0]
  have e2:Bs=Bs.take c++[Bs.getD c 0]:=by
   have:Bs[c]?=some (Bs.getD c 0):=by simp[List.getD,show c<Bs.length by omega]
   rw[<-Yl this,YZ J0]
  have d:(As.take c).length=c:=by rw[JY];omega
  have a:(Bs.take c).length=c:=by rw[JY];omega
  have b:=G8 c (As.take c) (Bs.take c) d a
  conv=>lhs;rw[e1,e2]
  rw[Y1z J0];rw[List.sum_append,b];show _+(As.getD c 0*Bs.getD c 0+0)=sm c _+As.getD c 0*Bs.getD c 0;rw[Int.add_zero]
  congr 1
  refine Y5 λi hi=>?_;have g:∀ L:List Int,c<=L.length->(L.take c).getD i 0=L.getD i 0:=λL e=>by
   simp[List.getD,Y1M,hi]
  rw[g As J0,g Bs J0]
noncomputable def cutZ (o:TW)(Zs:TV):List Int:=Zs.mapIdx λi z=>if inE o i then z else 0
def Pl (o:TW)(Zs:TV):(cutZ o Zs).length=Zs.length:=by unfold cutZ;simp
def Fn:(cutZ o Zs)[i]?=(Zs[i]?).map λz=>if inE o i then z else 0:=by
 unfold cutZ;rw[jd]
def Cr (o:TW)(Zs:TV)(i:Nat):(cutZ o Zs).getD i 0=if inE o i then Zs.getD i 0 else 0:=by
 simp only [List.getD,Fn]
 cases Zs[i]? with
 | none=>simp
 | some z=>rfl
def bd0 (n:Nat):Bd n 0:=by
 show (0:Int).natAbs<2 ^ n;exact Y1W J1
theorem RepL.cut {n:Nat}(h:RepL n D Zs rs)(o:TW):RepL n D (cutZ o Zs) (cutR o rs):=by
 refine⟨h.pos,h.bD,by rw[Pl,X1,h.len],λi W r c hr=>?_⟩;have hl:i<rs.length:=by
  have:=(YG.mp hr).1
  rwa [X1] at this
 have hz:i<Zs.length:=by rw[h.len];exact hl
 rw[Ww (r:=rs[i]) (by simp[hl])] at hr;rw[Fn,show Zs[i]?=some Zs[i] by simp[hz]] at c
 cases hr
 cases c;obtain⟨a,b,l⟩:=h.at_ i Zs[i] rs[i] (by simp[hz]) (by simp[hl]);split
 ·exact⟨a,b,l⟩
 exact⟨ZJ,bd0 n,Qu⟩
def RepL.ones (c:Nat):RepL 1 1 (List.replicate c 1) (List.replicate c (1,1)):=by
 refine⟨J1,by show (1:Int).natAbs<2 ^ 1;decide,ZJ,λi W r a hr=>?_⟩;have h1:=zf (YD a);have h2:=zf (YD hr);subst h1 h2;exact⟨rfl,by show (1:Int).natAbs<2 ^ 1;decide,K4⟩
theorem RepL.mono {m n:Nat}{D:Int}{Zs:TV}{rs:UA}(h:RepL m D Zs rs)(k:m<=n):RepL n D Zs rs :=
 ⟨h.pos,h.bD.mono k,h.len,λi W r a hr=>⟨(h.at_ i W r a hr).1,(h.at_ i W r a hr).2.1.mono k,(h.at_ i W r a hr).2.2⟩⟩
def RepL.of_map {n:Nat}{D:Int}(b:0<D)(bD:Bd n D){α:Type}(l:List α)(f:α->Rat)(g:α->Int)(h:∀ x∈l,(f x).1*D=g x*(f x).2/\Bd n (g x)/\Low (f x)):RepL n D (l.map g) (l.map f):=by
 refine⟨b,bD,ZJ,λi W r a hr=>?_⟩;rw[YI] at a hr
 cases e:l[i]? with
 | none=>rw[e] at a;cases a
 | some x =>
  rw[e] at a hr
  cases a
  cases hr;exact h x (YD e)
def Tu {r:Rat}{W:Int}(k:Int)(h:r.1*D=W*r.2):r.1*(D*k)=(W*k)*r.2:=by
 rw[<-GO,h,GO,JE r.2,<-GO]
def Z0d {a b q:Rat}{S M:Int}(hm:0<a.2)(hs:0<b.2)(h1:a.1*(D*6)=M*a.2)(h2:b.1*(D*1)=S*b.2)(hq:q.1*(a.2*b.1)=(a.1*b.2)*q.2):q.1*(6*S)=M*q.2:=by
 have:(a.2*b.2)*(q.1*(6*S))=(a.2*b.2)*(M*q.2):=by
  have e1:(a.2*b.2)*(q.1*(6*S))=q.1*a.2*6*(S*b.2):=ZQ
  have e2:(a.2*b.2)*(M*q.2)=(M*a.2)*b.2*q.2:=ZQ
  rw[e1,e2,<-h1,<-h2];have e3:q.1*a.2*6*(b.1*(D*1))=(q.1*(a.2*b.1))*(6*D):=ZQ
  rw[e3,hq];grind
 exact GS (Wl hm hs) this
def Z2b {m n k:Nat}{As Bs:TV}(ha:∀ z∈As,Bd m z)(c:∀ z∈Bs,Bd n z)(hl:As.length<=2 ^ k):Bd (m+n+k) (List.zipWith (·*·) As Bs).sum:=by
 refine Z2i _ (λx hx=>?_) k (by rw[JW];omega);obtain⟨i,hi⟩:=XQ hx;rw[GI] at hi
 cases e1:As[i]? with
 | none=>rw[e1] at hi;cases hi
 | some a =>
  cases e2:Bs[i]? with
  | none=>rw[e1,e2] at hi;cases hi
  | some b =>
   rw[e1,e2] at hi
   cases hi;exact (ha a (YD e1)).mul (c b (YD e2))
def RepL.bdW {n:Nat}(h:RepL n D Zs rs):∀ z∈Zs,Bd n z:=λz hz=>by
 obtain⟨i,hi⟩:=XQ hz;have hl:i<Zs.length:=(YG.mp hi).1;have hr:i<rs.length:=by rw[<-h.len];exact hl
 exact (h.at_ i z rs[i] hi (by simp[hr])).2.1
open PySem _L
structure Goes (J:It)(H:Hp)(xs:TZ):Prop where
 go:∀ (i:Nat) (H':Hp),Same H H'->i<xs.length->J.go i H'
 yld:∀ (i:Nat) (H':Hp) (x:V) (H'':Hp),Same H H'->J.yld i H' x H''->H''=H'/\xs[i]?=some x
 stop:∀ H':Hp,Same H H'->J.stop xs.length H'
theorem Z8a {a:Addr}(h:SqL K H a xs):Goes (Itl K a) H xs :=
 ⟨λi H' S hi=>⟨xs,xs[i],Xr S h,by simp[hi]⟩,λ_ _ _ _ S ⟨e,f⟩=>⟨e,f xs (Xr S h)⟩,λ_ S=>⟨xs,Xr S h,YJ _⟩⟩
theorem Z89 {a:Addr}(h:SqT K H a xs):Goes (Itt K a) H xs :=
 ⟨λi H' S hi=>⟨xs,xs[i],Zx S h,by simp[hi]⟩,λ_ _ _ _ S ⟨e,f⟩=>⟨e,f xs (Zx S h)⟩,λ_ S=>⟨xs,Zx S h,YJ _⟩⟩
section
open PySem.Spec PyProof.Rows
variable {X:Cx}
inductive iAny_i (K:TR) (R:(It->Hp->Prop)) (x:V) (H1:Hp):Prop
 | mk (a:Addr) (xs:TZ) (zz0:x=.ref a) (zz1:(SqL K H1 a xs \/ SqT K H1 a xs)) (zz2:∀ J:It,Goes J H1 xs->R J H1)
def iAny (K:TR)(tl:TE):TI:=λσ H R=>tl σ H (iAny_i K R)
theorem Z6e {l:Expr}(hl:PE X l tl):PI X tg l (iAny X.K tl):=by
 intro pins s σ H R I h;refine thn (hl pins s σ H _ I h) λv s1 ⟨x,H1,c,r1,f⟩=>?_;obtain⟨a,xs,e,hq | hq,q⟩:=f
 ·subst e
  cases r1;obtain⟨its,rv,p,hz⟩:=c.list hq;refine zD p.isList ?_;refine⟨s1.heap.objs.size,[s1.heap.objs.size],_,_,H1,rfl,c.kept (t':=s1.toks) λb o e=>YC _ e,Tp a _,⟨_,YS _ rfl,rfl,rfl⟩,λb d=>?_,q _ (Z8a hq)⟩;have e:b=s1.heap.objs.size:=by simpa using d
  subst e;exact c.fpOk (YJ _) (c.hok.fresh (YJ _))
 subst e
 cases r1;obtain⟨its,rv,p,hz⟩:=c.tuple hq;refine jr (show s1.heap.IsTuple a its.toArray from p) ?_;refine⟨s1.heap.objs.size,[s1.heap.objs.size],_,_,H1,rfl,c.kept (t':=s1.toks) λb o e=>YC _ e,Ug a _,⟨_,YS _ rfl,rfl,rfl⟩,λb d=>?_,q _ (Z89 hq)⟩;have e:b=s1.heap.objs.size:=by simpa using d
 subst e;exact c.fpOk (YJ _) (c.hok.fresh (YJ _))
end
open PySem.Spec PyProof.Rows
section
variable {X:Cx}
theorem Xa {x:Str}{pos' n:Pos}{B c:Expr}{p:TL}{pos:Pos}{wi:TI}{g:TG}{N:TF}{k:Nat}{fv:List Nat}{ox:Option Str}
  (P:X.N.Nodup) (a0:X.N[i]?=some x) (hx:Loc X.env.scope x)
  (hc:X.calm=true) (hi:PI X tg c wi) (hg:∀ cl C fp s H,PG (compCx X N scope ox cl C fp s H) tg g) (ht:∀ cl C fp s H,PTs (compCx X N scope ox cl C fp s H) p tt) (he:∀ cl C fp s H,PE (compCx X N scope ox cl C fp s H) B te)
  (hw:∀ r x H Q,g x (List.replicate k none++r) H Q->g x (List.replicate k none++r) H λE H4=>Q E H4/\Weaker E (List.replicate k none++r))
  (hN:N.length=k+fv.length:=by rfl) (Y:fv.map (λj=>X.N[j]?)=(N.drop k).map some:=by rfl) (hk:(N.drop k).map X.env.kindOf=(N.drop k).map (λ_=>some .cell):=by rfl)
  (K:∀ y∈N.drop k,scope.names.lookup y=some .free:=by decide +kernel) (R:∀ y∈scope.names,y.2=.free->y.1∈N.drop k:=by decide +kernel)
  (F:(scope.names.filter λy=>y.2 == .cell)=ox.toList.map (λx=>(x,.cell)):=by decide +kernel) (V:∀ y∈N.drop k,ox≠some y:=by decide +kernel) (d:scope.kind=.function:=by rfl) (f:∀ y∈scope.names,y.2=.local->scope.names.lookup y.1=some .local:=by decide +kernel)
  (hs:∀ x,foldedSetIterable c X.env x=pure x:=by intro _;rfl)
  (W:swapsWith (.ListComp B [⟨tg,c,p,0⟩] scope pos) (some (.Name x pos')) n.line X.env=pure true:=by rfl)
  (hf:X.fn x=true \/ X.env.scope.names.lookup x=some .local:=by first | exact .inl rfl | exact .inr rfl | assumption) :
  PS X (.Assign [.Name x pos'] (.ListComp B [⟨tg,c,p,0⟩] scope pos) n) (tAsg (tComp wi g tt te k fv) (gName i)):=by
 intro pins s σ H D I h;have kc:∀ y∈N.drop k,X.env.kindOf y=some .cell:=λy O=>by
  obtain⟨j,hj⟩:=XQ O;have a:=congrArg (λl=>l[j]?) hk;simp only [YI,hj,jn] at a;exact YU a
 obtain⟨cl,t,h1,h2⟩:=Uf (env:=X.env) (scope:=scope) λy O hf=>I.ok.has y.1 (.inl (kc y.1 (R y O hf)));rw[exec_Assign_Name_used _ _ _ _ W];refine YA (Y0X (YA ?_));unfold evalThenUse;refine YA (Y11 (use:=some (assign (.Name x pos') X.env)) rfl hs t d f (thn (hi pins s σ H _ I h) λxv s1 Z=>thn Z λa1 s2 U=>?_));obtain⟨it,fp,tn,J,H2,e,I2,T,S,f2,body⟩:=U;subst e;refine Po (Q:=λv H1=>gName i v σ H1 D.nx) (RR:=λacc C=>compPost (model X.prog X.w) X.A X.xe (some (assign (.Name x pos') X.env)) _ acc C) hc hg ht he hw hN Y hk K F V d h1 h2 I2 T S f2 body λDd C H' s' ⟨m,hm⟩ u q iv=>?_;show wpAny _ _ (assign (.Name x pos') X.env (.ref Dd)) _ _ s';have I':Inv X pins σ H' s':=iv s'.heap ⟨rfl,λ_ _=>rfl⟩;refine wpAny_assign_Name (N0 I' P a0 hx (v:=.ref Dd) rfl (λs3 I3 ⟨a,sb,ha⟩=>⟨m,?_,λh' G=>?_⟩) hf)
 ·have L:C≠a:=by
   rcases ha with rfl | ha
   ·exact u.2.1
   exact λz=>u.2.2.2.2.1 x a ha z.symm
  obtain⟨o,es,ep,ho,r⟩:=hm;exact⟨o,es,ep,by rw[sb.2 C L];exact ho,r⟩
 refine YK (YK ?_);have I4:=Pb (ch:=[C]) (h':=h') (t':=s3.toks) I3 (λb M=>by rw[XD.mp M];exact u) λb o M e=>by
  rw[G.2 b (λz=>M (by rw[z];exact XD.mpr rfl))];exact e
 exact⟨_,H',I4,q⟩
end
end _b
namespace _b
open PySem _L
def Sg {a:Addr}{g:TG}{D:Ends}{σ:_L.St}(b:Nat->_L.St->Hp->Prop)(h0:b 0 σ H)(hl:∀ i σ H,i<=xs.length->b i σ H->SqL K H a xs)
  (hs:∀ i x σ H p,xs[i]?=some x->b i σ H->H p=none->g (.ref p) σ (upd H p (.tup [.int (i:Int),x])) λc H2=>tb { D with nx:=b (i+1),ct:=b (i+1),bk:=D.nx } c H2) (hd:∀ σ H,b xs.length σ H->D.nx σ H) :
  ∃ W:Nat->Nat->_L.St->Hp->Prop,(∃ m,W 0 m σ H)/\∀ i m σ H,W i m σ H →
   ((IteL K a).stop i H/\D.nx σ H) \/ ((IteL K a).go i H/\∃ N:_L.St->Hp->Prop,(∀ σ' H',N σ' H'->∃ f,f<m/\W (i+1) f σ' H')/\∀ x H',(IteL K a).yld i H x H'->g x σ H' λc H2=>tb { D with nx:=N,ct:=N,bk:=D.nx } c H2):=by
 refine⟨λi m σ H=>m=xs.length - i/\i<=xs.length/\b i σ H,⟨xs.length,ZJ,JK _,h0⟩,?_⟩;rintro i m σ H ⟨rfl,hi,p⟩;have q:=hl i σ H hi p;by_cases d:i<xs.length
 ·refine .inr ⟨⟨xs,q,d⟩,b (i+1),λσ' H' k=>⟨xs.length - (i+1),J0,rfl,d,k⟩,λx H' y=>?_⟩;obtain⟨j,x0,rfl,hp,rfl,h⟩:=y;exact hs i x0 σ H j (h xs q) p hp
 have e:i=xs.length:=J0
 subst e;exact .inl ⟨⟨xs,q,rfl⟩,hd σ H p⟩
theorem Paired.appP {α β:Type}{R:α->β->Prop}:∀ {xs a:List α} {ys ys':List β},Paired R xs ys->Paired R a ys'->Paired R (xs++a) (ys++ys')
 | _,_,_,_,.nil,s=>s
 | _,_,_,_,.cons r t,s=>.cons r (Paired.appP t s)
section
def RowsAt (K:TR)(H:Hp)(l:Addr)(rss:UB):Prop:=∃ as:List Addr,H l=some (.lst (as.map V.ref))/\Paired (RowAt K H) as rss
def Y0 {as:TJ}(h:Paired (RowAt K H) as rss)(x:Ext H H'):Paired (RowAt K H') as rss:=Paired.mapP h λ_ _ q=>q.ext x
end
def K8 {c A B:Prop}[Decidable c](hc:¬ c)(h:A):if (!decide c)=true then A else B:=by
 rw[XF hc];exact V0 h
open PySem.Spec PyProof.Rows
def Kp (l:Addr)(items:Array Value)(n:Nat)(a:TQ)(sl:Array (Option Value))(u:Tok) :
  Meets (Builtin.«tuple.__mul__» ⟨[.ref l,.int 1 u],[]⟩) (λ_ R s=>s.heap.get? l=some { cls:=.type "tuple",dict:=a,data:=.seq items n,slots:=sl }/\R (.ok (.ret (Value.ref l))) s) :=
 .of_wp λprog w A R s h=>by
  obtain⟨hp,g,d,tk,os⟩:=s;obtain⟨hl,h⟩:=h;have f1:=AutoSeq1.idx_int;have f2:=Y12;have b:(items.isEmpty || (1:Int) == 1)=true:=ZJ
  wp_walk using GY hl
  exact⟨_,rfl,h⟩
section
variable {X:Cx}
inductive rRepU (K:TR) (x:V) (y:V) (H:Hp) (Q:VK):Prop
 | mk (a k xs:_) (zz0:x=.ref a) (zz1:y=.int k) (zz2:SqT K H a xs) (zz3:1<=k) (zz4:xs≠[]) (zz5:xs.length*k.toNat<=1000) (zz6:∀ p H',Same H H'->SqT K H' p (List.replicate k.toNat xs).flatten->Q (.ref p) H')
theorem Gv:OpR X (binaryOp .Mult) (rRepU X.K):=by
 intro pins s σ H x y v u Q I b c h;obtain⟨l,k,xs,rfl,rfl,hq,h1,h2,h3,q⟩:=h;by_cases hk:2<=k
 ·exact Z3j pins s σ H _ _ v u Q I b c ⟨l,k,xs,rfl,rfl,hq,hk,h2,h3,λp hp=>q p _ (Same.new hp) (SqT.of Zc)⟩
 have e:k=1:=J0
 subst e
 cases b;obtain⟨t,rfl⟩:=c;obtain⟨its,r,pl,hz⟩:=I.tuple hq;obtain⟨⟨cls,a,data,sl⟩,ho,hc,n,hd⟩:=id pl;simp only at hc hd;subst hc hd;refine Y0L (T:="tuple") (U:="int") J1 ⟨_,ho,rfl⟩ (λs'=>Y1e s' 1 t) Va F.fills_int_mul Y0q Uy F.slot_int_index.lookup
  (zH Y0q (Y1e s 1 t) F.entry_int_rmul (F.args_int_rmul_2 _ _) (Ua 1 t l its.toArray n a sl)
   ⟨ho,rfl,⟨_,ho,rfl⟩,zH Y0f ⟨_,ho,rfl⟩ F.entry_tuple_mul (F.args_tuple_mul_2 _ _) (Kp l its.toArray n a sl t) ⟨ho,?_⟩⟩)
 refine⟨.ref l,H,I,rfl,q l H (λ_ _ h=>h) ?_⟩;have:(List.replicate (1:Int).toNat xs).flatten=xs:=ZJ
 rw[this];exact hq
end
end _b
namespace _v
structure Tab where
 b:Int
 own:Nat->Nat
 hd:Nat->Nat
 L:Nat->Nat->Int
abbrev _root_.UC:=Tab
noncomputable def colOf (n:Nat)(col:Nat->Vec)(rhs:Vec)(T:Tab)(j:Nat):Vec:=if j<n then col (T.hd j) else rhs
noncomputable def bas (col:Nat->Vec)(T:Tab):Mat:=λi=>col (T.own i)
structure Inv (m n:Nat)(col:Nat->Vec)(rhs:Vec)(T:Tab):Prop where
 pos:0<T.b
 dt:det m (bas col T)=T.b
 eqs:∀ j,j<=n->∀ r,r<m->T.b*colOf n col rhs T j r=sm m (λi=>T.L i j*bas col T i r)
 part:∀ f:Nat->Int,sm (n+m) f=sm m (λi=>f (T.own i))+sm n (λj=>f (T.hd j))
section
variable {m n:Nat}{col:Nat->Vec}{rhs:Vec}{T:Tab}
def L9 {a x y:Int}(h:0<a)(e:a*x=a*y):x=y:=GS J0 e
def L5 {k:Nat}(hi:i<m)(hk:k<m):det m (put (bas col T) i (bas col T k))=if k=i then det m (bas col T) else 0:=by
 by_cases e:k=i
 ·subst e;rw[YH rfl,put_self]
 rw[YF e];exact det_same hi hk (JC e) (by rw[put_eq,put_ne e])
def Inv.phi (I:Inv m n col rhs T){i j:Nat}(hi:i<m)(hj:j<=n):det m (put (bas col T) i (colOf n col rhs T j))=T.L i j:=by
 refine L9 I.pos ?_;rw[<-det_smul hi];have e1:det m (put (bas col T) i (λr=>T.b*colOf n col rhs T j r))=det m (put (bas col T) i (λr=>sm m (λk=>T.L k j*bas col T k r))):=by
  refine det_congr λk r hk hr=>?_;by_cases e:k=i
  ·subst e;rw[put_eq,put_eq];exact I.eqs j hj r hr
  rw[put_ne e,put_ne e]
 rw[e1,det_sum hi];rw[sm_one (k:=i) hi λk hk a=>?_]
 ·rw[L5 hi hi,YH rfl,I.dt,JE]
 rw[L5 hi hk,YF a,GR]
def Inv.phiO (I:Inv m n col rhs T){i k:Nat}(hi:i<m)(hk:k<m):det m (put (bas col T) i (bas col T k))=if k=i then T.b else 0:=by
 rw[L5 hi hk,I.dt]
def Inv.two (I:Inv m n col rhs T){p i c j:Nat}(hp:p<m)(hi:i<m)(a:i≠p)(hc:c<=n)(hj:j<=n) :
  T.b*det m (put (put (bas col T) p (colOf n col rhs T c)) i (colOf n col rhs T j))=T.L i j*T.L p c - T.L i c*T.L p j:=by
 rw[W5 (JC a),<-det_smul hp];have e1:det m (put (put (bas col T) i (colOf n col rhs T j)) p (λr=>T.b*colOf n col rhs T c r))=det m (put (put (bas col T) i (colOf n col rhs T j)) p (λr=>sm m (λk=>T.L k c*bas col T k r))):=by
  refine det_congr λk r hk hr=>?_;by_cases e:k=p
  ·subst e;rw[put_eq,put_eq];exact I.eqs c hc r hr
  rw[put_ne e,put_ne e]
 rw[e1,det_sum hp];rw[Bi (p:=p) (q:=i) hp hi (JC a) λk hk h1 h2=>?_]
 ·have a1:put (put (bas col T) i (colOf n col rhs T j)) p (bas col T p)=put (bas col T) i (colOf n col rhs T j):=by
   rw[W5 a,put_self]
  have a2:det m (put (put (bas col T) i (colOf n col rhs T j)) p (bas col T i))=- T.L p j:=by
   rw[Z2c hi hp a,put_self,I.phi hp hj]
  rw[a1,a2,I.phi hi hj];grind
 rw[det_same (p:=p) (q:=k) hp hk (JC h1) (by rw[put_eq,put_ne h1,put_ne h2]),GR]
noncomputable def newL (T:Tab)(p c i j:Nat):Int:=if i=p then (if j=c then T.b else T.L p j) else if j=c then - T.L i c else (T.L i j*T.L p c - T.L i c*T.L p j).fdiv T.b
noncomputable def up (f:TX)(i v:Nat):Nat->Nat:=λk=>if k=i then v else f k
noncomputable def piv (T:Tab)(p c:Nat):Tab:=⟨T.L p c,up T.own p (T.hd c),up T.hd c (T.own p),newL T p c⟩
def Inv.newL_mul (I:Inv m n col rhs T){p c i j:Nat}(hp:p<m)(hc:c<n)(hi:i<m)(hj:j<=n)(h1:i≠p)(h2:j≠c):T.b*newL T p c i j=T.L i j*T.L p c - T.L i c*T.L p j:=by
 have h:=I.two hp hi h1 (JH hc) hj;unfold newL;rw[YF h1,YF h2,<-h];rw[JE T.b (det m _),Y0u _ (by have:=I.pos;omega)];rw[JE]
def Z5b {k:Nat}{f:TY}{g:TX}{v:Nat}(hi:i<k):sm k (λx=>f (up g i v x))=sm k (λx=>f (g x))+f v - f (g i):=by
 rw[Y4 (k:=i) hi,Y4 (f:=λx=>f (g x)) (k:=i) hi];have e:sm k (λx=>if x=i then 0 else f (up g i v x))=sm k (λx=>if x=i then 0 else f (g x)):=Y5 λx _=>by
  by_cases h:x=i
  ·rw[YH h,YH h]
  rw[YF h,YF h];unfold up;rw[YF h]
 rw[e];have:up g i v i=v:=YH rfl;show f (up g i v i)+_=_;rw[this];omega
def Fo (T:Tab)(p c:Nat):bas col (piv T p c)=put (bas col T) p (col (T.hd c)):=by
 funext i
 show col (up T.own p (T.hd c) i)=_;by_cases e:i=p
 ·subst e;rw[put_eq];unfold up;rw[YH rfl]
 rw[put_ne e];unfold up;rw[YF e];rfl
def Wq (h:j<n):colOf n col rhs T j=col (T.hd j):=YH h
theorem Inv.piv (I:Inv m n col rhs T){p c:Nat}(hp:p<m)(hc:c<n)(hk:0<T.L p c):Inv m n col rhs (piv T p c):=by
 refine⟨hk,?_,λj hj r hr=>?_,λf=>?_⟩
 ·rw[Fo,<-Wq (col:=col) (rhs:=rhs) (T:=T) hc,I.phi hp (JH hc)];rfl
 ·rw[Fo];show T.L p c*colOf n col rhs (_v.piv T p c) j r=sm m (λi=>newL T p c i j*put (bas col T) p (col (T.hd c)) i r);have d:=I.eqs c (JH hc) r hr;rw[Wq hc,Y4 (k:=p) hp] at d;rw[Y4 (k:=p) hp,put_eq];by_cases e:j=c
  ·subst e;have e1:colOf n col rhs (_v.piv T p j) j=bas col T p:=by
    rw[Wq hc];show col (up T.hd j (T.own p) j)=_;unfold up;rw[YH rfl];rfl
   have e2:sm m (λi=>if i=p then 0 else newL T p j i j*put (bas col T) p (col (T.hd j)) i r)=(-1)*sm m (λi=>if i=p then 0 else T.L i j*bas col T i r):=by
    rw[<-Xd];refine Y5 λi hi=>?_;by_cases h:i=p
    ·rw[YH h,YH h];rfl
    rw[YF h,YF h,put_ne h];unfold newL;rw[YF h,YH rfl];grind
   have e3:newL T p j p j=T.b:=by unfold newL;rw[YH rfl,YH rfl]
   rw[e1,e2,e3];omega
  have a:=I.eqs j hj r hr;rw[Y4 (k:=p) hp] at a;have e1:colOf n col rhs (_v.piv T p c) j=colOf n col rhs T j:=by
   unfold colOf;by_cases q:j<n
   ·rw[YH q,YH q];show col (up T.hd c (T.own p) j)=_;unfold up;rw[YF e]
   rw[YF q,YF q]
  have e3:newL T p c p j=T.L p j:=by unfold newL;rw[YH rfl,YF e]
  refine L9 I.pos ?_;have e2:T.b*sm m (λi=>if i=p then 0 else newL T p c i j*put (bas col T) p (col (T.hd c)) i r)=T.L p c*sm m (λi=>if i=p then 0 else T.L i j*bas col T i r)+(- T.L p j)*sm m (λi=>if i=p then 0 else T.L i c*bas col T i r):=by
   rw[<-Xd,<-Xd,<-Xd,<-Wx];refine Y5 λi hi=>?_;by_cases h:i=p
   ·rw[YH h,YH h,YH h];simp
   rw[YF h,YF h,YF h,put_ne h,<-GO,I.newL_mul hp hc hi hj h e];grind
  rw[e1,e3,Y1V,e2];generalize sm m (λi=>if i=p then 0 else T.L i j*bas col T i r)=A at *
  generalize sm m (λi=>if i=p then 0 else T.L i c*bas col T i r)=B at *
  generalize colOf n col rhs T j r=x at *
  generalize col (T.hd c) r=y at *
  generalize bas col T p r=z at *
  clear e2;grind
 show sm (n+m) f=sm m (λi=>f (up T.own p (T.hd c) i))+sm n (λj=>f (up T.hd c (T.own p) j));rw[Z5b hp,Z5b hc,I.part f];omega
noncomputable def ind (v:Nat):Nat->Int:=λx=>if x=v then 1 else 0
def Se (v x:Nat):0<=ind v x:=by unfold ind;split <;> omega
def Inv.cnt (I:Inv m n col rhs T){v:Nat}(h:v<n+m):sm m (λi=>ind v (T.own i))+sm n (λj=>ind v (T.hd j))=1:=by
 rw[<-I.part (ind v),sm_one (f:=ind v) (k:=v) h λi hi a=>YF a];exact YH rfl
def Inv.big (I:Inv m n col rhs T):sm m (λi=>if T.own i<n+m then (0:Int) else 1)+sm n (λj=>if T.hd j<n+m then (0:Int) else 1)=0:=by
 rw[<-I.part (λx=>if x<n+m then 0 else 1)];exact sm_zero λi hi=>YH hi
def Inv.ownLt (I:Inv m n col rhs T){i:Nat}(hi:i<m):T.own i<n+m:=by
 apply YE;intro h;have e:=I.big;have h1:0<=sm n (λj=>if T.hd j<n+m then (0:Int) else 1):=Y6 λj _=>by split <;> omega
 rw[Y4 (k:=i) hi,YF h] at e;have h2:0<=sm m (λx=>if x=i then 0 else if T.own x<n+m then (0:Int) else 1):=Y6 λj _=>by split <;> (try split) <;> omega
 omega
def Inv.hdLt (I:Inv m n col rhs T){j:Nat}(hj:j<n):T.hd j<n+m:=by
 apply YE;intro h;have e:=I.big;have h1:0<=sm m (λj=>if T.own j<n+m then (0:Int) else 1):=Y6 λj _=>by split <;> omega
 rw[Y4 (f:=λj=>if T.hd j<n+m then (0:Int) else 1) (k:=j) hj,YF h] at e;have h2:0<=sm n (λx=>if x=j then 0 else if T.hd x<n+m then (0:Int) else 1):=Y6 λj _=>by split <;> (try split) <;> omega
 omega
def Inv.ne (I:Inv m n col rhs T){i j:Nat}(hi:i<m)(hj:j<n):T.own i≠T.hd j:=λh=>by
 have e:=I.cnt (I.ownLt hi);rw[Y4 (k:=i) hi,Y4 (f:=λx=>ind (T.own i) (T.hd x)) (k:=j) hj] at e;have a1:ind (T.own i) (T.own i)=1:=YH rfl;have a2:ind (T.own i) (T.hd j)=1:=YH h.symm;have h1:0<=sm m (λx=>if x=i then 0 else ind (T.own i) (T.own x)):=Y6 λx _=>by split;omega;exact Se ..
 have h2:0<=sm n (λx=>if x=j then 0 else ind (T.own i) (T.hd x)):=Y6 λx _=>by split;omega;exact Se ..
 omega
def Inv.ownInj (I:Inv m n col rhs T){i k:Nat}(hi:i<m)(hk:k<m)(h:T.own i=T.own k):i=k:=by
 apply YE;intro a;have e:=I.cnt (I.ownLt hi);rw[Y4 (k:=i) hi,Y4 (f:=λx=>if x=i then 0 else ind (T.own i) (T.own x)) (k:=k) hk] at e;have a1:ind (T.own i) (T.own i)=1:=YH rfl;rw[YF (JC a)] at e;have a2:ind (T.own i) (T.own k)=1:=YH h.symm;have h1:0<=sm m (λx=>if x=k then 0 else if x=i then 0 else ind (T.own i) (T.own x)):=Y6 λx _=>by split;omega;split;omega;exact Se ..
 have h2:0<=sm n (λx=>ind (T.own i) (T.hd x)):=Y6 λx _=>Se ..;omega
def Inv.hdInj (I:Inv m n col rhs T){i k:Nat}(hi:i<n)(hk:k<n)(h:T.hd i=T.hd k):i=k:=by
 apply YE;intro a;have e:=I.cnt (I.hdLt hi);rw[Y4 (f:=λx=>ind (T.hd i) (T.hd x)) (k:=i) hi,Y4 (f:=λx=>if x=i then 0 else ind (T.hd i) (T.hd x)) (k:=k) hk] at e;have a1:ind (T.hd i) (T.hd i)=1:=YH rfl;rw[YF (JC a)] at e;have a2:ind (T.hd i) (T.hd k)=1:=YH h.symm;have h1:0<=sm n (λx=>if x=k then 0 else if x=i then 0 else ind (T.hd i) (T.hd x)):=Y6 λx _=>by split;omega;split;omega;exact Se ..
 have h2:0<=sm m (λx=>ind (T.hd i) (T.own x)):=Y6 λx _=>Se ..;omega
def Inv.cover (I:Inv m n col rhs T){v:Nat}(h:v<n+m):(∃ i,i<m/\T.own i=v) \/ (∃ j,j<n/\T.hd j=v):=by
 have e:=I.cnt h;by_cases q:0<sm m (λi=>ind v (T.own i))
 ·obtain⟨i,hi,hp⟩:=Kt q;refine .inl ⟨i,hi,?_⟩;apply YE;intro z;rw[show ind v (T.own i)=0 from YF z] at hp;omega
 have:0<sm n (λj=>ind v (T.hd j)):=J0
 obtain⟨i,hi,hp⟩:=Kt this;refine .inr ⟨i,hi,?_⟩;apply YE;intro z;rw[show ind v (T.hd i)=0 from YF z] at hp;omega
def Inv.row (I:Inv m n col rhs T){i:Nat}(hi:i<m)(x:TY)(hx:∀ r,r<m->sm (n+m) (λv=>x v*col v r)=0):T.b*x (T.own i)+sm n (λj=>T.L i j*x (T.hd j))=0:=by
 have e1:det m (put (bas col T) i (λr=>sm (n+m) (λv=>x v*col v r)))=0:=by
  rw[<-Ki (m:=m) (v:=bas col T) (c:=i) hi];refine det_congr λk r hk hr=>?_;by_cases e:k=i
  ·subst e;rw[put_eq,put_eq];exact hx r hr
  rw[put_ne e,put_ne e]
 rw[det_sum hi,I.part] at e1;have e2:sm m (λk=>x (T.own k)*det m (put (bas col T) i (col (T.own k))))=T.b*x (T.own i):=by
  rw[sm_one (k:=i) hi λk hk a=>?_]
  ·have:=I.phiO hi hi;rw[YH rfl] at this;show x (T.own i)*det m (put (bas col T) i (bas col T i))=_;rw[this,JE]
  have:=I.phiO hi hk;rw[YF a] at this;show x (T.own k)*det m (put (bas col T) i (bas col T k))=_;rw[this,GR]
 have e3:sm n (λj=>x (T.hd j)*det m (put (bas col T) i (col (T.hd j))))=sm n (λj=>T.L i j*x (T.hd j)):=Y5 λj hj=>by
  have:=I.phi (i:=i) (j:=j) hi (JH hj);rw[Wq hj] at this;rw[this,JE]
 rw[e2,e3] at e1;exact e1
noncomputable def dir (m:Nat)(T:Tab)(c:Nat):Nat->Int:=λv=>(if v=T.hd c then T.b else 0) + - sm m (λi=>if T.own i=v then T.L i c else 0)
def Inv.dirO (I:Inv m n col rhs T){c i:Nat}(hc:c<n)(hi:i<m):dir m T c (T.own i)=- T.L i c:=by
 unfold dir;rw[YF (I.ne hi hc),sm_one (k:=i) hi λk hk a=>YF λz=>a (I.ownInj hk hi z),YH rfl];omega
def Inv.dirH (I:Inv m n col rhs T){c j:Nat}(hc:c<n)(hj:j<n):dir m T c (T.hd j)=if j=c then T.b else 0:=by
 unfold dir;rw[sm_zero (f:=λi=>if T.own i=T.hd j then T.L i c else 0) λk hk=>YF (I.ne hk hj)];by_cases e:j=c
 ·subst e;rw[YH rfl,YH rfl];omega
 rw[YF e,YF λz=>e (I.hdInj hj hc z)];omega
def Inv.dirSol (I:Inv m n col rhs T){c:Nat}(hc:c<n){r:Nat}(hr:r<m):sm (n+m) (λv=>dir m T c v*col v r)=0:=by
 rw[I.part];have e1:sm m (λi=>dir m T c (T.own i)*col (T.own i) r)=(-1)*sm m (λi=>T.L i c*bas col T i r):=by
  rw[<-Xd];refine Y5 λi hi=>?_;rw[I.dirO hc hi];show _=-1*(T.L i c*col (T.own i) r);grind
 have e2:sm n (λj=>dir m T c (T.hd j)*col (T.hd j) r)=T.b*col (T.hd c) r:=by
  rw[sm_one (k:=c) hc λj hj a=>by rw[I.dirH hc hj,YF a,jf],I.dirH hc hc,YH rfl]
 have e3:=I.eqs c (JH hc) r hr;rw[Wq hc] at e3;rw[e1,e2,e3];omega
end
end _v
variable {T:UC}
namespace _v
section
variable {m n lk i0:Nat}{col:Nat->Vec}{rhs:Vec}{T:Tab}{p c:Nat}
structure Step (m n lk i0:Nat)(T:Tab)(p c:Nat):Prop where
 hp:p<m
 hc:c<n
 nl:T.hd c≠lk
 help:0<T.L i0 c
 first:∀ j,j<n->T.hd j≠lk->0<T.L i0 j->T.hd c<=T.hd j
 el:T.own p<=lk
 key:0<T.L p c
 least:∀ i,i<m->T.own i<=lk->0<T.L i c->T.L p n*T.L i c<T.L i n*T.L p c \/ (T.L p n*T.L i c=T.L i n*T.L p c/\T.own p<=T.own i)
def Feas (m n lk:Nat)(T:Tab):Prop:=∀ i,i<m->T.own i<=lk->0<=T.L i n
def Dz {a x:Int}(ha:0<a)(h:0<=a*x):0<=x:=by
 apply YE;intro z;have:=Int.mul_neg_of_pos_of_neg ha (show x<0 by omega);omega
def Inv.end_ne (I:Inv m n col rhs T)(s:Step m n lk i0 T p c){i:Nat}(hi:i<m)(h:i≠p):T.b*(_v.piv T p c).L i n=T.L i n*T.L p c - T.L i c*T.L p n :=
 I.newL_mul s.hp s.hc hi (YJ n) h (by have:=s.hc;omega)
def Z5p (s:Step m n lk i0 T p c):(piv T p c).L p n=T.L p n:=by
 show newL T p c p n=_;unfold newL;rw[YH rfl,YF (by have:=s.hc;omega)]
def own_p:(piv T p c).own p=T.hd c:=YH rfl
def own_ne (h:i≠p):(piv T p c).own i=T.own i:=YF h
def Step.feas (I:Inv m n col rhs T)(s:Step m n lk i0 T p c)(F:Feas m n lk T):Feas m n lk (piv T p c):=λi hi ho=>by
 by_cases e:i=p
 ·subst e;rw[Z5p s];exact F i hi s.el
 rw[own_ne e] at ho;have h:=I.end_ne s hi e;have h0:=F i hi ho;have h1:=F p s.hp s.el;refine Dz I.pos ?_;rw[h];by_cases q:0<T.L i c
 ·rcases s.least i hi ho q with z | ⟨z,_⟩
  ·rw[JE (T.L i c)];omega
  rw[JE (T.L i c)];omega
 have a1:0<=T.L i n*T.L p c:=Y05 h0 (by have:=s.key;omega);have a2:T.L i c*T.L p n<=0:=qh J0 h1;omega
structure Run (m n lk i0:Nat)(col:Nat->Vec)(rhs:Vec)(K:Nat)(S:Nat->Tab)(P C:TX):Prop where
 h0:i0<m
 I0:Inv m n col rhs (S 0)
 F0:Feas m n lk (S 0)
 st:∀ k,k<K->Step m n lk i0 (S k) (P k) (C k)
 stay:∀ k,k<K->P k≠i0
 nx:∀ k,k<K->S (k+1)=piv (S k) (P k) (C k)
variable {K:Nat}{S:Nat->Tab}{P C:TX}
theorem Run.inv (R:Run m n lk i0 col rhs K S P C):∀ k,k<=K->Inv m n col rhs (S k)/\Feas m n lk (S k)
 | 0,_=>⟨R.I0,R.F0⟩
 | k+1,h=>by
  obtain⟨I,F⟩:=R.inv k J0;have s:=R.st k J0;rw[R.nx k J0];exact⟨I.piv s.hp s.hc s.key,s.feas I F⟩
theorem Run.down (R:Run m n lk i0 col rhs K S P C){a:Nat}:∀ d,a+d<=K->(S (a+d)).L i0 n*(S a).b<=(S a).L i0 n*(S (a+d)).b/\((∃ l,a<=l/\l<a+d/\0<(S l).L (P l) n)->(S (a+d)).L i0 n*(S a).b<(S a).L i0 n*(S (a+d)).b)
 | 0,_=>⟨Y1t _,λ⟨l,h1,h2,_⟩=>J0⟩
 | d+1,h=>by
  obtain⟨h1,h2⟩:=R.down (a:=a) d J0;obtain⟨I,F⟩:=R.inv (a+d) J0;obtain⟨p,_⟩:=R.inv a J0;have s:=R.st (a+d) J0;have e:=I.end_ne s R.h0 (JC (R.stay (a+d) J0));have eb:(piv (S (a+d)) (P (a+d)) (C (a+d))).b=(S (a+d)).L (P (a+d)) (C (a+d)):=rfl;rw[<-zI,R.nx (a+d) J0,eb];have hn:=F (P (a+d)) s.hp s.el;have r:=s.help;have hk:=s.key;have o:=I.pos;have ha:=p.pos;have hd:0<=(S (a+d)).L i0 (C (a+d))*(S (a+d)).L (P (a+d)) n:=Y05 J0 hn;have j:0<(S (a+d)).L (P (a+d)) n->0<(S (a+d)).L i0 (C (a+d))*(S (a+d)).L (P (a+d)) n:=λz=>XU r z;have hs:(∃ l,a<=l/\l<a+d+1/\0<(S l).L (P l) n)->(∃ l,a<=l/\l<a+d/\0<(S l).L (P l) n) \/ 0<(S (a+d)).L (P (a+d)) n:=λ⟨l,v,y,k⟩=>by
   by_cases q:l=a+d
   ·subst q;exact .inr k
   exact .inl ⟨l,v,J0,k⟩
  generalize (piv (S (a+d)) (P (a+d)) (C (a+d))).L i0 n=i at *
  generalize (S (a+d)).L i0 n=x at *
  generalize (S (a+d)).b=b at *
  generalize (S (a+d)).L (P (a+d)) (C (a+d))=f at *
  generalize (S a).b=c at *
  generalize (S a).L i0 n=g at *
  generalize (S (a+d)).L i0 (C (a+d))*(S (a+d)).L (P (a+d)) n=t at *
  have e1:b*(i*c)=x*c*f - t*c:=by
   have:b*(i*c)=(b*i)*c:=ZQ
   rw[this,e];grind
  have e2:b*(g*f)=(g*b)*f:=ZQ
  have A:x*c*f<=g*b*f:=JZ h1 J0;have w:0<=t*c:=Y05 hd J0;constructor
  ·exact Y0M (show b*(i*c)<=b*(g*f) by omega) o
  intro z;rcases hs z with z | z
  ·have u:x*c*f<g*b*f:=ja (h2 z) hk;exact zy (show b*(i*c)<b*(g*f) by omega) J0
  have u:0<t*c:=XU (j z) ha;exact zy (show b*(i*c)<b*(g*f) by omega) J0
def isOwn (m:Nat)(T:Tab)(r:Nat):Prop:=∃ i,i<m/\T.own i=r
def Zr (m n:Nat)(T:Tab)(r:Nat):Prop:=∀ i,i<m->T.own i=r->T.L i n=0
def Jt {r:Nat}(h:isOwn m T r)(hr:r≠T.own p):isOwn m (piv T p c) r:=by
 obtain⟨i,hi,rfl⟩:=h;have:i≠p:=λz=>hr (by rw[z]);exact⟨i,hi,own_ne this⟩
def Cg {r:Nat}(h:¬ isOwn m T r)(hr:r≠T.hd c):¬ isOwn m (piv T p c) r:=λ⟨i,hi,e⟩=>by
 by_cases q:i=p
 ·subst q;rw[own_p] at e;exact hr e.symm
 rw[own_ne q] at e;exact h ⟨i,hi,e⟩
def Z7d (I:Inv m n col rhs T)(s:Step m n lk i0 T p c)(h0:T.L p n=0){r:Nat}:(Zr m n T r->Zr m n (piv T p c) r)/\(Zr m n (piv T p c) r->Zr m n T r):=by
 have a:=I.pos;have hk:=s.key;refine⟨λh i hi e=>?_,λh i hi e=>?_⟩
 ·by_cases q:i=p
  ·subst q;rw[Z5p s];exact h0
  rw[own_ne q] at e;have:=I.end_ne s hi q;rw[h i hi e,h0] at this;refine L9 a ?_;rw[this];simp
 by_cases q:i=p
 ·subst q;exact h0
 have:=I.end_ne s hi q;rw[h i hi (by rw[own_ne q];exact e),h0] at this;refine L9 hk ?_;have e2:T.L p c*T.L i n=T.L i n*T.L p c:=JE ..;rw[e2];simp at this;simp;omega
theorem Run.Zall (R:Run m n lk i0 col rhs K S P C){a b:Nat}(hK:a+b<=K)(hz:∀ l,a<=l->l<a+b->(S l).L (P l) n=0){r:Nat}:∀ d,d<=b->(Zr m n (S (a+d)) r ↔ Zr m n (S a) r)
 | 0,_=>Iff.rfl
 | d+1,h=>by
  have c:=R.Zall hK hz (r:=r) d J0;obtain⟨I,_⟩:=R.inv (a+d) J0;obtain⟨z1,z2⟩:=Z7d I (R.st (a+d) J0) (hz (a+d) J0 J0) (r:=r);rw[<-zI,R.nx (a+d) J0];exact⟨λh=>c.mp (z2 h),λh=>z1 (c.mpr h)⟩
theorem Run.keeps (R:Run m n lk i0 col rhs K S P C){k r:Nat}(h:isOwn m (S k) r):∀ d,k+d<=K->(∀ l,k<=l->l<k+d->(S l).own (P l)≠r)->isOwn m (S (k+d)) r
 | 0,_,_=>h
 | d+1,hK,hl=>by
  have a:=R.keeps h d J0 λl h1 h2=>hl l h1 J0;rw[<-zI,R.nx (k+d) J0];exact Jt a (JC (hl (k+d) J0 J0))
theorem Run.keepsN (R:Run m n lk i0 col rhs K S P C){k r:Nat}(h:¬ isOwn m (S k) r):∀ d,k+d<=K->(∀ l,k<=l->l<k+d->(S l).hd (C l)≠r)->¬ isOwn m (S (k+d)) r
 | 0,_,_=>h
 | d+1,hK,hl=>by
  have a:=R.keepsN h d J0 λl h1 h2=>hl l h1 J0;rw[<-zI,R.nx (k+d) J0];exact Cg a (JC (hl (k+d) J0 J0))
theorem Z1n (f:TX)(a:Nat):∀ d,0<d->∃ k,a<=k/\k<a+d/\∀ l,a<=l->l<a+d->f l<=f k
 | 0,h=>J0
 | 1,_=>⟨a,J0,J0,λl h1 h2=>by rw[show l=a by omega];exact YJ _⟩
 | d+2,_=>by
  obtain⟨k,h1,h2,h3⟩:=Z1n f a (d+1) J0;by_cases q:f k<=f (a+d+1)
  ·refine⟨a+d+1,J0,J0,λl b c=>?_⟩;by_cases e:l=a+d+1
   ·rw[e];exact YJ _
   exact YR (h3 l b J0) q
  refine⟨k,h1,J0,λl b c=>?_⟩;by_cases e:l=a+d+1
  ·rw[e];omega
  exact h3 l b J0
theorem Run.once (R:Run m n lk i0 col rhs K S P C){a d:Nat}(hd:0<d)(hK:a+d<=K)(c:∀ i,i<m->(S a).own i=(S (a+d)).own i):False:=by
 obtain⟨X,Fa⟩:=R.inv a J0;obtain⟨Z,Fb⟩:=R.inv (a+d) hK;have eb:(S a).b=(S (a+d)).b:=by
  rw[<-X.dt,<-Z.dt];refine det_congr λk r hk hr=>?_;show col ((S a).own k) r=col ((S (a+d)).own k) r;rw[c k hk]
 have ee:(S a).L i0 n=(S (a+d)).L i0 n:=by
  rw[<-X.phi R.h0 (YJ n),<-Z.phi R.h0 (YJ n)];refine det_congr λk r hk hr=>?_;by_cases e:k=i0
  ·subst e;rw[put_eq,put_eq];unfold colOf;rw[YF J0,YF J0]
  rw[put_ne e,put_ne e];show col ((S a).own k) r=col ((S (a+d)).own k) r;rw[c k hk]
 have hz:∀ l,a<=l->l<a+d->(S l).L (P l) n=0:=λl h1 h2=>by
  have s:=R.st l J0;have f:=(R.inv l J0).2 (P l) s.hp s.el;apply YE;intro z;have:=(R.down (a:=a) d hK).2 ⟨l,h1,h2,J0⟩;rw[<-ee,<-eb] at this;omega
 have t:∀ r,isOwn m (S a) r->isOwn m (S (a+d)) r:=λr ⟨i,hi,e⟩=>⟨i,hi,by rw[<-c i hi];exact e⟩;have g:∀ r,isOwn m (S (a+d)) r->isOwn m (S a) r:=λr ⟨i,hi,e⟩=>⟨i,hi,by rw[c i hi];exact e⟩;obtain⟨k1,a2,a4,y⟩:=Z1n (λk=>(S k).hd (C k)) a d hd;have s1:=R.st k1 J0;obtain⟨E,F1⟩:=R.inv k1 J0;have J:¬ isOwn m (S k1) ((S k1).hd (C k1)):=λ⟨i,hi,e⟩=>E.ne hi s1.hc e;have ⟨k2,G,F,o⟩:∃ k,a<=k/\k<a+d/\(S k).own (P k)=(S k1).hd (C k1):=by
  apply YE;intro hn;have p:∀ l,a<=l->l<a+d->(S l).own (P l)≠(S k1).hd (C k1):=λl u w z=>hn ⟨l,u,w,z⟩;have o1:isOwn m (S (k1+1)) ((S k1).hd (C k1)):=⟨P k1,s1.hp,by rw[R.nx k1 J0];exact own_p⟩;have o2:=R.keeps o1 (a+d - (k1+1)) J0 λl u w=>p l J0 J0;rw[show k1+1+(a+d - (k1+1))=a+d by omega] at o2;have H:=R.keeps (g _ o2) (k1 - a) J0 λl u w=>p l J0 J0;rw[show a+(k1 - a)=k1 by omega] at H;exact J H
 have s2:=R.st k2 J0;obtain⟨A,F2⟩:=R.inv k2 J0;have row:=E.row R.h0 (dir m (S k2) (C k2)) λr hr=>A.dirSol s2.hc hr;have ho:∀ k,k<=K->(S k).own i0=(S 0).own i0:=λk=>by
  induction k with
  | zero=>intro _;rfl
  | succ k ih =>
   intro h;rw[R.nx k J0,own_ne (JC (R.stay k J0))];exact ih J0
 have N:(S k1).own i0=(S k2).own i0:=by rw[ho k1 J0,ho k2 J0]
 rw[N,A.dirO s2.hc R.h0] at row;have pos:0<sm n (λj=>(S k1).L i0 j*dir m (S k2) (C k2) ((S k1).hd j)):=by
  have:=XU E.pos s2.help;have e:(S k1).b * -(S k2).L i0 (C k2)=-((S k1).b*(S k2).L i0 (C k2)):=ZQ
  rw[e] at row;omega
 obtain⟨j,hj,hp⟩:=Kt pos;rcases A.cover (E.hdLt hj) with ⟨i,hi,e⟩ | ⟨j',T,e⟩
 ·rw[<-e,A.dirO s2.hc hi] at hp;have I:isOwn m (S k2) ((S k1).hd j):=⟨i,hi,e⟩;have v:¬ isOwn m (S k1) ((S k1).hd j):=λ⟨i',U,e'⟩=>E.ne U hj e';have ⟨B,M,Q,D⟩:∃ k,a<=k/\k<a+d/\(S k).hd (C k)=(S k1).hd j:=by
   apply YE;intro hn;have p:∀ l,a<=l->l<a+d->(S l).hd (C l)≠(S k1).hd j:=λl u w z=>hn ⟨l,u,w,z⟩;have o2:=R.keepsN v (a+d - k1) J0 λl u w=>p l J0 J0;rw[show k1+(a+d - k1)=a+d by omega] at o2;have H:=R.keepsN (λz=>o2 (t _ z)) (k2 - a) J0 λl u w=>p l J0 J0;rw[show a+(k2 - a)=k2 by omega] at H;exact H I
  have a0:(S k1).hd j<=(S k1).hd (C k1):=by rw[<-D];exact y B M Q
  have W:=R.st B J0;have O:(S k1).hd j≠lk:=by rw[<-D];exact W.nl
  by_cases q:i=P k2
  ·
   subst q;have ej:(S k1).hd j=(S k1).hd (C k1):=by rw[<-e];exact o
   have ec:j=C k1:=E.hdInj hj s1.hc ej;subst ec;have:=XU s1.help s2.key;have e':(S k1).L i0 (C k1) * -(S k2).L (P k2) (C k2)=-((S k1).L i0 (C k1)*(S k2).L (P k2) (C k2)):=ZQ
   rw[e'] at hp;omega
  have a1:(S k1).hd j<(S k1).hd (C k1):=by
   rcases Nat.lt_or_ge ((S k1).hd j) ((S k1).hd (C k1)) with z | z
   ·exact z
   have:(S k2).own i=(S k2).own (P k2):=by rw[e,o];omega
   exact absurd (A.ownInj hi s2.hp this) q
  have u:(S k1).L i0 j<=0:=by
   apply YE;intro z;have:=s1.first j hj O J0;omega
  have w:0<(S k2).L i (C k2):=by
   apply YE;intro z;have:(S k1).L i0 j * -(S k2).L i (C k2)<=0:=qh u J0;omega
  have V:(S k2).own i<=lk:=by rw[e];have:=s2.el;rw[o] at this;omega
  have z3:Zr m n (S B) ((S k1).hd j):=λx hx ex=>absurd (by rw[ex,D]) ((R.inv B J0).1.ne hx W.hc);have za:=(R.Zall hK hz (r:=(S k1).hd j) (B - a) J0);rw[show a+(B - a)=B by omega] at za;have Y:=(R.Zall hK hz (r:=(S k1).hd j) (k2 - a) J0);rw[show a+(k2 - a)=k2 by omega] at Y;have zi:=(Y.mpr (za.mp z3)) i hi e;have zp:=hz k2 G F;rcases s2.least i hi V w with z | ⟨_,z⟩
  ·rw[zi,zp] at z;simp at z
  rw[e,o] at z;omega
 rw[<-e,A.dirH s2.hc T] at hp;by_cases q:j'=C k2
 ·subst q;rw[YH rfl] at hp;have u:0<(S k1).L i0 j:=by
   apply YE;intro z;have:(S k1).L i0 j*(S k2).b<=0:=qh J0 (by have:=A.pos;omega);omega
  have h1:=s1.first j hj (by rw[<-e];exact s2.nl) u;have h2:=y k2 G F;have:(S k2).own (P k2)=(S k2).hd (C k2):=by
   rw[o];have a5:(S k1).hd (C k1)<=(S k1).hd j:=h1;have a3:(S k2).hd (C k2)<=(S k1).hd (C k1):=h2;rw[e] at *
   omega
  exact A.ne s2.hp s2.hc this
 rw[YF q] at hp;simp at hp
theorem Z0m:∀ (M:Nat) (f:TX),(∀ i,i<=M->f i<M)->∃ a d,0<d/\a+d<=M/\f a=f (a+d)
 | 0,f,h=>absurd (h 0 J0) J0
 | M+1,f,h=>by
  by_cases q:∃ i,i<=M/\f i=f (M+1)
  ·obtain⟨i,hi,e⟩:=q;exact⟨i,M+1 - i,J0,J0,by rw[show i+(M+1 - i)=M+1 by omega];exact e⟩
  have b:∀ i,i<=M->f i≠f (M+1):=λi hi z=>q ⟨i,hi,z⟩;obtain⟨a,d,h1,h2,h3⟩:=Z0m M (λi=>if f i<f (M+1) then f i else f i - 1) λi hi=>by
   have:=b i hi;have:=h i J0;have:=h (M+1) J0;show (if f i<f (M+1) then f i else f i - 1)<M;split <;> omega
  refine⟨a,d,h1,J0,?_⟩;have n1:=b a J0;have n2:=b (a+d) J0;have h3:(if f a<f (M+1) then f a else f a - 1)=if f (a+d)<f (M+1) then f (a+d) else f (a+d) - 1:=h3
  split at h3 <;> split at h3 <;> omega
noncomputable def code (N:Nat):Nat->(Nat->Nat)->Nat
 | 0,_=>0
 | k+1,f=>code N k f+f k*N ^ k
theorem Q6 {N:Nat}:∀ {k:Nat} {f:TX},(∀ i,i<k->f i<N)->code N k f<N ^ k
 | 0,_,_=>by show 0<1;decide
 | k+1,f,h=>by
  have h1:=Q6 (k:=k) (f:=f) λi hi=>h i J0;have h2:=h k J0;show code N k f+f k*N ^ k<N ^ (k+1);rw[Y1f];have h3:(f k+1)*N ^ k<=N*N ^ k:=zF _ h2;rw[Nat.add_mul] at h3;rw[zU (N ^ k)];omega
theorem Kk {N:Nat}:∀ {k:Nat} {f g:TX},(∀ i,i<k->f i<N)->(∀ i,i<k->g i<N)->code N k f=code N k g->∀ i,i<k->f i=g i
 | 0,_,_,_,_,_,i,hi=>J0
 | k+1,f,g,hf,hg,e,i,hi=>by
  have a1:=Q6 (k:=k) (f:=f) λi hi=>hf i J0;have a2:=Q6 (k:=k) (f:=g) λi hi=>hg i J0;have e:code N k f+f k*N ^ k=code N k g+g k*N ^ k:=e;have e1:code N k f=code N k g:=by
   have:=congrArg (· % N ^ k) e;simp only [Nat.add_mul_mod_self_right] at this
   rwa [Nat.mod_eq_of_lt a1,Nat.mod_eq_of_lt a2] at this
  by_cases q:i=k
  ·subst q;have:f i*N ^ i=g i*N ^ i:=J0
   exact Y0D J0 this
  exact Kk (k:=k) (λi hi=>hf i J0) (λi hi=>hg i J0) e1 i J0
def Run.short (R:Run m n lk i0 col rhs K S P C):K<(n+m) ^ m:=by
 rcases Nat.lt_or_ge K ((n+m) ^ m) with h | h
 ·exact h
 obtain⟨a,d,h1,h2,h3⟩:=Z0m ((n+m) ^ m) (λk=>code (n+m) m (S k).own) λk hk=>Q6 λi hi=>(R.inv k J0).1.ownLt hi;exact absurd (R.once h1 J0 λi hi=>Kk (λi hi=>(R.inv a J0).1.ownLt hi) (λi hi=>(R.inv (a+d) J0).1.ownLt hi) h3 i hi) id
end
section
variable {m n:Nat}{col:Nat->Vec}{rhs:Vec}{T:Tab}
noncomputable def numAt (n:Nat)(T:Tab)(i v:Nat):Int:=sm n (λj=>if T.hd j=v then T.L i j else 0)
noncomputable def endOf (m n:Nat)(T:Tab)(v:Nat):Int:=sm m (λi=>if T.own i=v then T.L i n else 0)
noncomputable def coef (n:Nat)(T:Tab)(i v:Nat):Int:=(if v=T.own i then T.b else 0)+numAt n T i v
def Inv.numH (I:Inv m n col rhs T){i j:Nat}(hj:j<n):numAt n T i (T.hd j)=T.L i j:=by
 unfold numAt;rw[sm_one (k:=j) hj λk hk a=>YF λz=>a (I.hdInj hk hj z),YH rfl]
def Inv.numO (I:Inv m n col rhs T){i k:Nat}(hk:k<m):numAt n T i (T.own k)=0:=sm_zero λj hj=>YF (JC (I.ne hk hj))
def Inv.endO (I:Inv m n col rhs T){i:Nat}(hi:i<m):endOf m n T (T.own i)=T.L i n:=by
 unfold endOf;rw[sm_one (k:=i) hi λk hk a=>YF λz=>a (I.ownInj hk hi z),YH rfl]
def Inv.endH (I:Inv m n col rhs T){j:Nat}(hj:j<n):endOf m n T (T.hd j)=0:=sm_zero λi hi=>YF (I.ne hi hj)
def Inv.coefs (I:Inv m n col rhs T){i v:Nat}(hi:i<m)(a:v<n+m):det m (put (bas col T) i (col v))=coef n T i v:=by
 unfold coef;rcases I.cover a with ⟨k,hk,rfl⟩ | ⟨j,hj,rfl⟩
 ·rw[I.numO hk];have:=I.phiO hi hk;show det m (put (bas col T) i (bas col T k))=_;rw[this];by_cases e:k=i
  ·subst e;rw[YH rfl,YH rfl];omega
  rw[YF e,YF λz=>e (I.ownInj hk hi z)];omega
 rw[I.numH hj,YF (JC (I.ne hi hj))];have:=I.phi hi (JH hj);rw[Wq hj] at this;rw[this];omega
def Inv.lin (I:Inv m n col rhs T)(hc:∀ i r,i<m->r<m->col (n+i) r=if i=r then 1 else 0){i:Nat}(hi:i<m)(x:Vec):det m (put (bas col T) i x)=sm m (λr=>x r*coef n T i (n+r)):=by
 have e:det m (put (bas col T) i x)=det m (put (bas col T) i (λr=>sm m (λk=>x k*col (n+k) r))):=by
  refine det_congr λk r hk hr=>?_;by_cases q:k=i
  ·subst q;rw[put_eq,put_eq,sm_one (k:=r) hr λk hk a=>by rw[hc k r hk hr,YF a,GR],hc r r hr hr,YH rfl,Y0j]
  rw[put_ne q,put_ne q]
 rw[e,det_sum hi];exact Y5 λr hr=>by rw[I.coefs hi J0]
def Inv.size (I:Inv m n col rhs T){M:Nat}(hc:∀ v r,v<n+m->r<m->(col v r).natAbs<=M)(hr:∀ r,r<m->(rhs r).natAbs<=M){i j:Nat}(hi:i<m)(hj:j<=n):(T.L i j).natAbs<=(m*M) ^ m:=by
 rw[<-I.phi hi hj];refine Sj λk r hk a=>?_;by_cases e:k=i
 ·subst e;rw[put_eq];unfold colOf;split
  ·exact hc _ _ (I.hdLt (by assumption)) a
  exact hr r a
 rw[put_ne e];exact hc _ _ (I.ownLt hk) a
def Inv.sizeB (I:Inv m n col rhs T){M:Nat}(hc:∀ v r,v<n+m->r<m->(col v r).natAbs<=M):T.b.natAbs<=(m*M) ^ m:=by
 rw[<-I.dt];exact Sj λk r hk a=>hc _ _ (I.ownLt hk) a
def Inv.sol (I:Inv m n col rhs T){r:Nat}(hr:r<m):sm (n+m) (λv=>endOf m n T v*col v r)=T.b*rhs r:=by
 rw[I.part];have e1:sm n (λj=>endOf m n T (T.hd j)*col (T.hd j) r)=0:=sm_zero λj hj=>by rw[I.endH hj,jf]
 have e2:sm m (λi=>endOf m n T (T.own i)*col (T.own i) r)=sm m (λi=>T.L i n*bas col T i r):=Y5 λi hi=>by rw[I.endO hi];rfl
 have e3:=I.eqs n (YJ n) r hr;unfold colOf at e3;rw[YF J0] at e3;rw[e1,e2,<-e3];omega
end
section
variable {n g:Nat}{A:Nat->Nat->Int}{pap gl:TY}
noncomputable def colS (n g:Nat)(A:Nat->Nat->Int)(pap gl:TY):Nat->Vec:=λv r=>if v<n then (if r<g then A r v else if r=g then pap v else gl v) else if v - n=r then 1 else 0
noncomputable def rhsS (g:Nat):Vec:=λr=>if r=g then 1 else 0
noncomputable def T0 (n g:Nat)(A:Nat->Nat->Int)(pap gl:TY):Tab:=⟨1,λi=>n+i,λj=>j,λi j=>if j<n then colS n g A pap gl j i else rhsS g i⟩
def We {r:Nat}:colS n g A pap gl (n+i) r=if i=r then 1 else 0:=by
 unfold colS;rw[YF J0];have:n+i - n=i:=J0
 rw[this]
def inv0:Inv (g+2) n (colS n g A pap gl) (rhsS g) (T0 n g A pap gl):=by
 refine⟨by show (0:Int)<1;decide,?_,λj hj r hr=>?_,λf=>?_⟩
 ·show det (g+2) _=1;rw[<-det_id (g+2)];exact det_congr λk r _ _=>We
 ·show 1*colOf n (colS n g A pap gl) (rhsS g) (T0 n g A pap gl) j r=sm (g+2) (λi=>(if j<n then colS n g A pap gl j i else rhsS g i)*colS n g A pap gl (n+i) r);rw[sm_one (k:=r) hr λk hk a=>by rw[We,YF a,GR],We,YH rfl];unfold colOf;rw[Y0j,Y0i];split <;> rfl
 rw[Ku,Int.add_comm];rfl
def feas0:Feas (g+2) n (n+g) (T0 n g A pap gl):=λi _ _=>by
 show 0<=if n<n then _ else rhsS g i
 rw[YF J0];unfold rhsS;split <;> omega
variable {T:Tab}
abbrev InvS (n g:Nat)(A:Nat->Nat->Int)(pap gl:TY)(T:Tab):Prop:=Inv (g+2) n (colS n g A pap gl) (rhsS g) T
def InvS.world (I:InvS n g A pap gl T){i w:Nat}(hi:i<g+2)(hw:w<n):coef n T i w=sm g (λk=>A k w*coef n T i (n+k))+pap w*coef n T i (n+g)+gl w*coef n T i (n+g+1):=by
 rw[<-I.coefs hi J0,I.lin (λi r _ _=>We) hi];show sm g _+colS n g A pap gl w g*_+colS n g A pap gl w (g+1)*_=_;have e1:sm g (λr=>colS n g A pap gl w r*coef n T i (n+r))=sm g (λk=>A k w*coef n T i (n+k)):=Y5 λr hr=>by
  unfold colS;rw[YH hw,YH hr]
 have e2:colS n g A pap gl w g=pap w:=by unfold colS;rw[YH hw,YF J0,YH rfl]
 have e3:colS n g A pap gl w (g+1)=gl w:=by unfold colS;rw[YH hw,YF J0,YF J0]
 rw[e1,e2,e3];rfl
def InvS.ends (I:InvS n g A pap gl T){i:Nat}(hi:i<g+2):T.L i n=coef n T i (n+g):=by
 rw[<-I.phi hi (YJ n)];unfold colOf;rw[YF J0,I.lin (λi r _ _=>We) hi,sm_one (k:=g) J0 λk hk a=>by unfold rhsS;rw[YF a,jf]];unfold rhsS;rw[YH rfl,Y0i]
def InvS.lines (I:InvS n g A pap gl T):(∀ k,k<g->sm n (λw=>A k w*endOf (g+2) n T w)+endOf (g+2) n T (n+k)=0)/\sm n (λw=>pap w*endOf (g+2) n T w)+endOf (g+2) n T (n+g)=T.b/\sm n (λw=>gl w*endOf (g+2) n T w)+endOf (g+2) n T (n+g+1)=0:=by
 have key:∀ (r:Nat) (a:TY),r<g+2->(∀ w,w<n->colS n g A pap gl w r=a w)->sm n (λw=>a w*endOf (g+2) n T w)+endOf (g+2) n T (n+r)=T.b*rhsS g r:=λr a hr ha=>by
  rw[<-I.sol hr,Ku]
  congr 1
  ·exact Y5 λw hw=>by rw[ha w hw,JE]
  rw[sm_one (k:=r) hr λk hk c=>by rw[We,YF c,GR],We,YH rfl,Y0j]
 refine⟨λk hk=>?_,?_,?_⟩
 ·rw[key k (λw=>A k w) J0 λw hw=>by unfold colS;rw[YH hw,YH hk]];unfold rhsS;rw[YF J0,GR]
 ·rw[key g pap J0 λw hw=>by unfold colS;rw[YH hw,YF J0,YH rfl]];unfold rhsS;rw[YH rfl,Y0j]
 have:=key (g+1) gl J0 λw hw=>by unfold colS;rw[YH hw,YF J0,YF J0]
 rw[show n+(g+1)=n+g+1 by omega] at this;rw[this];unfold rhsS;rw[YF J0,GR]
def Q5 (I:InvS n g A pap gl T){i lk v:Nat}(a:v<n+(g+2))(h1:v≠T.own i)(h2:v≠lk)(hs:∀ j,j<n->T.hd j≠lk->T.L i j<=0):coef n T i v<=0:=by
 unfold coef;rw[YF h1];rcases I.cover a with ⟨k,hk,rfl⟩ | ⟨j,hj,rfl⟩
 ·rw[I.numO hk];omega
 rw[I.numH hj];have:=hs j hj h2;omega
theorem InvS.none (I:InvS n g A pap gl T){i ia:Nat}(hi:i<g+2)(ho:T.own i=n+g)(d:ia<g+2)(c:T.own ia=n+g+1)(hs:∀ j,j<n->T.hd j≠n+g->T.L i j<=0) :
  (∀ k,k<g->numAt n T i (n+k)<=0)/\∀ w,w<n->pap w*T.b<=sm g (λk=>A k w * -numAt n T i (n+k)):=by
 have hk:∀ k,k<g->coef n T i (n+k)=numAt n T i (n+k):=λk hk=>by
  unfold coef;rw[YF J0];omega
 refine⟨λk a=>?_,λw hw=>?_⟩
 ·rw[<-hk k a];exact Q5 I J0 J0 (lk:=n+g) J0 hs
 have e:=I.world hi hw;have h:=Q5 I (v:=w) J0 J0 (lk:=n+g) J0 hs;have e1:coef n T i (n+g)=T.b:=by
  unfold coef;rw[YH ho.symm];have:=I.numO (i:=i) hi;rw[ho] at this;omega
 have e2:coef n T i (n+g+1)=0:=by
  unfold coef;rw[YF J0];have:=I.numO (i:=i) d;rw[c] at this;omega
 have e3:sm g (λk=>A k w*coef n T i (n+k))=- sm g (λk=>A k w * -numAt n T i (n+k)):=by
  have:sm g (λk=>A k w*coef n T i (n+k))=sm g (λk=>(-1)*(A k w * -numAt n T i (n+k))):=Y5 λk a=>by rw[hk k a];grind
  rw[this,Xd];omega
 rw[e1,e2,e3] at e;omega
structure Most (n g:Nat)(A:Nat->Nat->Int)(pap gl:TY)(T:Tab)(i:Nat):Prop where
 x0:∀ w,w<n->0<=endOf (g+2) n T w
 fit:∀ k,k<g->sm n (λw=>A k w*endOf (g+2) n T w)<=0
 lie:sm n (λw=>pap w*endOf (g+2) n T w)=T.b
 val:sm n (λw=>gl w*endOf (g+2) n T w)=- T.L i n
 y0:∀ k,k<g->numAt n T i (n+k)<=0
 show_:∀ w,w<n->gl w*T.b<=sm g (λk=>A k w * -numAt n T i (n+k))+pap w * -T.L i n
theorem InvS.most (I:InvS n g A pap gl T)(F:Feas (g+2) n (n+g) T){i jl:Nat}(hi:i<g+2)(ho:T.own i=n+g+1)(d:jl<n)(c:T.hd jl=n+g)(hs:∀ j,j<n->T.hd j≠n+g->T.L i j<=0):Most n g A pap gl T i:=by
 obtain⟨o,m,l⟩:=I.lines;have x0:∀ v,v<=n+g->0<=endOf (g+2) n T v:=λv f=>by
  rcases I.cover (v:=v) J0 with ⟨k,hk,rfl⟩ | ⟨j,hj,rfl⟩
  ·rw[I.endO hk];exact F k hk f
  rw[I.endH hj];omega
 have hk:∀ k,k<g->coef n T i (n+k)=numAt n T i (n+k):=λk hk=>by
  unfold coef;rw[YF J0];omega
 refine⟨λw hw=>x0 w J0,λk hk=>?_,?_,?_,λk a=>?_,λw hw=>?_⟩
 ·have:=o k hk;have:=x0 (n+k) J0;omega
 ·have:=I.endH d;rw[c] at this;rw[this] at m;omega
 ·have:=I.endO hi;rw[ho] at this;rw[this] at l;omega
 ·rw[<-hk k a];exact Q5 I J0 J0 (lk:=n+g) J0 hs
 have e:=I.world hi hw;have h:=Q5 I (v:=w) J0 J0 (lk:=n+g) J0 hs;have e1:=I.ends hi;have e2:coef n T i (n+g+1)=T.b:=by
  unfold coef;rw[YH ho.symm];have:=I.numO (i:=i) hi;rw[ho] at this;omega
 have e3:sm g (λk=>A k w*coef n T i (n+k))=- sm g (λk=>A k w * -numAt n T i (n+k)):=by
  have:sm g (λk=>A k w*coef n T i (n+k))=sm g (λk=>(-1)*(A k w * -numAt n T i (n+k))):=Y5 λk a=>by rw[hk k a];grind
  rw[this,Xd];omega
 rw[<-e1,e2,e3] at e;have p:pap w * -T.L i n=-(pap w*T.L i n):=ZQ
 omega
theorem InvS.bounded (I:InvS n g A pap gl T)(d:∀ w,w<n->0<=pap w)(e:∀ w,w<n->pap w=0->gl w=0){i jl c:Nat}(hi:i<g+2)(ho:T.own i=n+g+1)(l:jl<n)(b:T.hd jl=n+g)(hc:c<n)(h:T.hd c≠n+g)(p:0<T.L i c) :
  ∃ k,k<g+2/\T.own k<=n+g/\0<T.L k c:=by
 apply YE;intro hn;have f:∀ k,k<g+2->T.own k<=n+g->T.L k c<=0:=λk h1 h2=>by
  apply YE;intro z;exact hn ⟨k,h1,h2,J0⟩
 have x0:∀ v,v<=n+g->0<=dir (g+2) T c v:=λv o=>by
  rcases I.cover (v:=v) J0 with ⟨k,hk,rfl⟩ | ⟨j,hj,rfl⟩
  ·rw[I.dirO hc hk];have:=f k hk o;omega
  rw[I.dirH hc hj];have:=I.pos;split <;> omega
 have row:∀ (r:Nat) (a:TY),r<g+2->(∀ w,w<n->colS n g A pap gl w r=a w)->sm n (λw=>a w*dir (g+2) T c w)+dir (g+2) T c (n+r)=0:=λr a hr ha=>by
  rw[<-I.dirSol hc hr,Ku]
  congr 1
  ·exact Y5 λw hw=>by rw[ha w hw,JE]
  rw[sm_one (k:=r) hr λk hk m=>by rw[We,YF m,GR],We,YH rfl,Y0j]
 have r1:=row g pap J0 λw hw=>by unfold colS;rw[YH hw,YF J0,YH rfl]
 have r2:=row (g+1) gl J0 λw hw=>by unfold colS;rw[YH hw,YF J0,YF J0]
 have hl:dir (g+2) T c (n+g)=0:=by
  rw[<-b,I.dirH hc l,YF λz=>h (by rw[<-z];exact b)]
 have hz:∀ w,w<n->pap w*dir (g+2) T c w=0:=λw hw=>by
  apply YE;intro z;have h1:∀ x,x<n->0<=pap x*dir (g+2) T c x:=λx hx=>Y05 (d x hx) (x0 x J0);rw[hl,Y4 (k:=w) hw] at r1;have h2:0<=sm n (λi=>if i=w then 0 else pap i*dir (g+2) T c i):=Y6 λx hx=>by
   split
   ·omega
   exact h1 x hx
  have:=h1 w hw;omega
 have hg:sm n (λw=>gl w*dir (g+2) T c w)=0:=sm_zero λw hw=>by
  by_cases q:pap w=0
  ·rw[e w hw q,jf]
  have:=hz w hw;rcases Int.mul_eq_zero.mp this with z | z
  ·exact absurd z q
  rw[z,GR]
 have ha:=I.dirO hc hi;rw[ho] at ha;rw[hg,show n+(g+1)=n+g+1 by omega,ha] at r2;omega
end
end _v
namespace _b
open PySem PySem.Spec PyProof.Rows _L
theorem Na {α β:Type}{R:α->β->Prop}:∀ {xs:List α} {us:List β},xs.length=us.length->(∀ (j:Nat) (x:α) (u:β),xs[j]?=some x->us[j]?=some u->R x u)->Paired R xs us
 | [],[],_,_=>.nil
 | [],_::_,h,_=>by simp at h
 | _::_,[],h,_=>by simp at h
 | x::xs,u::us,h,hr=>.cons (hr 0 x u rfl rfl) (Na (by simpa using h) λj y w e1 e2=>hr (j+1) y w (by simpa using e1) (by simpa using e2))
section
variable {X:Cx}
def Z0v {p:Addr}{u:V}{σ:_L.St}{A B:_L.St->Hp->Prop}{t:TT}(hp:SqT K H p [u,v])(h:t ((σ.set 0 (some u)).set 1 (some v)) H λb H5=>if b=true then A ((σ.set 0 (some u)).set 1 (some v)) H5 else B ((σ.set 0 (some u)).set 1 (some v)) H5) :
  gTup K 2 (gCons (gName 0) (gCons (gName 1) gNil)) (.ref p) σ H λa c=>t a c λb H5=>if b=true then A a H5 else B a H5 :=
 ⟨p,[u,v],rfl,hp,rfl,u,[v],rfl,v,[],rfl,rfl,h⟩
noncomputable def Mf {f:Str}{pos:Pos}{ta:TE}(b:PE X e ta)(a:attributeBase e f X.env (eval e X.env)=eval e X.env)(h:X.K=K:=by rfl):PE X (.Attribute e f pos) (tFld K ta f):=h ▸ Yg b a
inductive tLR1_i (Q:VK) (vs:TZ) (H1:Hp):Prop
 | mk (n:Nat) (zz0:vs=[.int (n:Int)]) (zz1:n<=1000) (zz2:∀ l,H1 l=none->Q (.ref l) (upd H1 l (.lst ((List.range n).map λ(k:Nat)=>V.int (k:Int)))))
def tLR1 (ta:TA):TE:=λσ H Q=>ta σ H (tLR1_i Q)
inductive tLR2_i (Q:VK) (vs:TZ) (H1:Hp):Prop
 | mk (i n:Nat) (zz0:vs=[.int (i:Int),.int ((i+n:Nat):Int)]) (zz1:i<=1000) (zz2:n<=1000) (zz3:∀ l,H1 l=none->Q (.ref l) (upd H1 l (.lst ((List.range n).map λk=>V.int ((i+k:Nat):Int)))))
def tLR2 (ta:TA):TE:=λσ H Q=>ta σ H (tLR2_i Q)
def Ue {pins:TD}{σ:_L.St}{H:Hp}{s:Shared}{Q:VK}{i n:Nat}{t u v:Tok}{tk:Nat}(hc:X.calm=true)(I:Inv X pins σ H s)(hi:i<=1000)(hn:n<=1000)
  (q:∀ l,H l=none->Q (.ref l) (upd H l (.lst ((List.range n).map λk=>V.int ((i+k:Nat):Int))))) :
  wX X (call (.type "list") [.ref s.heap.objs.size]) (EP X pins σ Q) X.xe { s with heap:=s.heap.push { cls:=.type "range",data:=.fields #[.int (i:Int) t,.int ((i+n:Nat):Int) u,.int 1 v] },toks:=tk }:=by
 have a:Inv X pins σ H { s with heap:=s.heap.push { cls:=.type "range",data:=.fields #[.int (i:Int) t,.int ((i+n:Nat):Int) u,.int 1 v] },toks:=tk }:=I.kept λb o e=>YC _ e;refine Mp (n:=n) (a.ok.hd hc) (λp hp=>(a.pin p (XG _ hp)).1) (IsRange.new ..) (small_one J0 J0 J0 J0) ?_ J0 λh' c acc c' kp e items=>?_
 ·rw[rangeSize_one];split <;> omega
 refine⟨.ref _,_,a.laid (t':=c) (o:=.lst ((List.range n).map λk=>V.int ((i+k:Nat):Int))) kp (YJ _) ?_,rfl,q _ (a.hok.fresh (YJ _))⟩;obtain⟨d,f⟩:=items;refine⟨by rw[YB,ql];exact YR hn J1,acc.toList,c',?_,by simpa using e⟩;refine Na (by simp[d]) λj x u' e1 e2=>?_;rw[YI] at e1
 cases e3:(List.range n)[j]? with
 | none=>rw[e3] at e1;cases e1
 | some k =>
  rw[e3] at e1
  cases e1;have hk:k=j:=by
   have:=YG.mp e3;obtain⟨_,h2⟩:=this;rw[<-h2];simp
  subst hk;obtain⟨t',g⟩:=f k u' (by simpa using e2);refine⟨t',?_⟩;rw[g]
  congr 1
  omega
theorem Dj {a b:Expr}{ta:TA}{p f pos pos':Pos}(hc:X.calm=true)(j:Gl X "list")(k:X.mg "list"=none)(l:Gl X "range")(g:X.mg "range"=none)(ha:PA X [a,b] ta)
  (hs:starEach [a,b] X.env=[(false,eval a X.env),(false,eval b X.env)]:=by rfl) (c:starEach [b] X.env=[(false,eval b X.env)]:=by rfl)
  (d:starEach [.Call (.Name "range" f) [a,b] [] pos'] X.env=[(false,eval (.Call (.Name "range" f) [a,b] [] pos') X.env)]:=by rfl) :
  PE X (.Call (.Name "list" p) [.Call (.Name "range" f) [a,b] [] pos'] [] pos) (tLR2 ta):=by
 intro pins s σ H Q I h;refine qZ (Wo I j k JU ?_);refine JJ ?_ (by rw[d];rfl) rfl;rw[d];show wpAny _ _ (spliced ((false,eval (.Call (.Name "range" f) [a,b] [] pos') X.env)::[])) _ _ s;refine Y0C (Call_ (Wo I l g boot_range (JJ (thn (ha pos' pins s σ H _ I h) λus s1 ⟨vs,H1,m,r1,o⟩=>?_) (by rw[hs,c]) (by rw[c];rfl))));obtain⟨i,n,e,hi,hn,q⟩:=o;subst e;obtain⟨r,v,e0,rt,ru⟩:=Ga r1;obtain⟨t,rfl⟩:=rt;obtain⟨u,rfl⟩:=ru;subst e0;refine call_range_2 ?_;refine Y0Q ?_;exact Ue hc m hi hn q
theorem Dk {a:Expr}{ta:TA}{p c pos pos':Pos}(hc:X.calm=true)(f:Gl X "list")(g:X.mg "list"=none)(j:Gl X "range")(d:X.mg "range"=none)(ha:PA X [a] ta)
  (hs:starEach [a] X.env=[(false,eval a X.env)]:=by rfl)
  (b:starEach [.Call (.Name "range" c) [a] [] pos'] X.env=[(false,eval (.Call (.Name "range" c) [a] [] pos') X.env)]:=by rfl) :
  PE X (.Call (.Name "list" p) [.Call (.Name "range" c) [a] [] pos'] [] pos) (tLR1 ta):=by
 intro pins s σ H Q I h;refine qZ (Wo I f g JU ?_);refine JJ ?_ (by rw[b];rfl) rfl;rw[b];show wpAny _ _ (spliced ((false,eval (.Call (.Name "range" c) [a] [] pos') X.env)::[])) _ _ s;refine Y0C (Call_ (Wo I j d boot_range (JJ (thn (ha pos' pins s σ H _ I h) λus s1 ⟨vs,H1,k,r1,l⟩=>?_) hs rfl)));obtain⟨n,e,hn,q⟩:=l;subst e;obtain⟨m,e0,rt⟩:=V4 r1;obtain⟨t,rfl⟩:=rt;subst e0;refine call_range_1 ?_;refine Y0Q ?_;have:=Ue (i:=0) (n:=n) (t:=s1.toks) (u:=t) (v:=s1.toks+1) (tk:=s1.toks+1+1) (Q:=Q) hc k J1 hn (by simpa using q)
 simpa using this
end
section
variable {X:Cx}{l:Expr}{tl:TE}
noncomputable def Lq (hl:PE X l tl)(h:X.K=K:=by rfl):PI X tg l (iList K tl):=h ▸ Yn hl
end
def TrD (h B:Heap)(e:Addr)(c:Value)(d:TQ)(b:Value):Prop :=
 ∃ (a:Obj) (vs:Array Value) (T:Addr) (oT:Obj) (ts:Array Value),(h.get? e=some a/\a.cls=c/\a.dict=d/\a.data=.fields vs/\vs[1]?=some (.ref T)/\vs[2]?=some .none)/\(B.get? T=none/\T≠e)/\(h.get? T=some oT/\oT.data=.fields ts/\ts[3]?=some b)
noncomputable def excInI (K:TR)(C fI:Addr):Bool:=match K.lookup C with
 | some ⟨.type "type",_,.cls cd,sl⟩=>(match cd.mro,sl.toList with
  | .ref C'::bm,[_,_,_,_,some (.builtin n),_]=>C' == C && (cd.hasDict && (n == "ValueError.__new__" && (!cd.hasDel && (W.tailIn K bmV bm && (W.nsOkIn K cd.ns && W.nsIn K cd.ns "__init__" == some (some (.ref fI)))))))
  | _,_=>false)
 | _=>false
structure ExcI (K:TR)(mg:TB)(x:Str)(C fI:Addr):Prop where
 ok:excInI K C fI=true
 fn:W.isFn K (.ref fI)=true
 bd:mg x=some (.ref C)
open PySem.W (Looks findIn specialIn takesIn mroIn clsIn)
open Builtin Builtin.ObjectAttr
noncomputable def Px {K:TR}(hK:X.K=K:=by rfl):CallR X (.type "list") (λxs H Q=>∃ p ys,xs=[.ref p]/\(SqL K H p ys \/ SqT K H p ys)/\∀ l,H l=none->Q (.ref l) (upd H l (.lst ys))):=hK ▸ Xi
open PySem.W (Looks findIn specialIn takesIn mroIn clsIn)
open PyProof.V
set_option maxRecDepth 100000
set_option maxHeartbeats 1000000
section
variable {M:Model}
def Z4f {x y:Str}{c:Addr}{v:Value}{qual:Str}{f:Addr}{cd:Value}{Q:Env->Shared->Prop}(hk:scope.kind=.function)(hx:scope.names.lookup x=some .cell)
  (g:∀ n,cellsFrom n scope.names [(y,c)]=[(x,n),(y,c)]) (i:∀ h,pushCells h scope.names=h.push { cls:=.type "cell",data:=.cell none })
  (k:∀ h1 tk,h1.Ns s.heap.objs.size (λ_=>none)->h1.IsCell (s.heap.objs.size+1) (some v)->(∀ b o,s.heap.get? b=some o->h1.get? b=some o) →
   Q (W.envX qual scope s.heap.objs.size f cd [(x,s.heap.objs.size+1),(y,c)]) { s with heap:=h1,toks:=tk }) :
  wpAny M A (newFunctionEnv scope mainGlobals [(y,c)] [(x,v)] (qual++".<locals>.") (some f) cd none builtinsNs) Q E s:=by
 simp only [newFunctionEnv,Y1H,XW,qV];refine YA (wpAny_alloc ?_);refine YA (wpAny_layCells _ (λname kind d=>by cases q:kind == NameKind.cell <;> simp) _ _ _ _ ?_);rw[g,show ({ s with heap:=s.heap.push { cls:=.type "frame",data:=.dict #[] } }:Shared).heap.objs.size=s.heap.objs.size+1 from JT ..];rw[i];have m:((s.heap.push { cls:=.type "frame",data:=.dict #[] }).push { cls:=.type "cell",data:=.cell none }).Ns s.heap.objs.size (λ_=>none) :=
  (Heap.Ns.new s.heap (.type "frame")).keeps λb o e=>YC _ e
 have p:((s.heap.push { cls:=.type "frame",data:=.dict #[] }).push { cls:=.type "cell",data:=.cell none }).IsCell (s.heap.objs.size+1) none:=by
  refine⟨{ cls:=.type "cell",data:=.cell none },?_,rfl⟩;have e:(s.heap.push { cls:=.type "frame",data:=.dict #[] }).objs.size=s.heap.objs.size+1:=JT ..;rw[<-e];exact YS _ rfl
 refine YA ?_;rw[jm];refine YA (YA (wpAny_storeName_cell (env:=W.envX qual scope s.heap.objs.size f cd [(x,s.heap.objs.size+1),(y,c)]) hk hx (c:=s.heap.objs.size+1) ZJ p λh' j a=>YK ?_));show wpAny M A (forIn [] PUnit.unit _) _ _ _;rw[Y0E];refine YK (YK ?_);refine k h' s.toks (m.sameBut a (XM (Y0e _))) j λb o e=>?_;have l:b<s.heap.objs.size:=YQ e;rw[a.2 b (XM (zC l))];exact YC _ (YC _ e)
end
structure LamScope (x y:Str)(sc:Scope):Prop where
 kind:sc.kind=.function
 co:sc.isCoroutine=false
 gen:sc.isGenerator=false
 ne:x≠y
 par:sc.names.lookup x=some .cell
 fre:sc.names.lookup y=some .free
 only:∀ z,sc.names.lookup z=some .cell \/ sc.names.lookup z=some .free->z=x \/ z=y
 cs:∀ n c,cellsFrom n sc.names [(y,c)]=[(x,n),(y,c)]
 pc:∀ h,pushCells h sc.names=h.push { cls:=.type "cell",data:=.cell none }
noncomputable def cxLam (P:TU)(w:World)(K:TR)(mg:TB)(base:Heap)(x y:Str)(qual:Str)(scope:Scope)(f:Addr)(cd:Value)(c:Addr)(A:Around)(outer:TN)(s:Shared)(H:Hp):Cx where
 prog:=P
 w:=w
 K:=K
 mg:=mg
 base:=base
 A:=A.deeper (W.envX qual scope s.heap.objs.size f cd [(x,s.heap.objs.size+1),(y,c)])
 N:=[x,y]
 s₀:=s
 H₀:=H
 env:=W.envX qual scope s.heap.objs.size f cd [(x,s.heap.objs.size+1),(y,c)]
 outer:=outer
 stack:=W.envX qual scope s.heap.objs.size f cd [(x,s.heap.objs.size+1),(y,c)]::outer
 ex:=[]
 calm:=true
 fn:=λz=>z == x
 pn:=qpin A s.heap
 xe:=λ_ _=>False
def K5 {x y z:Str}{a b c:Addr}(h:([(x,a),(y,b)]:List (Str × Addr)).lookup z=some c):(z=x/\c=a) \/ (z=y/\c=b):=by
 rw[XZ] at h
 cases hz:z == x with
 | true=>rw[hz] at h;cases h;exact .inl ⟨zu.mp hz,rfl⟩
 | false =>
  rw[hz] at h;have h:([(y,b)]:List (Str × Addr)).lookup z=some c:=h;rw[XZ] at h
  cases d:z == y with
  | true=>rw[d] at h;cases h;exact .inr ⟨zu.mp d,rfl⟩
  | false=>rw[d] at h;cases h
theorem Z4p {P:TU}{w:World}{K:TR}{mg:TB}{base:Heap}{x y:Str}{qual:Str}{scope:Scope}{f:Addr}{cd:Value}{c:Addr}{A:Around}{outer:TN}{s:Shared}{H:Hp}{vx vy:V}{l j:Value}{h1:Heap}{tk:Nat}
  (S:LamScope x y scope) (e0:Env0 P w K mg base A outer s H) (g:A.depth+1+100<recursionLimit) (hc:s.heap.IsCell c (some j)) (k:H c=none) (r:RelV vx l) (t:RelV vy j)
  (q:h1.Ns s.heap.objs.size (λ_=>none)) (n:h1.IsCell (s.heap.objs.size+1) (some l)) (hk:∀ b o,s.heap.get? b=some o->h1.get? b=some o) :
  Inv (cxLam P w K mg base x y qual scope f cd c A outer s H) [] [some vx,some vy] H { s with heap:=h1,toks:=tk }:=by
 have a:c<s.heap.objs.size:=let ⟨_,e,_⟩:=hc;YQ e;have d:∀ b:Addr,b ∉ (cxLam P w K mg base x y qual scope f cd c A outer s H).ex:=λb z=>absurd (show b∈([]:TJ) from z) ZJ;have lx:([(x,s.heap.objs.size+1),(y,c)]:List (Str × Addr)).lookup x=some (s.heap.objs.size+1):=ZJ
 have m:([(x,s.heap.objs.size+1),(y,c)]:List (Str × Addr)).lookup y=some c:=by
  rw[XZ,show (y == x)=false from JI.mpr (JC S.ne)];simp
 refine⟨⟨e0.mod,S.kind,rfl,rfl,YJ _,λu z c' h1 h2=>?_,λz hz=>?_,λz c' hf h=>?_,λ_=>e0.qt.pin,Around.frames_deeper e0.frames,.inr ⟨rfl,rfl⟩,λb z=>absurd z (d b),e0.bs,e0.bsz,λb _ _=>d b,λb z=>absurd z (d b),e0.funs,e0.frf,⟨e0.tree,_,_,rfl,S.gen,S.co,rfl,rfl⟩,g⟩,
  rfl,e0.bare,Un.kept hk,⟨_,q,λi z v h1 h2 h3=>?_⟩,λz c' h=>?_,e0.hok.fresh (YJ _),λz c' h=>?_,λp hp=>?_,e0.hok.kept hk,rfl⟩
 ·rcases K5 h1 with ⟨a1,a2⟩ | ⟨a1,a2⟩ <;> rcases K5 h2 with ⟨b1,b2⟩ | ⟨b1,b2⟩
  ·rw[a1,b1]
  ·exact absurd (b2.symm.trans a2) (XM (zC a))
  ·exact absurd (a2.symm.trans b2) (XM (zC a))
  rw[a1,b1]
 ·rcases S.only z hz with rfl | rfl
  ·exact⟨_,lx⟩
  exact⟨_,m⟩
 ·rcases K5 h with ⟨a1,a2⟩ | ⟨a1,a2⟩
  ·rw[a2];exact zR _
  have:(z == x)=true:=hf;rw[zu] at this;exact absurd (this.symm.trans a1) S.ne
 ·match i,h1,h2 with
  | 0,h1,h2 =>
   cases h1;cases h2;exact⟨l,r,.inr ⟨.inl S.par,_,lx,n⟩⟩
  | 1,h1,h2 =>
   cases h1;cases h2;exact⟨j,t,.inr ⟨.inr S.fre,_,m,hc.keeps hk⟩⟩
 ·rcases K5 h with ⟨a1,a2⟩ | ⟨a1,a2⟩
  ·rw[a2];exact⟨_,n⟩
  rw[a2];exact⟨_,hc.keeps hk⟩
 ·rcases K5 h with ⟨a1,a2⟩ | ⟨a1,a2⟩
  ·rw[a2];exact e0.hok.fresh (zR _)
  rw[a2];exact k
 obtain⟨a1,a2,a3,a4⟩:=e0.qt.mem p ((XN.mp hp).elim id λz=>absurd z ZJ);exact⟨hk _ _ a1,a2,XM (YQ a1),a3,a4⟩
theorem Z1t {P:TU}{k:Nat}{x y:Str}{name:Str}{a:Arguments}{body:Expr}{c c':Addr}{g:Value}{outer:TN}{vx vy:V}{h m:Value}{Q:VK}
  (S:LamScope x y scope) (hr:Room (k+1) A) (e0:Env0 P w K mg base A outer s H) (ho:s.heap.get? f=some (W.kla_obj name qual a body scope [(y,c)] pm c' g)) (i:s.heap.CodeRec (.ref c') qual)
  (d:bindArgs (W.kla_fn name qual a body scope [(y,c)] pm (.ref c') g) ⟨[h],[]⟩=pure [(x,h)])
  (hc:s.heap.IsCell c (some m)) (l:H c=none) (B:RelV vx h) (C:RelV vy m)
  (n:∃ t,PE (cxLam P w K mg base x y qual scope f (.ref c') c A outer s H) body t/\t [some vx,some vy] H Q) :
  codeAny (model P w) A (.call (.ref f) ⟨[h],[]⟩) (CR CX0 outer P w H s Q E0) s:=by
 have j:s.heap.NoLimit:=e0.mod.nolimit.keeps λb o e=>(e0.bs b o e).1;refine W.kla_callFunE hr.depth ho rfl S.co S.gen rfl i ?_;rw[d];refine YK (Z4f S.kind S.par (S.cs · c) S.pc λh1 tk r z hk=>⟨j.keeps hk,W.kla_codeExpr ?_⟩);obtain⟨t,p,hq⟩:=n;have I:=Z4p (qual:=qual) (f:=f) (cd:=.ref c') (tk:=tk) S e0 (by have:=hr.dp;omega) hc l B C r z hk;refine zt (p [] _ _ H _ I hq) (λu s' hs=>?_) λe s' hs=>False.elim hs;obtain⟨v,H',J,rv,q⟩:=hs;exact⟨v,H',J.os,J.bare,J.base,J.hok,rv,q⟩
set_option maxRecDepth 100000
set_option maxHeartbeats 2000000
def Lu {α β:Type}{g:α->β}{l m:List β}(h:l.Perm m):∀ L:List α,m=L.map g->∃ c:List α,c.Perm L/\l=c.map g:=by
 induction h with
 | nil=>intro L e;exact⟨L,.refl _,e⟩
 | cons x _ k =>
  intro L e
  cases L with
  | nil=>cases e
  | cons y L =>
   rw[GM] at e;injection e with e1 e2
   obtain⟨c,p,q⟩:=k L e2;exact⟨y::c,p.cons y,by rw[GM,<-q,e1]⟩
 | swap x y l =>
  intro L e
  cases L with
  | nil=>cases e
  | cons a L =>
   cases L with
   | nil=>rw[GM] at e;injection e with e1 e2;cases e2
   | cons b L =>
    rw[GM,GM] at e;injection e with e1 e2
    injection e2 with e2 e3
    exact⟨b::a::L,List.Perm.swap ..,by rw[GM,GM,<-e1,<-e2,<-e3]⟩
 | trans _ _ d i =>
  intro L e;obtain⟨c,p,q⟩:=i L e;obtain⟨f,j,q'⟩:=d c q;exact⟨f,j.trans p,q'⟩
def SOut (kz:TV)(xs ys:TZ):Prop:=∃ ps:List (Int × V),ps.Perm (kz.zip xs)/\ys=ps.map Prod.snd/\ps.Pairwise (λp q=>p.1<=q.1)
theorem Ld:∀ {xs:TZ} {vs:TH},Vals xs vs->∀ p∈xs.zip vs,RelV p.1 p.2
 | _,_,.nil,_,h=>by cases h
 | _,_,.cons r rs,p,h=>by
  rcases YT.mp h with rfl | h
  ·exact r
  exact Ld rs p h
theorem Sl:∀ (L:List (Int × V × Value)),(∀ t∈L,RelV t.2.1 t.2.2)->Vals (L.map λt=>t.2.1) (L.map λt=>t.2.2)
 | [],_=>.nil
 | t::L,h=>.cons (h t YV) (Sl L λu hu=>h u (YL _ hu))
theorem Z7e:∀ (kz:TV) (xs:TZ) (vs:TH),xs.length=vs.length->kz.zip vs=(kz.zip (xs.zip vs)).map (λt=>(t.1,t.2.2))/\kz.zip xs=(kz.zip (xs.zip vs)).map (λt=>(t.1,t.2.1))
 | [],_,_,_=>ZJ
 | k::kz,[],[],_=>ZJ
 | k::kz,x::xs,v::vs,h=>by
  obtain⟨a,b⟩:=Z7e kz xs vs (by simpa using h);simp only [Y0H,GM];exact⟨by rw[a],by rw[b]⟩
 | _::_,[],_::_,h=>by simp at h
 | _::_,_::_,[],h=>by simp at h
def Z2l {kz:TV}{vs c:TH}(r:Vals xs vs)(h:KskOut false kz vs c):∃ ys,SOut kz xs ys/\Vals ys c:=by
 obtain⟨ps,hp,ho,hs⟩:=h;obtain⟨z1,z2⟩:=Z7e kz xs vs r.length;obtain⟨L,e,d⟩:=Lu hp _ z1;refine⟨L.map λt=>t.2.1,⟨L.map (λt=>(t.1,t.2.1)),?_,?_,?_⟩,?_⟩
 ·rw[z2];exact e.map _
 ·rw[qm];rfl
 ·rw[d] at hs;rw[GV] at hs ⊢;exact hs.imp λ{a b} q=>by simpa using q
 rw[ho,d,qm];refine Sl L λt f=>?_;have:=e.mem_iff.mp f;obtain⟨k,p⟩:=t;exact Ld r p (Y0n this).2
section
variable {a kS:Addr}{vs:TH}{kz:TV}{keys:Array Value}{e e1:Nat}{P:PySem.Fin->Shared->Prop}
def Be {st:SortSt}(n:s.heap.get? kS=some (seqObj "list" keys e))(ha:s.heap.get? a=some (seqObj "list" #[] e1))(j:kS≠a)
  (hk:IntsAre keys.toList kz) (o:kz.length=vs.length) (p:vs.length<64) (hp:(arrOf st).Perm (keys.zip vs.toArray)) (hs:SortedTo (arrOf st) (arrOf st).size) (m:failedOf st=none)
  (h:∀ h' i c,(∀ b,b≠kS->b≠a->h'.get? b=s.heap.get? b)->h'.get? a=some (seqObj "list" i c)->KskOut false kz vs i.toList->P (.done (.ret .none)) { s with heap:=h' }) :
  wpAny (model prog w) A (ksk_tail a false e1 (.ref kS) st) P E s:=by
 have f:keys.size=vs.length:=by
  have h1:=hk.length;rw[GT] at h1;omega
 have g:(arrOf st).size=vs.length:=by rw[hp.size_eq,Array.size_zip,f,YM,Nat.min_self]
 have s1:=JF s.heap kS (Obj.mapSeq λ_=>(#[]:Array Value));have d:(s.heap.update kS (Obj.mapSeq λ_=>(#[]:Array Value))).get? a=some (seqObj "list" #[] e1):=(s1.2 a j.symm).trans ha;have s2:=JF (s.heap.update kS (Obj.mapSeq λ_=>(#[]:Array Value))) a (Obj.mapSeq λ_=>(arrOf st).map (·.2));obtain⟨k,l⟩:∃ k,((s.heap.update kS (Obj.mapSeq λ_=>(#[]:Array Value))).update a (Obj.mapSeq λ_=>(arrOf st).map (·.2))).get? a=some (seqObj "list" ((arrOf st).map (·.2)) k) :=
  ⟨_,get?_update_seq d λ_=>(arrOf st).map (·.2)⟩
 unfold ksk_tail
 try dsimp only
 refine YA (Y13 n rfl ?_ (by rw[f,qy];omega) (JK _));refine YA (Y1r ?_);refine YA (seqEpoch_at d rfl ?_);refine YA (Y13 d rfl ?_ (JK _) (YR (jz (by simp[g])) (show vs.length<=_ by rw[qy];omega)));rw[m];simp only [bne_self_eq_false,XW,qV];exact YK (h _ _ k (λb h1 h2=>(s2.2 b h2).trans (s1.2 b h1)) l (ksk_out (b:=false) hk hp hs))
def Z8b (n:s.heap.get? kS=some (seqObj "list" keys e))(ha:s.heap.get? a=some (seqObj "list" #[] e1))(l:kS≠a)
  (hk:IntsAre keys.toList kz) (f:kz.length=vs.length) (g:vs.length<64)
  (h:∀ h' o c,(∀ b,b≠kS->b≠a->h'.get? b=s.heap.get? b)->h'.get? a=some (seqObj "list" o c)->KskOut false kz vs o.toList->P (.done (.ret .none)) { s with heap:=h' }) :
  wpAny (model prog w) A (ksk_end a false vs.toArray e1 (.ref kS) keys) P E s:=by
 have m:keys.size=vs.length:=by
  have h1:=hk.length;rw[GT] at h1;omega
 have k:(keys.zip vs.toArray).size=vs.length:=by rw[Array.size_zip,m,YM,Nat.min_self]
 unfold ksk_end
 try dsimp only
 simp only [XW,qV];by_cases h2:vs.toArray.size<2
 ·rw[YH h2,YH h2];refine YA (YK ?_);rw[StateT.run_pure];refine YA (YK ?_)
  try dsimp only
  refine Be (st:=SortSt.mk' general' (keys.zip vs.toArray) #[] 7 none) n ha l hk f g (Array.Perm.refl _) ?_ rfl h;intro i j q hj;have p:j<(keys.zip vs.toArray).size:=hj;rw[k] at p;rw[YM] at h2;have:i=j:=J0
  subst this;exact Y1t _
 rw[YF h2,YF h2];rw[YM] at h2;rw[ksk_kind hk (by rw[m];omega)];refine YA (YK ?_);refine YA (zt (wpS_sortRuns (a₀:=keys.zip vs.toArray) (st:=SortSt.mk' oneType' (keys.zip vs.toArray) #[] 7 none)
  (Q:=λ_ d=>(arrOf d).Perm (keys.zip vs.toArray)/\failedOf d=none/\SortedTo (arrOf d) (keys.zip vs.toArray).size)
  (ksk_intKeys hk) ⟨Array.Perm.refl _,rfl,rfl,rfl⟩ (by rw[k];omega) (by rw[k];exact g) λd a1 a2 a3=>⟨a1,a2,a3⟩) ?_ λ_ _ e=>e)
 rintro ⟨⟨⟩,d⟩ s' ⟨rfl,hp,hf,hs⟩
 try dsimp only
 exact Be n ha l hk f g hp (by rw[hp.size_eq];exact hs) hf h
end
set_option maxRecDepth 100000
set_option maxHeartbeats 2000000
section
variable {X:Cx}{σ:_L.St}{H:Hp}{a kS:Addr}{vs:TH}{xs:TZ}{kz:TV}{e1:Nat}{P:PySem.Fin->Shared->Prop}{R:Hp->Prop}
theorem Z6a (I:Inv X ((kS,seqObj "list" #[] 0)::(a,seqObj "list" #[] e1)::pins) σ H s)(S:kS≠a)(Q:X.s₀.heap.objs.size<=kS)(a0:X.s₀.heap.objs.size<=a)(C:∀ p∈X.pn++pins,p.1≠kS/\p.1≠a)
  (rv:Vals xs vs) (a7:kz.length=xs.length) (a8:xs.length<64) (hR:R H)
  (G:∀ (i:Nat) (v:V) (u:Value) (k:Int) (pins':TD) (s':Shared) (H':Hp),xs[i]?=some v->kz[i]?=some k->RelV v u->(∀ p∈pins,p∈pins')->Inv X pins' σ H' s'->R H' →
   wpAny (model X.prog X.w) A (call (.ref f) [u]) (EP X pins' σ (λr H''=>r=.int k/\R H'')) (λ_ _=>False) s')
  (h:∀ (s':Shared) (H':Hp) (ys:TZ),Inv X pins σ (upd H' a (.lst ys)) s'->R H'->H' a=none->SOut kz xs ys->P (.done (.ret .none)) s') :
  wpAny (model X.prog X.w) A (ksk_rest a (.ref f) false vs.toArray e1 (.ref kS)) P E s:=by
 have lv:=rv.length;have g:∀ {pl:TD} {H':Hp} {s':Shared} {p:Addr × Obj},Inv X pl σ H' s'->p∈pl->∀ x c,X.env.cells.lookup x=some c->c≠p.1:=λ{pl H' s' p} J hp x c hc q=>by
  obtain⟨v,o,ho,hd⟩:=J.cell x c hc;obtain⟨g1,_,_,_,g5⟩:=J.pin p (YW _ hp);rw[q,g1] at ho
  cases ho;exact g5 _ hd
 unfold ksk_rest;refine YA (zo ?_)
 first
  | rw[List.forIn_toArray]
  | (rw[<-zV];simp only [List.toList_toArray])
  | rw[<-zV]
 refine YA (ksk_fold (λi s'=>∃ H' y e,Inv X ((kS,seqObj "list" y e)::(a,seqObj "list" #[] e1)::pins) σ H' s'/\R H'/\IntsAre y.toList (kz.take i)) vs 0 s
  ⟨H,#[],0,I,hR,by simpa using IntsAre.nil⟩ ?step ?done)
 case step =>
  rintro j x s' hx ⟨H',y,e,J,rH,hk⟩;simp only [Nat.zero_add] at hk ⊢;have hj:j<vs.length:=(YG.mp hx).1;obtain⟨k,M⟩:∃ k,kz[j]?=some k:=⟨_,XL J0⟩;obtain⟨v,N⟩:∃ v,xs[j]?=some v:=⟨_,XL J0⟩;obtain⟨u,hu,ru⟩:=rv.get N;rw[hx] at hu
  cases hu;have hz:y.size<=vs.length:=by
   have h1:=hk.length;rw[GT,JY] at h1;omega
  refine YA (zG (zt (G j v x k _ s' H' N M ru (λp hp=>YL _ (YL _ hp)) J rH) (λr l he=>?_) λ_ _ hF=>hF.elim));obtain⟨r',H2,O,rr,rfl,R2⟩:=he;obtain⟨F,rfl⟩:∃ t,r=.int k t:=rr
  try dsimp only
  obtain⟨k1,k2,K,k4,k5⟩:=O.pin (kS,seqObj "list" y e) (YW _ (.head _));obtain⟨a1,a2,a3,a4,a5⟩:=O.pin (a,seqObj "list" #[] e1) (YW _ (.tail _ (.head _)));have s1:=JF l.heap kS (Obj.mapSeq (·.push (.int k F)));obtain⟨c2,U⟩:∃ c2,(l.heap.update kS (Obj.mapSeq (·.push (.int k F)))).get? kS=some (seqObj "list" (y.push (.int k F)) c2):=⟨_,get?_update_seq k1 (·.push (.int k F))⟩;have ek:kz.take (j+1)=kz.take j++[k]:=by rw[GU,M];simp
  have ea:(y.push (Value.int k F)).toList=y.toList++[Value.int k F]:=ZJ
  refine YA (Y13 k1 rfl ?_ (by rw[qy];omega) (YR (jz (Array.size_push ..)) (by rw[qy];omega)));have T:Inv X ((a,seqObj "list" #[] e1)::pins) σ H2 l:=O.pins_of λp hp=>O.pin p (YW _ (.tail _ hp));have J4:Inv X ((a,seqObj "list" #[] e1)::pins) σ H2 { l with heap:=l.heap.update kS (Obj.mapSeq (·.push (.int k F))) }:=by
   refine T.turned (t':=l.toks) (it:=kS) (λb o B e=>(s1.2 b B).trans e) k2 K (.inr Q) (λx c hc=>g O (.head _) x c hc) λp hp=>?_;rcases XN.mp hp with hp | hp
   ·exact (C p (XG _ hp)).1
   rcases YT.mp hp with rfl | hp
   ·exact λq=>S q.symm
   exact (C p (YW _ hp)).1
  refine YK ⟨rfl,H2,y.push (.int k F),c2,J4.pins_of λp hp=>?_,R2,by rw[ea,ek];exact ksk_snoc hk⟩;rcases YT.mp hp with rfl | hp
  ·exact⟨U,k2,K,k4,λv z=>nomatch z⟩
  exact J4.pin p (YW _ hp)
 case done =>
  rintro s' ⟨H',y,e,J,rH,hk⟩;have Y:IntsAre y.toList kz:=by
   have e3:kz.take (0+vs.length)=kz:=YZ J0;rw[e3] at hk;exact hk
  obtain⟨k1,k2,K,k4,k5⟩:=J.pin (kS,seqObj "list" y e) (YW _ (.head _));obtain⟨a1,a2,a3,a4,a5⟩:=J.pin (a,seqObj "list" #[] e1) (YW _ (.tail _ (.head _)))
  try dsimp only
  refine YA (listItems_at k1 rfl ?_);refine Z8b (vs:=vs) k1 a1 S Y J0 J0 λh' Z c d L ho=>?_;obtain⟨ys,so,ry⟩:=Z2l rv ho;have lo:ys.length<=sizeLine:=by
   obtain⟨ps,p1,p2,_⟩:=so;have:=p1.length_eq;rw[List.length_zip] at this;rw[p2,YB,qy];omega
  refine h _ H' ys ?_ rH a2 so;have T:Inv X pins σ H' s':=J.pins_of λp hp=>J.pin p (YW _ (.tail _ (.tail _ hp)));have D:∀ b u,H' b=some u->b≠a/\b≠kS:=λb u q=>by
   have a6:H' a=none:=a2;have W:H' kS=none:=k2;constructor
   ·intro z;rw[z,a6] at q;cases q
   intro z;rw[z,W] at q;cases q
  refine T.step (g':=s'.gens) (d':=s'.drawn) (t':=s'.toks) (ch:=[kS,a]) (λb B=>?_) (λb o _ _ hc e _=>?_) (λb o _ _ hc e _=>?_) (λb o hc _ n=>?_) (λb o hc e=>?_) (λb xs e=>?_) (λb o u e=>?_) (λb ps e=>?_) (λm hm=>?_) (λb u e=>?_) T.bare
  ·rcases YT.mp B with rfl | B
   ·exact⟨.inr Q,K,λx c hc=>g J (.head _) x c hc,λp hp=>(C p hp).1⟩
   rw[XD.mp B];exact⟨.inr a0,a3,λx c hc=>g J (.tail _ (.head _)) x c hc,λp hp=>(C p hp).2⟩
  ·exact (d b (λz=>hc (by simp[z])) (λz=>hc (by simp[z]))).trans e
  ·exact⟨o.slots,(d b (λz=>hc (by simp[z])) (λz=>hc (by simp[z]))).trans e⟩
  ·rw[Ze (λz=>hc (by simp[z]))];exact n
  ·exact⟨o,(d b (λz=>hc (by simp[z])) (λz=>hc (by simp[z]))).trans e⟩
  ·rw[Ze (D b _ e).1];exact e
  ·rw[Ze (D b _ e).1];exact e
  ·exact⟨#[],by rw[Ze (D b _ e).1,e];simp⟩
  ·obtain⟨o,es,ep,ho,r⟩:=hm;exact⟨o,es,ep,(d _ (JC K) (JC a3)).trans ho,r⟩
  by_cases B:b=a
  ·subst B;rw[Zc] at e
   cases e;exact⟨lo,Z.toList,c,ry,by rw[L,Array.toArray_toList]⟩
  rw[Ze B] at e;refine (T.hok b u e).stay (λc v hc q=>?_) (λc q=>?_) λc xs q=>?_
  ·have hh:c≠kS/\c≠a:=by
    rcases hc with z | z
    ·rw[z];exact⟨(D b u e).2,B⟩
    exact⟨(D c _ z).2,(D c _ z).1⟩
   exact (d c hh.1 hh.2).trans q
  ·rw[Ze (D c _ q).1];exact q
  rw[Ze (D c _ q).1];exact q
end
set_option maxRecDepth 100000
set_option maxHeartbeats 2000000
section
variable {X:Cx}{σ:_L.St}{H:Hp}{l:Addr}{vs:TH}{xs:TZ}{kz:TV}{Q:TC}{R:Hp->Prop}
def Bh (I:Inv X pins σ H s)(hl:s.heap.IsList l vs.toArray)(rv:Vals xs vs)(G:kz.length=xs.length)(L:xs.length<64)(S:R H)
  (B:∀ (i:Nat) (v:V) (u:Value) (k:Int) (pins':TD) (s':Shared) (H':Hp),xs[i]?=some v->kz[i]?=some k->RelV v u->(∀ p∈pins,p∈pins')->Inv X pins' σ H' s'->R H' →
   wpAny (model X.prog X.w) A.in1.in1 (call (.ref f) [u]) (EP X pins' σ (λr H''=>r=.int k/\R H'')) (λ_ _=>False) s')
  (h:∀ (a:Addr) (s':Shared) (H':Hp) (ys:TZ),Inv X pins σ (upd H' a (.lst ys)) s'->R H'->H' a=none->SOut kz xs ys->Q (.ref a) s') :
  wpAny (model X.prog X.w) A (call (.builtin "sorted") [.ref l] [(Str.ofString "key",.ref f)]) Q E s:=by
 have T:=rv.length;refine call_function_entry_kw kind_sorted plain_sorted entry_sorted (ksk_s1 _ _) ?_;unfold Builtin.«sorted»;refine YA (m:=checkCount "sorted" 1 1 _) (YK ?_);refine YA (collect_list hl ?_ (by rw[qy];omega));refine YA (wpAny_newList ?_ (by rw[qy];omega));have t:((s.heap.push (seqObj "list" #[] 0)).update s.heap.objs.size (Obj.mapSeq (·++vs.toArray))).objs.size=s.heap.objs.size+1:=by
  rw[Heap.size_update,size_push']
 have e:(((s.heap.push (seqObj "list" #[] 0)).update s.heap.objs.size (Obj.mapSeq (·++vs.toArray))).push (seqObj "list" vs.toArray 0)).get? (s.heap.objs.size+1)=some (seqObj "list" vs.toArray 0):=by
  rw[<-t];exact YS _ rfl
 have keep:∀ b o,s.heap.get? b=some o->(((s.heap.push (seqObj "list" #[] 0)).update s.heap.objs.size (Obj.mapSeq (·++vs.toArray))).push (seqObj "list" vs.toArray 0)).get? b=some o:=λb o q=>by
  have c:b<s.heap.objs.size:=YQ q;rw[Heap.get?_push_ne _ _ _ (by rw[t];exact XM (zC c)),Heap.get?_update_ne _ _ _ _ (XM c),Heap.get?_push_ne _ _ _ (XM c)];exact q
 show wpAny _ _ _ _ _ { s with heap:=((s.heap.push (seqObj "list" #[] 0)).update s.heap.objs.size (Obj.mapSeq (·++vs.toArray))).push (seqObj "list" vs.toArray 0) };rw[t];refine YA (GA (wpAny_call_entry_kw slot_list_sort ⟨_,e,rfl⟩ entry_list_sort ?body (ksk_l1 _ _)))
 case body =>
  show wpAny (model X.prog X.w) A.in1.in1 (Builtin.«list.sort» ⟨[.ref (s.heap.objs.size+1)],[(Str.ofString "key",.ref f)]⟩) _ _ _;rw[ksk_t1];have P:Inv X pins σ H { s with heap:=((s.heap.push (seqObj "list" #[] 0)).update s.heap.objs.size (Obj.mapSeq (·++vs.toArray))).push (seqObj "list" vs.toArray 0) }:=I.kept (t':=s.toks) keep;have C:(((s.heap.push (seqObj "list" #[] 0)).update s.heap.objs.size (Obj.mapSeq (·++vs.toArray))).push (seqObj "list" vs.toArray 0)).objs.size=s.heap.objs.size+2:=by rw[size_push',t]
  generalize hg:((s.heap.push (seqObj "list" #[] 0)).update s.heap.objs.size (Obj.mapSeq (·++vs.toArray))).push (seqObj "list" vs.toArray 0)=g at e keep P C;have s1:=JF g (s.heap.objs.size+1) (Obj.mapSeq λ_=>(#[]:Array Value));obtain⟨e1,D⟩:∃ e1,(g.update (s.heap.objs.size+1) (Obj.mapSeq λ_=>(#[]:Array Value))).get? (s.heap.objs.size+1)=some (seqObj "list" #[] e1):=⟨_,get?_update_seq e λ_=>#[]⟩;unfold ksk_tree;refine YA (listItems_at e rfl ?_);refine YA (Y13 e rfl ?_ (by rw[YM,qy];omega) (JK _));refine YA (seqEpoch_at D rfl ?_);refine YA (wpAny_newTuple ?_ (by show vs.length<=_;rw[qy];omega));refine YA (wpAny_newList ?_ (JK _));refine GA ?_;have j:((g.update (s.heap.objs.size+1) (Obj.mapSeq λ_=>(#[]:Array Value))).push (seqObj "tuple" vs.toArray 0)).objs.size=s.heap.objs.size+3:=by rw[size_push',Heap.size_update,C]
  have y:∀ b o,s.heap.get? b=some o->(((g.update (s.heap.objs.size+1) (Obj.mapSeq λ_=>(#[]:Array Value))).push (seqObj "tuple" vs.toArray 0)).push (seqObj "list" #[] 0)).get? b=some o:=λb o q =>
   YC _ (YC _ ((s1.2 b (XM (zC (YQ q)))).trans (keep b o q)))
  have O:Inv X pins σ H { s with heap:=((g.update (s.heap.objs.size+1) (Obj.mapSeq λ_=>(#[]:Array Value))).push (seqObj "tuple" vs.toArray 0)).push (seqObj "list" #[] 0) }:=I.kept (t':=s.toks) y;have M:(((g.update (s.heap.objs.size+1) (Obj.mapSeq λ_=>(#[]:Array Value))).push (seqObj "tuple" vs.toArray 0)).push (seqObj "list" #[] 0)).get? (s.heap.objs.size+3)=some (seqObj "list" #[] 0):=by
   rw[<-j];exact YS _ rfl
  have N:(((g.update (s.heap.objs.size+1) (Obj.mapSeq λ_=>(#[]:Array Value))).push (seqObj "tuple" vs.toArray 0)).push (seqObj "list" #[] 0)).get? (s.heap.objs.size+1)=some (seqObj "list" #[] e1) :=
   YC _ (YC _ D)
  have F:=I.lt;have K:=I.sz;have x:∀ d:Nat,H (s.heap.objs.size+d)=none:=λd=>I.hok.fresh (GH _ _);refine Z6a (s:={ s with heap:=((g.update (s.heap.objs.size+1) (Obj.mapSeq λ_=>(#[]:Array Value))).push (seqObj "tuple" vs.toArray 0)).push (seqObj "list" #[] 0) }) (a:=s.heap.objs.size+1) (kS:=((g.update (s.heap.objs.size+1) (Obj.mapSeq λ_=>(#[]:Array Value))).push (seqObj "tuple" vs.toArray 0)).objs.size) (R:=R) (H:=H) (pins:=pins) (σ:=σ)
   ?_ (by rw[j];exact GQ (Nat.add_lt_add_left J1 _)) (by rw[j];exact YR K (GH _ _)) (YR K (GH _ _)) (λp hp=>?_) rv G L S B λs' H' ys J r n o=>⟨_,rfl,YK ⟨_,rfl,h _ s' H' ys J r n o⟩⟩
  ·rw[j];refine O.pins_of λp hp=>?_;rcases YT.mp hp with rfl | hp
   ·exact⟨M,x 3,GQ (YX F (GH _ _)),I.nofs (GH _ _),λv z=>nomatch z⟩
   rcases YT.mp hp with rfl | hp
   ·exact⟨N,x 1,GQ (YX F (GH _ _)),I.nofs (GH _ _),λv z=>nomatch z⟩
   exact O.pin p (YW _ hp)
  have c:=YQ (I.pin p hp).1;rw[j];exact⟨XM (YX c (GH _ _)),XM (YX c (GH _ _))⟩
end
set_option maxRecDepth 100000
set_option maxHeartbeats 2000000
def BltIn (mg:TB)(base:Heap):Prop:=∃ bm ob,mg "__builtins__"=some (.ref bm)/\bm≠builtinsNs/\base.get? bm=some ob/\ob.cls=.type "module"/\ob.dict=some builtinsNs/\ob.data=.plain
section
variable {X:Cx}{σ:_L.St}{H:Hp}{Q:TC}
noncomputable def codeO (c:Addr)(q:Str):HO:=.ext λh=>h.CodeRec (.ref c) q
inductive LamAt (H:Hp) (P:Addr) (lp:Pos) (q:Str):Prop
 | fresh (h:H P=some (.tbl #[]))
 | made (c:Addr) (h:H P=some (.tbl #[rawInt lp.line,rawInt lp.col,.ref c])) (hc:H c=some (codeO c q))
theorem LamAt.tbl {H:Hp}{P:Addr}{lp:Pos}{q:Str}(t:LamAt H P lp q):∃ ps,H P=some (.tbl ps):=by
 cases t with
 | fresh h=>exact⟨_,h⟩
 | made c h hc=>exact⟨_,h⟩
def LamAt.same {H H':Hp}{P:Addr}{lp:Pos}{q:Str}(t:LamAt H P lp q)(S:∀ b o,H b=some o->H' b=some o):LamAt H' P lp q:=by
 cases t with
 | fresh h=>exact .fresh (S _ _ h)
 | made c h hc=>exact .made c (S _ _ h) (S _ _ hc)
theorem Inv.grown {P c':Addr}{ps more:Array Value}{φ:Heap->Prop}{t':Nat}(I:_L.Inv X pins σ H s)(j:H P=some (.tbl ps))(hc:s.heap.objs.size<=c')(k:∀ b o,b≠P->s.heap.get? b=some o->h'.get? b=some o)(hn:h'.get? P=some { cls:=.none,data:=.fields (ps++more) })
  (t:φ h') (p:∃ o,h'.get? c'=some o) (l:∀ h1 h2:Heap,φ h1->(∀ o,h1.get? c'=some o->h2.get? c'=some o)->φ h2) :
  _L.Inv X pins σ (upd (upd H P (.tbl (ps++more))) c' (.ext φ)) { s with heap:=h',toks:=t' }:=by
 have hf:H c'=none:=I.hok.fresh hc;have g:∀ b,H b=none->b≠P:=λb n z=>by rw[z,j] at n;cases n
 have d:∀ b u,H b=some u->(∀ q,u≠.tbl q)->b≠P:=λb u e n z=>by rw[z,j] at e;cases e;exact n _ rfl
 have a:∀ b u,H b=some u->b≠c':=λb u e z=>by rw[z,hf] at e;cases e
 have i:∀ b o,s.heap.get? b=some o->b≠c':=λb o e=>XM (YX (YQ e) hc);refine I.step (g':=s.gens) (d':=s.drawn) (ch:=[]) (λb z=>nomatch z) (λb o _ _ _ e n=>k b o (g b n) e) (λb o _ _ _ e n=>⟨o.slots,k b o (g b n) e⟩) (λb o _ e n=>by rw[Ze (i b o e),Ze (g b n)];exact n)
  (λb o _ e=>?_) (λb xs e=>by rw[Ze (a b _ e),Ze (d b _ e λq z=>nomatch z)];exact e) (λb o u e=>by rw[Ze (a b _ e),Ze (d b _ e λq z=>nomatch z)];exact e) (λb qs e=>?_) (λm hm=>?_) (λb u e=>?_) I.bare
 ·by_cases f:b=P
  ·exact⟨_,f ▸ hn⟩
  exact⟨o,k b o f e⟩
 ·by_cases f:b=P
  ·subst f;have:=a b _ e;rw[j] at e
   cases e;exact⟨more,by rw[Ze this];exact Zc⟩
  exact⟨#[],by rw[Ze (a b _ e),Ze f,e];simp⟩
 ·obtain⟨o,es,ep,ho,r⟩:=hm;exact⟨o,es,ep,k _ o (g _ I.free) ho,r⟩
 by_cases h:b=c'
 ·subst h;rw[Zc] at e
  cases e;exact⟨t,p,l⟩
 rw[Ze h] at e;by_cases f:b=P
 ·subst f;rw[Zc] at e
  cases e;exact hn
 rw[Ze f] at e;refine (I.hok b u e).stay (λc v hc q=>k c v ?_ q) (λc q=>?_) λc xs q=>?_
 ·rcases hc with z | z
  ·rw[z];exact f
  exact d c _ z λq z=>nomatch z
 ·rw[Ze (a c _ q),Ze (d c _ q λq z=>nomatch z)];exact q
 rw[Ze (a c _ q),Ze (d c _ q λq z=>nomatch z)];exact q
def Z86 {a:Arguments}{body:Expr}{scope:Scope}{pos:Pos}{cc P:Addr}{cl:List (Str × Addr)}(I:_L.Inv X pins σ H s)(x:defaultsOf a X.env=([],[]))(L:closureFor scope X.env=pure cl)
  (i:X.env.code=.ref cc) (C:W.CodeHd X.base cc P) (Z:LamAt H P pos (X.env.qual++"<lambda>")) (D:BltIn X.mg X.base)
  (h:∀ f c' g H' s',_L.Inv X ((f,W.kla_obj "<lambda>" (X.env.qual++"<lambda>") a body scope cl ((X.mg "__name__").getD .none) c' g)::pins) σ H' s'->SameX P H H'->H' P=some (.tbl #[rawInt pos.line,rawInt pos.col,.ref c'])->H' c'=some (codeO c' (X.env.qual++"<lambda>"))->Q (.ref f) s') :
  wpAny (model X.prog X.w) A (eval (.Lambda a body scope pos) X.env) Q E s:=by
 obtain⟨a0,O⟩:=Z.tbl;have hg:s.heap.Ns mainGlobals X.mg:=I.mod.glob.keeps I.bk;have U:mainGlobals≠P:=λq=>by
  obtain⟨o,es,ep,e,hd,_⟩:=I.mod.glob;have:=(I.bs _ _ e).2;rw[q,O] at this;cases this
 obtain⟨bm,ob,b1,b2,N,b4,Y,S⟩:=D;have J:bm≠P:=λq=>by
  have:=(I.bs _ _ N).2;rw[q,O] at this;cases this
 have G:bm≠mainGlobals:=λq=>by
  obtain⟨o,es,ep,e,hd,_⟩:=I.mod.glob;rw[q,e] at N;cases N;rw[hd] at S;cases S
 cases Z with
 | fresh R =>
  have j:s.heap.get? P=some (W.tabObj #[]):=I.hok P _ R;have u:P<s.heap.objs.size:=YQ j;refine W.kla_eval x (W.kla_makeFunction (mg:=X.mg) L I.ok.glob hg i (C.keeps I.bk) j trivial rfl U ⟨bm,ob,b1,b2,G,J,I.bk _ _ N,b4,Y,S⟩ λc' g h' tk hx l M m V=>?_);have d:s.heap.objs.size<=h'.objs.size:=YR l (JH M);have F:=Inv.grown (t':=tk) (c':=c') (φ:=λh=>h.CodeRec (.ref c') (X.env.qual++"<lambda>")) (h':=h'.push (W.kla_obj "<lambda>" (X.env.qual++"<lambda>") a body scope cl ((X.mg "__name__").getD .none) c' g)) (more:=#[rawInt pos.line,rawInt pos.col,.ref c']) I R l (λb o D e=>YC _ (hx b o D e)) (YC _ V) (m.push _)
   (by obtain⟨K,oc,vs,t,e2,y,_⟩:=m;cases e2;exact⟨oc,YC _ y⟩) λh1 h2 ⟨K,oc,vs,t,e2,y,r⟩ k=>by cases e2;exact⟨c',oc,vs,t,rfl,k _ y,r⟩
  have T:P≠c':=XM (YX u l);have fr:∀ b,s.heap.objs.size<=b->b≠c'->upd (upd H P (.tbl (#[]++#[rawInt pos.line,rawInt pos.col,.ref c']))) c' (codeO c' (X.env.qual++"<lambda>")) b=none:=λb D B=>by
   rw[Ze B,Ze (GQ (YX u D))];exact I.hok.fresh D
  refine h h'.objs.size c' g _ _ (F.pins_of λp hp=>?_) (λb o e n=>?_) (by rw[Ze T];exact Zc) Zc
  ·rcases YT.mp hp with rfl | hp
   ·exact⟨YS _ rfl,fr _ d (GQ M),GQ (YX I.lt d),I.nofs d,λv z=>nomatch z⟩
   exact F.pin p (YW _ hp)
  have B:b≠c':=λz=>by rw[z,I.hok.fresh l] at e;cases e
  rw[Ze B,Ze n];exact e
 | made c' R hc =>
  have j:s.heap.get? P=some (W.tabObj #[rawInt pos.line,rawInt pos.col,.ref c']):=I.hok P _ R;refine W.kla_eval x (W.kla_makeFunctionHit (mg:=X.mg) L I.ok.glob hg i (C.keeps I.bk) j trivial (cv:=.ref c') (by exact codeAmong_snoc (pos:=pos) (c:=.ref c') [] trivial rfl) ⟨bm,ob,b1,b2,G,J,I.bk _ _ N,b4,Y,S⟩ λg h' tk hk d=>?_);have F:_L.Inv X pins σ H { s with heap:=h'.push (W.kla_obj "<lambda>" (X.env.qual++"<lambda>") a body scope cl ((X.mg "__name__").getD .none) c' g),toks:=tk }:=I.kept (t':=tk) λb o e=>YC _ (hk b o e);refine h h'.objs.size c' g _ _ (F.pins_of λp hp=>?_) (λb o e n=>e) R hc;rcases YT.mp hp with rfl | hp
  ·exact⟨YS _ rfl,I.hok.fresh d,GQ (YX I.lt d),I.nofs d,λv z=>nomatch z⟩
  exact F.pin p (YW _ hp)
end
set_option maxRecDepth 100000
set_option maxHeartbeats 2000000
inductive tSortL_i (K:TR) (tb:TE) (P:Addr) (lp:Pos) (q:Str) (iy:Nat) (σ:_L.St) (Q:VK) (v:V) (H1:Hp):Prop
 | mk (l:Addr) (xs:TZ) (kz:TV) (vy:V) (z0:v=.ref l) (z1:H1 l=some (.lst xs)) (z2:kz.length=xs.length) (z3:xs.length<64) (z4:σ[iy]?=some (some vy)) (z5:LamAt H1 P lp q)
  (z9:∀ (i:Nat) (x:V) (k:Int) (H':Hp),xs[i]?=some x->kz[i]?=some k->SameX P H1 H'->tb [some x,some vy] H' (λr H''=>r=.int k/\Same H' H''))
  (za:∀ (a:Addr) (H':Hp) (ys:TZ),SameX P H1 H'->LamAt H' P lp q->H' a=none->SOut kz xs ys->Q (.ref a) (upd H' a (.lst ys)))
def tSortL (K:TR)(te tb:TE)(P:Addr)(lp:Pos)(q:Str)(iy:Nat):TE:=λσ H Q=>te σ H (tSortL_i K tb P lp q iy σ Q)
theorem Z0p {X:Cx}{x y:Str}{b:Arguments}{body e:Expr}{scope:Scope}{p pos lp kp:Pos}{te tb:TE}{k iy:Nat}{c cc P:Addr}(S:LamScope x y scope)(hr:Room (k+3) X.A)(hg:Gl X "sorted")(hm:X.mg "sorted"=none)(he:PE X e te)
  (M:defaultsOf b X.env=([],[])) (Z:closureFor scope X.env=pure [(y,c)]) (D:X.env.cells.lookup y=some c) (T:X.env.kindOf y=some .cell) (a0:X.N[iy]?=some y) (t:X.env.code=.ref cc) (C:W.CodeHd X.base cc P) (hb:BltIn X.mg X.base) (hc:X.calm=true)
  (j:∀ (c c':Addr) (pm F u:Value),bindArgs (W.kla_fn "<lambda>" (X.env.qual++"<lambda>") b body scope [(y,c)] pm (.ref c') F) ⟨[u],[]⟩=pure [(x,u)])
  (g:∀ (A:Around) (outer:TN) (s:Shared) (H:Hp) (f c':Addr),Room k (A.deeper (W.envX (X.env.qual++"<lambda>") scope s.heap.objs.size f (.ref c') [(x,s.heap.objs.size+1),(y,c)])) →
   PE (cxLam X.prog X.w X.K X.mg X.base x y (X.env.qual++"<lambda>") scope f (.ref c') c A outer s H) body tb)
  (hs:starEach [e] X.env=(false,eval e X.env)::starEach [] X.env:=by rfl) (U:backTo pos (starEach [e] X.env)=(false,eval e X.env)::backTo pos (starEach [] X.env):=by rfl) (Y:(backTo pos (starEach [e] X.env)).any (·.1)=false:=by rfl) :
  PE X (.Call (.Name "sorted" p) [e] [⟨some "key",.Lambda b body scope lp,kp⟩] pos) (tSortL X.K te tb P lp (X.env.qual++"<lambda>") iy):=by
 intro pins s σ H Q I h;have rm:Room (k+1) X.A.in1.in1:=(Room.in1 (k:=k+2) hr).in1;refine qZ (Wo I hg hm (u:=.builtin "sorted") ZZ ?_ J1 J1);refine PyProof.Rows.callWith_kw ?_ U Y rfl rfl;have ha:PA X [e] (tCons te tNil):=Z0 he Z8 hs;refine thn (ha pos pins s σ H (λvs H1=>∃ v,vs=[v]/\tSortL_i X.K tb P lp (X.env.qual++"<lambda>") iy σ Q v H1) I ?_) λus s1 ⟨vs,H1,I1,r1,v,ev,q1⟩=>?_
 ·exact (by
   have h':te σ H (tSortL_i X.K tb P lp (X.env.qual++"<lambda>") iy σ Q):=h;show te σ H _;have:(tSortL_i X.K tb P lp (X.env.qual++"<lambda>") iy σ Q)=(λx H1=>tNil σ H1 λxs H2=>∃ v,x::xs=[v]/\tSortL_i X.K tb P lp (X.env.qual++"<lambda>") iy σ Q v H2):=by
    funext x H1
    refine propext ⟨λz=>⟨x,rfl,z⟩,?_⟩;rintro ⟨v,e1,z⟩
    cases e1;exact z
   rw[this] at h';exact h')
 subst ev;obtain⟨u,rfl,ru⟩:=V4 r1;obtain⟨l,xs,kz,vy,rfl,z1,z2,z3,z4,z5,z9,za⟩:=q1;obtain rfl:u=.ref l:=ru;refine PyProof.Rows.kws_cons (thn (Q:=λv d=>wX X (call (.builtin "sorted") [.ref l] [(Str.ofString "key",v)]) (EP X pins σ Q) X.xe d) (Z86 I1 M Z t C z5 hb λf c' F H2 s' I2 S2 a1 E=>?_) λv d L=>PyProof.Rows.kws_nil L);have V:l≠P:=λz=>by
  obtain⟨ps,e⟩:=z5.tbl;rw[z,e] at z1;cases z1
 obtain⟨its,rv,pl,_⟩:=I2.list (SqL.of (S2 _ _ z1 V));refine Bh I2 pl.isList rv z2 z3 (R:=λH'=>Same H2 H') (Same.refl _) (λi xv xu kk pins' B H' e1 e2 e3 G J o=>?_) λa B H' ys J o n so=>⟨.ref a,_,J.pins_of λp hp=>J.pin p (YW _ (.tail _ hp)),rfl,za a H' ys (S2.trans (SameX.of o)) (.made c' (o _ _ a1) (o _ _ E)) n so⟩;obtain⟨f1,f2,f3,f4,f5⟩:=J.pin _ (YW _ (G _ (.head _)));have g1:B.heap.CodeRec (.ref c') (X.env.qual++"<lambda>"):=(J.hok c' _ (o _ _ E)).1;obtain⟨m,hn,hl⟩:=J.loc;obtain⟨uy,ry,lk⟩:=hl iy y vy a0 z4 (.inr (.inl T));have q:B.heap.IsCell c (some uy):=by
  rcases lk with ⟨k1,_⟩ | ⟨_,c2,k2,k3⟩
  ·have O:X.env.kindOf y=some .local:=k1;rw[T] at O;cases O
  rw[D] at k2;cases k2;exact k3
 refine wpAny_call (Y0w (Z1t (k:=k) (vx:=xv) (Q:=λr H''=>r=.int kk/\Same H' H'') S rm (J.env0 hc).in1.in1 f1 g1 (j _ _ _ _ _) q (J.freeC y c D) e3 ry ⟨tb,g _ _ _ _ _ _ (rm.deeper _),z9 i xv kk H' e1 e2 (S2.trans (SameX.of o))⟩) λr s3 hq=>?_)
 cases r with
 | error e=>exact hq
 | ok fl =>
  cases fl with
  | ret u =>
   obtain⟨v3,H3,J3,r3,q3,S3⟩:=J.after hq;exact⟨v3,H3,J3,r3,q3,o.trans S3⟩
  | next=>exact False.elim hq
  | brk=>exact False.elim hq
  | cont=>exact False.elim hq
set_option maxRecDepth 100000
set_option maxHeartbeats 2000000
def OnlyT (P:Addr)(H:Hp):Prop:=H P=some (.tbl #[])/\∀ b,b≠P->H b=none \/ ∃ o xs,H b=some (.frz o (.lst xs))
theorem Cb {P:TU}{w:World}{K:TR}{mg mb:TB}{CX:CXT}{k:Nat}{fa a T cc:Addr}{fd:FuncData}{x:Str}{sp:Sp}{c:Shared}{vs:TH}{ns:TV}
  (KX:K.In c.heap) (E:c.heap.Ns mainGlobals mg) (g:c.heap.Ns builtinsNs mb) (N:∀ x:Str,x≠"__name__"->mb x=bootBuiltins x) (D:c.heap.NoLimit) (l:c.heap.NoSeer) (y:P.given.tree=none) (hg:c.gens=#[])
  (S:BltIn mg c.heap) (B:c.heap.get? T=some (W.tabObj #[])) (R:K.lookup T=none) (hcc:W.codeHdIn K cc T=true)
  (ha:c.heap.get? a=some { cls:=.type "list",data:=.seq vs.toArray }) (hi:IntsAre vs ns) (hl:ns.length<=sizeLine) {sr:Bool} (hr:Room k callerA sr)
  (F:∀ base:Heap,K.In base->base.Ns mainGlobals mg->BltIn mg base->FnOk P w K mg base CX k fa fd [x] sp sr) (A:∀ (s:Shared) (u:Value),BindsTo s fd ⟨[u],[]⟩ [(x,u)])
  (U:∀ H:Hp,OnlyT T H->SqL K H a (ns.map V.int)->sp [.ref a] H (λv _=>v=.bl true) λ_ _ _=>False)
  (M:∀ H e s',CX [] H c (λ_ _ _=>False) e s'->False) :
  codeAny (model P w) callerA (.call (.ref fa) ⟨[.ref a],[]⟩) (λr s'=>r=.ok (.ret (.bool true))/\OldK c.heap s'.heap/\s'.os=c.os/\AllBare s'.gens) c:=by
 have rv:=Py hi;have I:=hi.length;have aT:a≠T:=λz=>by rw[z,B] at ha;cases ha
 have t:∀ H:Hp,OnlyT T H->SqL K H a (ns.map V.int)->HOk P w H c.heap->(∀ b,H b≠none->b=a \/ b=T)->(H a≠none->K.lookup a=none) →
   codeAny (model P w) callerA (.call (.ref fa) ⟨[.ref a],[]⟩) (λr s'=>r=.ok (.ret (.bool true))/\OldK c.heap s'.heap/\s'.os=c.os/\AllBare s'.gens) c:=by
  intro H hO hS hok Y hK;have f:∀ {b:Addr} {o:Obj},c.heap.get? b=some o->H b=none->(hidT c.heap H).get? b=some o:=λe n=>Z1y e n;have C:∀ {b:Addr} {o:Obj},c.heap.get? b=some o->(∀ xs n,o.data≠.seq xs n)->(∀ ps,o.data≠.fields ps)->H b=none:=λ{b o} e d1 d2=>by
   cases q:H b with
   | none=>rfl
   | some u =>
    rcases Y b (by rw[q];simp) with e' | e'
    ·subst e';rw[ha] at e;cases e;exact absurd rfl (d1 _ _)
    subst e';rw[B] at e;cases e;exact absurd rfl (d2 _)
  have X:∀ {b:Addr} {o:Obj},c.heap.get? b=some o->o.cls=.type "module"->H b=none:=λ{b o} e d=>by
   cases q:H b with
   | none=>rfl
   | some u =>
    rcases Y b (by rw[q];simp) with e' | e'
    ·subst e';rw[ha] at e
     cases e;injection d with z
     exact absurd z J1
    subst e';rw[B] at e
    cases e
    cases d
  have j:∀ {b:Addr} {m:TB},c.heap.Ns b m->(hidT c.heap H).Ns b m:=λ{b m} ⟨o,es,ep,e,d,r⟩=>⟨o,es,ep,f e (C e (λxs n z=>by rw[d] at z;cases z) λps z=>by rw[d] at z;cases z),d,r⟩;have G:K.In (hidT c.heap H):=λb o e=>f (KX b o e) (by
   cases q:H b with
   | none=>rfl
   | some u =>
    rcases Y b (by rw[q];simp) with e' | e'
    ·subst e';rw[hK (by rw[q];simp)] at e;cases e
    subst e';rw[R] at e;cases e)
  have hB:BltIn mg (hidT c.heap H):=by
   obtain⟨bm,ob,b1,b2,Z,b4,b5,L⟩:=S;exact⟨bm,ob,b1,b2,f Z (C Z (λxs n z=>by rw[L] at z;cases z) λps z=>by rw[L] at z;cases z),b4,b5,L⟩
  have hM:Mod K mg (hidT c.heap H):=⟨G,j E,⟨mb,j g,N⟩,let ⟨mc,h1,h2⟩:=D;⟨mc,j h1,h2⟩,⟨let ⟨mc,a1,a2⟩:=l.statics;⟨mc,j a1,a2⟩,let ⟨mc,a1,a2⟩:=l.mods;⟨mc,j a1,a2⟩,let ⟨mc,a1,a2⟩:=l.imp;⟨mc,j a1,a2⟩,let ⟨mg',bm,ob,a1,a2,a3,a4,a5⟩:=l.main;⟨mg',bm,ob,j a1,a2,f a3 (X a3 a4),a4,a5⟩⟩⟩;have e0:Env0 P w K mg (hidT c.heap H) callerA [] c H:=⟨rfl,hM,λb o e=>Z4d e,jz (Ci _ _),trivial,λb g=>absurd (show b∈([]:TJ) from g) ZJ,hok,.of_eq hg,.inl rfl,y⟩;refine Y0w ((F _ G (j E) hB).run callerA [] c H ⟨[.ref a],[]⟩ [.ref a] [.ref a] _ _ hr e0 (A c (.ref a)) (.cons rfl .nil) (U H hO hS)) λr s' h=>?_
  cases r with
  | error e=>exact (M H e s' h).elim
  | ok fl =>
   cases fl with
   | next=>exact False.elim h
   | brk=>exact False.elim h
   | cont=>exact False.elim h
   | ret u =>
    obtain⟨v,H',os,bare,un,p,r',q⟩:=h;have q':v=.bl true:=q;subst q';obtain rfl:u=Value.bool true:=r';have J:∃ more,s'.heap.get? T=some { cls:=.none,data:=.fields (#[]++more) }:=by
     obtain⟨more,e⟩:=un.tbls T #[] hO.1;exact⟨more,p T _ e⟩
    refine⟨rfl,⟨λb o e=>?_,λb o e=>un.there b o e ZJ⟩,os,bare⟩;by_cases i:b=T
    ·subst i;rw[B] at e
     cases e;obtain⟨more,e2⟩:=J;exact .inr (.inl ⟨((W.codeHd_of_K KX hcc).tab B).isCodeTable,rfl,#[],more,rfl,e2⟩)
    refine .inl ?_
    cases q:H b with
    | none=>exact un.keep b o e q (by intro z;exact absurd (show b∈([]:TJ) from z) ZJ) ZJ
    | some u =>
     rcases hO.2 b i with z | ⟨ob,xs,z⟩
     ·rw[q] at z;cases z
     have z2:=un.frzs b ob _ z;obtain⟨e1,_⟩:=hok b _ z;obtain⟨e2,_⟩:=p b _ z2;rw[e] at e1;cases e1;exact e2
 cases hk:K.lookup a with
 | some o =>
  have e:=KX a o hk;rw[ha] at e
  cases e;refine t (upd (λ_=>none) T (.tbl #[])) ⟨Zc,λb g=>.inl (by rw[Ze g])⟩ (.inr ⟨_,vs.toArray,_,hk,rfl,rfl,rfl,by rw[YM,I];exact hl,by simpa using rv⟩) (λb u z=>?_) (λb z=>?_) λz=>absurd (by rw[Ze aT]) z
  ·by_cases g:b=T
   ·subst g;rw[Zc] at z;cases z;exact B
   rw[Ze g] at z;cases z
  by_cases g:b=T
  ·exact .inr g
  exact absurd (by rw[Ze g]) z
 | none =>
  have O:upd (λb=>if b=a then some (.frz { cls:=.type "list",data:=.seq vs.toArray } (.lst (ns.map V.int))) else none) T (.tbl #[]) a=some (.frz { cls:=.type "list",data:=.seq vs.toArray } (.lst (ns.map V.int))):=by rw[Ze aT,YH rfl]
  refine t (upd (λb=>if b=a then some (.frz { cls:=.type "list",data:=.seq vs.toArray } (.lst (ns.map V.int))) else none) T (.tbl #[])) ⟨Zc,λb i=>?_⟩ (.inl (.inr ⟨{ cls:=.type "list",data:=.seq vs.toArray },O⟩)) (λb u z=>?_) (λb z=>?_) λ_=>hk
  ·rw[Ze i];by_cases g:b=a
   ·exact .inr ⟨_,_,YH g⟩
   exact .inl (YF g)
  ·by_cases i:b=T
   ·subst i;rw[Zc] at z;cases z;exact B
   rw[Ze i] at z;by_cases g:b=a
   ·have Q:=(YH g).symm.trans z
    cases Q;subst g;exact⟨ha,by rw[YB];exact hl,vs,_,rv,ha⟩
   have Q:=(YF g).symm.trans z
   cases Q
  by_cases i:b=T
  ·exact .inr i
  rw[Ze i] at z;by_cases g:b=a
  ·exact .inl g
  exact absurd (YF g) z
def B8 {l:W.OpenLaw}{n k:Nat}{q:TU}{i:TF}{I:(Str->Option Value)->Heap->Prop}{D:World->Heap->Prop}{d:DefRec}{K:Params->W.Frag}{CX:World->CXT}{sp:World->Sp}{x:Str}{T:Addr}
  (hn:l.most=some n) (t:n<=sizeLine) (hq:PyProof.Rows.importsNone q=true) (r:l.prog.given.tree=none) (A:d.params.defaults=[]) {sr:Bool} (hr:Room k callerA sr)
  (N:∀ (w:World) (h:Heap),D w h->(K w.params).In h/\h.get? T=some (W.tabObj #[])) (y:∀ w:World,(K w.params).lookup T=none) (hcc:∀ w:World,∃ cc,W.codeHdIn (K w.params) cc T=true)
  (F:∀ (w:World) (mg:TB) (fa:Addr) (h:Heap),(K w.params).In h->h.Ns mainGlobals mg->mg d.name=some (.ref fa) →
   ∃ fd:FuncData,(∀ (s:Shared) (u:Value),BindsTo s fd ⟨[u],[]⟩ [(x,u)]) ∧
    ∀ base:Heap,(K w.params).In base->base.Ns mainGlobals mg->BltIn mg base->FnOk l.prog w (K w.params) mg base (CX w) k fa fd [x] (sp w) sr)
  (B:∀ (w:World) (H:Hp) (a:Addr) (ns:TV),ns.length<=n->OnlyT T H->SqL (K w.params) H a (ns.map V.int)->sp w [.ref a] H (λv _=>v=.bl true) λ_ _ _=>False)
  (C:∀ (w:World) (H:Hp) (s:Shared) (e:Value) (s':Shared),CX w [] H s (λ_ _ _=>False) e s'->False) :
  W.WalkO q i I D l.row.toRowW d [] (λf vs=>PySem.call f vs):=by
 refine Att.attach_call hn A λw s₀ m mg mb fa o pm cd doc a vs ns G Y ho hd E hmg p j c hg=>?_;obtain⟨KX,M⟩:=N w _ Y;obtain⟨cc,z⟩:=hcc w;obtain⟨fd,L,J⟩:=F w mg fa _ KX G.T.g hmg;exact Cb KX G.T.g G.T.b G.T.builtins G.T.nolimit (G.T.seer hq) r hg G.T.bmain M (y w) z p j (YR c t) hr J L (λH hO hS=>B w H a ns c hO hS) λH e s'=>C w H m e s'
end _b
namespace _b
open PySem PySem.Spec PyProof.Rows _L
open PySem.Sem (wp)
section
def RowItems (prog:TU)(w:World)(h:Heap):List (List Int)->List Value->Prop:=Paired λk v=>∃ b,v=.ref b/\IsTupleKey (intKind prog w) h k b
def IsRowKey (prog:TU)(w:World)(h:Heap)(ks:List (List Int))(a:Addr):Prop:=∃ o items n,h.get? a=some o/\o.cls=.type "tuple"/\o.data=.seq items n/\RowItems prog w h ks items.toList
def IsRowKey.typeIs {ks:List (List Int)}{a:Addr}(x:IsRowKey prog w s.heap ks a):s.TypeIs (.ref a) "tuple":=let ⟨o,_,_,ho,hc,_⟩:=x;⟨o,ho,hc⟩
theorem RowItems.inj {h:Heap}:∀ {x y:List (List Int)} {vs:TH},RowItems prog w h x vs->RowItems prog w h y vs->x=y:=by
 intro x y vs hx;unfold RowItems at *
 induction hx generalizing y with
 | nil=>intro a;cases a;rfl
 | cons h1 _ c =>
  intro a
  cases a with
  | cons h2 d =>
   obtain⟨b,rfl,k1⟩:=h1;obtain⟨f,e,k2⟩:=h2
   cases e;rw[k1.inj k2,c d]
theorem IsRowKey.inj {h:Heap}{a:Addr}{x y:List (List Int)}(hx:IsRowKey prog w h x a)(f:IsRowKey prog w h y a):x=y:=by
 obtain⟨o,items,n,ho,_,hd,hi⟩:=hx;obtain⟨o',c,n',e,_,b,d⟩:=f;obtain rfl:o=o':=YU (ho.symm.trans e);rw[hd] at b;injection b with h1 _
 subst h1;exact hi.inj d
theorem RowItems.imp {h h':Heap}(f:∀ k b,IsTupleKey (intKind prog w) h k b->IsTupleKey (intKind prog w) h' k b){x:List (List Int)}{vs:TH}(hx:RowItems prog w h x vs):RowItems prog w h' x vs:=by
 unfold RowItems at *
 induction hx with
 | nil=>exact .nil
 | cons h1 _ a =>
  obtain⟨b,e,k⟩:=h1;exact .cons ⟨b,e,f _ _ k⟩ a
theorem IsRowKey.keeps {h h':Heap}{ks:List (List Int)}{a d:Addr}{o:Obj}{es ep}(x:IsRowKey prog w h ks a)(ho:h.get? d=some o)(hd:o.data=.dict es ep)(hs:Heap.SameBut d h h'):IsRowKey prog w h' ks a:=by
 obtain⟨o',items,n,e,hc,c,hi⟩:=x;have f:a≠d:=by
  rintro rfl;obtain rfl:o'=o:=YU (e.symm.trans ho);rw[hd] at c;exact nomatch c
 exact⟨o',items,n,(hs.2 a f).trans e,hc,c,hi.imp λk b q=>q.keeps ho hd hs⟩
noncomputable def rowKeyHash (prog:TU)(w:World)(ks:List (List Int)):Int:=reduceHash (Builtin.Tuple.tupleHashOf (ks.map (tupleKeyHash (intKind prog w))))
noncomputable def rowDraws (ks:List (List Int)):Nat:=(ks.map λk=>k.length+1).sum+1
def Tn {ks:List (List Int)}{a:Addr}{Q:Int->Shared->Prop}(hu:A.units+4<cLine)(hk:IsRowKey prog w s.heap ks a)(h:Q (rowKeyHash prog w ks) { s with toks:=s.toks+rowDraws ks }) :
  wpAny (model prog w) A (pyHash (.ref a)) Q E s:=by
 have e:=hk.typeIs;obtain⟨o,items,n,ho,_,hd,hi⟩:=hk;unfold pyHash
 first | unfold pyHashByItsType | skip
 first | refine YA (wpAny_cRoomFor_or (.inr J0) ?_) | skip
 refine YA (jk e Y06.lookup ?_);show wpAny _ _ (if (some (Value.builtin "tuple.__hash__") == some Value.none)=true then _ else _) Q E s;rw[YF (by rw[beq_builtin_none];exact YO)];refine YA (jk e Y06.lookup ?_);show wpAny _ _ (callSpecialIfBoundUnlessNone? (.ref a) "__hash__" _ >>= _) Q E s;refine YA (wpAny_callSpecialIfBoundUnlessNone?_slot e Y06 (JX Y06 e F.entry_tuple_hash ?_ (F.args_tuple_hash_1 _)));show wpAny _ _ (Builtin.Tuple.tupleItemsOf (.ref a) >>= _) _ _ s;refine YA (Y0I ho hd ?_);refine YA ?_;rw[<-zV];refine Y0g _
  (λrest (b:Array Int) s'=>∃ done c,ks=done++c/\RowItems prog w s.heap c rest/\b.toList=done.map (tupleKeyHash (intKind prog w))/\s'={ s with toks:=s.toks+(done.map λk=>k.length+1).sum })
  _ ?_ ?_ _ _ ⟨[],ks,rfl,hi,rfl,rfl⟩
 ·rintro x rest b s' ⟨done,c,rfl,hl,d,rfl⟩;unfold RowItems at hl
  cases hl with
  | @cons k _ ks' _ h1 hl' =>
   obtain⟨f,rfl,k1⟩:=h1;refine YA (wpAny_pyHash_tuple (knd:=intKind prog w) ?_ k1 ?_)
   ·show A.units+1<cLine;omega
   first
   | exact YK ⟨done++[k],ks',ZJ,hl',by simp[d],by simp[zI]⟩
   | exact YA (YK (YK ⟨done++[k],ks',ZJ,hl',by simp[d],by simp[zI]⟩))
 rintro b s' ⟨done,c,rfl,hl,d,rfl⟩;unfold RowItems at hl
 cases hl;rw[GN] at h;show wpAny _ _ (retInt (Builtin.Tuple.tupleHashOf b.toList)) _ _ _;rw[d];refine wpAny_ret_mkInt ?_;show wpAny _ _ (if (decide (-(2:Int) ^ 63<=Builtin.Tuple.tupleHashOf (done.map (tupleKeyHash (intKind prog w)))) && decide (Builtin.Tuple.tupleHashOf (done.map (tupleKeyHash (intKind prog w)))<2 ^ 63))=true then _ else _) Q E _;unfold rowKeyHash rowDraws reduceHash at h;by_cases hr:(decide (-(2:Int) ^ 63<=Builtin.Tuple.tupleHashOf (done.map (tupleKeyHash (intKind prog w)))) && decide (Builtin.Tuple.tupleHashOf (done.map (tupleKeyHash (intKind prog w)))<2 ^ 63))=true
 ·rw[YH hr];rw[YH hr] at h;exact YK (by simpa [zI] using h)
 rw[YF hr];rw[YF hr] at h;exact YA (zo (YK (by simpa [zI] using h)))
theorem Lm {x y:List (List Int)}{a b:Addr}{P:Fin->Shared->Prop}(hu:A.units+2<cLine)(hx:IsRowKey prog w s.heap x a)(B:IsRowKey prog w s.heap y b)(h:P (.done (.ret (.bool (decide (x=y))))) s) :
  wpAny (model prog w) A (Builtin.«tuple.__eq__» ⟨[.ref a,.ref b],[]⟩) P E s:=by
 have t:=B.typeIs;obtain⟨G,xs,F,o,_,n,p⟩:=hx;obtain⟨ob,ys,H,z,_,q,m⟩:=B;show wpAny _ _ (isInstance (.ref b) (.type "tuple") >>= _) _ _ s;refine YA (qY t Y0b ?_);simp only [zX,XW,qV];refine YA (Y0I o n ?_);refine YA (Y0I z q ?_);refine YA ?_;refine Y0g _
  (λrest r s'=>r.1=none/\s'=s/\∃ l k e ys',rest=List.zip e ys'/\RowItems prog w s.heap l e/\RowItems prog w s.heap k ys'/\decide (l=k)=decide (x=y)/\(e.length == ys'.length)=(xs.size == ys.size))
  _ ?_ ?_ _ _ ⟨rfl,rfl,x,y,xs.toList,ys.toList,rfl,p,m,rfl,ZJ⟩
 ·rintro ⟨u,v⟩ rest r s' ⟨hr,rfl,l,k,e,ys',hz,g,d,c,f⟩;unfold RowItems at g d
  cases g with
  | nil=>simp at hz
  | @cons k1 u' x'' xs'' h1 hx'' =>
   cases d with
   | nil=>simp at hz
   | @cons k2 v' y'' ys'' h2 hy'' =>
    simp only [Y0H,List.cons.injEq,Prod.mk.injEq] at hz;obtain⟨⟨rfl,rfl⟩,rfl⟩:=hz;obtain⟨b1,rfl,D⟩:=h1;obtain⟨b2,rfl,C⟩:=h2;refine YA (wpAny_eqBool_tuple (knd:=intKind prog w) J0 D C ?_);by_cases hk:k1=k2
    ·subst hk;rw[XA rfl];simp only [zX,XW,qV];refine YK ⟨rfl,rfl,x'',y'',xs'',ys'',rfl,hx'',hy'',?_,by simpa using f⟩;rw[<-c];by_cases j:x''=y''
     ·simp[j]
     simp[j]
    rw[XF hk];simp only [Bool.not_false,Y0y];have hf:decide (x=y)=false:=by rw[<-c];simp[hk]
    rw[hf] at h;exact YA (YK (YK (YK h)))
 rintro ⟨r1,r2⟩ s' ⟨hr,rfl,l,k,e,ys',hz,g,d,c,f⟩;simp only at hr;subst hr;refine YK ?_;have i:(xs.size == ys.size)=decide (x=y):=by
  rw[<-c,<-f];unfold RowItems at g d
  cases g with
  | nil =>
   cases d with
   | nil=>simp
   | cons _ _=>simp
  | cons _ _ =>
   cases d with
   | nil=>simp
   | cons _ _=>simp at hz
 show P (.done (.ret (.bool (xs.size == ys.size)))) s';rw[i];exact h
def To {x y:List (List Int)}{a b:Addr}{Q:Bool->Shared->Prop}(hu:A.units+4<cLine)(hx:IsRowKey prog w s.heap x a)(d:IsRowKey prog w s.heap y b)(h:Q (decide (x=y)) s) :
  wpAny (model prog w) A (eqBool (.ref a) (.ref b)) Q E s:=by
 unfold eqBool
 try with_reducible refine GA ?_
 show wpAny _ _ (if (Value.ref a == Value.ref b)=true then _ else _) Q E s;by_cases c:(Value.ref a == Value.ref b)=true
 ·rw[YH c];have e:a=b:=by have:=eq_of_beq c;injection this
  subst e;obtain rfl:=hx.inj d;exact YA (zo (YK (by simpa using h)))
 rw[YF c];exact YA (wpAny_richCompare_same_room (op:=.Eq) hx.typeIs d.typeIs Y0r
  (JX Y0r hx.typeIs F.entry_tuple_eq (Lm (by show A.units+1+2<cLine;omega) hx d ⟨_,rfl,(λe=>nomatch e),qk h⟩) (F.args_tuple_eq_2 _ _)) J0)
theorem Ut {ks:TV}{a:Addr}{Q:Bool->Shared->Prop}(n:Nat)(hk:IsTupleKey (intKind prog w) s.heap ks a)(h:Q true s):wpAny (model prog w) A (eqIsQuiet (n+1) (.ref a)) Q E s:=by
 have d:=hk.typeIs;obtain⟨o,items,n,ho,_,hd,hi⟩:=hk;unfold eqIsQuiet;refine YA (jk d Y0r.lookup ?_);show wpAny _ _ (isInstance (.ref a) (.type "tuple") >>= _) _ _ s;refine YA (qY d Y0b ?_);simp only [zX,XW,qV];refine YA (GD ho hd ?_);refine YA ?_;show wpAny _ _ (forIn items _ _) _ _ s;rw[<-zV];refine Y0g _ (λrest r s'=>r.1=none/\s'=s/\∀ v∈rest,carriedByValue v=true) _ ?_ ?_ _ _ ⟨rfl,rfl,hi.byValue⟩
 ·rintro v rest r s' ⟨hr,rfl,b⟩;rw[eqIsQuiet_byValue _ (b v YV)];refine YA (YK ?_);simp only [zX,XW,qV];exact YK ⟨rfl,rfl,λu c=>b u (YL _ c)⟩
 rintro ⟨r1,r2⟩ s' ⟨hr,rfl,_⟩;simp only at hr;subst hr;exact YK h
theorem Rm {ks:List (List Int)}{a:Addr}{Q:Bool->Shared->Prop}(hk:IsRowKey prog w s.heap ks a)(h:Q true s):wpAny (model prog w) A (eqIsQuiet 8 (.ref a)) Q E s:=by
 have d:=hk.typeIs;obtain⟨o,items,n,ho,_,hd,hi⟩:=hk;unfold eqIsQuiet;refine YA (jk d Y0r.lookup ?_);show wpAny _ _ (isInstance (.ref a) (.type "tuple") >>= _) _ _ s;refine YA (qY d Y0b ?_);simp only [zX,XW,qV];refine YA (GD ho hd ?_);refine YA ?_;show wpAny _ _ (forIn items _ _) _ _ s;rw[<-zV];refine Y0g _ (λrest r s'=>r.1=none/\s'=s/\∃ c,RowItems prog w s.heap c rest) _ ?_ ?_ _ _ ⟨rfl,rfl,ks,hi⟩
 ·rintro v rest r s' ⟨hr,rfl,c,hl⟩;unfold RowItems at hl
  cases hl with
  | @cons k _ ks' _ h1 hl' =>
   obtain⟨b,rfl,q⟩:=h1;refine YA (Ut 6 q ?_);simp only [zX,XW,qV];exact YK ⟨rfl,rfl,ks',hl'⟩
 rintro ⟨r1,r2⟩ s' ⟨hr,rfl,_⟩;simp only at hr;subst hr;exact YK h
end
noncomputable def rowKind (prog:TU)(w:World):HeapKind prog w (List (List Int)) where
 is:=IsRowKey prog w
 hash:=rowKeyHash prog w
 draws:=rowDraws
 room:=λA=>A.units+4<cLine
 inj:=λhx a=>hx.inj a
 keeps:=λx ho hd hs=>x.keeps ho hd hs
 pyHash:=λhu hk h=>Tn hu hk h
 eqBool:=λhu hx a h=>To hu hx a h
 quiet:=λhk h=>Rm hk h
section
noncomputable def Um {a:Addr}{o:Obj}{xs:Array Value}{k:Nat}{name:Str}{Q:Option Value->Shared->Prop}
  (hx:s.heap.get? a=some o) (hc:o.cls=.type "list") (b:o.data=.seq xs k) (hd:o.dict=none) (f:typeLookup (.type "list") name=pure none) (i:(["__module__","__name__","__qualname__","__doc__","__annotations__"]:List Str).contains name=false) (r:A.handled=none)
  (h:∀ h' tk e,Heap.NewExcOf s.heap h' e "AttributeError"->Q none { s with heap:=h',toks:=tk }) (m:name.length+100<=sizeLine:=by size_fits) :
  wpAny (model prog w) A (getAttr? (.ref a) name) Q E s:=by
 obtain⟨c,p,q,sl⟩:=o;simp only at hc b hd;subst hc b hd;obtain⟨hp,g,d,tk,os⟩:=s;have n:∀ j,(⟨hp,g,d,j,os⟩:Shared).TypeIs (.ref a) "list":=λ_=>⟨_,hx,rfl⟩;have f1:=sub_AttributeError;have u:=jj.lookup;have x:=jj.bind (.ref a);have t:=am_list_getattr_none;unfold getAttr? getAttrBy? getAttrBy
 repeat (any_goals (first | assumption | exact n _ | ((with_reducible show wpAny _ _ (call (Value.builtin "list.__getattribute__") _ _) _ _ _);refine zH jj (n _) am_entry_list_getattribute (F.args_list_getattribute_2 _ _) (meets_getattribute_miss_list a xs k sl name _ f i m) ⟨hx,r,λh' j e l=>?_⟩) | wp_step))
 obtain⟨t',u',v⟩:=l.there;show wpAny _ _ (getattributeRaised _ _ _ _ _ _ _) _ _ _;unfold getattributeRaised
 repeat (any_goals (first | assumption | wp_step))
 exact h _ _ _ l.of
def Le {k:TV}{a:Addr}(f:∀ b o,h.get? b=some o->h'.get? b=some o)(x:IsTupleKey (intKind prog w) h k a):IsTupleKey (intKind prog w) h' k a:=by
 obtain⟨o,items,n,ho,hc,hd,hi⟩:=x;exact⟨o,items,n,f _ _ ho,hc,hd,hi⟩
def Sr {k:List (List Int)}{a:Addr}(f:∀ b o,h.get? b=some o->h'.get? b=some o)(x:IsRowKey prog w h k a):IsRowKey prog w h' k a:=by
 obtain⟨o,items,n,ho,hc,hd,hi⟩:=x;exact⟨o,items,n,f _ _ ho,hc,hd,hi.imp λk b q=>Le f q⟩
def Vo:entryFor table "dict.update.loop"=some Builtin.«dict.update.loop»:=entryFor_of_tree (by kernel_rfl)
def Xn:plainId "dict.update.loop"=true:=by decide +kernel
def PairAt (prog:TU)(w:World)(h:Heap)(v:Value)(x:List (List Int) × Addr × Value):Prop:=∃ t o n,v=.ref t/\h.get? t=some o/\o.cls=.type "tuple"/\o.data=.seq #[.ref x.2.1,x.2.2] n/\IsRowKey prog w h x.1 x.2.1
def Lf {xs:List (List (List Int) × Addr × Value)}(nd:(xs.map (·.1)).Nodup){i:Nat}{x:List (List Int) × Addr × Value}(hx:xs[i]?=some x):storedH (xs.take i) x.1 x.2.1 x.2.2=xs.take (i+1):=by
 rw[storedH_new (atKey_none_of_get λj p hj=>?_),List.take_succ,hx]
 ·rfl
 have a:j<i:=by
  have:=(YG.mp hj).1;rw[JY] at this;omega
 rw[Y0Z a] at hj;exact absurd (idxH_unique nd hj (q:=x.2) (by rw[hx])) J0
def L3 {d:Addr}{xs:List (List (List Int) × Addr × Value)}(hm:h.DictOfH (rowKind prog w) d xs)(b:∀ o,h.get? d=some o->h'.get? d=some o)(ks:∀ x∈xs,IsRowKey prog w h' x.1 x.2.1):h'.DictOfH (rowKind prog w) d xs:=by
 obtain⟨o,es,ep,ho,c,hd,a,_,hn⟩:=hm;exact⟨o,es,ep,b o ho,c,hd,a,ks,hn⟩
def Gz {h h':Heap}{vs:TH}{xs:List (List (List Int) × Addr × Value)}(hx:Paired (PairAt prog w h) vs xs)(f:∀ b o,h.get? b=some o->h'.get? b=some o):∀ x∈xs,IsRowKey prog w h' x.1 x.2.1:=by
 induction hx with
 | nil=>intro x hx;cases hx
 | cons h1 _ a =>
  intro x hx;rcases YT.mp hx with rfl | hx
  ·obtain⟨_,_,_,_,_,_,_,k⟩:=h1;exact Sr f k
  exact a x hx
theorem Cq {R:Result->Shared->Prop}{h0:Heap}{l I d:Addr}{items:Array Value}{xs:List (List (List Int) × Addr × Value)}{res:Value}(J:A.handled=none)(hu:A.units+10<cLine)(D:h0.get? I=none)(hd:h0.get? d=none)(hdI:d≠I)(hl:h0.IsList l items)(hz:xs.length<=sizeLine)
  (hx:Paired (PairAt prog w h0) items.toList xs) (nd:(xs.map (·.1)).Nodup) :
  ∀ (k i:Nat) (s:Shared) (u:Tok),xs.length - i=k->i<=xs.length->s.heap.IsListIter I l i->s.heap.DictOfH (rowKind prog w) d (xs.take i)->(∀ b o,h0.get? b=some o->s.heap.get? b=some o) →
  (∀ h' tk,h'.DictOfH (rowKind prog w) d xs->(∀ b o,b≠I->b≠d->s.heap.get? b=some o->h'.get? b=some o)->R (.ok (.ret res)) { s with heap:=h',toks:=tk }) →
  codeAny (model prog w) A (.builtin "dict.update.loop" ⟨[.ref d,.ref I,.int i u,res],[]⟩) R s:=by
 have p:l≠I:=λe=>by
  obtain⟨o,ho,_⟩:=hl;rw[e,D] at ho
  cases ho
 have K:l≠d:=λe=>by
  obtain⟨o,ho,_⟩:=hl;rw[e,hd] at ho
  cases ho
 have len:items.size=xs.length:=by have:=XB hx;simpa using this
 intro k
 induction k with
 | zero =>
  intro i s u hk hi hit hm kp r;have E:i=xs.length:=J0
  subst E;refine Y1k Vo ?_;rw[Around.under_plainId Xn _];show wpAny _ A.in1 (pyNext (.ref I) >>= _) _ _ s;have W:=Walks.listQ (prog:=prog) (w:=w) (A:=A.in1) (qs:=[]) (.inl J) I l p ZJ items;refine YA (W.done s _ _ (by rw[len];exact⟨hit,hl.at λo e=>kp _ _ e,ZJ⟩) λh' tk a=>?_);rw[JQ] at hm;refine YA (YK (YK (r h' tk ?_ λb o N _ e=>a b o (by simpa using N) e)));exact L3 hm (λo e=>a d o (by simpa using hdI) e) (Gz hx λb o e=>a b o (by simpa using λz:b=I=>by rw[z,D] at e;cases e) (kp b o e))
 | succ k O =>
  intro i s u hk hi hit hm kp r;have g:i<xs.length:=J0
  refine Y1k Vo ?_;rw[Around.under_plainId Xn _];show wpAny _ A.in1 (pyNext (.ref I) >>= _) _ _ s;have W:=Walks.listQ (prog:=prog) (w:=w) (A:=A.in1) (qs:=[]) (.inl J) I l p ZJ items;refine YA (W.item i s _ _ J0 ⟨hit,hl.at λo e=>kp _ _ e,ZJ⟩ λv h' tk M st a=>?_);have m:items.toList[i]?=some v:=by simpa using M
  obtain⟨t,o,n,rfl,ho,hc,q,j⟩:=Paired.getB hx m (show xs[i]?=some xs[i] by simp[g]);have c:∀ b o,h0.get? b=some o->h'.get? b=some o:=λb o e=>a b o (by simpa using λz:b=I=>by rw[z,D] at e;cases e) (kp b o e);have B:=L3 hm (λo e=>a d o (by simpa using hdI) e) λx F=>Gz hx c x (Y1u F);have H:=c _ _ ho;show wpAny _ _ (holding [.ref t] _ >>= _) _ _ _;refine YA (GA (YA (wpAny_tryCatch ?_)));unfold Builtin.Dict.pairItems;refine YA (wpAny_typeOf (T:="tuple") ⟨o,H,hc⟩ ?_);rw[YH J1];refine YA (GD H q (YK ?_));show wpAny _ _ (holding [.ref xs[i].2.1,xs[i].2.2] (dictSet d (.ref xs[i].2.1) xs[i].2.2)) _ _ _;refine GA (wpAny_dictSet_heap (knd:=rowKind prog w) (by show A.units+1+4<cLine;omega) (Sr c j) B (λh2 h f=>?_) (by rw[JY];omega));rw[Lf nd (by simp[g])] at h;refine YK ⟨Y0Y Xn _,?_⟩;refine O (i+1) _ _ J0 g (st.1.at λo e=>(f.2 I (JC hdI)).trans e) h (λb o e=>(f.2 b (λz=>by rw[z,hd] at e;cases e)).trans (c b o e)) λh3 y C L=>?_;exact r h3 y C λb o G bd e=>L b o G bd ((f.2 b bd).trans (a b o (by simpa using G) e))
theorem Rq {l:Addr}{items:Array Value}{xs:List (List (List Int) × Addr × Value)}{Q:TC}(q:A.handled=none)(hu:A.units+14<cLine)(hl:PlainL s.heap l items)(hz:xs.length<=sizeLine)(hx:Paired (PairAt prog w s.heap) items.toList xs)(nd:(xs.map (·.1)).Nodup)
  (h:∀ h' tk,h'.DictOfH (rowKind prog w) s.heap.objs.size xs->(∀ b o,s.heap.get? b=some o->h'.get? b=some o)->Q (.ref s.heap.objs.size) { s with heap:=h',toks:=tk }) :
  wpAny (model prog w) A (call (.type "dict") [.ref l]) Q E s:=by
 refine callType_codes (Q₁:=λobj d=>obj=.ref s.heap.objs.size/\d={ s with heap:=s.heap.push { cls:=.type "dict",data:=.dict #[] } }) F.kt_called_dict (F.kt_typeCall_dict_1 _) F.entry_dict_init (kt_code_dict_new _ ⟨rfl,rfl⟩) ?_;rintro obj d ⟨rfl,rfl⟩;have c:(s.heap.push { cls:=.type "dict",data:=.dict #[] }).DictOfH (rowKind prog w) s.heap.objs.size []:=Heap.DictOfH.new s.heap;refine⟨c.typeIs,F.args_dict_init_2 _ _,?_⟩;unfold Builtin.«dict.__init__»;refine YA ?_;unfold Builtin.Dict.selfAndRest;refine YA (wpAny_notOrdered_dict c.typeIs ?_);show wpAny _ _ (pure (s.heap.objs.size,[Value.ref l])) _ _ _;refine YK ?_;show wpAny _ _ (Builtin.Dict.updateFrom "dict.__init__" s.heap.objs.size (.ref l) [] .none) _ _ _;unfold Builtin.Dict.updateFrom;obtain⟨t,nl,ho,hc,k,p⟩:=id hl;have i:=YC { cls:=.type "dict",data:=.dict #[] } ho;refine YA (wpAny_typeOf (T:="list") ⟨_,i,hc⟩ ?_);rw[YH J1];refine YA (Um (o:=t) i hc p k (by rw[typeLookup_type,builtinLookup_eq_fast];kernel_rfl) ZZ q λh1 r e1 g=>?_);rw[YH (show (none:Option Value).isNone=true from rfl)];refine YA (zo ?_);have f:∀ b o,s.heap.get? b=some o->h1.get? b=some o:=λb o e=>g.keeps b o (YC _ e);have j:h1.IsList l items:=hl.isList.at λo e=>f _ _ e;refine YA (zD j ?_);have m:h1.get? s.heap.objs.size=some { cls:=.type "dict",data:=.dict #[] }:=g.keeps _ _ (YS _ rfl);have v:s.heap.objs.size<h1.objs.size:=YQ m;have a:∀ b,s.heap.objs.size<=b->s.heap.get? b=none:=λb u=>by
  cases e:s.heap.get? b with
  | none=>rfl
  | some o=>exact absurd (YQ e) (Y0F.mpr u)
 refine YK ⟨Y0Y Xn _,?_⟩;refine Cq (A:=A.in1) (h0:=s.heap) (items:=items) (xs:=xs) q (by show A.units+1+10<cLine;omega) (a _ J0) (a _ (YJ _)) (XM v) hl.isList hz hx nd xs.length 0 _ _ rfl (JK _) ?_ ?_ (λb o e=>YC _ (f b o e)) λh' tk n k'=>?_
 ·exact⟨_,YS _ rfl,rfl,rfl⟩
 ·rw[Y1v];exact L3 c (λo e=>YC _ (g.keeps _ _ e)) ZJ
 exact⟨rfl,h h' tk n λb o e=>k' b o (λz=>by rw[z,a _ J0] at e;cases e) (λz=>by rw[z,a _ (YJ _)] at e;cases e) (YC _ (f b o e))⟩
end
section
variable {d:Addr}{ep:Nat}{od:Obj}{es:Array DictEntry}
theorem Kh {Q:TC}(hd:(d == sysModules)=false)(ho:s.heap.get? d=some od)(b:od.ExactDict)(a:od.data=.dict es ep)
  (c:Q (.ref s.heap.objs.size) { s with heap:=s.heap.push { cls:=.type "dict_keyiterator",data:=.fields #[.ref d,.int 0 0,.int es.size 0,.int ep 0] } }):wpAny (model prog w) A (pyIter (.ref d)) Q E s:=by
 have T:s.TypeIs (.ref d) "dict":=⟨od,ho,b.1⟩;refine wpAny_pyIter_slot T F.slot_dict_iter (JX F.slot_dict_iter T F.entry_dict_iter ?_ (F.args_dict_iter_1 _));unfold Builtin.«dict.__iter__»;refine YA ?_;unfold Builtin.Dict.dictSlotNone;refine YA (wpAny_notOrdered_dict T (YK (show wpAny _ _ (Builtin.Dict.showsAll d >>= _) _ _ s from ?_)));unfold Builtin.Dict.showsAll;rw[YF (by rw[hd];exact YO)];refine YA (YK (YA (Y0T ho a (YA (Y1m ho a ?_)))));refine YA (jx (YK ⟨_,rfl,"dict_keyiterator",_,⟨_,YS _ rfl,rfl⟩,GZ.lookup,?_⟩));simpa [rawInt] using c
def Jr {Q:Option Value->Shared->Prop}(hit:s.heap.IsKeyIter it d i es.size ep)(ho:s.heap.get? d=some od)(c:od.data=.dict es ep)(e:i<es.size)
  (f:∀ h',h'.IsKeyIter it d (i+1) es.size ep->Heap.SameBut it s.heap h'->Q (some es[i].key) { s with heap:=h' }):wpAny (model prog w) A (pyNext (.ref it)) Q E s:=by
 obtain⟨o,b,hc,hd⟩:=id hit;have ty:=hit.typeIs;unfold pyNext;refine YA (zG (JN (name:=Str.ofString "__next__") ty GZ (JX GZ ty Y0k ?_ (Y0h _))));refine YA (YK (YA (YA ?_)));(first | refine YA (zj ty (YK ?_)) | refine YA (zJ ty (YK ?_)));refine YA (wpAny_fieldsOf b hd ?_);simp only [show Builtin.Dict_items.ownsTuple "dict_keyiterator"=false by decide,XW,qV];show wpAny _ _ (if (Value.ref d == Value.none)=true then _ else _) _ _ s;rw[YF (show ¬ ((Value.ref d == Value.none)=true) from YO)];refine YA (YK (YA (Y0T ho c ?_)));rw[YF ZJ];refine YA (YK (YA (Y1m ho c ?_)));rw[YF ZJ];refine YK ?_;simp only [show ¬ ((i:Int)<0) from by omega,qV,zl,zx e];refine YA ?_;(first | refine YA (zj ty (YK ?_)) | refine YA (zJ ty (YK ?_)));refine YA (wpAny_isOneOf_keyiter ty ?_);show wpAny _ _ (setField (.ref it) 1 (rawInt ((i:Int)+1)) >>= _) _ _ s;refine YA (zM b hd ZJ ?_);have a:(s.heap.update it (Obj.mapFields (·.setIfInBounds 1 (rawInt ((i:Int)+1))))).IsKeyIter it d (i+1) es.size ep:=⟨_,GW _ b (Y0a (zS hd _)),(Y0P ..).trans hc,by rw[zS hd];simp[rawInt]⟩;refine YA (GA (YA (wpAny_isOneOf_keyiter (s:={ s with heap:=s.heap.update it (Obj.mapFields (·.setIfInBounds 1 (rawInt ((i:Int)+1)))) }) a.typeIs (show wpAny _ _ (pure es[i].key) _ _ _ from ?_))));exact YK (YK ⟨_,rfl,YK (f _ a (JF ..))⟩)
theorem Ce {Q:Option Value->Shared->Prop}(hq:Qt A s.heap)(hit:s.heap.IsKeyIter it d i es.size ep)(ho:s.heap.get? d=some od)(c:od.data=.dict es ep)(g:es.size<=i)
  (f:∀ h',Heap.ExtBut it s.heap h'->Q none { s with heap:=h' }):wpAny (model prog w) A (pyNext (.ref it)) Q E s:=by
 obtain⟨o,a,hc,hd⟩:=id hit;have ty:=hit.typeIs;unfold pyNext;refine YA (zG (JN (name:=Str.ofString "__next__") ty GZ (JX GZ ty Y0k ?_ (Y0h _))));refine YA (YK (YA (YA ?_)));(first | refine YA (zj ty (YK ?_)) | refine YA (zJ ty (YK ?_)));refine YA (wpAny_fieldsOf a hd ?_);simp only [show Builtin.Dict_items.ownsTuple "dict_keyiterator"=false by decide,XW,qV];show wpAny _ _ (if (Value.ref d == Value.none)=true then _ else _) _ _ s;rw[YF (show ¬ ((Value.ref d == Value.none)=true) from YO)];refine YA (YK (YA (Y0T ho c ?_)));rw[YF ZJ];refine YA (YK (YA (Y1m ho c ?_)));rw[YF ZJ];refine YK ?_;simp only [show ¬ ((i:Int)<0) from by omega,qV,zl,Y1h g];refine YA ?_;(first | refine YA (zj ty (YK ?_)) | refine YA (zJ ty (YK ?_)));show wpAny _ _ (setField (.ref it) 0 .none >>= _) _ _ s;refine YA (zM a hd ZJ ?_);refine Ts (hq:=(hq.but a λn=>?_)) λh' e k h=>?_
 ·obtain⟨vs,e1,e2⟩:=n;rw[hd] at e1
  cases e1;simp at e2
 obtain⟨l,h1,h2⟩:=h;refine YA (qY (T:="StopIteration") (b:=true) ⟨_,h1,h2⟩ jy (YK (f _ λb o j e=>k b o ((JF ..).extBut b o j e))))
end
noncomputable def rowK (r:UA):List (List Int):=r.map λq=>[q.1,q.2]
theorem Qb:∀ {r s:UA},rowK r=rowK s->r=s
 | [],[],_=>rfl
 | [],_::_,h=>by cases h
 | _::_,[],h=>by cases h
 | a::r,b::s,h=>by
  have h:[a.1,a.2]::rowK r=[b.1,b.2]::rowK s:=h;injection h with h1 h2
  rw[Qb h2,show a=b from Y1U (Y1G h1).1 (Y1G (Y1G h1).2).1]
noncomputable def dcO (P:TU)(w:World)(d:Addr)(es:List (List Rat × Addr × Addr))(ep:Nat):HO:=.ext λh=>∃ o ds,h.get? d=some o/\o.ExactDict/\o.data=.dict ds ep/\ds.toList=es.map (λe=>entryOfKey (rowKind P w) (rowK e.1,e.2.1,.ref e.2.2))/\(d == sysModules)=false
structure DcAt (P:TU)(w:World)(K:TR)(H:Hp)(d:Addr)(es:List (List Rat × Addr × Addr))(ep:Nat):Prop where
 ob:H d=some (dcO P w d es ep)
 ks:∀ e∈es,RowAt K H e.2.1 e.1
 nd:(es.map (·.1)).Nodup
theorem DcAt.same {P:TU}{w:World}{K:TR}{H H':Hp}{d:Addr}{es:List (List Rat × Addr × Addr)}{ep:Nat}(h:DcAt P w K H d es ep)(S:Same H H'):DcAt P w K H' d es ep:=⟨S _ _ h.ob,λe a=>(h.ks e a).ext (Ext.same S),h.nd⟩
section
variable {X:Cx}{σ:_L.St}{H:Hp}
def Z4q (I:Inv X pins σ H s):sysModules<s.heap.objs.size:=by
 have hg:mainGlobals<s.heap.objs.size:=(I.mod.glob.keeps I.bk).lt;exact Nat.lt_trans (show sysModules<mainGlobals by decide) hg
def Z5v (I:Inv X pins σ H s){a:Addr}{p q:Int}(h:SqT X.K H a [.int p,.int q]):IsTupleKey (intKind X.prog X.w) s.heap [p,q] a:=by
 obtain⟨its,r,⟨o,ho,hc,n,hd⟩,_⟩:=I.tuple h;refine⟨o,its.toArray,n,ho,hc,hd,?_⟩
 cases r with
 | cons r1 t =>
  cases t with
  | cons r2 b =>
   cases b;obtain⟨c,rfl⟩:=r1;obtain⟨b,rfl⟩:=r2;exact .cons (by simp[intKind,Value.isInt]) (.cons (by simp[intKind,Value.isInt]) .nil)
theorem Nx (I:Inv X pins σ H s){a:Addr}{rs:UA}(h:RowAt X.K H a rs):IsRowKey X.prog X.w s.heap (rowK rs) a:=by
 obtain⟨xs,hx,hr⟩:=h;obtain⟨its,r,⟨o,ho,hc,n,hd⟩,_⟩:=I.tuple hx;refine⟨o,its.toArray,n,ho,hc,hd,?_⟩;have key:∀ {rs:UA} {xs:TZ} {its:TH},Rs X.K H rs xs->Vals xs its->RowItems X.prog X.w s.heap (rowK rs) its:=by
  intro rs xs its hr;unfold Rs at hr
  induction hr generalizing its with
  | nil=>intro v;cases v;exact .nil
  | cons h1 _ c =>
   intro v
   cases v with
   | cons r1 t =>
    obtain⟨b,rfl,d⟩:=h1
    cases r1;exact .cons ⟨b,rfl,Z5v I d⟩ (c t)
 exact key hr r
def Z51 (I:Inv X pins σ H s){d:Addr}{es:List (List Rat × Addr × Addr)}{ep:Nat}(h:DcAt X.prog X.w X.K H d es ep):s.heap.DictOfH (rowKind X.prog X.w) d (es.map λe=>(rowK e.1,e.2.1,Value.ref e.2.2))/\(d == sysModules)=false:=by
 obtain⟨⟨o,ds,ho,c,hd,f,hs⟩,_⟩:=(show ObjOk X.prog X.w H s.heap d (dcO X.prog X.w d es ep) from I.hok d _ h.ob);refine⟨⟨o,ds,ep,ho,c,hd,by rw[f,qm];rfl,λx hx=>?_,?_⟩,hs⟩
 ·obtain⟨e,a,rfl⟩:=YN.mp hx;exact Nx I (h.ks e a)
 rw[qm,show ((λx:List (List Int) × Addr × Value=>x.1) ∘ λe:List Rat × Addr × Addr=>(rowK e.1,e.2.1,Value.ref e.2.2))=λe=>rowK e.1 from rfl];have:=h.nd;rw[XX,GV] at this ⊢;exact this.imp λb z=>b (Qb z)
inductive rDict (P:TU) (w:World) (K:TR) (xs:TZ) (H:Hp) (Q:VK):Prop
 | mk (p:Addr) (ys:TZ) (es:List (List Rat × Addr × Addr)) (a0:xs=[.ref p]) (a1:SqL K H p ys) (a2:Paired (λv e=>∃ t,v=V.ref t/\SqT K H t [.ref e.2.1,.ref e.2.2]/\RowAt K H e.2.1 e.1) ys es) (a3:(es.map (·.1)).Nodup) (a4:∀ d ep,H d=none->Q (.ref d) (upd H d (dcO P w d es ep)))
theorem Pp (y:X.A.handled=none)(hu:X.A.units+64<cLine)(hK:X.K=K:=by rfl):CallR X (.type "dict") (rDict X.prog X.w K):=by
 subst hK;intro pins s σ H xs us Q I r h;obtain⟨p,ys,es,rfl,hq,hp,nd,q⟩:=h;obtain⟨u,rfl,m⟩:=V4 r
 cases m;obtain⟨its,r',pl,hz⟩:=I.list hq;have lp:=XB hp;have D:=r'.length;have a:Paired (PairAt X.prog X.w s.heap) its.toArray.toList (es.map λe=>(rowK e.1,e.2.1,Value.ref e.2.2)):=by
  have key:∀ {ys:TZ} {es:List (List Rat × Addr × Addr)} {its:TH},Paired (λv e=>∃ t,v=V.ref t/\SqT X.K H t [.ref e.2.1,.ref e.2.2]/\RowAt X.K H e.2.1 e.1) ys es->Vals ys its->Paired (PairAt X.prog X.w s.heap) its (es.map λe=>(rowK e.1,e.2.1,Value.ref e.2.2)):=by
   intro ys es its hp
   induction hp generalizing its with
   | nil=>intro v;cases v;exact .nil
   | cons h1 _ j =>
    intro v
    cases v with
    | cons r1 t =>
     obtain⟨b,rfl,l,row⟩:=h1
     cases r1;obtain⟨i,r2,⟨o,ho,hc,n,hd⟩,_⟩:=I.tuple l;obtain⟨C,B,rfl,e1,e2⟩:=Vals.two r2
     cases e1
     cases e2;exact .cons ⟨b,o,n,rfl,ho,hc,hd,Nx I row⟩ (j t)
  exact key hp r'
 refine Rq y J0 pl (by rw[YB];omega) a ?_ λh' tk hm kp=>?_
 ·rw[qm,show ((λx:List (List Int) × Addr × Value=>x.1) ∘ λe:List Rat × Addr × Addr=>(rowK e.1,e.2.1,Value.ref e.2.2))=λe=>rowK e.1 from rfl];rw[XX,GV] at nd ⊢;exact nd.imp λd z=>d (Qb z)
 obtain⟨o,ds,ep,ho,f,hd,g,_,_⟩:=hm;have c:(s.heap.objs.size == sysModules)=false:=by
  have h:=Z4q I;exact beq_false_of_ne (GQ h)
 refine⟨.ref s.heap.objs.size,_,I.laid (t':=tk) kp (YJ _) (show ObjOk X.prog X.w _ h' _ (dcO X.prog X.w s.heap.objs.size es ep) from ⟨⟨o,ds,ho,f,hd,by rw[g,qm];rfl,c⟩,⟨o,ho⟩,?_⟩),rfl,q _ _ (I.hok.fresh (YJ _))⟩;rintro h1 h2 ⟨o,ds,ho,r⟩ k;exact⟨o,ds,k _ ho,r⟩
inductive rIxD (P:TU) (w:World) (K:TR) (x y:V) (H:Hp) (Q:VK):Prop
 | mk (d a:Addr) (es:List (List Rat × Addr × Addr)) (i:Nat) (e:List Rat × Addr × Addr) (a0:x=.ref d) (a1:y=.ref a) (ep:Nat) (a2:DcAt P w K H d es ep) (a3:es[i]?=some e) (a4:RowAt K H a e.1) (a5:Q (.ref e.2.2) H)
theorem Z4n (hu:X.A.units+64<cLine)(hK:X.K=K:=by rfl):IxR X (rIxD X.prog X.w K):=by
 subst hK;intro value b pins s σ H x y v u Q I f g h hs;obtain⟨d,a,es,i,e,rfl,rfl,ep,hd,c,ha,q⟩:=h
 cases f
 cases g;obtain⟨hm,_⟩:=Z51 I hd;have hn:((es.map λe=>(rowK e.1,e.2.1,Value.ref e.2.2)).map (·.1)).Nodup:=let ⟨_,_,_,_,_,_,_,_,hn⟩:=hm;hn;refine Y00 (x:=.ref e.2.2) hm.typeIs F.slot_dict_getitem.lookup (wpAny_getItem_heap (knd:=rowKind X.prog X.w) (by show X.A.units+1+4<cLine;omega) (Nx I ha) hm (atKey_of_get hn (i:=i) (p:=(e.2.1,.ref e.2.2)) (by rw[YI,c];rfl)) ?_) hs;exact⟨rfl,.ref e.2.2,H,I.tok _,rfl,q⟩
noncomputable def Itd (P:TU)(w:World)(K:TR)(d:Addr)(es:List (List Rat × Addr × Addr))(ep:Nat):It:=⟨λi H=>DcAt P w K H d es ep/\i<es.length,λi H x H'=>H'=H/\∃ e,es[i]?=some e/\x=.ref e.2.1,λi H=>DcAt P w K H d es ep/\es.length<=i⟩
theorem Fx {P:TU}(d it:Addr)(es:List (List Rat × Addr × Addr))(ep:Nat):Turn P w K tg (Itd P w K d es ep) [it] it (λi h=>h.IsKeyIter it d i es.length ep) where
 mem:=ZJ
 obj:=λi h st b a=>by
  obtain rfl:b=it:=by simpa using a
  obtain⟨o,e,c,q⟩:=st;exact⟨o,e,λv z=>by rw[q] at z;cases z⟩
 keep:=λi h h' st k=>let ⟨o,e,r⟩:=st;⟨o,k it ZJ o e,r⟩
 item:=by
  intro X x hw hK hc i pins s σ H E I hf st ⟨hd,g⟩;subst x hw hK;obtain⟨⟨o,ds,ho,B,n,j,hs⟩,_⟩:=(show ObjOk X.prog X.w H s.heap d (dcO X.prog X.w d es ep) from I.hok d _ hd.ob);have l:ds.size=es.length:=by have:=congrArg List.length j;simpa using this
  obtain⟨m,f1,f2,t,u,p⟩:=hf it ZJ;refine Jr (es:=ds) (i:=i) (by rw[l];exact st) ho n J0 λh' f y=>?_;rw[l] at f;have A:Inv X pins σ H { s with heap:=h' }:=I.turned (t':=s.toks) (λb o a e=>(y.2 b a).trans e) m f1 t u p;obtain⟨oi,e,c,q⟩:=id f;have C:ds[i].key=.ref (es[i]'g).2.1:=by
   have h1:ds.toList[i]?=some ds[i]:=ZJ
   rw[j,YI,XL g] at h1;rw[<-YU h1];rfl
  exact⟨_,rfl,Ff (s:={ s with heap:=h' }) e c q J1 ⟨.ref (es[i]'g).2.1,H,A,C,⟨rfl,_,XL g,rfl⟩,f,λb a=>(hf b a).1⟩⟩
 done:=by
  intro X x hw hK hc i pins s σ H E I hf st ⟨hd,D⟩;subst x hw hK;obtain⟨⟨o,ds,ho,B,n,j,hs⟩,_⟩:=(show ObjOk X.prog X.w H s.heap d (dcO X.prog X.w d es ep) from I.hok d _ hd.ob);have l:ds.size=es.length:=by have:=congrArg List.length j;simpa using this
  obtain⟨m,f1,f2,t,u,p⟩:=hf it ZJ;exact Ce (es:=ds) (i:=i) (I.qt hc) (by rw[l];exact st) ho n J0 λh' eb=>⟨rfl,I.turned (t':=s.toks) (λb o a e=>eb b o a e) m f1 t u p⟩
 self:=λ_ _ _ _ _ st h=>wpAny_pyIter_keyiter st h
inductive iDict_i (P:TU) (w:World) (K:TR) (R:It->Hp->Prop) (x:V) (H:Hp):Prop
 | mk (d:Addr) (es:List (List Rat × Addr × Addr)) (ep:Nat) (a0:x=.ref d) (a1:DcAt P w K H d es ep) (a2:R (Itd P w K d es ep) H)
def iDict (P:TU)(w:World)(K:TR)(tl:TE):TI:=λσ H R=>tl σ H (iDict_i P w K R)
theorem Z3f {l:Expr}(hl:PE X l tl)(hK:X.K=K:=by rfl):PI X tg l (iDict X.prog X.w K tl):=by
 subst hK;intro pins s σ H R I h;refine thn (hl pins s σ H _ I h) λv s1 z=>?_;obtain⟨x,H1,a,r1,d,es,ep,rfl,hd,q⟩:=z
 cases r1;obtain⟨⟨o,ds,ho,f,c,g,hs⟩,_⟩:=(show ObjOk X.prog X.w H1 s1.heap d (dcO X.prog X.w d es ep) from a.hok d _ hd.ob);have j:ds.size=es.length:=by have:=congrArg List.length g;simpa using this
 refine Kh hs ho f c ?_;refine⟨s1.heap.objs.size,[s1.heap.objs.size],_,_,H1,rfl,a.kept (t':=s1.toks) λb o e=>YC _ e,Fx d _ es ep,⟨_,YS _ rfl,rfl,by rw[<-j];rfl⟩,λb i=>?_,q⟩;obtain rfl:b=s1.heap.objs.size:=by simpa using i
 exact a.fpOk (YJ _) (a.hok.fresh (YJ _))
end
open PySem.Builtin PySem.Builtin.Str
def Cz (bs:List Bool):(List.range bs.length).all (λi=>bs.getD i false)=bs.all id:=by
 induction bs with
 | nil=>rfl
 | cons b r a =>
  rw[XT,List.range_succ_eq_map,Y10,Y1S,Y10,<-a];rfl
section
variable {X:Cx}
inductive rAll (K:TR) (xs:TZ) (H:Hp) (Q:VK):Prop
 | mk (p:Addr) (bs:List Bool) (a0:xs=[.ref p]) (a1:SqL K H p (bs.map V.bl)) (a2:Q (.bl (bs.all id)) H)
theorem Nj (hc:X.calm=true)(hK:X.K=K:=by rfl):CallR X (.builtin "all") (rAll K):=by
 subst hK;intro pins s σ H xs us Q I r h;obtain⟨p,bs,rfl,hs,q⟩:=h;obtain⟨u,e0,t⟩:=V4 r
 cases (show u=Value.ref p from t);subst e0;obtain⟨its,rv,pl,hz⟩:=I.list hs;have hl:=rv.length;rw[YB] at hl;have lp:s.heap.IsList p its.toArray:=pl.isList;have j:p<s.heap.objs.size:=by
  obtain⟨o,e,_⟩:=lp;exact YQ e
 have d:∀ p∈X.pn,s.heap.get? p.1=some p.2:=λp hp=>(I.pin p (XG _ hp)).1;refine call_all_walk (zD lp ?_);refine⟨s.heap.objs.size,_,_,_,_,_,λi=>bs.getD i false,rfl,Walks.listQ (A:=X.A.in1) (I.ok.hd hc) s.heap.objs.size p (XM j) (λp hp=>XM (YQ (d p hp))) its.toArray,⟨⟨_,YS _ rfl,rfl,rfl⟩,lp.at λo e=>YC _ e,λp hp=>YC _ (d p hp)⟩,?_,λh' tk k=>?_⟩
 ·intro i v s' l x g a;have hi:i<its.length:=by
   have:=(Array.getElem?_eq_some_iff.mp g).1
   simpa using this
  have f:i<bs.length:=J0
  have e1:(bs.map V.bl)[i]?=some (V.bl bs[i]):=by simp[f]
  obtain⟨w,e2,c⟩:=rv.get e1;have e3:its[i]?=some v:=by simpa using g
  rw[e2] at e3
  cases e3
  cases (show v=Value.bool bs[i] from c);have n:bs.getD i false=bs[i]:=by simp[List.getD,f]
  replace a:l (bs.getD i false) s':=a;rw[n] at a;exact qk a
 have e:(List.range its.toArray.size).all (λi=>bs.getD i false)=bs.all id:=by
  rw[YM,<-hl];exact Cz bs
 rw[e];refine⟨.bl (bs.all id),H,?_,rfl,q⟩;exact I.kept (t':=tk) λb o z=>k b o (by
  intro m;have:b=s.heap.objs.size:=by simpa using m
  rw[this] at z;exact absurd (YQ z) (GB _)) (YC _ z)
end
theorem Z58 (rs ss:UA):((List.range (min rs.length ss.length)).all (λj=>decide (rs.getD j (0,1)=ss.getD j (0,1))) && rs.length == ss.length)=decide (rs=ss):=by
 rw[GE];simp only [zc,qj,XI,zu,zE];constructor
 ·rintro ⟨h,l⟩;refine Y18 l λi h1 h2=>?_;have:=h i J0
  simpa [List.getD,h1,h2] using this
 rintro rfl;exact⟨λ_ _=>rfl,rfl⟩
section
variable {X:Cx}{σ:_L.St}{H:Hp}{a b:Addr}
def Nr (I:Inv X pins σ H s){xs ys:TZ}(h1:SqT X.K H a xs)(h2:SqT X.K H a ys):xs=ys:=by
 obtain⟨i1,r1,g,_⟩:=I.tuple h1;obtain⟨i2,r2,f,_⟩:=I.tuple h2;obtain⟨o,e1,_,n,d1⟩:=g;obtain⟨o',b,_,n',c⟩:=f;rw[e1] at b
 cases b;rw[d1] at c;injection c with d
 have e:i1=i2:=by simpa using d
 subst e;exact Vals.inj r1 r2
theorem Z0a (I:Inv X pins σ H s):∀ {rs ss:UA} {xs:TZ},Rs X.K H rs xs->Rs X.K H ss xs->rs=ss
 | _,_,_,.nil,.nil=>rfl
 | r::_,q::_,_,.cons h t,.cons h' t'=>by
  rw[Z0a I t t'];obtain⟨a,rfl,d⟩:=h;obtain⟨b,e,c⟩:=h'
  cases e;have z:=Nr I d c;injection z with z1 z2
  injection z2 with z2 z3
  injection z1 with z1
  injection z2 with z2
  rw[show r=q from Y1U z1 z2]
theorem Gj (I:Inv X pins σ H s){rs ss:UA}(h1:RowAt X.K H a rs)(h2:RowAt X.K H a ss):rs=ss:=by
 obtain⟨xs,c,r1⟩:=h1;obtain⟨ys,b,r2⟩:=h2
 cases Nr I c b;exact Z0a I r1 r2
theorem Z4x (I:Inv X pins σ H s)(hu:A.units<cLine){ns ms:TV}(ha:SqT X.K H a (ns.map V.int))(g:SqT X.K H b (ms.map V.int)):SeqAt.EqAt A s (.ref a) (.ref b) (decide (ns=ms)):=by
 by_cases e:a=b
 ·subst e;have z:=Nr I ha g;have o:ns=ms:=by
   have:=congrArg (List.map λv=>match v with | V.int i=>i | _=>0) z
   simpa [qm,Y0U] using this
  rw[XA o];exact zA _
 obtain⟨its,r1,n,_⟩:=I.tuple ha;obtain⟨c,r2,m,_⟩:=I.tuple g;have l:=r1.length;have k:=r2.length;rw[YB] at l k;have h:=Y04 (A:=A) (s:=s) (e:=λj=>ns.getD j 0 == ms.getD j 0) n m hu (λj h1 h2=>by
  obtain⟨t,e1⟩:=U9 r1 (j:=j) (by simpa using h1);obtain⟨t',e2⟩:=U9 r2 (j:=j) (by simpa using h2);have f:its.toArray[j]=Value.int (ns.getD j 0) t:=by simpa using e1
  have d:c.toArray[j]=Value.int (ms.getD j 0) t':=by simpa using e2
  rw[f,d];exact zv _ _ _ _)
 rw[YM,YM,<-l,<-k,G7] at h;exact Y0G e h
theorem Z4w (I:Inv X pins σ H s)(hu:A.units+1<cLine){rs ss:UA}(ha:RowAt X.K H a rs)(r:RowAt X.K H b ss):SeqAt.EqAt A s (.ref a) (.ref b) (decide (rs=ss)):=by
 by_cases e:a=b
 ·subst e;rw[XA (Gj I ha r)];exact zA _
 obtain⟨xs,C,hr⟩:=ha;obtain⟨ys,w,hs⟩:=r;obtain⟨its,r1,y,_⟩:=I.tuple C;obtain⟨f,r2,x,_⟩:=I.tuple w;have E:=r1.length;have D:=r2.length;have k1:=hr.len;have k2:=hs.len;have h:=Y04 (A:=A) (s:=s) (e:=λj=>decide (rs.getD j (0,1)=ss.getD j (0,1))) y x J0 (λj h1 h2=>by
  have p:j<rs.length:=by simp at h1;omega
  have o:j<ss.length:=by simp at h2;omega
  have B:rs[j]?=some rs[j]:=by simp[p]
  have es:ss[j]?=some ss[j]:=by simp[o]
  obtain⟨x1,ex,c,rfl,sc⟩:=hr.at B;obtain⟨G,F,d,rfl,t⟩:=hs.at es;obtain⟨v,i,n⟩:=r1.get ex;obtain⟨u,m,k⟩:=r2.get F
  cases (show v=Value.ref c from n)
  cases (show u=Value.ref d from k);have l:its.toArray[j]=Value.ref c:=by
   have:its.toArray[j]?=some (Value.ref c):=by simpa using i
   rw[zx h1] at this;exact YU this
  have g:f.toArray[j]=Value.ref d:=by
   have:f.toArray[j]?=some (Value.ref d):=by simpa using m
   rw[zx h2] at this;exact YU this
  rw[l,g];have q:=Z4x (A:=A.in1) I hu (ns:=[rs[j].1,rs[j].2]) (ms:=[ss[j].1,ss[j].2]) sc t;have z:decide ([rs[j].1,rs[j].2]=[ss[j].1,ss[j].2])=decide (rs.getD j (0,1)=ss.getD j (0,1)):=by
   rw[zP];simp[List.getD,p,o,Prod.ext_iff]
  rw[z] at q;exact q)
 rw[YM,YM,<-E,<-D,<-k1,<-k2,Z58] at h;exact Y0G e h
open Classical in
inductive rInR (K:TR) (neg:Bool) (x y:V) (H:Hp) (Q:VK):Prop
 | mk (a l:Addr) (rs:UA) (as:TJ) (rss:UB) (z0:x=.ref a) (z1:y=.ref l) (z2:RowAt K H a rs) (z3:SqL K H l (as.map V.ref)) (z4:Paired (RowAt K H) as rss) (z5:Q (.bl (if neg then !decide (rs∈rss) else decide (rs∈rss))) H)
theorem Kn {I:Inv X pins σ H s}{rs:UA}(e:Value->Bool)(a:∀ (b:Addr) (ss:UA),RowAt X.K H b ss->e (.ref b)=decide (ss=rs)):∀ {as:TJ} {rss:UB} {us:TH},Paired (RowAt X.K H) as rss->Vals (as.map V.ref) us->us.any e=decide (rs∈rss)
 | _,_,_,.nil,.nil=>ZJ
 | b::as,ss::rss,u::us,.cons h t,.cons r rt=>by
  cases (show u=Value.ref b from r);rw[Y1D,a b ss h,Kn (I:=I) e a t rt];rw[GE,Bool.or_eq_true,GC,GC,GC,YT];exact⟨λz=>z.imp Eq.symm id,λz=>z.imp Eq.symm id⟩
open Classical in
theorem Z4r (I:Inv X pins σ H s)(hu:X.A.units+64<cLine){l:Addr}{rs:UA}{as:TJ}{rss:UB}(h2:RowAt X.K H a rs)(h3:SqL X.K H l (as.map V.ref))(h4:Paired (RowAt X.K H) as rss) :
  ∃ (its:Array Value) (e:Value->Bool),s.heap.IsList l its/\(∀ y,y∈its->SeqAt.EqAt X.A.in1 s y (.ref a) (e y))/\its.any e=decide (rs∈rss):=by
 obtain⟨its,r,pl,_⟩:=I.list h3;have f:∀ (b:Addr) (ss:UA),RowAt X.K H b ss->(λu:Value=>match u with | .ref b=>decide (RowAt X.K H b rs) | _=>false) (.ref b)=decide (ss=rs):=λb ss h=>by
  rw[GE];simp only [zE];exact⟨λz=>Gj I h z,λz=>z ▸ h⟩
 refine⟨its.toArray,λu=>match u with | .ref b=>decide (RowAt X.K H b rs) | _=>false,pl.isList,λy k=>?_,?_⟩
 ·have c:y∈its:=by simpa using k
  obtain⟨j,g⟩:=XQ c;have i:j<as.length:=by
   have:=(YG.mp g).1;have z:=r.length;rw[YB] at z;omega
  have ea:(as.map V.ref)[j]?=some (V.ref as[j]):=by simp[i]
  obtain⟨u,d,ru⟩:=r.get ea;rw[g] at d
  cases d
  cases (show y=Value.ref as[j] from ru);have m:=XB h4;have hs:=Paired.getB h4 (show as[j]?=some as[j] by simp[i]) (show rss[j]?=some rss[j] by simp);generalize rss[j]=ss at hs;rw[f _ ss hs];exact Z4w (A:=X.A.in1) I (by show X.A.units+1+1<cLine;omega) hs h2
 rw[show its.toArray.any (λu:Value=>match u with | .ref b=>decide (RowAt X.K H b rs) | _=>false)=its.any (λu:Value=>match u with | .ref b=>decide (RowAt X.K H b rs) | _=>false) by simp];exact Kn (I:=I) _ f h4 r
theorem Dm (hu:X.A.units+64<cLine)(hK:X.K=K:=by rfl):OpR X (compareOp .NotIn) (rInR K true):=by
 subst hK;intro pins s σ H x y v u Q I d f h;obtain⟨a,l,rs,as,rss,rfl,rfl,h2,h3,h4,q⟩:=h
 cases d
 cases f;obtain⟨its,e,b,g,c⟩:=Z4r I hu h2 h3 h4;refine SeqAt.notIn_listAt e b g ⟨.bl _,H,I,rfl,?_⟩;rw[c];exact q
end
/-- a def's promise by its body alone -/
noncomputable def Def.h9 {P:TU}{k:Nat}{x:Str}{N:TF}(D:Def K mg x st ps)(S:FnScope N ps (defScope st))
  (a:∀ {f:Addr} {cdv:Value} {A:Around} {outer:TN} {s:Shared} {vs:TZ} {E:XK} (H:Hp) (Q:VK),Room k (A.deeper (envOfC x (defScope st) s.heap.objs.size f cdv)) sr->sp vs H Q E->N.Nodup →
   ∃ t,PSs (cxOf CX0 P w K mg base N x (defScope st) f cdv A outer s H E).nox (defBody st) t/\t { nx:=λ_ H'=>Q .non H',rt:=Q } (start N vs) H)
  (len:∀ vs H Q E,sp vs H Q E->vs.length=ps.length:=by intro _ _ _ _ h;first | (cases h;subst_vars;rfl) | ((repeat (obtain⟨_,h⟩:=h));subst_vars;rfl)):Has P w K mg base (k+1) x ps sp sr :=
 D.has λ_ _ F=>F.ok S len λ_ _ _ _ H _ Q _ hr h=>a H Q hr h S.nd
end _b
namespace _b
open PySem _L
noncomputable def top (i:Nat):Stmt:=PySem.Challenge.pw_surebook_k41_corners_fit.main.body.getD i (.Pass ⟨0,0,0,0⟩)
noncomputable abbrev jA:Stmt:=top 6
noncomputable abbrev iM:Stmt:=top 7
noncomputable abbrev jJ:Stmt:=top 8
noncomputable abbrev jI:Stmt:=top 9
noncomputable abbrev kE:Stmt:=top 10
noncomputable abbrev j0:Stmt:=top 11
noncomputable abbrev jU:Stmt:=top 12
noncomputable abbrev i8:Stmt:=top 13
noncomputable abbrev jT:Stmt:=top 14
noncomputable abbrev iO:Stmt:=top 15
noncomputable abbrev i5:Stmt:=top 16
noncomputable abbrev j9:Stmt:=top 18
noncomputable abbrev iP:Stmt:=top 19
noncomputable abbrev kG:Stmt:=top 20
noncomputable abbrev kJ:Stmt:=top 21
noncomputable abbrev kU:Stmt:=top 22
noncomputable abbrev i9:Stmt:=top 23
noncomputable abbrev kK:Stmt:=top 29
noncomputable abbrev i4:Stmt:=top 30
noncomputable abbrev jY:Stmt:=top 31
noncomputable abbrev j4:Stmt:=top 32
noncomputable abbrev i7:Stmt:=top 34
noncomputable abbrev iN:Stmt:=top 35
noncomputable abbrev i3:Stmt:=top 36
noncomputable abbrev jR:Stmt:=top 37
noncomputable abbrev jC:Stmt:=top 38
noncomputable abbrev jH:Stmt:=top 39
noncomputable abbrev jE:Stmt:=top 40
noncomputable abbrev iQ:Stmt:=top 43
noncomputable abbrev jK:Stmt:=top 44
noncomputable abbrev j7:Stmt:=top 45
noncomputable abbrev iY:Stmt:=top 46
noncomputable abbrev jD:Stmt:=top 47
noncomputable abbrev iU:Stmt:=top 48
noncomputable abbrev iZ:Stmt:=top 49
noncomputable abbrev iX:Stmt:=top 50
noncomputable abbrev j5:Stmt:=top 51
noncomputable abbrev iV:Stmt:=top 52
noncomputable abbrev jQ:Stmt:=top 53
noncomputable abbrev iS:Stmt:=top 55
noncomputable abbrev jV:Stmt:=top 56
noncomputable abbrev iL:Stmt:=top 57
noncomputable abbrev jW:Stmt:=top 58
noncomputable abbrev iT:Stmt:=top 60
noncomputable abbrev jP:Stmt:=top 61
noncomputable abbrev kO:Stmt:=top 63
noncomputable abbrev jS:Stmt:=top 64
noncomputable abbrev kW:Stmt:=top 65
noncomputable abbrev kC:Stmt:=top 66
noncomputable abbrev kR:Stmt:=top 67
noncomputable abbrev j1:Stmt:=top 68
noncomputable abbrev jN:Stmt:=top 69
noncomputable abbrev jM:Stmt:=top 70
noncomputable abbrev jB:Stmt:=top 71
noncomputable abbrev j3:Stmt:=top 72
noncomputable abbrev jL:Stmt:=top 73
noncomputable abbrev iW:Stmt:=top 74
noncomputable abbrev j2:Stmt:=top 75
noncomputable abbrev kH:Stmt:=top 76
noncomputable abbrev jO:Stmt:=top 77
noncomputable abbrev kL:Stmt:=top 78
noncomputable abbrev jX:Stmt:=top 79
noncomputable abbrev kP:Stmt:=top 80
noncomputable abbrev i6:Stmt:=top 81
noncomputable abbrev j6:Stmt:=top 82
noncomputable abbrev kQ:Stmt:=top 83
noncomputable abbrev jZ:Stmt:=top 84
noncomputable abbrev iR:Stmt:=top 85
noncomputable abbrev jG:Stmt:=top 86
noncomputable abbrev jF:Stmt:=top 87
noncomputable abbrev kD:Stmt:=top 88
noncomputable abbrev j8:Stmt:=top 89
noncomputable abbrev kT:Stmt:=top 90
noncomputable abbrev iK:Stmt:=inClass (top 42) 0
structure Blt (mg:TB):Prop where
 len:mg "len"=none
 abs:mg "abs"=none
 isinstance:mg "isinstance"=none
 int:mg "int"=none
 bool:mg "bool"=none
 tuple:mg "tuple"=none
 range:mg "range"=none
 zip:mg "zip"=none
 enumerate:mg "enumerate"=none
 any:mg "any"=none
 sum:mg "sum"=none
 list:mg "list"=none
 min:mg "min"=none
def Fp {ns:TV}{k:Int}(h0:0<=k)(h1:k<((ns.map V.int).length:Int)):∃ z,atI (ns.map V.int) k=some (.int z):=by
 obtain⟨j,rfl⟩:=Y1a h0;rw[YB] at h1;have hj:j<ns.length:=J0
 exact⟨ns[j],Zk (by simp[hj])⟩
def G6 {k:Int}(h0:0<=k)(h1:k<(xs.length:Int)):∃ v,atI xs k=some v/\v∈xs:=by
 obtain⟨j,rfl⟩:=Y1a h0;have hj:j<xs.length:=J0
 exact⟨xs[j],Zk (by simp[hj]),XR hj⟩
def Z1v {n:Nat}{k:Int}(h0:0<=k)(h1:k<(n:Int)):ixN n k=some k.toNat:=by
 unfold ixN;rw[YH h0,YH h1]
def Sy {j:Int}(h:(0:Int)<j):(0:Int)<j:=h
def Z53 {j:Int}(h0:0<=j)(h1:j<=1000):CPow 10 j:=⟨h0,by omega,by decide⟩
def U6 (t:Int):-(2 ^ 64)<t % 65537/\t % 65537<2 ^ 64:=by omega
section
variable {P:TU}
inductive spCell (K:TR) (vs:TZ) (H:Hp) (Q:VK) (_z3:XK):Prop
 | mk (a:Addr) (k:Int) (ns:TV) (zz0:vs=[.ref a,.int k]) (zz1:SqL K H a (ns.map V.int)) (zz2:0<=k) (zz3:k<=100000) (zz4:∀ z:Int,Q (.int z) H)
def Z6t (D:Def K mg "_law_cell" kO UE)(T:Blt mg):Has P w K mg base 1 "_law_cell" UE (spCell K):=by
 refine D.h9 (N:=["_law_script","_law_k","_law_seed","_law_some"]) fsc λH Q hr h nd=>?_;obtain⟨a,k,ns,rfl,hS,hk,b,q⟩:=h;refine⟨_,(Z9 (Y9 (Zo Ud (pv 1) (Zt Zq rfl T.len GL (Z0 (pv 0) Z8)) (Zp _))
   (Zb (Zh (Zg Zy (pv 0) (pv 1))))
   Zw)
  (Z9 (Zj (i:=2) nd rfl (Or.inl rfl) (Zl Zu (pv 1) Za))
  (Z9 (Y9 (Zo Sx (Zt Zq rfl T.len GL (Z0 (pv 0) Z8)) Za (Zp _))
   (Zb (Zj (i:=2) nd rfl (Or.inl rfl) (Zl X6 (pv 2) (Zl Wj (Zg Zy (pv 0) (Zl Wj (pv 1) (Zt Zq rfl T.len GL (Z0 (pv 0) Z8)))) Za))))
   Zw)
  (Z9 (Zj (i:=3) nd rfl (Or.inl rfl) (Zl Wj (Zl Zu (pv 2) Za) Za))
  (Zb (Zh (Zl Wj (Zl Wd (Zl Zu (pv 3) (Zl X6 (Zl X6 (pv 3) (Zl Zu Za (pv 1))) Za)) Za) Za))))))),?_⟩
 refine⟨_,rfl,_,rfl,a,_,rfl,.inl hS,_,_,rfl,rfl,_,rfl,?_⟩;refine Xu (λh=>?_) (λh=>?_)
 ·have h':=XO h;obtain⟨z,hz⟩:=Fp hk h';exact⟨_,rfl,_,rfl,a,_,_,_,rfl,rfl,hS,hz,q z⟩
 refine⟨_,rfl,_,_,rfl,rfl,C3 J1 J1,?_⟩;refine⟨_,rfl,a,_,rfl,.inl hS,_,_,rfl,rfl,_,rfl,?_⟩;refine Xu (λh2=>?_) (λh2=>?_)
 ·have h3:=XO h2;obtain⟨z,hz⟩:=Fp (ns:=ns) (k:=k % ((ns.map V.int).length:Int)) (jo _ J0) (js _ h3);refine⟨_,rfl,_,rfl,_,rfl,_,rfl,a,_,rfl,.inl hS,_,_,rfl,rfl,h3,a,_,_,_,rfl,rfl,hS,hz,_,_,rfl,rfl,Sy J1,_,_,rfl,rfl,?_⟩;refine⟨_,rfl,_,_,rfl,rfl,C3 J1 J1,_,_,rfl,rfl,Sy J1,?_⟩;exact⟨_,rfl,_,rfl,_,rfl,_,_,rfl,rfl,C4 J1 J1,_,_,rfl,rfl,_,_,rfl,rfl,_,_,rfl,rfl,C4 (U6 _).1 (U6 _).2,_,_,rfl,rfl,⟨J1,ZZ⟩,_,_,rfl,rfl,Sy J1,q _⟩
 refine⟨_,rfl,_,_,rfl,rfl,C3 J1 J1,_,_,rfl,rfl,Sy J1,?_⟩;exact⟨_,rfl,_,rfl,_,rfl,_,_,rfl,rfl,C4 J1 J1,_,_,rfl,rfl,_,_,rfl,rfl,_,_,rfl,rfl,C4 (U6 _).1 (U6 _).2,_,_,rfl,rfl,⟨J1,ZZ⟩,_,_,rfl,rfl,Sy J1,q _⟩
inductive spLow (vs:TZ) (H:Hp) (Q:VK) (_z3:XK):Prop
 | mk (p q:Int) (zz0:vs=[.int p,.int q]) (zz1:0<q) (zz2:q.natAbs.log2<450000) (zz3:∀ a H',H a=none->Same H H'->H' a=some (.tup [.int (nT p q),.int (nB p q)])->Q (.ref a) H')
def Nv {p q:Int}(h:q≠0)(k:q.natAbs.log2<450000):(sg p q).natAbs.log2<450000:=by
 have h1:=Z7i (p:=p) h;have h0:=N2 (p:=p) h;have h2:(sg p q).natAbs≠0:=J0
 have h3:q.natAbs≠0:=J0
 exact (Y1s h2).mpr (JD h1 ((Y1s h3).mp k))
noncomputable def muLow (σ:St)(_:Hp):Nat:=match σ with
 | [_,_,_,some (.int y),_]=>y.toNat
 | _=>0
abbrev Z1 (P:TU)(w:World)(K:TR)(mg:TB)(base:Heap):Prop:=Has P w K mg base 2 "_law_low" ["_law_top","_law_bottom"] spLow
theorem Z7w (D:Def K mg "_law_low" kR ["_law_top","_law_bottom"])(T:Blt mg):Z1 P w K mg base:=by
 refine D.h9 (N:=["_law_top","_law_bottom","_law_one","_law_other","_law_rest"]) fsc λH Q hr h nd=>?_;obtain⟨p,q,rfl,hq,c,k⟩:=h;refine⟨_,(Z9 (Zj (i:=2) nd rfl (Or.inl rfl) (Zt Km rfl T.abs Y1o (Z0 (pv 0) Z8)))
  (Z9 (Zj (i:=3) nd rfl (Or.inl rfl) (pv 1))
  (Z9 (T4 XS (Zo Sx (pv 3) Za (Zp _))
   (Z9 (Zj (i:=4) nd rfl (Or.inl rfl) (Zl Wj (pv 2) (pv 3)))
   (Z9 (Zj (i:=2) nd rfl (Or.inl rfl) (pv 3))
   (Zb (Zj (i:=3) nd rfl (Or.inl rfl) (pv 4))))))
  (Zb (Zh (Yx (Z0 (Zl Wd (pv 0) (pv 2)) (Z0 (Zl Wd (pv 1) (pv 2)) Z8)))))))),?_⟩
 refine⟨_,rfl,_,rfl,_,rfl,?_⟩;have b:q≠0:=J0
 have g:Int.gcd (if p<0 then -p else p) q=Int.gcd p q:=by split <;> simp
 refine Q8 (λσ H'=>H'=H/\∃ (x y:Int) (r:Option V),σ=[some (.int p),some (.int q),some (.int x),some (.int y),r]/\0<=x/\0<=y/\Int.gcd x y=Int.gcd p q) muLow ⟨rfl,_,q,none,rfl,(by split <;> omega),J0,g⟩ ?_
  (λσ H Q l f ⟨v,e,i,j,e1,e2,k,e3,z⟩=>⟨v,e,i,j,e1,e2,k,e3,f _ _ z⟩)
 rintro σ H' ⟨rfl,x,y,r,rfl,hx,d,hg⟩;refine⟨_,rfl,_,_,rfl,rfl,_,rfl,?_⟩;refine Xu (λh=>?_) (λh=>?_)
 ·have h':0<y:=XO h;refine⟨_,rfl,_,rfl,_,_,rfl,rfl,h',?_⟩;refine⟨_,rfl,_,rfl,⟨rfl,y,x % y,_,rfl,d,jo _ J0,gcd_step.trans hg⟩,?_⟩;show (x % y).toNat<y.toNat;have:=js x h';have:=jo x (show y≠0 by omega);omega
 have h':¬ 0<y:=λz=>h (XA z);have e:=Z73 x y hx J0;rw[hg] at e;have es:x=sg p q:=by
  unfold sg gI;rw[YF J0,<-e]
 subst es;refine⟨_,rfl,_,rfl,_,_,rfl,rfl,⟨N2 b,Nv b c⟩,_,rfl,_,rfl,_,_,rfl,rfl,⟨N2 b,Nv b c⟩,sz2,λa ha=>?_⟩;exact k a _ ha (Same.new ha) Zc
inductive spBagA (K:TR) (vs:TZ) (H:Hp) (Q:VK) (_z3:XK):Prop
 | mk (a:Addr) (at_:Nat) (ns:TV) (zz0:vs=[.ref a,.int (at_:Int)]) (zz1:SqL K H a (ns.map V.int)) (zz2:at_<=100) (zz3:∀ b H',H b=none->Same H H'->BagAt H' b 101->Q (.ref b) H')
theorem Z6u (D:Def K mg "_law_bag" kW UF)(c:Has P w K mg base 1 "_law_cell" UE (spCell K)):Has P w K mg base 2 "_law_bag" UF (spBagA K):=by
 refine D.h9 (N:=["_law_script","_law_at","_law_cell_here"]) fsc λH Q hr h nd=>?_;obtain⟨a,at_,ns,rfl,hS,e,k⟩:=h;refine⟨_,(Z9 (Zj (i:=2) nd rfl (Or.inl rfl) (Zf c hr (Z0 (pv 0) (Z0 (pv 1) Z8))))
  (Z9 (Y9 (PW.pt (Uc (Zo Z7t (pv 2) (Zl Mg Za Za) (Zp _)) (Vr (Zo Z5h (pv 2) (V9 Xx (Zl Mg Za Za)) (Zp _)))))
   (Zb (Zh (Xe (Z0 (pv 2) (Z0 Za Z8)))))
   Zw)
  (Zb (Zh (Xe (Z0 (Zl Wj (pv 2) Za) (Z0 (Zl X6 (pv 1) Za) Z8))))))),?_⟩
 refine⟨_,rfl,_,rfl,a,_,ns,rfl,hS,J0,J0,λz=>?_⟩;have b:∀ (x y:Int),0<=y->y<=101->∀ d,H d=none->Q (.ref d) (upd H d (.lst [.int x,.int y])):=λx y y0 f d hd=>k d _ hd (Same.new hd) ⟨x,y,Zc,y0,J0⟩;refine⟨_,rfl,_,_,rfl,rfl,Z53 J1 J1,_,_,rfl,rfl,_,rfl,?_⟩;refine Xu (λh1=>?_) (λh1=>?_)
 ·exact⟨_,rfl,sz2,λd hd=>b _ _ J1 J1 d hd⟩
 refine⟨_,rfl,_,_,rfl,rfl,Z53 J1 J1,_,rfl,_,_,rfl,rfl,_,rfl,?_⟩;refine Xu (λh2=>?_) (λh2=>?_)
 ·exact⟨_,rfl,sz2,λd hd=>b _ _ J1 J1 d hd⟩
 exact⟨_,rfl,_,_,rfl,rfl,Sy J1,_,rfl,_,_,rfl,rfl,sz2,λd hd=>b _ _ J0 J0 d hd⟩
inductive spTake (vs:TZ) (H:Hp) (Q:VK) (_z3:XK):Prop
 | mk (b:Addr) (m:Int) (n:Nat) (zz0:vs=[.ref b,.int m]) (zz1:BagAt H b n) (zz2:n<=1000000000) (zz3:0<m) (zz4:m.natAbs.log2<450000) (zz5:∀ (r:Int) (H':Hp),0<=r->r<m->BagAt H' b (n+1)->SameX b H H'->Q (.int r) H')
abbrev Z2 (P:TU)(w:World)(K:TR)(mg:TB)(base:Heap):Prop:=Has P w K mg base 1 "_law_take" ["_law_bag_here","_law_many"] spTake
theorem Z6i (D:Def K mg "_law_take" kC ["_law_bag_here","_law_many"]):Z2 P w K mg base:=by
 refine D.h9 (N:=["_law_bag_here","_law_many","_law_some"]) fsc λH Q hr h nd=>?_;obtain⟨b,m,n,rfl,⟨x,y,e,d,f⟩,hn,hm,c,q⟩:=h;have a:SqL K H b [.int x,.int y]:=SqL.of e;refine⟨_,(Z9 (Y9 (Zo Xp (Zg F6 (pv 0) Za) Za (Zp _))
   (Z9 (Zj (i:=2) nd rfl (Or.inl rfl) (Zl Wj (Zg F7 (pv 0) Za) (pv 1)))
   (Z9 (Uj (Zl Wd (Zg F7 (pv 0) Za) (pv 1)) (Tw (pv 0) Za V6))
   (Zb (Zh (pv 2)))))
   Zw)
  (Z9 (Uj (Zl Wj (Zl X6 (Zl X6 (Zl Zu (Zg F7 (pv 0) Za) Za) (Zl Zu (Zl Zu Za (Zg F6 (pv 0) Za)) (Zg F6 (pv 0) Za))) Za) Za) (Tw (pv 0) Za V6))
  (Z9 (Uj (Zl X6 (Zg F6 (pv 0) Za) Za) (Tw (pv 0) Za V6))
  (Zb (Zh (Zl Wj (Zl Wj (Zl Zu (Zg F7 (pv 0) Za) Za) Za) (pv 1))))))),?_⟩
 refine⟨_,rfl,b,_,_,rfl,rfl,a,rfl,_,rfl,?_⟩;refine Xu (λh=>?_) (λh=>?_)
 ·refine⟨_,rfl,b,_,_,rfl,rfl,a,_,rfl,_,_,rfl,rfl,hm,?_⟩;refine⟨_,rfl,b,_,_,rfl,rfl,a,_,rfl,_,_,rfl,rfl,⟨J0,c⟩,_,rfl,b,_,_,0,rfl,rfl,e,rfl,?_⟩;refine⟨_,rfl,?_⟩;exact q _ _ (jo _ J0) (js _ hm) ⟨_,y,Zc,d,J0⟩ (SameX.upd b H _)
 refine⟨_,rfl,b,_,_,rfl,rfl,a,_,_,rfl,rfl,C3 J1 J1,_,rfl,b,_,_,rfl,rfl,a,_,_,rfl,rfl,C4 J1 J1,_,rfl,b,_,_,rfl,rfl,a,_,_,rfl,rfl,C3 J0 J0,_,_,rfl,rfl,_,_,rfl,rfl,_,_,rfl,rfl,Sy J1,_,rfl,b,_,_,0,rfl,rfl,e,rfl,?_⟩;refine⟨_,rfl,b,_,_,rfl,rfl,SqL.of Zc,_,_,rfl,rfl,_,rfl,b,_,_,1,rfl,rfl,Zc,rfl,?_⟩;refine⟨_,rfl,b,_,_,rfl,rfl,SqL.of Zc,_,_,rfl,rfl,C3 J1 J1,_,_,rfl,rfl,Sy J1,_,rfl,_,_,rfl,rfl,hm,?_⟩;exact q _ _ (jo _ J0) (js _ hm) ⟨_,y+1,Zc,J0,J0⟩ ((SameX.upd b H _).trans (SameX.upd b _ _))
inductive spGcd (vs:TZ) (H:Hp) (Q:VK) (_z3:XK):Prop
 | mk (a b:Int) (zz0:vs=[.int a,.int b]) (zz1:Q (.int (Int.gcd a b:Nat)) H)
def Z7l:FnScope ["one","other","rest"] UG (defScope iM):=fsc
noncomputable def muGcd (σ:St)(_:Hp):Nat:=match σ with
 | [_,some (.int y),_]=>y.natAbs
 | _=>0
def Z4g {y:Int}(h:(!decide (V.int y=V.int 0))=true):y≠0:=by
 intro z;subst z;simp at h
def Z4v {y:Int}(h:¬ (!decide (V.int y=V.int 0))=true):y=0:=by
 apply YE;intro z;apply h;have:¬ V.int y=V.int 0:=λq=>z (V.int.inj q);simp[this]
theorem Z7y (D:Def K mg "common_divisor" iM UG)(T:Blt mg):Has P w K mg base 1 "common_divisor" UG spGcd:=by
 refine D.h9 Z7l λH Q hr h nd=>?_;obtain⟨a,b,rfl,q⟩:=h;refine⟨_,(Z9 (T4 XS (Zo Qo (pv 1) Za (Zp _))
   (Z9 (Zj (i:=2) nd rfl (Or.inl rfl) (Zl Z3k (pv 0) (pv 1)))
   (Z9 (Zj (i:=0) nd rfl (Or.inl rfl) (pv 1))
   (Zb (Zj (i:=1) nd rfl (Or.inl rfl) (pv 2))))))
  (Zb (Zh (Zt Km rfl T.abs Y1o (Z0 (pv 0) Z8))))),?_⟩
 refine Q8 (λσ H'=>H'=H/\∃ (x y:Int) (r:Option V),σ=[some (.int x),some (.int y),r]/\Int.gcd x y=Int.gcd a b) muGcd ⟨rfl,a,b,none,rfl,rfl⟩ ?_
  (λσ H Q c f ⟨v,e,e1,k,e3,z⟩=>⟨v,e,e1,k,e3,f _ _ z⟩)
 rintro σ H' ⟨rfl,x,y,r,rfl,hg⟩;refine⟨_,rfl,rfl,_,rfl,?_⟩;refine Xu (λh=>?_) (λh=>?_)
 ·have h':y≠0:=Z4g h;refine⟨_,rfl,_,rfl,_,_,rfl,rfl,h',?_⟩;refine⟨_,rfl,_,rfl,⟨rfl,y,x.fmod y,_,rfl,(Ck x y).trans hg⟩,?_⟩;exact Z23 x h'
 have h':y=0:=Z4v h;subst h';refine⟨_,rfl,_,rfl,?_⟩;have e:(if x<0 then -x else x)=((Int.gcd a b:Nat):Int):=by
  rw[<-hg];simp;split <;> omega
 rw[e];exact q
inductive spLowest (vs:TZ) (H:Hp) (Q:VK) (_z3:XK):Prop
 | mk (p q:Int) (zz0:vs=[.int p,.int q]) (zz1:q≠0) (zz2:q.natAbs.log2<450000) (zz3:∀ a H',H a=none->Same H H'->H' a=some (.tup [.int (nT p q),.int (nB p q)])->Q (.ref a) H')
abbrev Z4 (P:TU)(w:World)(K:TR)(mg:TB)(base:Heap):Prop:=Has P w K mg base 2 "lowest" UH spLowest
theorem Z18 (D:Def K mg "lowest" jJ UH)(c:Has P w K mg base 1 "common_divisor" UG spGcd):Z4 P w K mg base:=by
 refine D.h9 (N:=["top","bottom","divisor"]) fsc λH Q hr h nd=>?_;obtain⟨p,q,rfl,hq,b,k⟩:=h;refine⟨_,(Z9 (Zj (i:=2) nd rfl (Or.inl rfl) (Zf c hr (Z0 (pv 0) (Z0 (pv 1) Z8))))
  (Z9 (Vj (Y9 (Zo Ud (pv 1) Za (Zp _))
   (Zb (Zj (i:=2) nd rfl (Or.inl rfl) (V9 Xx (pv 2))))
   Zw))
  (Zb (Zh (Yx (Z0 (Zl Wd (pv 0) (pv 2)) (Z0 (Zl Wd (pv 1) (pv 2)) Z8))))))),?_⟩
 refine⟨_,rfl,_,rfl,_,_,rfl,?_⟩;refine⟨λσ H'=>H'=H/\σ=[some (.int p),some (.int q),some (.int (sg p q))],?_,?_⟩
 ·refine⟨_,rfl,_,_,rfl,rfl,_,rfl,?_⟩;refine Xu (λh=>?_) (λh=>?_)
  ·have h':q<0:=XO h;refine⟨_,rfl,_,rfl,rfl,?_⟩;have e:sg p q=-((Int.gcd p q:Nat):Int):=by unfold sg gI;rw[YH h']
   rw[e];rfl
  have h':¬ q<0:=λz=>h (XA z);refine⟨rfl,?_⟩;have e:sg p q=((Int.gcd p q:Nat):Int):=by unfold sg gI;rw[YF h']
  rw[e];rfl
 rintro σ H' ⟨rfl,rfl⟩;refine⟨_,rfl,_,rfl,_,_,rfl,rfl,⟨N2 hq,Nv hq b⟩,_,rfl,_,rfl,_,_,rfl,rfl,⟨N2 hq,Nv hq b⟩,sz2,λa ha=>?_⟩;exact k a _ ha (Same.new ha) Zc
inductive spTwo (K:TR) (op:Rat->Rat->Rat) (vs:TZ) (H:Hp) (Q:VK) (_z3:XK):Prop
 | mk (a b:Addr) (r s:Rat) (n:Nat) (zz0:vs=[.ref a,.ref b]) (zz1:SqT K H a [.int r.1,.int r.2]) (zz2:SqT K H b [.int s.1,.int s.2]) (zz3:Good n r) (zz4:Good n s) (zz5:n<=200000) (zz6:∀ c H',H c=none->Same H H'->H' c=some (.tup [.int (op r s).1,.int (op r s).2])->Q (.ref c) H')
def W4 {n:Nat}{x y:Int}(h:Bd n x)(k:Bd n y)(hn:n<=200000):(x*y).natAbs.log2<450000:=Bd.log (h.mul k) J0
abbrev Z7 (P:TU)(w:World)(K:TR)(mg:TB)(base:Heap):Prop:=Has P w K mg base 3 "_law_plus" UI (spTwo K addR)
theorem Z41 (D:Def K mg "_law_plus" j1 UI)(e:Z1 P w K mg base):Z7 P w K mg base:=by
 refine D.h9 (N:=UI) fsc λH Q hr h nd=>?_;obtain⟨a,b,r,s,n,rfl,d,hB,c,gs,hn,k⟩:=h;refine⟨_,(Zb (Zh (Zf e hr (Z0 (Zl X6 (Zl Zu (Zg Yq (pv 0) Za) (Zg Ym (pv 1) Za)) (Zl Zu (Zg Yq (pv 1) Za) (Zg Ym (pv 0) Za))) (Z0 (Zl Zu (Zg Ym (pv 0) Za) (Zg Ym (pv 1) Za)) Z8))))),?_⟩;exact⟨_,rfl,_,_,_,rfl,rfl,d,_,rfl,_,_,_,rfl,rfl,hB,_,_,rfl,rfl,c.b1.mulOk gs.b2 J0 J0,_,rfl,_,_,_,rfl,rfl,hB,_,rfl,_,_,_,rfl,rfl,d,_,_,rfl,rfl,gs.b1.mulOk c.b2 J0 J0,_,_,rfl,rfl,_,rfl,_,_,_,rfl,rfl,d,_,rfl,_,_,_,rfl,rfl,hB,_,_,rfl,rfl,c.b2.mulOk gs.b2 J0 J0,_,_,rfl,XU c.pos gs.pos,W4 c.b2 gs.b2 hn,k⟩
abbrev Z6 (P:TU)(w:World)(K:TR)(mg:TB)(base:Heap):Prop:=Has P w K mg base 3 "_law_minus" UI (spTwo K subR)
theorem Z1b (D:Def K mg "_law_minus" jN UI)(e:Z1 P w K mg base):Z6 P w K mg base:=by
 refine D.h9 (N:=UI) fsc λH Q hr h nd=>?_;obtain⟨a,b,r,s,n,rfl,d,hB,c,gs,hn,k⟩:=h;refine⟨_,(Zb (Zh (Zf e hr (Z0 (Zl Wz (Zl Zu (Zg Yq (pv 0) Za) (Zg Ym (pv 1) Za)) (Zl Zu (Zg Yq (pv 1) Za) (Zg Ym (pv 0) Za))) (Z0 (Zl Zu (Zg Ym (pv 0) Za) (Zg Ym (pv 1) Za)) Z8))))),?_⟩;exact⟨_,rfl,_,_,_,rfl,rfl,d,_,rfl,_,_,_,rfl,rfl,hB,_,_,rfl,rfl,c.b1.mulOk gs.b2 J0 J0,_,rfl,_,_,_,rfl,rfl,hB,_,rfl,_,_,_,rfl,rfl,d,_,_,rfl,rfl,gs.b1.mulOk c.b2 J0 J0,_,_,rfl,rfl,_,rfl,_,_,_,rfl,rfl,d,_,rfl,_,_,_,rfl,rfl,hB,_,_,rfl,rfl,c.b2.mulOk gs.b2 J0 J0,_,_,rfl,XU c.pos gs.pos,W4 c.b2 gs.b2 hn,k⟩
theorem Z1a (D:Def K mg "_law_times" jM UI)(e:Z1 P w K mg base):Has P w K mg base 3 "_law_times" UI (spTwo K mulR'):=by
 refine D.h9 (N:=UI) fsc λH Q hr h nd=>?_;obtain⟨a,b,r,s,n,rfl,d,hB,c,gs,hn,k⟩:=h;refine⟨_,(Zb (Zh (Zf e hr (Z0 (Zl Zu (Zg Yq (pv 0) Za) (Zg Yq (pv 1) Za)) (Z0 (Zl Zu (Zg Ym (pv 0) Za) (Zg Ym (pv 1) Za)) Z8))))),?_⟩;exact⟨_,rfl,_,_,_,rfl,rfl,d,_,rfl,_,_,_,rfl,rfl,hB,_,_,rfl,rfl,c.b1.mulOk gs.b1 J0 J0,_,rfl,_,_,_,rfl,rfl,d,_,rfl,_,_,_,rfl,rfl,hB,_,_,rfl,rfl,c.b2.mulOk gs.b2 J0 J0,_,_,rfl,XU c.pos gs.pos,W4 c.b2 gs.b2 hn,k⟩
end
def p6:(10:Int) ^ (6:Int).toNat=1000000:=by decide +kernel
def lg6:(2*(10:Int) ^ (6:Int).toNat+1).natAbs.log2<450000:=by decide +kernel
def Z7c {x:Int}(h1:-2000000<x)(h2:x<2000000):Bd 21 x:=by
 unfold Bd;have e:(2:Nat) ^ 21=2097152:=J1
 rw[e];omega
def Zz {n:Nat}(h:n<=1000):n<=sizeLine:=YR h J1
def Z1h {r:Rat}(hp:0<r.2)(hc:Int.gcd r.1 r.2=1):nrm r.1 r.2=r:=by
 have e:=Xt r.1 r.2;have hq:r.2≠0:=J0
 refine Ui (Mj hq) hp (Z1k hq) hc ?_;exact e
section
variable {P:TU}
inductive spWhole (vs:TZ) (H:Hp) (Q:VK) (_z3:XK):Prop
 | mk (i:Int) (zz0:vs=[.int i]) (zz1:Q (.bl true) H)
def Z3o (D:Def K mg "_law_whole" jS UJ)(T:Blt mg):Has P w K mg base 1 "_law_whole" UJ spWhole:=by
 refine D.h9 (N:=UJ) fsc λH Q hr h nd=>?_;obtain⟨i,rfl,q⟩:=h;refine⟨_,(Zb (Zh (Jb (Zt Wb rfl T.isinstance JR (Z0 (pv 0) (Z0 (Qk T.int zY) Z8))) (Me (Z0q (Zt Wb rfl T.isinstance JR (Z0 (pv 0) (Z0 (Qk T.bool Y1j) Z8)))))))),?_⟩;refine⟨_,rfl,_,_,_,_,rfl,TyOf.int i,U1,_,rfl,V0 ?_⟩;exact⟨_,rfl,_,_,_,_,rfl,TyOf.int i,Tf,_,rfl,q⟩
inductive spIsRt (K:TR) (vs:TZ) (H:Hp) (Q:VK) (_z3:XK):Prop
 | mk (a:Addr) (r:Rat) (n:Nat) (zz0:vs=[.ref a]) (zz1:SqT K H a [.int r.1,.int r.2]) (zz2:Good n r) (zz3:n<=400000) (zz4:∀ H',Same H H'->Q (.bl true) H')
theorem Z6o (D:Def K mg "_law_is_ratio" jB UJ)(T:Blt mg)(f:Has P w K mg base 1 "_law_whole" UJ spWhole)(l:Z1 P w K mg base):Has P w K mg base 3 "_law_is_ratio" UJ (spIsRt K):=by
 refine D.h9 (N:=UJ) fsc λH Q hr h nd=>?_;obtain⟨a,r,n,rfl,b,g,hn,k⟩:=h;have j:=zB (Fe hr);refine⟨_,(Z9 (Y9 (PW.pt (Uc (Xz (Yp (Zt Tm rfl T.isinstance JR (Z0 (pv 0) (Z0 (Qk T.tuple XV) Z8))))) (Vr (Zo Qo (Zt Zq rfl T.len GL (Z0 (pv 0) Z8)) Za (Zp _)))))
   (Zb (Zh W7))
   Zw)
  (Z9 (Y9 (PW.pt (Uc (Xz (Yp (Zf f hr (Z0 (Zg Yq (pv 0) Za) Z8)))) (Uc (Xz (Yp (Zf f hr (Z0 (Zg Ym (pv 0) Za) Z8)))) (Vr (Zo Ud (Zg Ym (pv 0) Za) Za (Zp _))))))
   (Zb (Zh W7))
   Zw)
  (Zb (Zh (Yu (Jd (K:=K) j) (Zf l hr (Z0 (Zg Yq (pv 0) Za) (Z0 (Zg Ym (pv 0) Za) Z8))) (pv 0) (Zp _)))))),?_⟩
 refine⟨_,rfl,_,_,_,_,rfl,b,U1,_,rfl,Xc ?_⟩;refine⟨_,rfl,a,_,rfl,.inr b,rfl,_,rfl,F9 rfl ?_⟩;refine⟨_,rfl,_,_,_,rfl,rfl,b,_,rfl,_,rfl,Xc ?_⟩;refine⟨_,rfl,_,_,_,rfl,rfl,b,_,rfl,_,rfl,Xc ?_⟩;refine⟨_,rfl,_,_,_,rfl,rfl,b,_,_,rfl,rfl,_,rfl,?_⟩;have pos:=g.pos;have e0:decide (r.2<1)=false:=XF J0;rw[e0];refine Xc ?_;refine⟨_,rfl,_,_,_,rfl,rfl,b,_,rfl,_,_,_,rfl,rfl,b,_,_,rfl,pos,g.b2.log J0,λc H2 m S2 e2=>?_⟩;have i:=Z1h pos g.cop;have d:H2 c=some (.tup ([r.1,r.2].map V.int)):=by
  rw[e2];show some (HO.tup [.int (nrm r.1 r.2).1,.int (nrm r.1 r.2).2])=_;rw[i];rfl
 have e:SqT K H2 a ([r.1,r.2].map V.int):=Zx S2 b;refine⟨_,rfl,c,a,[r.1,r.2],[r.1,r.2],rfl,rfl,SqT.of d,e,?_⟩;rw[XA rfl];exact k _ S2
inductive spParted (K:TR) (vs:TZ) (H:Hp) (Q:VK) (_z3:XK):Prop
 | mk (a b:Addr) (r s:Rat) (n:Nat) (zz0:vs=[.ref a,.ref b]) (zz1:SqT K H a [.int r.1,.int r.2]) (zz2:SqT K H b [.int s.1,.int s.2]) (zz3:Good n r) (zz4:Good n s) (zz5:0<s.1) (zz6:n<=200000) (zz7:∀ c H',H c=none->Same H H'->H' c=some (.tup [.int (nrm (r.1*s.2) (r.2*s.1)).1,.int (nrm (r.1*s.2) (r.2*s.1)).2])->Q (.ref c) H')
theorem Z16 (D:Def K mg "_law_parted" iW UI)(d:Z1 P w K mg base):Has P w K mg base 3 "_law_parted" UI (spParted K):=by
 refine D.h9 (N:=["_law_one","_law_other","_law_top","_law_bottom"]) fsc λH Q hr h nd=>?_;obtain⟨a,b,r,s,n,rfl,e,hB,c,gs,hs,hn,k⟩:=h;refine⟨_,(Z9 (Zj (i:=2) nd rfl (Or.inl rfl) (Zl Zu (Zg Yq (pv 0) Za) (Zg Ym (pv 1) Za)))
  (Z9 (Zj (i:=3) nd rfl (Or.inl rfl) (Zl Zu (Zg Ym (pv 0) Za) (Zg Yq (pv 1) Za)))
  (Z9 (Y9 (Zo Ud (pv 3) Za (Zp _))
   (Zb (Zh (Zf d hr (Z0 (V9 Xx (pv 2)) (Z0 (V9 Xx (pv 3)) Z8)))))
   Zw)
  (Zb (Zh (Zf d hr (Z0 (pv 2) (Z0 (pv 3) Z8)))))))),?_⟩
 have hp:=XU c.pos hs;refine⟨_,rfl,_,_,_,rfl,rfl,e,_,rfl,_,_,_,rfl,rfl,hB,_,_,rfl,rfl,c.b1.mulOk gs.b2 J0 J0,?_⟩;refine⟨_,rfl,_,_,_,rfl,rfl,e,_,rfl,_,_,_,rfl,rfl,hB,_,_,rfl,rfl,c.b2.mulOk gs.b1 J0 J0,?_⟩;refine⟨_,rfl,_,_,rfl,rfl,_,rfl,?_⟩;refine Xu (λh=>?_) (λh=>?_)
 ·have:=XO h;omega
 exact⟨_,rfl,_,rfl,_,_,rfl,hp,W4 c.b2 gs.b1 hn,k⟩
end
section
variable {H:Hp}{a:Addr}{rs:UA}
theorem RowAt.same {H':Hp}(h:RowAt K H a rs)(S:Same H H'):RowAt K H' a rs:=h.ext (Ext.same S)
end
def Z81 {z m:Int}(h0:0<=z)(h1:z<m):∃ i:Nat,z=(i:Int)/\(i:Int)<m:=⟨z.toNat,by omega,by omega⟩
def Z4j {c:Nat}(h:c<=1000):(c:Int).natAbs.log2<450000:=by
 have e:(c:Int).natAbs=c:=J0
 rw[e];rcases Y1J c with z | z
 ·subst z;decide
 exact JD (Nat.log2_le_self c) J0
def bdS {n:Nat}{x:Int}(h:x.natAbs<2 ^ n):Bd n x:=h
section
variable {P:TU}
def Dt (D:Def K mg "is_whole" jA ["value"])(T:Blt mg):Has P w K mg base 1 "is_whole" ["value"] spWhole:=by
 refine D.h9 (N:=["value"]) fsc λH Q hr h nd=>?_;obtain⟨i,rfl,q⟩:=h;refine⟨_,(Zb (Zh (Jb (Zt Wb rfl T.isinstance JR (Z0 (pv 0) (Z0 (Qk T.int zY) Z8))) (Me (Z0q (Zt Wb rfl T.isinstance JR (Z0 (pv 0) (Z0 (Qk T.bool Y1j) Z8)))))))),?_⟩;refine⟨_,rfl,_,_,_,_,rfl,TyOf.int i,U1,_,rfl,V0 ?_⟩;exact⟨_,rfl,_,_,_,_,rfl,TyOf.int i,Tf,_,rfl,q⟩
def Z15 (D:Def K mg "ratio" jI UH)(b:Has P w K mg base 1 "is_whole" ["value"] spWhole)(c:Z4 P w K mg base):Has P w K mg base 3 "ratio" UH spLowest:=by
 refine D.h9 (N:=UH) fsc λH Q hr h nd=>?_;obtain⟨p,q,rfl,hq,a,k⟩:=h;refine⟨_,(Z9 (Y9 (PW.pt (Uc (Xz (Yp (Zf b hr (Z0 (pv 0) Z8)))) (Vr (Xz (Yp (Zf b hr (Z0 (pv 1) Z8)))))))
   (Zb Qi)
   Zw)
  (Z9 (Y9 (Zo Xp (pv 1) Za (Zp _))
   (Zb Qi)
   Zw)
  (Zb (Zh (Zf c hr (Z0 (pv 0) (Z0 (pv 1) Z8))))))),?_⟩
 refine⟨_,rfl,p,rfl,_,rfl,Xc ⟨_,rfl,q,rfl,_,rfl,Xc ?_⟩⟩;refine⟨_,rfl,rfl,_,rfl,Qz (λz=>hq (V.int.inj z)) ?_⟩;exact⟨_,rfl,_,rfl,p,q,rfl,hq,a,k⟩
end
noncomputable def fldsT (a b c d e:V):List (Str × V):=putF "lack" e (putF "bottom" d (putF "heads" c (putF "owners" b (putF "lines" a []))))
section
variable {a b c d e:V}
def W9:(fldsT a b c d e).lookup ("lines":Str)=some a:=by
 unfold fldsT;rw[Y3,YF ZZ,Y3,YF ZZ,Y3,YF ZZ,Y3,YF ZZ,Y3,YH rfl]
def Xh:(fldsT a b c d e).lookup ("owners":Str)=some b:=by
 unfold fldsT;rw[Y3,YF ZZ,Y3,YF ZZ,Y3,YF ZZ,Y3,YH rfl]
def Vb:(fldsT a b c d e).lookup ("heads":Str)=some c:=by
 unfold fldsT;rw[Y3,YF ZZ,Y3,YF ZZ,Y3,YH rfl]
def Vc:(fldsT a b c d e).lookup ("bottom":Str)=some d:=by
 unfold fldsT;rw[Y3,YF ZZ,Y3,YH rfl]
def Mw:(fldsT a b c d e).lookup ("lack":Str)=some e:=by
 unfold fldsT;rw[Y3,YH rfl]
end
noncomputable def ownI (m:Nat)(T:UC):List Int:=(List.range m).map λi=>(T.own i:Int)
noncomputable def hdI (n:Nat)(T:UC):List Int:=(List.range n).map λj=>(T.hd j:Int)
noncomputable def lineI (n:Nat)(T:UC)(i:Nat):List Int:=(List.range (n+1)).map λj=>T.L i j
def Vl {m:Nat}(h:i<m):(ownI m T)[i]?=some (T.own i:Int):=by unfold ownI;simp[h]
def Ul {n:Nat}(h:j<n):(hdI n T)[j]?=some (T.hd j:Int):=by unfold hdI;simp[h]
def W8 {n:Nat}(h:j<=n):(lineI n T i)[j]?=some (T.L i j):=by unfold lineI;simp[show j<n+1 by omega]
def Vv (m:Nat)(T:UC):(ownI m T).length=m:=by unfold ownI;simp
def Vn (n:Nat)(T:UC):(hdI n T).length=n:=by unfold hdI;simp
def Yt (n:Nat)(T:UC)(i:Nat):(lineI n T i).length=n+1:=by unfold lineI;simp
def Xk {xs:TV}{z:Int}(h:xs[i]?=some z):(xs.map V.int)[i]?=some (V.int z):=by rw[YI,h];rfl
def TabAt (C:Addr)(H:Hp)(p:Addr)(m n lk:Nat)(T:UC):Prop:=∃ (dx la c ha:Addr) (las:TJ),H p=some (.ins C dx (fldsT (.ref la) (.ref c) (.ref ha) (.int T.b) (.int (lk:Int))))/\H la=some (.lst (las.map V.ref))/\las.length=m ∧
 (∀ (i:Nat) (a:Addr),las[i]?=some a->H a=some (.lst ((lineI n T i).map V.int)))/\H c=some (.lst ((ownI m T).map V.int))/\H ha=some (.lst ((hdI n T).map V.int))
def TabAt.same {p:Addr}{m n lk:Nat}(h:TabAt C H p m n lk T)(S:Same H H'):TabAt C H' p m n lk T:=by
 obtain⟨dx,la,b,ha,las,h1,h2,h3,h4,c,d⟩:=h;exact⟨dx,la,b,ha,las,S _ _ h1,S _ _ h2,h3,λi a e=>S _ _ (h4 i a e),S _ _ c,S _ _ d⟩
structure TabOk (m n:Nat)(T:UC):Prop where
 oi:∀ i k,i<m->k<m->T.own i=T.own k->i=k
 hi:∀ i k,i<n->k<n->T.hd i=T.hd k->i=k
 ne:∀ i j,i<m->j<n->T.own i≠T.hd j
def TabOk.of {m n:Nat}{col:Nat->_v.Vec}{rhs:_v.Vec}(I:_v.Inv m n col rhs T):TabOk m n T:=⟨λ_ _ h1 h2 e=>I.ownInj h1 h2 e,λ_ _ h1 h2 e=>I.hdInj h1 h2 e,λ_ _ h1 h2=>I.ne h1 h2⟩
structure TabC (K:TR)(mg:TB)(C:Addr):Prop where
 cl:Cls K C
 nL:NoAttr K C "lines"
 nO:NoAttr K C "owners"
 nH:NoAttr K C "heads"
 nB:NoAttr K C "bottom"
 nK:NoAttr K C "lack"
 mgC:mg "Table"=some (.ref C)
def Ms {a:Addr}{ns:TV}{z:Int}{Q:VK}(h:H a=some (.lst (ns.map V.int)))(q:Q (.bl (decide (z∈ns))) H):rIn K false (.int z) (.ref a) H Q:=by
 refine⟨a,_,rfl,.inl (SqL.of h),rfl,Sh _,?_⟩;show Q (.bl (inV (.int z) (ns.map V.int))) H;rw[Pd];exact q
def mem_ownI {m v:Nat}:((v:Int)∈ownI m T) ↔ ∃ i,i<m/\T.own i=v:=by
 unfold ownI;simp only [YN,XI];constructor
 ·rintro ⟨i,hi,e⟩;exact⟨i,hi,J0⟩
 rintro ⟨i,hi,e⟩;exact⟨i,hi,J0⟩
def mem_hdI {n v:Nat}:((v:Int)∈hdI n T) ↔ ∃ i,i<n/\T.hd i=v:=by
 unfold hdI;simp only [YN,XI];constructor
 ·rintro ⟨i,hi,e⟩;exact⟨i,hi,J0⟩
 rintro ⟨i,hi,e⟩;exact⟨i,hi,J0⟩
section
variable {P:TU}
inductive spLineOf (C:Addr) (vs:TZ) (H:Hp) (Q:VK) (_z3:XK):Prop
 | mk (p:Addr) (m n lk i:Nat) (T:UC) (zz0:vs=[.ref p,.int (T.own i:Int)]) (zz1:TabAt C H p m n lk T) (zz2:TabOk m n T) (zz3:i<m) (zz4:m<=1000) (zz5:∀ a,H a=some (.lst ((lineI n T i).map V.int))->Q (.ref a) H)
theorem Z19 (D:Def K mg "line_of" jK UK)(tc:TabC K mg C):Has P w K mg base 1 "line_of" UK (spLineOf C):=by
 refine D.h9 (N:=UK) fsc λH Q hr h nd=>?_;obtain⟨p,m,n,lk,i,T,rfl,⟨dx,la,b,ha,las,h1,h2,h3,h4,a,c⟩,ok,hi,hm,k⟩:=h;refine⟨_,(Zb (Zh (Zg Zy (Yg (pv 0) rfl) (W6 XJ jv jw (Qq (K:=K)) (Yg (pv 0) rfl) (Z0 (pv 1) Z8))))),?_⟩;have ea:las[i]?=some (las[i]'J0):=ZJ
 refine⟨_,rfl,p,C,dx,_,_,rfl,h1,tc.cl,tc.nL,W9,_,rfl,p,C,dx,_,_,rfl,h1,tc.cl,tc.nO,Xh,.inl ⟨rfl,_,SqL.of a⟩,_,rfl,?_⟩;refine⟨b,ownI m T,_,i,rfl,rfl,SqL.of a,Vl hi,λk hk e=>?_,by rw[Vv];exact hm,?_⟩
 ·rw[Vl J0] at e;have:=ok.oi k i J0 hi (by have:=YU e;omega);omega
 exact⟨la,_,_,_,rfl,rfl,SqL.of h2,Zk (by rw[YI,ea];rfl),k _ (h4 i _ ea)⟩
inductive spEndOf (C:Addr) (vs:TZ) (H:Hp) (Q:VK) (_z3:XK):Prop
 | mk (p:Addr) (m n lk v:Nat) (T:UC) (zz0:vs=[.ref p,.int (v:Int)]) (zz1:TabAt C H p m n lk T) (zz2:TabOk m n T) (zz3:m<=1000) (zz4:n<=1000) (zz5:Q (.int (_v.endOf m n T v)) H)
def TabOk.endO {m n:Nat}(h:TabOk m n T){i:Nat}(hi:i<m):_v.endOf m n T (T.own i)=T.L i n:=by
 unfold _v.endOf;rw[_v.sm_one (k:=i) hi λk hk a=>YF λz=>a (h.oi k i hk hi z),YH rfl]
def TabOk.numH {m n:Nat}(h:TabOk m n T){i j:Nat}(hj:j<n):_v.numAt n T i (T.hd j)=T.L i j:=by
 unfold _v.numAt;rw[_v.sm_one (k:=j) hj λk hk a=>YF λz=>a (h.hi k j hk hj z),YH rfl]
def Lb {n:Nat}:atI ((lineI n T i).map V.int) (-1)=some (V.int (T.L i n)):=by
 unfold atI ixN;rw[YB,Yt,YF J1,YH J0];show ((lineI n T i).map V.int)[(-1+((n+1:Nat):Int)).toNat]?=_;have:(-1+((n+1:Nat):Int)).toNat=n:=J0
 rw[this];exact Xk (W8 (YJ n))
theorem Z48 (D:Def K mg "end_of" j7 UL)(tc:TabC K mg C)(d:Has P w K mg base 1 "line_of" UK (spLineOf C)):Has P w K mg base 2 "end_of" UL (spEndOf C):=by
 refine D.h9 (N:=UL) fsc λH Q hr h nd=>?_;obtain⟨p,m,n,lk,v,T,rfl,b,ok,hm,hn,q⟩:=h;obtain⟨dx,la,f,ha,las,h1,h2,h3,h4,c,g⟩:=id b;refine⟨_,(Zb (Zh (Vt (Zo Wh (pv 1) (Yg (pv 0) rfl) rfl) (Zg Zy (Zf d hr (Z0 (pv 0) (Z0 (pv 1) Z8))) (V9 Xx Za)) Za))),?_⟩;refine⟨_,rfl,_,rfl,p,C,dx,_,_,rfl,h1,tc.cl,tc.nO,Xh,Ms c ⟨_,rfl,?_⟩⟩;refine Xu (λh=>?_) (λh=>?_)
 ·obtain⟨i,hi,e⟩:=mem_ownI.mp (XO h);subst e;refine⟨_,rfl,_,rfl,p,m,n,lk,i,T,rfl,b,ok,hi,hm,λa ea=>⟨_,rfl,?_⟩⟩;refine⟨a,_,_,_,rfl,rfl,SqL.of ea,Lb,?_⟩;rw[ok.endO hi] at q;exact q
 have:_v.endOf m n T v=0:=_v.sm_zero λi hi=>YF λz=>h (XA (mem_ownI.mpr ⟨i,hi,z⟩));rw[this] at q;exact q
inductive spNumAt (C:Addr) (vs:TZ) (H:Hp) (Q:VK) (_z3:XK):Prop
 | mk (p:Addr) (m n lk i v:Nat) (T:UC) (zz0:vs=[.ref p,.int (T.own i:Int),.int (v:Int)]) (zz1:TabAt C H p m n lk T) (zz2:TabOk m n T) (zz3:i<m) (zz4:m<=1000) (zz5:n<=1000) (zz6:Q (.int (_v.numAt n T i v)) H)
theorem Z3y (D:Def K mg "number_at" iY UM)(tc:TabC K mg C)(d:Has P w K mg base 1 "line_of" UK (spLineOf C)):Has P w K mg base 2 "number_at" UM (spNumAt C):=by
 refine D.h9 (N:=UM) fsc λH Q hr h nd=>?_;obtain⟨p,m,n,lk,i,v,T,rfl,b,ok,hi,hm,hn,q⟩:=h;obtain⟨dx,la,f,ha,las,h1,h2,h3,h4,g,c⟩:=id b;refine⟨_,(Zb (Zh (Vt (Zo Wh (pv 2) (Yg (pv 0) rfl) rfl) (Zg Zy (Zf d hr (Z0 (pv 0) (Z0 (pv 1) Z8))) (W6 XJ jv jw (Qq (K:=K)) (Yg (pv 0) rfl) (Z0 (pv 2) Z8))) Za))),?_⟩;refine⟨_,rfl,_,rfl,p,C,dx,_,_,rfl,h1,tc.cl,tc.nH,Vb,Ms c ⟨_,rfl,?_⟩⟩;refine Xu (λh=>?_) (λh=>?_)
 ·obtain⟨j,hj,e⟩:=mem_hdI.mp (XO h);subst e;refine⟨_,rfl,_,rfl,p,m,n,lk,i,T,rfl,b,ok,hi,hm,λa ea=>?_⟩;refine⟨_,rfl,p,C,dx,_,_,rfl,h1,tc.cl,tc.nH,Vb,.inl ⟨rfl,_,SqL.of c⟩,_,rfl,ha,hdI n T,_,j,rfl,rfl,SqL.of c,Ul hj,λk hk e=>?_,by rw[Vn];exact hn,?_⟩
  ·rw[Ul J0] at e;have:=ok.hi k j J0 hj (by have:=YU e;omega);omega
  refine⟨a,_,_,_,rfl,rfl,SqL.of ea,Zk (Xk (W8 (JH hj))),?_⟩;rw[ok.numH hj] at q;exact q
 have:_v.numAt n T i v=0:=_v.sm_zero λj hj=>YF λz=>h (XA (mem_hdI.mpr ⟨j,hj,z⟩));rw[this] at q;exact q
noncomputable def helps (lk:Nat)(T:UC)(i j:Nat):Bool:=decide (0<T.L i j) && !decide (T.hd j=lk)
noncomputable def foundI (n lk:Nat)(T:UC)(i:Nat):List Int:=((List.range n).filter λj=>helps lk T i j).map λj=>(T.hd j:Int)
def Ri (n lk:Nat)(T:UC)(i:Nat):foundI (n+1) lk T i=foundI n lk T i++if helps lk T i n then [(T.hd n:Int)] else []:=by
 unfold foundI;rw[GG,JV,XH]
 congr 1
 cases h:helps lk T i n <;> simp[h]
inductive spHelping (C:Addr) (vs:TZ) (H:Hp) (Q:VK) (_z3:XK):Prop
 | mk (p:Addr) (m n lk i:Nat) (T:UC) (zz0:vs=[.ref p,.int (T.own i:Int)]) (zz1:TabAt C H p m n lk T) (zz2:TabOk m n T) (zz3:i<m) (zz4:m<=1000) (zz5:n<=1000) (zz6:∀ H',Same H H'->(∀ c,c<n->helps lk T i c=true->(∀ j,j<n->helps lk T i j=true->T.hd c<=T.hd j)->Q (.int (c:Int)) H')/\((∀ j,j<n->helps lk T i j=false)->Q .non H'))
theorem Du (D:Def K mg "helping" jD UK)(T0:Blt mg)(tc:TabC K mg C)(J:Has P w K mg base 1 "line_of" UK (spLineOf C)):Has P w K mg base 2 "helping" UK (spHelping C):=by
 refine D.h9 (N:=["table","owner","found"]) fsc λH Q hr h nd=>?_;obtain⟨p,m,n,lk,i,Tb,rfl,r,ok,hi,hm,hn,k⟩:=h;obtain⟨dx,la,S,ha,las,h1,h2,h3,h4,U,l⟩:=id r;have T:=T0;have t:(["head","number","table"]:List Str).Nodup:=ZZ
 refine⟨_,(Z9 (Xa (i:=2) (ox:=none) (N:=["head","number","table"]) (k:=2) (fv:=[0]) nd rfl xj rfl (Mc rfl T.zip (Z0 (Yg (pv 0) rfl) (Z0 (Zf J hr (Z0 (pv 0) (Z0 (pv 1) Z8))) Z8)))
  (λ_ _ _ _ _=>W0 (n:=2) rfl (Y1 (Zi (i:=0) t rfl (Or.inl rfl)) (Y1 (Zi (i:=1) t rfl (Or.inl rfl)) Xg))) (λ_ _ _ _ _=>Xs (PW.pt (M9 (Zo Sx (pv 1) Za (Zp _)) (Rx (Zo Qo (pv 0) (Mf (K:=K) (pv 2) rfl) (Zp _)))))) (λ_ _ _ _ _=>(pv 0)) Xw)
  (Zb (Zh (Vt (Z0k (pv 2) (λ_=>rfl)) (W6 XJ jv jw (Qq (K:=K)) (Yg (pv 0) rfl) (Z0 (Zt (Cv (K:=K) rfl) rfl T.min PyProof.Rows.boot_min (Z0 (pv 2) Z8)) Z8)) Xo)))),?_⟩
 refine⟨_,rfl,p,C,dx,_,_,rfl,h1,tc.cl,tc.nH,Vb,_,rfl,_,rfl,p,m,n,lk,i,Tb,rfl,r,ok,hi,hm,λa ea=>?_⟩;refine⟨ha,a,rfl,⟨_,SqL.of l⟩,⟨_,SqL.of ea⟩,λd hd=>?_⟩;refine⟨n,λj ys H2=>Same H H2/\ys=(foundI j lk Tb i).map V.int,Zz hn,⟨Same.new hd,rfl⟩,?_,?_⟩
 ·rintro j ys H2 hj ⟨S2,rfl⟩ f;refine⟨⟨_,_,SqL.of (S2 _ _ l),SqL.of (S2 _ _ ea),by rw[YB,Vn];exact hj,by rw[YB,Yt];omega⟩,?_⟩;rintro x W ⟨y,x0,y0,rfl,hp,rfl,F,G⟩;have ex:x0=V.int (Tb.hd j:Int):=by
   have:=F _ (SqL.of (S2 _ _ l));rw[Xk (Ul hj)] at this;exact (YU this).symm
  have R:y0=V.int (Tb.L i j):=by
   have:=G _ (SqL.of (S2 _ _ ea));rw[Xk (W8 (JH hj))] at this;exact (YU this).symm
  subst ex R;have v:Same H2 (upd H2 y (.tup [.int (Tb.hd j:Int),.int (Tb.L i j)])):=Same.new hp;have s:=v _ _ f;have up:∀ zs,Same H (upd (upd H2 y (.tup [.int (Tb.hd j:Int),.int (Tb.L i j)])) d (.lst zs)):=λzs q o e=>by
   rw[Ze (Zd e hd)];exact v _ _ (S2 _ _ e)
  refine Z0v (SqT.of Zc) ?_;have no:helps lk Tb i j=false->upd H2 y (.tup [.int (Tb.hd j:Int),.int (Tb.L i j)]) d=some (.lst ((foundI j lk Tb i).map V.int))/\Same H (upd H2 y (.tup [.int (Tb.hd j:Int),.int (Tb.L i j)]))/\(foundI j lk Tb i).map V.int=(foundI (j+1) lk Tb i).map V.int:=λe=>by
   refine⟨s,S2.trans v,?_⟩;rw[Ri,e];simp
  refine⟨_,rfl,_,_,rfl,rfl,_,rfl,?_⟩;refine Xu (λh=>?_) (λh=>?_)
  ·have g:0<Tb.L i j:=XO h;refine⟨_,rfl,_,rfl,p,C,dx,_,_,rfl,v _ _ (S2 _ _ h1),tc.cl,tc.nK,Mw,rfl,_,rfl,?_⟩;by_cases hl:Tb.hd j=lk
   ·refine F9 (by rw[hl]) ?_;exact no (by unfold helps;simp[hl])
   refine K8 (λz=>hl (by have:=V.int.inj z;omega)) ?_;have e:helps lk Tb i j=true:=by unfold helps;simp[hl,g]
   refine⟨_,rfl,s,up _,?_⟩;rw[Ri,e,XH];rfl
  have g:¬ 0<Tb.L i j:=λz=>h (XA z);exact no (by unfold helps;simp[g])
 rintro ys H2 ⟨S2,rfl⟩ f;refine⟨⟨_,_,SqL.of (S2 _ _ l),SqL.of (S2 _ _ ea),by rw[YB,Vn]⟩,?_⟩;obtain⟨k1,I⟩:=k H2 S2;have b:∀ z,z∈foundI n lk Tb i ↔ ∃ j,j<n/\helps lk Tb i j=true/\(Tb.hd j:Int)=z:=λz=>by
  unfold foundI;simp only [YN,XE,XI];constructor
  ·rintro ⟨j,⟨hj,u⟩,e⟩;exact⟨j,hj,u,e⟩
  rintro ⟨j,hj,u,e⟩;exact⟨j,⟨hj,u⟩,e⟩
 refine⟨_,rfl,!((foundI n lk Tb i).map V.int).isEmpty,?_,?_⟩
 ·exact .inl ⟨_,SqL.of f,rfl⟩
 refine Xu (λh=>?_) (λh=>?_)
 ·have A:foundI n lk Tb i≠[]:=λz=>by rw[z] at h;simp at h
  refine⟨_,rfl,p,C,dx,_,_,rfl,S2 _ _ h1,tc.cl,tc.nH,Vb,.inl ⟨rfl,_,SqL.of (S2 _ _ l)⟩,_,rfl,d,_,rfl,SqL.of f,A,λM O B=>?_⟩;obtain⟨c,hc,u,rfl⟩:=(b M).mp O;refine⟨ha,hdI n Tb,_,c,rfl,rfl,SqL.of (S2 _ _ l),Ul hc,λk hk e=>?_,by rw[Vn];exact hn,?_⟩
  ·rw[Ul J0] at e;have:=ok.hi k c J0 hc (by have:=YU e;omega);omega
  exact k1 c hc u λj hj E=>by
   have:=B _ ((b _).mpr ⟨j,hj,E,rfl⟩);omega
 refine I λj hj=>?_
 cases e:helps lk Tb i j with
 | false=>rfl
 | true =>
  exfalso;have:=(b _).mpr ⟨j,hj,e,rfl⟩;apply h
  cases q:foundI n lk Tb i with
  | nil=>rw[q] at this;cases this
  | cons=>rfl
end
structure Six (r:Rat):Prop where
 g:Good 21 r
 d:r.2 ∣ 6
def Z6v (p q:Int):nB p q ∣ q:=⟨sg p q,(Ty p q).symm⟩
def Rv {p q:Int}(h1:-2000000<p)(h2:p<2000000)(hq:q=1 \/ q=2 \/ q=3):Six (nrm p q):=by
 refine⟨Vw (Z7c h1 h2) (Z7c J0 J0) J0,Y1F (Z6v p q) ?_⟩;rcases hq with rfl | rfl | rfl
 ·exact⟨6,rfl⟩
 ·exact⟨3,rfl⟩
 exact⟨2,rfl⟩
def Six.rep {r:Rat}(h:Six r):r.1*6=(r.1*(6:Int).fdiv r.2)*r.2/\Bd 24 (r.1*(6:Int).fdiv r.2):=by
 refine⟨Vf h.d,?_⟩;have:Bd 3 ((6:Int).fdiv r.2):=by
  refine Bd.of_le (Mv J1 h.g.pos) ?_;show (6:Int).natAbs<2 ^ 3
  decide
 exact h.g.b1.mul this
def Pq {n:Nat}{x:Int}(m:Nat)(h:x.natAbs<2 ^ m)(k:m<=n):Bd n x:=Bd.mono (m:=m) h k
def RepL.six (h:∀ r∈rs,Six r):RepL 24 6 (wholeB rs 6) rs:=by
 refine⟨J1,Pq 3 J1 J1,by unfold wholeB;rw[YB],λi W r a hr=>?_⟩;unfold wholeB at a;rw[YI,hr] at a
 cases a;have:=h r (YD hr);exact⟨this.rep.1,this.rep.2,this.g.low⟩
section
variable {P:TU}
inductive spSmall6 (K:TR) (vs:TZ) (H:Hp) (Q:VK) (_z3:XK):Prop
 | mk (b:Addr) (n:Nat) (zz0:vs=[.ref b]) (zz1:BagAt H b n) (zz2:n<=1000000) (zz3:∀ (a:Addr) (H':Hp) (r:Rat),BagAt H' b (n+3)->SameX b H H'->H' a=some (.tup [.int r.1,.int r.2])->Six r->Q (.ref a) H')
theorem Z13 (D:Def K mg "_law_small" jX ["_law_bag_here"])(f:Z2 P w K mg base)(v:Z1 P w K mg base) :
  Has P w K mg base 3 "_law_small" ["_law_bag_here"] (spSmall6 K):=by
 refine D.h9 (N:=["_law_bag_here","_law_bottom"]) fsc λH Q hr h nd=>?_;obtain⟨b,n,rfl,hB,hn,k⟩:=h;refine⟨_,(Z9 (Zj (i:=1) nd rfl (Or.inl rfl) (Zg Zy (Xe (Z0 Za (Z0 Za (Z0 Za (Z0 Za Z8))))) (Zf f hr (Z0 (pv 0) (Z0 Za Z8)))))
  (Z9 (Y9 (Zo Xp (Zf f hr (Z0 (pv 0) (Z0 Za Z8))) Za (Zp _))
   (Zb (Zh (Zf v hr (Z0 (Zl Wz (Zf f hr (Z0 (pv 0) (Z0 (Zl X6 (Zl Zu Za (Zl Mg Za Za)) Za) Z8))) (Zl Mg Za Za)) (Z0 (pv 1) Z8)))))
   Zw)
  (Zb (Zh (Zf v hr (Z0 (Zl Wz (Zf f hr (Z0 (pv 0) (Z0 Za Z8))) Za) (Z0 (pv 1) Z8))))))),?_⟩
 refine⟨sz4,λl hl=>?_⟩;have m:Same H (upd H l (.lst [.int 1,.int 1,.int 2,.int 3])):=Same.new hl;have e0:upd H l (.lst [.int 1,.int 1,.int 2,.int 3]) l=some (.lst [.int 1,.int 1,.int 2,.int 3]):=Zc;generalize upd H l (.lst [.int 1,.int 1,.int 2,.int 3])=F at *
 have p:l≠b:=by
  obtain⟨ys,e⟩:=hB.lst;exact (Zd e hl).symm
 refine⟨_,rfl,b,_,n,rfl,hB.same m,J0,J1,ZZ,λr1 H1 C z B S1=>?_⟩;obtain⟨q,eq,hq⟩:∃ q:Int,atI [V.int 1,.int 1,.int 2,.int 3] r1=some (.int q)/\(q=1 \/ q=2 \/ q=3):=by
  have h:r1=0 \/ r1=1 \/ r1=2 \/ r1=3:=J0
  rcases h with rfl | rfl | rfl | rfl
  ·exact⟨1,Zk (j:=0) rfl,.inl rfl⟩
  ·exact⟨1,Zk (j:=1) rfl,.inl rfl⟩
  ·exact⟨2,Zk (j:=2) rfl,.inr (.inl rfl)⟩
  exact⟨3,Zk (j:=3) rfl,.inr (.inr rfl)⟩
 refine⟨l,_,_,_,rfl,rfl,SqL.of (S1 _ _ e0 p),eq,?_⟩;have x:Bd 21 q:=Z7c J0 J0;refine⟨_,rfl,b,_,n+1,rfl,B,J0,J1,ZZ,λr2 H2 E y u S2=>⟨rfl,_,rfl,?_⟩⟩;refine Xu (λh=>?_) (λh=>?_)
 ·refine⟨_,rfl,_,_,rfl,rfl,Z53 J1 J1,_,_,rfl,rfl,C4 J1 J1,_,_,rfl,rfl,b,_,n+1+1,rfl,u,J0,by rw[p6];decide,lg6,λt A r d o g=>?_⟩;rw[p6] at d;refine⟨_,_,rfl,rfl,Z53 J1 J1,_,_,rfl,rfl,_,rfl,_,_,rfl,J0,x.log J1,λa s fa c e=>?_⟩;rw[p6] at e;exact k a s (nrm (t - 1000000) q) (o.same c) (((((SameX.of m).trans S1).trans S2).trans g).trans (SameX.of c)) e (Rv J0 J0 hq)
 refine⟨_,rfl,b,_,n+1+1,rfl,u,J0,J1,ZZ,λt A r d o g=>⟨_,_,rfl,rfl,_,rfl,?_⟩⟩;refine⟨_,_,rfl,J0,x.log J1,λa s fa c e=>?_⟩;exact k a s (nrm (t - 8) q) (o.same c) (((((SameX.of m).trans S1).trans S2).trans g).trans (SameX.of c)) e (Rv J0 J0 hq)
inductive spRow6 (K:TR) (vs:TZ) (H:Hp) (Q:VK) (_z3:XK):Prop
 | mk (b:Addr) (c n:Nat) (zz0:vs=[.ref b,.int c]) (zz1:BagAt H b n) (zz2:n<=100000) (zz3:c<=1000) (zz4:∀ (a:Addr) (H':Hp) (rs:UA),BagAt H' b (n+3*c)->SameX b H H'->RowAt K H' a rs->rs.length=c->(∀ r∈rs,Six r)->Q (.ref a) H')
def Bq:FnScope UN UN (defScope kP):=fsc
theorem Z6j (D:Def K mg "_law_row" kP UN)(T:Blt mg)(L:Has P w K mg base 3 "_law_small" ["_law_bag_here"] (spSmall6 K)):Has P w K mg base 4 "_law_row" UN (spRow6 K):=by
 refine D.has λf fd F=>F.ok Bq (λvs H Q E h=>?_) (λcdv A outer s H vs Q E hr h=>?_)
 ·obtain⟨b,c,n,rfl,_⟩:=h;rfl
 obtain⟨b,c,n,rfl,hB,hn,hc,k⟩:=h;have sc:=Bq;have p:(UO:List Str).Nodup:=ZZ
 refine⟨_,(Zb (Zh (Y7 Yc rfl T.tuple XV (Z0 (Yd (ox:=none) (N:=UO) (k:=1) (fv:=[0]) rfl (Yf rfl T.range (Z0 (pv 1) Z8))
  (λ_ _ _ _ _=>Zi (i:=0) p rfl xj) (λ_ _ _ _ _=>Y8) (λ_ _ _ _ _=>(Zf L hr (Z0 (pv 1) Z8))) Zv) Z8)))),?_⟩
 have y:=hB.lst;refine⟨_,rfl,(c:Int),rfl,J0,J0,λd hd=>?_⟩;have j:d≠b:=by
  obtain⟨ys,e⟩:=y;exact (Zd e hd).symm
 have O:(c:Int).toNat=c:=J0
 rw[O];refine⟨c,λi ys H2=>∃ rs,Rs K H2 rs ys/\rs.length=i/\(∀ r∈rs,Six r)/\BagAt H2 b (n+3*i)/\SameX b H H2,Zz hc,?_,?_,?_⟩
 ·exact⟨[],.nil,rfl,(λ_ h=>nomatch h),hB.upd (JC j),SameX.of (Same.new hd)⟩
 ·rintro i ys H2 hi ⟨rs,h1,h2,h3,h4,u⟩ g;refine⟨hi,?_⟩;rintro x R ⟨rfl,rfl⟩;refine Yh ?_;refine⟨_,rfl,b,n+3*i,rfl,h4,J0,λa v r G t M J=>?_⟩;have I:=Ext.bag t h4;have m:v d=some (.lst ys):=t _ _ g j;have C:Ext v (upd v d (.lst (ys++[.ref a]))):=Ext.upd m;refine⟨m,rs++[r],(h1.ext (I.trans C)).snoc ⟨a,rfl,C.sq (SqT.of M)⟩,by rw[YY,h2];rfl,λr' B=>?_,(G.upd (JC j)).mono J0,?_⟩
  ·rcases XN.mp B with z | z
   ·exact h3 r' z
   rw[XD.mp z];exact J
  exact λq o e ne=>by
   have e2:=t q o (u q o e ne) ne;rw[Ze (Zd e hd)];exact e2
 rintro ys H2 ⟨rs,h1,h2,h3,h4,u⟩ g;refine⟨YJ _,d,ys,rfl,.inl ⟨SqL.of g,λl hl=>?_⟩⟩;have E:=Ext.new (o:=.tup ys) hl;exact k l _ rs (h4.same (Same.new hl)) (u.trans (SameX.of (Same.new hl))) ⟨ys,SqT.of Zc,h1.ext E⟩ h2 h3
structure WtsR (c:Nat)(Ws:TV)(rs:UA):Prop where
 len:rs.length=c
 nn:∀ W∈Ws,0<=W
 pos:0<Ws.sum
 rep:RepL 10 Ws.sum Ws rs
inductive spWeightsR (K:TR) (vs:TZ) (H:Hp) (Q:VK) (_z3:XK):Prop
 | mk (b:Addr) (c n:Nat) (zz0:vs=[.ref b,.int c]) (zz1:BagAt H b n) (zz2:n<=100000) (zz3:1<=c) (zz4:c<=100) (zz5:∀ (a:Addr) (H':Hp) (Ws:TV) (rs:UA),BagAt H' b (n+c+1)->SameX b H H'->RowAt K H' a rs->WtsR c Ws rs->Q (.ref a) H')
theorem Je (D:Def K mg "_law_weights" i6 UN)(T:Blt mg)(U:Z2 P w K mg base)(eB:Z1 P w K mg base) :
  Has P w K mg base 3 "_law_weights" UN (spWeightsR K):=by
 refine D.h9 (N:=["_law_bag_here","_law_count","_law_parts"]) fsc λH Q hr h nd=>?_;obtain⟨b,c,n,rfl,hB,hn,a0,hc,k⟩:=h;have I:(UO:List Str).Nodup:=ZZ
 have L:(["_law_part","_law_parts"]:List Str).Nodup:=ZZ
 refine⟨_,(Z9 (Zj (i:=2) nd rfl (Or.inr rfl) (Yd (ox:=none) (N:=UO) (k:=1) (fv:=[0]) rfl (Yf rfl T.range (Z0 (pv 1) Z8))
  (λ_ _ _ _ _=>Zi (i:=0) I rfl xj) (λ_ _ _ _ _=>Y8) (λ_ _ _ _ _=>(Zf U hr (Z0 (pv 1) (Z0 Za Z8)))) Zv))
  (Z9 (Vj (Y9 (Zo Xp (Zt (Sk (K:=K) rfl) rfl T.sum Y0c (Z0 (pv 2) Z8)) Za (Zp _))
   (Zb (Uj Za (Tw (pv 2) (Zf U hr (Z0 (pv 0) (Z0 (pv 1) Z8))) V6)))
   Zw))
  (Zb (Zh (Y7 Yc rfl T.tuple XV (Z0 (Yd (ox:=none) (N:=["_law_part","_law_parts"]) (k:=1) (fv:=[2]) rfl (Yn (pv 2))
  (λ_ _ _ _ _=>Zi (i:=0) L rfl xj) (λ_ _ _ _ _=>Y8) (λ_ _ _ _ _=>(Zf eB hr (Z0 (pv 0) (Z0 (Zt (Sk (K:=K) rfl) rfl T.sum Y0c (Z0 (pv 1) Z8)) Z8)))) Zv) Z8)))))),?_⟩
 have F:=hB.lst;refine⟨_,rfl,(c:Int),rfl,J0,J0,λd hd=>?_⟩;have f:d≠b:=by
  obtain⟨ys,e⟩:=F;exact (Zd e hd).symm
 have et:(c:Int).toNat=c:=J0
 rw[et];refine⟨c,λi ys H2=>∃ ns:List Int,ys=ns.map V.int/\ns.length=i/\(∀ z∈ns,0<=z/\z<=4)/\BagAt H2 b (n+i)/\SameX b H H2,Zz J0,?_,?_,?_⟩
 ·exact⟨[],rfl,rfl,(λ_ h=>nomatch h),hB.upd (JC f),SameX.of (Same.new hd)⟩
 ·rintro i ys H2 hi ⟨ns,rfl,h2,h3,C,S2⟩ g;refine⟨hi,?_⟩;rintro x H3 ⟨rfl,rfl⟩;refine Yh ?_;refine⟨_,rfl,b,_,_,rfl,C,J0,J1,ZZ,λr M r0 r1 O y=>?_⟩;have t:M d=some (.lst (ns.map V.int)):=y _ _ g f;refine⟨t,ns++[r],by rw[XH];rfl,by rw[YY,h2];rfl,λz hz=>?_,(O.upd (JC f)).mono J0,?_⟩
  ·rcases XN.mp hz with G | G
   ·exact h3 z G
   rw[XD.mp G];omega
  exact λq o e ne=>by
   have e2:=y q o (S2 q o e ne) ne;rw[Ze (Zd e hd)];exact e2
 rintro ys H2 ⟨ns,rfl,h2,h3,C,S2⟩ g;refine⟨YJ _,?_⟩;refine⟨λσ H'=>σ=[some (.ref b),some (.int c),some (.ref d)]/\∃ ms:List Int,ms.length=c/\(∀ z∈ms,0<=z/\z<=4)/\1<=ms.sum/\H' d=some (.lst (ms.map V.int))/\BagAt H' b (n+c+1)/\SameX b H H',?_,?_⟩
 ·refine⟨_,rfl,d,ns,rfl,SqL.of g,rfl,_,rfl,?_⟩;refine Xu (λh=>?_) (λh=>?_)
  ·refine⟨_,rfl,_,rfl,_,rfl,b,_,_,rfl,C,J0,J0,Z4j J0,λr M r0 r1 O y=>?_⟩;obtain⟨j,rfl,hj⟩:=Z81 r0 r1;have t:M d=some (.lst (ns.map V.int)):=y _ _ g f;have J:j<ns.length:=J0
   refine⟨d,_,_,j,rfl,rfl,t,?_,?_⟩
   ·rw[YB];exact Z1v J0 J0
   have em:(ns.map V.int).set j (V.int 1)=(ns.set j 1).map V.int:=by rw[Y07]
   rw[em];have h4:∀ z∈ns.set j 1,0<=z/\z<=4:=λz hz=>by
    rcases List.mem_or_eq_of_mem_set hz with e | e
    ·exact h3 z e
    omega
   refine⟨rfl,ns.set j 1,by rw[qU];exact h2,h4,?_,Zc,(O.upd (JC f)).mono J0,λq o e ne=>?_⟩
   ·exact Gb _ (λz hz=>(h4 z hz).1) ⟨1,by
     refine List.mem_iff_getElem?.mpr ⟨j,?_⟩;rw[JG (by simpa using J)],J0⟩
   rw[Ze (Zd e hd)];exact y q o (S2 q o e ne) ne
  have h0:ns.sum≠0:=λz=>h (XA (by rw[z]));have:=(Kq ns 4 h3).1;exact⟨rfl,ns,h2,h3,J0,g,C.mono J0,S2⟩
 rintro σ H5 ⟨rfl,ms,S,h4,s1,a,Z,S5⟩;have s2:ms.sum<=4*(c:Int):=by
  have:=(Kq _ 4 h4).2;rw[S] at this;exact this
 refine⟨_,rfl,d,rfl,⟨_,SqL.of a⟩,λe E=>?_⟩;have X:d≠e:=Zd a E;refine⟨c,λi ys H2=>Same H5 H2/\Rs K H2 ((ms.map λm=>nrm m ms.sum).take i) ys,Zz J0,⟨Same.new E,.nil⟩,?_,?_⟩
 ·rintro i ys H6 hi ⟨p,B⟩ v;have s:i<ms.length:=J0
  refine⟨⟨_,V.int ms[i],SqL.of (p _ _ a),by simp[s]⟩,?_⟩;rintro x H7 ⟨rfl,Y⟩;have ex:x=V.int ms[i]:=by
   have:=Y _ (SqL.of (p _ _ a));rw[YI,show ms[i]?=some ms[i] by simp[s]] at this;exact (YU this).symm
  subst ex;refine Yh ?_;have b2:Bd 10 ms.sum:=bdS J0;refine⟨_,rfl,_,rfl,d,ms,rfl,SqL.of (p _ _ a),ms[i],ms.sum,rfl,J0,b2.log J1,λa8 H8 f8 R e8=>?_⟩;have u:=R _ _ v;refine⟨u,λq o' e'=>?_,?_⟩
  ·rw[Ze (Zd e' E)];exact R _ _ (p _ _ e')
  rw[Yl (show (ms.map λm=>nrm m ms.sum)[i]?=some (nrm ms[i] ms.sum) by rw[YI,show ms[i]?=some ms[i] by simp[s]];rfl)];exact (B.ext ((Ext.same R).trans (Ext.upd u))).snoc ⟨a8,rfl,(Ext.upd u).sq (SqT.of e8)⟩
 rintro ys H6 ⟨p,B⟩ v;refine⟨⟨_,SqL.of (p _ _ a),by rw[YB];omega⟩,e,ys,rfl,.inl ⟨SqL.of v,λl hl'=>?_⟩⟩;rw[YZ (by rw[YB];omega)] at B;refine k l _ ms _ (((Z.same p).same (Same.new hl')).mono J0) ((S5.trans (SameX.of p)).trans (SameX.of (Same.new hl'))) ⟨ys,SqT.of Zc,B.ext (Ext.new hl')⟩ ⟨by rw[YB];exact S,λW A=>(h4 W A).1,J0,⟨J0,bdS J0,by rw[YB],λi W r A hr=>?_⟩⟩;rw[YI,A] at hr
 cases hr;have:=h4 W (YD A);exact⟨M0 J0,bdS J0,Yi J0⟩
end
end _b
namespace _b
open _v (sm Y5 Wx Xd sm_zero Y6 Y4 Uv)
def Dn {c:Nat}(h:i<c):(List.replicate c (1:Int)).getD i 0=1:=by simp[List.getD,h]
def Bj {c:Nat}(a:Ws.length=c)(nn:∀ W∈Ws,0<=W):0<=(List.zipWith (·*·) Ws (cutZ o (List.replicate c 1))).sum ∧
  ∀ i,i<c->0<=Ws.getD i 0*(cutZ o (List.replicate c 1)).getD i 0:=by
 have h:∀ i,i<c->0<=Ws.getD i 0*(cutZ o (List.replicate c 1)).getD i 0:=λi hi=>by
  rw[Cr,Dn hi];have:0<=Ws.getD i 0:=by
   have e:Ws.getD i 0=Ws[i]'J0:=by simp[List.getD,show i<Ws.length by omega]
   rw[e];exact nn _ (XR _)
  split
  ·omega
  simp
 refine⟨?_,h⟩;rw[G8 c _ _ a (by rw[Pl];simp)];exact Y6 h
open PySem _L
def Mt {n:Nat}{Zs:TV}(h:∀ z∈Zs,Bd n z)(k:Nat):Bd n (Zs.getD k 0):=by
 simp only [List.getD]
 cases e:Zs[k]? with
 | none=>exact bd0 n
 | some z=>exact h z (YD e)
def RepL.scale {n:Nat}{D:Int}{Zs:TV}{rs:UA}(h:RepL n D Zs rs){k:Int}{m:Nat}(hk:0<k)(bk:Bd m k):RepL (n+m) (D*k) (Zs.map λz=>z*k) rs:=by
 refine⟨XU h.pos hk,h.bD.mul bk,by rw[YB,h.len],λi W r a hr=>?_⟩;rw[YI] at a
 cases e:Zs[i]? with
 | none=>rw[e] at a;cases a
 | some z =>
  rw[e] at a
  cases a;obtain⟨a1,a2,a3⟩:=h.at_ i z r e hr;exact⟨Tu k a1,a2.mul bk,a3⟩
structure TabBd (N m n:Nat)(T:UC):Prop where
 l:∀ i j,i<m->j<=n->Bd N (T.L i j)
 b:Bd N T.b
def Fg {a b c x y z:Int}(d:0<y)(hx:0<x)(hz:0<z)(h1:a*y<=b*x)(h2:b*z<=c*y):a*z<=c*x:=by
 have e1:a*y*z<=b*x*z:=JZ h1 J0;have e2:b*z*x<=c*y*x:=JZ h2 J0;have:y*(a*z)<=y*(c*x):=by
  have f1:y*(a*z)=a*y*z:=ZQ
  have f2:y*(c*x)=c*y*x:=ZQ
  have e:b*x*z=b*z*x:=ZQ
  omega
 exact Y0M this d
def Kc {a b c x y z:Int}(e:0<y)(hx:0<x)(hz:0<z)(h1:a*y<b*x)(h2:b*z<=c*y):a*z<c*x:=by
 have e1:a*y*z<b*x*z:=ja h1 hz;have e2:b*z*x<=c*y*x:=JZ h2 J0;have:y*(a*z)<y*(c*x):=by
  have f1:y*(a*z)=a*y*z:=ZQ
  have f2:y*(c*x)=c*y*x:=ZQ
  have d:b*x*z=b*z*x:=ZQ
  omega
 exact zy this J0
def Z20 {a b c x y z:Int}(e:0<y)(hx:0<x)(hz:0<z)(h1:a*y<=b*x)(h2:b*z<c*y):a*z<c*x:=by
 have e1:a*y*z<=b*x*z:=JZ h1 J0;have e2:b*z*x<c*y*x:=ja h2 hx;have:y*(a*z)<y*(c*x):=by
  have f1:y*(a*z)=a*y*z:=ZQ
  have f2:y*(c*x)=c*y*x:=ZQ
  have d:b*x*z=b*z*x:=ZQ
  omega
 exact zy this J0
def Ahead (n c:Nat)(T:UC)(a b:Nat):Prop:=T.L a n*T.L b c<T.L b n*T.L a c \/ (T.L a n*T.L b c=T.L b n*T.L a c/\T.own a<=T.own b)
def Ahead.trans {n c:Nat}{a b k:Nat}(ha:0<T.L a c)(d:0<T.L b c)(hk:0<T.L k c)(h1:Ahead n c T a b)(h2:Ahead n c T b k):Ahead n c T a k:=by
 rcases h1 with h1 | ⟨h1,o1⟩
 ·rcases h2 with h2 | ⟨h2,_⟩
  ·exact .inl (Kc d ha hk h1 J0)
  exact .inl (Kc d ha hk h1 J0)
 rcases h2 with h2 | ⟨h2,o2⟩
 ·exact .inl (Z20 d ha hk J0 h2)
 refine .inr ⟨?_,J0⟩;have e1:=Fg d ha hk (show T.L a n*T.L b c<=T.L b n*T.L a c by omega) (show T.L b n*T.L k c<=T.L k n*T.L b c by omega);have e2:=Fg d hk ha (show T.L k n*T.L b c<=T.L b n*T.L k c by omega) (show T.L b n*T.L a c<=T.L a n*T.L b c by omega);omega
def elig (lk c:Nat)(T:UC)(k:Nat):Prop:=T.own k<=lk/\0<T.L k c
section
variable {P:TU}
noncomputable def goB (n c:Nat)(T:UC)(a b:Nat):Bool:=if T.L a n*T.L b c=T.L b n*T.L a c then decide (T.own a<T.own b) else decide (T.L a n*T.L b c<T.L b n*T.L a c)
inductive spGoes (C:Addr) (vs:TZ) (H:Hp) (Q:VK) (_z3:XK):Prop
 | mk (p:Addr) (m n lk c a b N:Nat) (T:UC) (zz0:vs=[.ref p,.int (c:Int),.int (a:Int),.int (b:Int)]) (zz1:TabAt C H p m n lk T) (zz2:a<m) (zz3:b<m) (zz4:c<n) (zz5:TabBd N m n T) (zz6:N<=400000) (zz7:Q (.bl (goB n c T a b)) H)
theorem Z6q (D:Def K mg "goes_ahead" iU UP)(tc:TabC K mg C):Has P w K mg base 1 "goes_ahead" UP (spGoes C):=by
 refine D.h9 (N:=["table","column","one","other","mine","theirs"]) fsc λH Q hr h nd=>?_;obtain⟨p,m,n,lk,c,a,b,N,T,rfl,⟨dx,la,k,ha,las,h1,h2,h3,h4,o,r⟩,j,hB,hc,bd,hN,q⟩:=h;refine⟨_,(Z9 (Zj (i:=4) nd rfl (Or.inl rfl) (Zl Zu (Zg Zy (Zg Zy (Yg (pv 0) rfl) (pv 2)) (V9 Xx Za)) (Zg Zy (Zg Zy (Yg (pv 0) rfl) (pv 3)) (pv 1))))
  (Z9 (Zj (i:=5) nd rfl (Or.inl rfl) (Zl Zu (Zg Zy (Zg Zy (Yg (pv 0) rfl) (pv 3)) (V9 Xx Za)) (Zg Zy (Zg Zy (Yg (pv 0) rfl) (pv 2)) (pv 1))))
  (Z9 (Y9 (Zo Xp (pv 4) (pv 5) (Zp _))
   (Zb (Zh (Yu Ud (Zg Zy (Yg (pv 0) rfl) (pv 2)) (Zg Zy (Yg (pv 0) rfl) (pv 3)) (Zp _))))
   Zw)
  (Zb (Zh (Yu Ud (pv 4) (pv 5) (Zp _))))))),?_⟩
 have ea:las[a]?=some (las[a]'J0):=ZJ
 have eb:las[b]?=some (las[b]'J0):=ZJ
 have g:=h4 a _ ea;have d:=h4 b _ eb;have va:(las.map V.ref)[a]?=some (V.ref (las[a]'J0)):=by rw[YI,ea];rfl
 have vb:(las.map V.ref)[b]?=some (V.ref (las[b]'J0)):=by rw[YI,eb];rfl
 have f:∀ i,atI ((lineI n T i).map V.int) (c:Int)=some (V.int (T.L i c)):=λi=>Zk (Xk (W8 (JH hc)));refine⟨_,rfl,p,C,dx,_,_,rfl,h1,tc.cl,tc.nL,W9,_,rfl,la,_,_,_,rfl,rfl,SqL.of h2,Zk va,_,rfl,_,_,_,_,rfl,rfl,SqL.of g,Lb,?_⟩;refine⟨_,rfl,p,C,dx,_,_,rfl,h1,tc.cl,tc.nL,W9,_,rfl,la,_,_,_,rfl,rfl,SqL.of h2,Zk vb,_,rfl,_,_,_,_,rfl,rfl,SqL.of d,f b,_,_,rfl,rfl,(bd.l a n j (YJ n)).mulOk (bd.l b c hB (JH hc)) J0 J0,?_⟩;refine⟨_,rfl,p,C,dx,_,_,rfl,h1,tc.cl,tc.nL,W9,_,rfl,la,_,_,_,rfl,rfl,SqL.of h2,Zk vb,_,rfl,_,_,_,_,rfl,rfl,SqL.of d,Lb,?_⟩;refine⟨_,rfl,p,C,dx,_,_,rfl,h1,tc.cl,tc.nL,W9,_,rfl,la,_,_,_,rfl,rfl,SqL.of h2,Zk va,_,rfl,_,_,_,_,rfl,rfl,SqL.of g,f a,_,_,rfl,rfl,(bd.l b n hB (YJ n)).mulOk (bd.l a c j (JH hc)) J0 J0,?_⟩;refine⟨_,rfl,_,rfl,rfl,_,rfl,?_⟩;unfold goB at q;refine Xu (λh=>?_) (λh=>?_)
 ·have e:T.L a n*T.L b c=T.L b n*T.L a c:=V.int.inj (XO h);rw[YH e] at q;refine⟨_,rfl,p,C,dx,_,_,rfl,h1,tc.cl,tc.nO,Xh,_,rfl,k,_,_,_,rfl,rfl,SqL.of o,Zk (Xk (Vl j)),_,rfl,p,C,dx,_,_,rfl,h1,tc.cl,tc.nO,Xh,_,rfl,k,_,_,_,rfl,rfl,SqL.of o,Zk (Xk (Vl hB)),_,_,rfl,rfl,?_⟩;have e2:decide ((T.own a:Int)<(T.own b:Int))=decide (T.own a<T.own b):=ZJ
  show Q (.bl (decide ((T.own a:Int)<(T.own b:Int)))) H;rw[e2];exact q
 have e:¬ T.L a n*T.L b c=T.L b n*T.L a c:=λz=>h (XA (by show V.int _=V.int _;rw[z]));rw[YF e] at q;exact⟨_,rfl,_,rfl,_,_,rfl,rfl,q⟩
inductive spGoing (C:Addr) (vs:TZ) (H:Hp) (Q:VK) (_z3:XK):Prop
 | mk (p:Addr) (m n lk c N:Nat) (T:UC) (zz0:vs=[.ref p,.int (c:Int)]) (zz1:TabAt C H p m n lk T) (zz2:c<n) (zz3:m<=1000) (zz4:TabBd N m n T) (zz5:N<=400000) (zz6:(∃ k,k<m/\elig lk c T k)) (zz7:∀ (H':Hp) (b:Nat),Same H H'->b<m->elig lk c T b->(∀ k,k<m->elig lk c T k->Ahead n c T b k)->Q (.int (b:Int)) H')
theorem Z43 (D:Def K mg "going_out" iZ ["table","column"])(T0:Blt mg)(tc:TabC K mg C)(Z:Has P w K mg base 1 "goes_ahead" UP (spGoes C)):Has P w K mg base 2 "going_out" ["table","column"] (spGoing C):=by
 refine D.h9 (N:=["table","column","first","place","owner"]) fsc λH Q hr h nd=>?_;obtain⟨p,m,n,lk,c,N,Tb,rfl,B,hc,hm,bd,hN,O,k⟩:=h;obtain⟨dx,la,W,ha,las,h1,h2,h3,h4,X,h6⟩:=id B;have T:=T0;refine⟨_,(Z9 (Zj (i:=2) nd rfl (Or.inl rfl) Xo)
  (Z9 (Yw XS rfl (T7 rfl T.enumerate (Z0 (Yg (pv 0) rfl) Z8)) (W0 (n:=2) rfl (Y1 (Zi (i:=3) nd rfl (Or.inl rfl)) (Y1 (Zi (i:=4) nd rfl (Or.inl rfl)) Xg)))
   (Zb (Y9 (PW.pt (M9 (Zo Z5h (pv 4) (Yg (pv 0) rfl) (Zp _)) (Rx (Zo Sx (Zg Zy (Zg Zy (Yg (pv 0) rfl) (pv 3)) (pv 1)) Za (Zp _)))))
    (Zb (Y9 (PW.pt (Uc (Zo Mh (pv 2) Xo (Zp _)) (Vr (Yp (Zf Z hr (Z0 (pv 0) (Z0 (pv 1) (Z0 (pv 3) (Z0 (pv 2) Z8)))))))))
     (Zb (Zj (i:=2) nd rfl (Or.inl rfl) (pv 3)))
     Zw))
    Zw)))
  (Zb (Zh (pv 2))))),?_⟩
 have U:=Vv m Tb;refine⟨_,rfl,p,C,dx,_,_,rfl,h1,tc.cl,tc.nO,Xh,W,rfl,⟨_,SqL.of X⟩,Sg (K:=K) (a:=W) (xs:=(ownI m Tb).map V.int) (λi σ H'=>Same H H'/\∃ x y:Option V,((∀ k,k<i->¬ elig lk c Tb k)/\σ=[some (.ref p),some (.int (c:Int)),some .non,x,y]) \/ ∃ b,b<i/\b<m/\elig lk c Tb b/\(∀ k,k<i->elig lk c Tb k->Ahead n c Tb b k)/\σ=[some (.ref p),some (.int (c:Int)),some (.int (b:Int)),x,y]) ⟨Same.refl _,none,none,.inl ⟨λk hk=>J0,rfl⟩⟩ (λi σ H' _ h=>SqL.of (h.1 _ _ X)) ?_ ?_⟩
 ·rintro i v σ H1 M hi ⟨S1,x,y,inv⟩ hp;have g:i<m:=by
   have:=(YG.mp hi).1;rw[YB,U] at this;exact this
  rw[Xk (Vl g)] at hi
  cases hi;have S2:Same H1 (upd H1 M (.tup [.int (i:Int),.int (Tb.own i:Int)])):=Same.new hp;have f:=S1.trans S2;have t:∃ fv:V,σ=[some (.ref p),some (.int (c:Int)),some fv,x,y]:=by
   rcases inv with ⟨_,e⟩ | ⟨b,_,_,_,_,e⟩
   ·exact⟨_,e⟩
   exact⟨_,e⟩
  obtain⟨fv,t⟩:=t;subst t;refine⟨M,_,rfl,SqT.of Zc,rfl,_,_,rfl,_,_,rfl,rfl,?_⟩;generalize upd H1 M (.tup [.int (i:Int),.int (Tb.own i:Int)])=H2 at *
  have r:((∀ k,k<i->¬ elig lk c Tb k)/\fv=.non) \/ ∃ b,b<i/\b<m/\elig lk c Tb b/\(∀ k,k<i->elig lk c Tb k->Ahead n c Tb b k)/\fv=.int (b:Int):=by
   rcases inv with ⟨h,e⟩ | ⟨b,F,l,j,s,e⟩
   ·injection e with _ e
    injection e with _ e
    injection e with e _
    injection e with e
    exact .inl ⟨h,e⟩
   injection e with _ e
   injection e with _ e
   injection e with e _
   injection e with e
   exact .inr ⟨b,F,l,j,s,e⟩
  have skip:¬ elig lk c Tb i->Same H H2/\∃ x y:Option V,((∀ k,k<i+1->¬ elig lk c Tb k)/\[some (V.ref p),some (V.int (c:Int)),some fv,some (V.int (i:Int)),some (V.int (Tb.own i:Int))]=[some (.ref p),some (.int (c:Int)),some .non,x,y]) \/ ∃ b,b<i+1/\b<m/\elig lk c Tb b/\(∀ k,k<i+1->elig lk c Tb k->Ahead n c Tb b k)/\[some (V.ref p),some (V.int (c:Int)),some fv,some (V.int (i:Int)),some (V.int (Tb.own i:Int))]=[some (.ref p),some (.int (c:Int)),some (.int (b:Int)),x,y]:=λE=>by
   refine⟨f,some (.int (i:Int)),some (.int (Tb.own i:Int)),?_⟩;rcases r with ⟨h,rfl⟩ | ⟨b,F,l,j,s,rfl⟩
   ·refine .inl ⟨λk hk=>?_,rfl⟩;by_cases q:k=i
    ·subst q;exact E
    exact h k J0
   refine .inr ⟨b,J0,l,j,λk hk d=>?_,rfl⟩;by_cases q:k=i
   ·subst q;exact absurd d E
   exact s k J0 d
  refine⟨_,rfl,_,rfl,p,C,dx,_,_,rfl,f _ _ h1,tc.cl,tc.nK,Mw,_,_,rfl,rfl,_,rfl,?_⟩;refine Xu (λh=>?_) (λh=>?_)
  ·have J:Tb.own i<=lk:=by have:=XO h;omega
   have S:las[i]?=some (las[i]'J0):=ZJ
   refine⟨_,rfl,p,C,dx,_,_,rfl,f _ _ h1,tc.cl,tc.nL,W9,_,rfl,la,_,_,_,rfl,rfl,SqL.of (f _ _ h2),Zk (show (las.map V.ref)[i]?=_ by rw[YI,S];rfl),_,rfl,_,_,_,_,rfl,rfl,SqL.of (f _ _ (h4 i _ S)),Zk (Xk (W8 (JH hc))),_,_,rfl,rfl,_,rfl,?_⟩;refine Xu (λh'=>?_) (λh'=>?_)
   ·have o:0<Tb.L i c:=XO h';have A:elig lk c Tb i:=⟨J,o⟩;rcases r with ⟨u,rfl⟩ | ⟨b,F,l,j,s,rfl⟩
    ·refine⟨_,rfl,rfl,_,rfl,K9 rfl ⟨_,rfl,f,_,_,.inr ⟨i,J0,g,A,λk hk d=>?_,rfl⟩⟩⟩;by_cases q:k=i
     ·subst q;exact .inr ⟨rfl,YJ _⟩
     exact absurd d (u k J0)
    refine⟨_,rfl,rfl,_,rfl,Qz (λz=>nomatch z) ?_⟩;refine⟨_,rfl,_,rfl,_,rfl,_,rfl,p,m,n,lk,c,i,b,N,Tb,rfl,B.same f,g,l,hc,bd,hN,_,rfl,?_⟩;refine Z4o (λhg=>?_) (λhg=>?_)
    ·have G:Ahead n c Tb i b:=by
      unfold goB at hg;split at hg
      ·rename_i e
       have:=XO hg;exact .inr ⟨e,J0⟩
      exact .inl (XO hg)
     refine⟨_,rfl,f,_,_,.inr ⟨i,J0,g,A,λk hk d=>?_,rfl⟩⟩;by_cases q:k=i
     ·subst q;exact .inr ⟨rfl,YJ _⟩
     exact Ahead.trans o j.2 d.2 G (s k J0 d)
    have R:Ahead n c Tb b i:=by
     unfold goB at hg;split at hg
     ·rename_i e
      have:=Y1N hg;exact .inr ⟨e.symm,J0⟩
     rename_i e
     have:=Y1N hg;exact .inl J0
    refine⟨f,_,_,.inr ⟨b,J0,l,j,λk hk d=>?_,rfl⟩⟩;by_cases q:k=i
    ·subst q;exact R
    exact s k J0 d
   exact skip λz=>h' (XA z.2)
  exact skip λz=>h (XA (by have:=z.1;omega))
 rintro σ H1 ⟨S1,x,y,inv⟩;rw[YB,U] at inv;rcases inv with ⟨u,rfl⟩ | ⟨b,F,l,j,s,rfl⟩
 ·obtain⟨k',I,Y⟩:=O;exact absurd Y (u k' I)
 exact⟨_,rfl,k H1 b S1 l j s⟩
inductive spReplaced (vs:TZ) (H:Hp) (Q:VK) (_z3:XK):Prop
 | mk (a:Addr) (i:Nat) (v:V) (xs:TZ) (zz0:vs=[.ref a,.int (i:Int),v]) (zz1:H a=some (.lst xs)) (zz2:i<xs.length) (zz3:∀ (d:Addr) (H':Hp),H d=none->Same H H'->H' d=some (.lst (xs.set i v))->Q (.ref d) H')
theorem Jf (D:Def K mg "replaced" iX UQ)(T:Blt mg):Has P w K mg base 1 "replaced" UQ spReplaced:=by
 refine D.h9 (N:=["numbers","place","number","told"]) fsc λH Q hr h nd=>?_;obtain⟨a,i,v,xs,rfl,ha,hi,k⟩:=h;refine⟨_,(Z9 (Zj (i:=3) nd rfl (Or.inl rfl) (Y7 Xi rfl T.list JU (Z0 (pv 0) Z8)))
  (Z9 (Uj (pv 2) (Tw (pv 3) (pv 1) V6))
  (Zb (Zh (pv 3))))),?_⟩
 refine⟨_,rfl,a,_,rfl,.inl (SqL.of ha),λd hd=>?_⟩;refine⟨_,rfl,_,rfl,_,rfl,d,_,_,i,rfl,rfl,Zc,Z1v J0 J0,?_⟩;refine⟨_,rfl,k d _ hd (λq o e=>?_) Zc⟩;rw[Ze (Zd e hd),Ze (Zd e hd)];exact e
noncomputable def freedI (xs zs:TV)(c:Nat)(b:Int):List Int:=((List.range xs.length).map λj=>(xs.getD j 0*zs.getD c 0 - xs.getD c 0*zs.getD j 0).fdiv b).set c (-xs.getD c 0)
inductive spFreed (vs:TZ) (H:Hp) (Q:VK) (_z3:XK):Prop
 | mk (a k:Addr) (c N:Nat) (b:Int) (xs zs:TV) (zz0:vs=[.ref a,.ref k,.int (c:Int),.int b]) (zz1:H a=some (.lst (xs.map V.int))) (zz2:H k=some (.lst (zs.map V.int))) (zz3:xs.length=zs.length) (zz4:c<xs.length) (zz5:xs.length<=1000) (zz6:(∀ z∈xs,Bd N z)) (zz7:(∀ z∈zs,Bd N z)) (zz8:Bd N b) (zz9:0<b) (zz10:N<=400000) (zz11:∀ (d:Addr) (H':Hp),H d=none->Same H H'->H' d=some (.lst ((freedI xs zs c b).map V.int))->Q (.ref d) H')
theorem Z44 (D:Def K mg "freed" j5 UR)(T:Blt mg)(F:Has P w K mg base 1 "replaced" UQ spReplaced):Has P w K mg base 2 "freed" UR spFreed:=by
 refine D.h9 (N:=["line","key_line","column","bottom","key","by","told"]) fsc λH Q hr h nd=>?_;obtain⟨a,k,c,N,b,xs,zs,rfl,ha,hk,hl,hc,g,E,G,C,I,hN,kk⟩:=h;have l:(["number","other","bottom","key","by"]:List Str).Nodup:=ZZ
 refine⟨_,(Z9 (Zj (i:=4) nd rfl (Or.inr rfl) (Zg Zy (pv 1) (pv 2)))
  (Z9 (Zj (i:=5) nd rfl (Or.inr rfl) (Zg Zy (pv 0) (pv 2)))
  (Z9 (Xa (i:=6) (ox:=none) (N:=["number","other","bottom","key","by"]) (k:=2) (fv:=[3,4,5]) nd rfl xj rfl (Mc rfl T.zip (Z0 (pv 0) (Z0 (pv 1) Z8)))
  (λ_ _ _ _ _=>W0 (n:=2) rfl (Y1 (Zi (i:=0) l rfl (Or.inl rfl)) (Y1 (Zi (i:=1) l rfl (Or.inl rfl)) Xg))) (λ_ _ _ _ _=>Y8) (λ_ _ _ _ _=>(Zl Wd (Zl Wz (Zl Zu (pv 0) (pv 3)) (Zl Zu (pv 4) (pv 1))) (pv 2))) Xw)
  (Zb (Zh (Zf F hr (Z0 (pv 6) (Z0 (pv 2) (Z0 (V9 Xx (pv 5)) Z8))))))))),?_⟩
 have ex:∀ j,j<xs.length->xs[j]?=some (xs.getD j 0):=λj hj=>by simp[List.getD,hj]
 have u:∀ j,j<xs.length->zs[j]?=some (zs.getD j 0):=λj hj=>by simp[List.getD,show j<zs.length by omega]
 have m:∀ j,Bd N (xs.getD j 0):=Mt E;have p:∀ j,Bd N (zs.getD j 0):=Mt G;refine⟨_,rfl,_,rfl,k,_,_,_,rfl,rfl,SqL.of hk,Zk (Xk (u c hc)),?_⟩;refine⟨_,rfl,_,rfl,a,_,_,_,rfl,rfl,SqL.of ha,Zk (Xk (ex c hc)),?_⟩;refine⟨_,rfl,_,rfl,a,k,rfl,⟨_,SqL.of ha⟩,⟨_,SqL.of hk⟩,λd hd=>?_⟩;refine⟨xs.length,λj ys H2=>Same H H2/\ys=(((List.range xs.length).map λj=>(xs.getD j 0*zs.getD c 0 - xs.getD c 0*zs.getD j 0).fdiv b).take j).map V.int,Zz g,⟨Same.new hd,rfl⟩,?_,?_⟩
 ·rintro j ys H2 hj ⟨S2,rfl⟩ f;refine⟨⟨_,_,SqL.of (S2 _ _ ha),SqL.of (S2 _ _ hk),by rw[YB];exact hj,by rw[YB];omega⟩,?_⟩;rintro x t ⟨B,x0,y0,rfl,hp,rfl,z,A⟩;have e1:x0=V.int (xs.getD j 0):=by
   have:=z _ (SqL.of (S2 _ _ ha));rw[Xk (ex j hj)] at this;exact (YU this).symm
  have e2:y0=V.int (zs.getD j 0):=by
   have:=A _ (SqL.of (S2 _ _ hk));rw[Xk (u j hj)] at this;exact (YU this).symm
  subst e1 e2;have r:d≠B:=Zd f hp;refine T9 (SqT.of Zc) ?_;refine⟨_,rfl,_,rfl,_,_,rfl,rfl,(m j).mulOk (p c) J0 J0,_,rfl,_,rfl,_,_,rfl,rfl,(m c).mulOk (p j) J0 J0,_,_,rfl,rfl,_,rfl,_,_,rfl,rfl,⟨J0,C.log J0⟩,by rw[Ze r];exact f,λq o e=>?_,?_⟩
  ·have:=S2 _ _ e;rw[Ze (Zd e hd),Ze (Zd this hp)];exact this
  rw[V5 _ (show (List.range xs.length)[j]?=some j by simp[hj]),XH];rfl
 rintro ys H2 ⟨S2,rfl⟩ f;rw[YZ ZJ] at f;refine⟨⟨_,_,SqL.of (S2 _ _ ha),SqL.of (S2 _ _ hk),by rw[YB]⟩,?_⟩;refine⟨_,rfl,_,rfl,_,rfl,_,rfl,d,c,_,_,rfl,f,by simp;exact hc,λv t s y e3=>?_⟩;refine kk v t ?_ (S2.trans y) ?_
 ·cases q:H v with
  | none=>rfl
  | some o=>rw[S2 _ _ q] at s;cases s
 rw[e3];unfold freedI;rw[Y07]
end
end _b
namespace _v
section
variable {m n lk i0:Nat}{col:Nat->Vec}{rhs:Vec}{K:Nat}{S:Nat->Tab}{P C:TX}
def Run.more (R:Run m n lk i0 col rhs K S P C){p c:Nat}(s:Step m n lk i0 (S K) p c)(h:p≠i0) :
  ∃ a b C',Run m n lk i0 col rhs (K+1) a b C'/\a (K+1)=piv (S K) p c:=by
 refine⟨λt=>if t<=K then S t else piv (S K) p c,λt=>if t<K then P t else p,λt=>if t<K then C t else c,⟨R.h0,?_,?_,λk hk=>?_,λk hk=>?_,λk hk=>?_⟩,?_⟩
 ·show Inv m n col rhs (if 0<=K then S 0 else _);rw[YH J0];exact R.I0
 ·show Feas m n lk (if 0<=K then S 0 else _);rw[YH J0];exact R.F0
 ·show Step m n lk i0 (if k<=K then S k else _) (if k<K then P k else p) (if k<K then C k else c);rw[YH J0];by_cases q:k<K
  ·rw[YH q,YH q];exact R.st k q
  have:k=K:=J0
  subst this;rw[YF q,YF q];exact s
 ·show (if k<K then P k else p)≠i0;by_cases q:k<K
  ·rw[YH q];exact R.stay k q
  rw[YF q];exact h
 ·show (if k+1<=K then S (k+1) else piv (S K) p c)=piv (if k<=K then S k else _) (if k<K then P k else p) (if k<K then C k else c);by_cases q:k<K
  ·rw[YH J0,YH J0,YH q,YH q];exact R.nx k q
  have:k=K:=J0
  subst this;rw[YF J0,YH J0,YF q,YF q]
 show (if K+1<=K then _ else _)=_;rw[YF J0]
def Run.start (h0:i0<m){T:Tab}(I:Inv m n col rhs T)(F:Feas m n lk T):Run m n lk i0 col rhs 0 (λ_=>T) (λ_=>0) (λ_=>0) :=
 ⟨h0,I,F,λk hk=>J0,λk hk=>J0,λk hk=>J0⟩
end
end _v
namespace _b
open PySem _L
section
variable {P:TU}
theorem Xl (f:Str)(v:V):∀ fs:List (Str × V),(putF f v fs).length<=fs.length+1
 | []=>YJ _
 | (g,x)::r=>by
  have:=Xl f v r;unfold putF;split
  ·simp
  simp only [XT];omega
inductive spInitT (C:Addr) (vs:TZ) (H:Hp) (Q:VK) (_z3:XK):Prop
 | mk (p dx:Addr) (a b c d e:V) (zz0:vs=[.ref p,a,b,c,d,e]) (zz1:H p=some (.ins C dx [])) (zz2:∀ H',H' p=some (.ins C dx (fldsT a b c d e))->(∀ q o,H q=some o->q≠p->H' q=some o)->Q .non H')
def Z2r:FnScope US US (defScope iK):=fsc
theorem Z3r (F:Fun K "__init__" "Table.__init__" iK f fd)(tc:TabC K mg C):FnOk P w K mg base CX0 1 f fd US (spInitT C):=by
 refine F.ok Z2r (λvs H Q E h=>?_) (λcdv A outer s H vs Q E hr h=>?_)
 ·obtain⟨p,dx,a,b,c,d,e,rfl,_⟩:=h;rfl
 obtain⟨p,dx,a,b,c,d,e,rfl,hp,k⟩:=h;refine⟨_,Z9 (Qj (pv 0) (pv 1) rfl) (Z9 (Qj (pv 0) (pv 2) rfl) (Z9 (Qj (pv 0) (pv 3) rfl) (Z9 (Qj (pv 0) (pv 4) rfl) (Zb (Qj (pv 0) (pv 5) rfl))))),?_⟩;refine⟨_,rfl,_,rfl,p,C,dx,_,rfl,hp,tc.cl,tc.nL,(by show 0<1000;decide),?_⟩;refine⟨_,rfl,_,rfl,p,C,dx,_,rfl,Zc,tc.cl,tc.nO,(by show 1<1000;decide),?_⟩;refine⟨_,rfl,_,rfl,p,C,dx,_,rfl,Zc,tc.cl,tc.nH,?_,?_⟩
 ·have z1:=Xl "owners" b (putF "lines" a []);have z2:=Xl "lines" a [];simp only [jp] at z2;omega
 refine⟨_,rfl,_,rfl,p,C,dx,_,rfl,Zc,tc.cl,tc.nB,?_,?_⟩
 ·have z1:=Xl "owners" b (putF "lines" a []);have z2:=Xl "lines" a [];have z3:=Xl "heads" c (putF "owners" b (putF "lines" a []));simp only [jp] at z2;omega
 refine⟨_,rfl,_,rfl,p,C,dx,_,rfl,Zc,tc.cl,tc.nK,?_,?_⟩
 ·have z1:=Xl "owners" b (putF "lines" a []);have z2:=Xl "lines" a [];have z3:=Xl "heads" c (putF "owners" b (putF "lines" a []));have z4:=Xl "bottom" d (putF "heads" c (putF "owners" b (putF "lines" a [])));simp only [jp] at z2;omega
 refine k _ Zc λq o e hq=>?_;rw[Ze hq,Ze hq,Ze hq,Ze hq,Ze hq];exact e
def HasT (P:TU)(w:World)(K:TR)(mg:TB)(base:Heap)(C:Addr):Prop:=∃ (f:Addr) (fd:FuncData),Mk K C f/\FnOk P w K mg base CX0 1 f fd US (spInitT C)/\Binds K fd US []
def Vd {n:Nat}{xs:TV}{f:TY}(hl:xs.length=n)(h:∀ i,i<n->xs[i]?=some (f i)):xs=(List.range n).map f:=by
 apply jb;intro i;by_cases q:i<n
 ·rw[h i q];simp[q]
 rw[GJ J0,GJ (by simp;omega)]
def Z3i {m p c:Nat}(hp:p<m):(ownI m T).set p (T.hd c:Int)=ownI m (_v.piv T p c):=by
 refine Vd (by rw[qU,Vv]) λi hi=>?_;show _=some ((_v.up T.own p (T.hd c) i:Nat):Int);unfold _v.up;by_cases e:i=p
 ·subst e;rw[JG (by rw[Vv];exact hi),YH rfl]
 rw[qi (JC e),Vl hi,YF e]
def Z72 {n p c:Nat}(hc:c<n):(hdI n T).set c (T.own p:Int)=hdI n (_v.piv T p c):=by
 refine Vd (by rw[qU,Vn]) λi hi=>?_;show _=some ((_v.up T.hd c (T.own p) i:Nat):Int);unfold _v.up;by_cases e:i=c
 ·subst e;rw[JG (by rw[Vn];exact hi),YH rfl]
 rw[qi (JC e),Ul hi,YF e]
def Z4m {n p c:Nat}(hc:c<n):(lineI n T p).set c T.b=lineI n (_v.piv T p c) p:=by
 refine Vd (by rw[qU,Yt]) λj hj=>?_;show _=some (_v.newL T p c p j);unfold _v.newL;rw[YH rfl];by_cases e:j=c
 ·subst e;rw[JG (by rw[Yt];exact hj),YH rfl]
 rw[qi (JC e),W8 J0,YF e]
def Wn {n:Nat}(h:j<=n):(lineI n T i).getD j 0=T.L i j:=by
 simp only [List.getD,W8 h];rfl
def Z1r {n p c:Nat}(hc:c<n)(h:i≠p):freedI (lineI n T i) (lineI n T p) c T.b=lineI n (_v.piv T p c) i:=by
 unfold freedI;refine Vd (by rw[qU];simp[Yt]) λj hj=>?_;show _=some (_v.newL T p c i j);unfold _v.newL;rw[YF h,Yt];by_cases e:j=c
 ·subst e;rw[JG (by simpa using hj),YH rfl,Wn J0]
 rw[qi (JC e),YF e];simp only [YI,show (List.range (n+1))[j]?=some j by simp[hj],jn];rw[Wn J0,Wn J0,Wn J0,Wn J0]
theorem K7 {N m n:Nat}(h:TabBd N m n T)(hi:i<m):∀ z∈lineI n T i,Bd N z:=λz hz=>by
 unfold lineI at hz;obtain⟨j,hj,rfl⟩:=YN.mp hz;exact h.l i j hi (by have:=XI.mp hj;omega)
inductive spExch (C:Addr) (vs:TZ) (H:Hp) (Q:VK) (_z3:XK):Prop
 | mk (p:Addr) (m n lk pl c N:Nat) (T:UC) (zz0:vs=[.ref p,.int (pl:Int),.int (c:Int)]) (zz1:TabAt C H p m n lk T) (zz2:pl<m) (zz3:c<n) (zz4:m<=900) (zz5:n<=900) (zz6:TabBd N m n T) (zz7:N<=400000) (zz8:0<T.b) (zz9:∀ (q:Addr) (H':Hp),Same H H'->TabAt C H' q m n lk (_v.piv T pl c)->Q (.ref q) H')
theorem Z6s (D:Def K mg "exchanged" iV UT)(tc:TabC K mg C)(hT:HasT P w K mg base C)(iB:Has P w K mg base 2 "freed" UR spFreed)(I:Has P w K mg base 1 "replaced" UQ spReplaced):Has P w K mg base 3 "exchanged" UT (spExch C):=by
 refine D.h9 (N:=["table","place","column","key_line","lines"]) fsc λH Q hr h nd=>?_;obtain⟨p,m,n,lk,pl,c,N,T,rfl,O,hp,hc,hm,hn,bd,hN,hb,k⟩:=h;obtain⟨dx,la,oa,ha,las,h1,h2,h3,h4,h5,h6⟩:=id O;obtain⟨fI,a1,j,g,s⟩:=hT;have l:=tc.mgC;have Y:(["line","table","column","key_line"]:List Str).Nodup:=ZZ
 refine⟨_,(Z9 (Zj (i:=3) nd rfl (Or.inr rfl) (Zg Zy (Yg (pv 0) rfl) (pv 1)))
  (Z9 (Xa (i:=4) (ox:=none) (N:=["line","table","column","key_line"]) (k:=1) (fv:=[0,2,3]) nd rfl xj rfl (Yn (Yg (pv 0) rfl))
  (λ_ _ _ _ _=>Zi (i:=0) Y rfl xj) (λ_ _ _ _ _=>Y8) (λ_ _ _ _ _=>(Zf iB hr (Z0 (pv 0) (Z0 (pv 3) (Z0 (pv 2) (Z0 (Mf (K:=K) (pv 1) rfl) Z8)))))) Zv)
  (Zb (Zh (Gq j g (hr.mono J1) rfl l s .nil Gu (Z0 (Zf I hr (Z0 (pv 4) (Z0 (pv 1) (Z0 (Zf I hr (Z0 (pv 3) (Z0 (pv 2) (Z0 (Yg (pv 0) rfl) Z8)))) Z8)))) (Z0 (Zf I hr (Z0 (Yg (pv 0) rfl) (Z0 (pv 1) (Z0 (Zg Zy (Yg (pv 0) rfl) (pv 2)) Z8)))) (Z0 (Zf I hr (Z0 (Yg (pv 0) rfl) (Z0 (pv 2) (Z0 (Zg Zy (Yg (pv 0) rfl) (pv 1)) Z8)))) (Z0 (Zg Zy (pv 3) (pv 2)) (Z0 (Yg (pv 0) rfl) Z8)))))))))),?_⟩
 have ep:las[pl]?=some (las[pl]'J0):=ZJ
 have A:=h4 pl _ ep;generalize las[pl]'J0=L at *
 refine⟨_,rfl,p,C,dx,_,_,rfl,h1,tc.cl,tc.nL,W9,_,rfl,la,_,_,_,rfl,rfl,SqL.of h2,Zk (show (las.map V.ref)[pl]?=some (V.ref L) by rw[YI,ep];rfl),?_⟩;refine⟨_,rfl,p,C,dx,_,_,rfl,h1,tc.cl,tc.nL,W9,la,rfl,⟨_,SqL.of h2⟩,λd hd=>?_⟩;refine⟨m,λi ys H2=>Same H H2/\∃ ns:List Addr,ys=ns.map V.ref/\ns.length=i/\∀ (t:Nat) (a:Addr),ns[t]?=some a->a≠d/\H2 a=some (.lst ((freedI (lineI n T t) (lineI n T pl) c T.b).map V.int)),Zz J0,⟨Same.new hd,[],rfl,rfl,λt a e=>by simp at e⟩,?_,?_⟩
 ·rintro i ys H2 hi ⟨S2,ns,rfl,l2,X⟩ u;have ei:las[i]?=some (las[i]'J0):=ZJ
  refine⟨⟨_,V.ref (las[i]'J0),SqL.of (S2 _ _ h2),ZJ⟩,?_⟩;rintro x H3 ⟨rfl,fx⟩;have ex:x=V.ref (las[i]'J0):=by
   have:=fx _ (SqL.of (S2 _ _ h2));rw[YI,ei] at this;exact (YU this).symm
  subst ex;refine Yh ?_;refine⟨_,rfl,_,rfl,_,rfl,_,rfl,p,C,dx,_,_,rfl,S2 _ _ h1,tc.cl,tc.nB,Vc,?_⟩;refine⟨_,L,c,N,T.b,lineI n T i,lineI n T pl,rfl,S2 _ _ (h4 i _ ei),S2 _ _ A,by rw[Yt,Yt],by rw[Yt];omega,by rw[Yt];omega,K7 bd hi,K7 bd hp,bd.b,hb,hN,λa4 H4 f4 E S=>?_⟩;have W:=E _ _ u;refine⟨W,λq o e=>?_,ns++[a4],by rw[XH];rfl,by rw[YY,l2];rfl,λt a e=>?_⟩
  ·rw[Ze (Zd e hd)];exact E _ _ (S2 _ _ e)
  by_cases q:t<ns.length
  ·rw[JO q] at e;have:=X t a e;refine⟨this.1,?_⟩;rw[Ze this.1];exact E _ _ this.2
  rw[JM J0] at e;have M:t - ns.length=0:=by
   have:=(YG.mp e).1;simp at this;omega
  rw[M] at e
  cases e;have R:t=i:=J0
  subst R;have y:a4≠d:=λz=>by rw[z] at f4;rw[f4] at u;cases u
  refine⟨y,?_⟩;rw[Ze y];exact S
 rintro ys H2 ⟨S2,ns,rfl,l2,X⟩ u;refine⟨⟨_,SqL.of (S2 _ _ h2),by simp[h3]⟩,?_⟩;refine⟨_,rfl,_,rfl,_,rfl,_,rfl,_,rfl,p,C,dx,_,_,rfl,S2 _ _ h1,tc.cl,tc.nB,Vc,L,c,_,_,rfl,S2 _ _ A,by rw[YB,Yt];omega,λd1 H3 f3 U e3=>?_⟩;refine⟨d,pl,_,_,rfl,U _ _ u,by rw[YB];omega,λd2 H4 f4 E S=>?_⟩;have f:=(S2.trans U).trans E;refine⟨_,rfl,p,C,dx,_,_,rfl,f _ _ h1,tc.cl,tc.nO,Xh,_,rfl,_,rfl,p,C,dx,_,_,rfl,f _ _ h1,tc.cl,tc.nH,Vb,_,rfl,ha,_,_,_,rfl,rfl,SqL.of (f _ _ h6),Zk (Xk (Ul hc)),oa,pl,_,_,rfl,f _ _ h5,by rw[YB,Vv];omega,λd3 H5 f5 J e5=>?_⟩;have r:=f.trans J;refine⟨_,rfl,p,C,dx,_,_,rfl,r _ _ h1,tc.cl,tc.nH,Vb,_,rfl,_,rfl,p,C,dx,_,_,rfl,r _ _ h1,tc.cl,tc.nO,Xh,_,rfl,oa,_,_,_,rfl,rfl,SqL.of (r _ _ h5),Zk (Xk (Vl hp)),ha,c,_,_,rfl,r _ _ h6,by rw[YB,Vn];omega,λd6 Z f6 G e6=>?_⟩;have B:=r.trans G;refine⟨_,rfl,_,rfl,L,_,_,_,rfl,rfl,SqL.of (B _ _ A),Zk (Xk (W8 (JH hc))),_,rfl,p,C,dx,_,_,rfl,B _ _ h1,tc.cl,tc.nK,Mw,λx v hx a0 y=>?_⟩;have SU:Same Z (upd (upd Z v (.own x)) x (.ins C v [])):=λq o e=>by
  rw[Ze (Zd e hx),Ze (Zd e a0)];exact e
 refine⟨x,v,_,_,_,_,_,rfl,Zc,λH7 e7 S7=>⟨rfl,?_⟩⟩;have F:Same Z H7:=λq o e=>S7 q o (SU q o e) (Zd e hx);refine k x H7 (B.trans F) ⟨v,d2,d3,d6,ns.set pl d1,e7,F _ _ (G _ _ (J _ _ (by rw[S,Y07]))),by rw[qU];exact l2,λi a e=>?_,F _ _ (G _ _ (by rw[e5,<-Z3i hp,Y07])),F _ _ (by rw[e6,<-Z72 hc,Y07])⟩;by_cases q:i=pl
 ·subst q;rw[JG J0] at e
  cases e;refine F _ _ (G _ _ (J _ _ (E _ _ ?_)));rw[e3,<-Z4m hc,Y07]
 rw[qi (JC q)] at e;refine F _ _ (G _ _ (J _ _ (E _ _ (U _ _ ?_))));rw[(X i a e).2,Z1r hc q]
inductive spFirst (C:Addr) (vs:TZ) (H:Hp) (Q:VK) (_z3:XK):Prop
 | mk (la:Addr) (m n:Nat) (las:TJ) (T:UC) (zz0:vs=[.ref la]) (zz1:H la=some (.lst (las.map V.ref))) (zz2:las.length=m+2) (zz3:(∀ (i:Nat) (a:Addr),las[i]?=some a->H a=some (.lst ((lineI n T i).map V.int)))) (zz4:m<=900) (zz5:n<=900) (zz6:T.b=1) (zz7:(∀ i,T.own i=n+i)) (zz8:(∀ j,T.hd j=j)) (zz9:∀ (q:Addr) (H':Hp),Same H H'->TabAt C H' q (m+2) n (n+m) T->Q (.ref q) H')
theorem Z46 (D:Def K mg "first_table" iQ ["lines"])(T0:Blt mg)(tc:TabC K mg C)(O:HasT P w K mg base C):Has P w K mg base 3 "first_table" ["lines"] (spFirst C):=by
 refine D.h9 (N:=["lines","width","owners"]) fsc λH Q hr h nd=>?_;obtain⟨la,m,n,las,Tb,rfl,h2,h3,h4,hm,hn,M,ho,U,k⟩:=h;obtain⟨fI,J,f,c,d⟩:=O;have b:=tc.mgC;have T:=T0;refine⟨_,(Z9 (Zj (i:=1) nd rfl (Or.inl rfl) (Zl Wz (Zt Zq rfl T.len GL (Z0 (Zg Zy (pv 0) Za) Z8)) Za))
  (Z9 (Zj (i:=2) nd rfl (Or.inl rfl) (Dj rfl rfl T.list rfl T.range (Z0 (pv 1) (Z0 (Zl X6 (pv 1) (Zt Zq rfl T.len GL (Z0 (pv 0) Z8))) Z8))))
  (Zb (Zh (Gq f c (hr.mono J1) rfl b d .nil Gu (Z0 (pv 0) (Z0 (pv 2) (Z0 (Dk rfl rfl T.list rfl T.range (Z0 (pv 1) Z8)) (Z0 Za (Z0 (Zg Zy (pv 2) (V9 Xx Za)) Z8)))))))))),?_⟩
 have e0:las[0]?=some (las[0]'J0):=ZJ
 have A:=h4 0 _ e0;generalize las[0]'J0=F at *
 have G:((((lineI n Tb 0).map V.int).length:Nat):Int) - 1=(n:Int):=by rw[YB,Yt];omega
 refine⟨_,rfl,la,_,_,_,rfl,rfl,SqL.of h2,Zk (show (las.map V.ref)[0]?=some (V.ref F) by rw[YI,e0];rfl),F,_,rfl,.inl (SqL.of A),?_⟩;refine⟨_,_,rfl,rfl,_,rfl,_,rfl,_,rfl,la,_,rfl,.inl (SqL.of h2),_,_,rfl,rfl,n,m+2,?_,J0,J0,λo p=>?_⟩
 ·show [V.int _,V.int (_+_)]=_;rw[G,YB,h3];rfl
 refine⟨_,rfl,_,rfl,_,rfl,n,(by show [V.int _]=_;rw[G]),J0,λe s=>?_⟩;have l:o≠e:=λz=>by rw[<-z,Zc] at s;cases s
 have R:(List.map (λk=>V.int ((n+k:Nat):Int)) (List.range (m+2))).length=m+2:=ZJ
 refine⟨_,rfl,_,rfl,o,_,_,_,rfl,rfl,SqL.of ((Ze l).trans Zc),(show atI _ (-2)=some (V.int ((n+m:Nat):Int)) from ?_),λx g hx t S=>?_⟩
 ·unfold atI ixN;rw[R,YF J1,YH J0];show (List.map (λk=>V.int ((n+k:Nat):Int)) (List.range (m+2)))[(-2+((m+2:Nat):Int)).toNat]?=_;have:(-2+((m+2:Nat):Int)).toNat=m:=J0
  rw[this];simp
 have S2:Same H (upd (upd H o (.lst ((List.range (m+2)).map λk=>V.int ((n+k:Nat):Int)))) e (.lst ((List.range n).map λ(k:Nat)=>V.int (k:Int)))):=λq z y=>by
  rw[Ze (Zd (show upd H o _ q=some z by rw[Ze (Zd y p)];exact y) s),Ze (Zd y p)];exact y
 have v:upd (upd H o (.lst ((List.range (m+2)).map λk=>V.int ((n+k:Nat):Int)))) e (.lst ((List.range n).map λ(k:Nat)=>V.int (k:Int))) o=some (.lst ((ownI (m+2) Tb).map V.int)):=by
  rw[Ze l,Zc];unfold ownI;simp[ho,Y0U]
 have u:upd (upd H o (.lst ((List.range (m+2)).map λk=>V.int ((n+k:Nat):Int)))) e (.lst ((List.range n).map λ(k:Nat)=>V.int (k:Int))) e=some (.lst ((hdI n Tb).map V.int)):=by
  rw[Zc];unfold hdI;simp[U,Y0U]
 generalize upd (upd H o (.lst ((List.range (m+2)).map λk=>V.int ((n+k:Nat):Int)))) e (.lst ((List.range n).map λ(k:Nat)=>V.int (k:Int)))=r at *
 have L:Same r (upd (upd r g (.own x)) x (.ins C g [])):=λq o e=>by
  rw[Ze (Zd e hx),Ze (Zd e t)];exact e
 refine⟨x,g,_,_,_,_,_,rfl,Zc,λE I W=>⟨rfl,?_⟩⟩;have B:Same r E:=λq o e=>W q o (L q o e) (Zd e hx);have j:=S2.trans B;exact k x E j ⟨g,la,o,e,las,by rw[M];exact I,j _ _ h2,h3,λi a y=>j _ _ (h4 i a y),B _ _ v,B _ _ u⟩
def DrEnd (m n lk i0 v:Nat)(col:Nat->_v.Vec)(rhs:_v.Vec)(Ex:_v.Tab->Prop)(T:UC):Prop :=
 _v.Inv m n col rhs T/\_v.Feas m n lk T/\Ex T/\((T.own i0=v/\∀ j,j<n->T.hd j≠lk->T.L i0 j<=0) \/ ∃ a c,a.own i0=v/\_v.Inv m n col rhs a/\_v.Step m n lk i0 a i0 c/\T=_v.piv a i0 c)
inductive spDriven (C:Addr) (vs:TZ) (H:Hp) (Q:VK) (_z3:XK):Prop
 | mk (p:Addr) (m n lk i0 N v:Nat) (col:Nat->_v.Vec) (rhs:_v.Vec) (Ex:_v.Tab->Prop) (T:UC) (zz0:vs=[.ref p,.int (v:Int)]) (zz1:TabAt C H p m n lk T) (zz2:i0<m) (zz3:m<=900) (zz4:n<=900) (zz5:N<=400000) (zz6:_v.Inv m n col rhs T) (zz7:_v.Feas m n lk T) (zz8:Ex T) (zz9:T.own i0=v) (zz10:(∀ T',_v.Inv m n col rhs T'->TabBd N m n T')) (zz11:(∀ T' c,_v.Inv m n col rhs T'->_v.Feas m n lk T'->Ex T'->T'.own i0=v->c<n->T'.hd c≠lk->0<T'.L i0 c->∃ k,k<m/\elig lk c T' k)) (zz12:(∀ T' pl c,_v.Inv m n col rhs T'->Ex T'->_v.Step m n lk i0 T' pl c->Ex (_v.piv T' pl c))) (zz13:∀ (q:Addr) (H':Hp) (T':UC),Same H H'->TabAt C H' q m n lk T'->DrEnd m n lk i0 v col rhs Ex T'->Q (.ref q) H')
theorem Z1e (D:Def K mg "driven" jQ UK)(tc:TabC K mg C)(gM:Has P w K mg base 2 "helping" UK (spHelping C))(fT:Has P w K mg base 3 "exchanged" UT (spExch C))(gE:Has P w K mg base 2 "going_out" ["table","column"] (spGoing C)):Has P w K mg base 4 "driven" UK (spDriven C):=by
 refine D.h9 (N:=["table","owner","column"]) fsc λH Q hr h nd=>?_;obtain⟨p,m,n,lk,i0,N,v,col,rhs,Ex,T,rfl,G,t,hm,hn,hN,I0,F0,X0,hv,y,O,A,kk⟩:=h;refine⟨_,(Z9 (T4 XS (Zo Wh (pv 1) (Yg (pv 0) rfl) rfl)
   (Z9 (Zj (i:=2) nd rfl (Or.inl rfl) (Zf gM hr (Z0 (pv 0) (Z0 (pv 1) Z8))))
   (Z9 (Y9 (Zo Mh (pv 2) Xo (Zp _))
    (Zb (Zh (pv 0)))
    Zw)
   (Zb (Zj (i:=0) nd rfl (Or.inl rfl) (Zf fT hr (Z0 (pv 0) (Z0 (Zf gE hr (Z0 (pv 0) (Z0 (pv 2) Z8))) (Z0 (pv 2) Z8)))))))))
  (Zb (Zh (pv 0)))),?_⟩
 refine⟨λU σ H'=>Same H H'/\∃ (q:Addr) (T':UC) (x:Option V),σ=[some (.ref q),some (.int (v:Int)),x]/\TabAt C H' q m n lk T'/\((∃ k S P Cc,_v.Run m n lk i0 col rhs k S P Cc/\T'=S k/\T'.own i0=v/\Ex T'/\U=(n+m) ^ m - k) \/ (U=0/\T'.own i0≠v/\(∃ c,c<n/\T'.hd c=v)/\DrEnd m n lk i0 v col rhs Ex T')),⟨_,Same.refl _,p,T,none,rfl,G,.inl ⟨0,_,_,_,_v.Run.start t I0 F0,rfl,hv,X0,rfl⟩⟩,?_⟩;rintro U σ H1 ⟨S1,q,T',x,rfl,d,inv⟩;obtain⟨dx,la,oa,ha,las,h1,h2,h3,h4,h5,h6⟩:=id d;refine⟨_,rfl,_,rfl,q,C,dx,_,_,rfl,h1,tc.cl,tc.nO,Xh,Ms h5 ?_⟩;refine⟨_,rfl,?_⟩;rcases inv with ⟨k,S,PP,Cc,R,rfl,a,E,M⟩ | ⟨M,a,⟨c,hc,F⟩,r⟩
 ·have a1:=R.short;obtain⟨f,I⟩:=R.inv k (YJ k);refine Xu (λ_=>?_) (λh=>absurd (XA (mem_ownI.mpr ⟨i0,t,a⟩)) h);refine⟨λσ' H'=>_,λσ' H' h=>h,?_⟩;refine⟨_,rfl,_,rfl,q,m,n,lk,i0,S k,by rw[a];rfl,d,TabOk.of f,t,J0,J0,λH2 S2=>⟨λc hc hh hf=>?_,λW=>?_⟩⟩
  ·have o:=d.same S2;have hd:∀ j,helps lk (S k) i0 j=true ↔ 0<(S k).L i0 j/\(S k).hd j≠lk:=λj=>by unfold helps;simp
   obtain⟨l,u⟩:=(hd c).mp hh;refine⟨_,rfl,rfl,_,rfl,Qz (by intro z;cases z) ?_⟩;refine⟨_,rfl,_,rfl,_,rfl,q,m,n,lk,c,N,S k,rfl,o,hc,J0,y _ f,hN,O _ c f I E a hc u l,λH3 b Z B s X=>?_⟩;refine⟨_,rfl,q,m,n,lk,b,c,N,S k,rfl,o.same Z,B,hc,hm,hn,y _ f,hN,f.pos,λq2 H4 S4 g=>?_⟩;have st:_v.Step m n lk i0 (S k) b c:=⟨B,hc,u,l,λj hj Y J=>hf j hj ((hd j).mpr ⟨J,Y⟩),s.1,s.2,λi hi h1 h2=>X i hi ⟨h1,h2⟩⟩;have SS:=((S1.trans S2).trans Z).trans S4;by_cases e:b=i0
   ·subst e;refine⟨0,J0,SS,q2,_,_,rfl,g,.inr ⟨rfl,λz=>?_,⟨c,hc,?_⟩,f.piv B hc s.2,st.feas f I,A _ _ _ f E st,.inr ⟨S k,c,a,f,st,rfl⟩⟩⟩
    ·rw[_v.own_p] at z;exact f.ne B hc (a.trans z.symm)
    show _v.up (S k).hd c ((S k).own b) c=v;unfold _v.up;rw[YH rfl];exact a
   obtain⟨S',P',C',R',e'⟩:=R.more st e;have a0:=R'.short;refine⟨(n+m) ^ m - (k+1),J0,SS,q2,_,_,rfl,g,.inl ⟨k+1,S',P',C',R',e'.symm,?_,A _ _ _ f E st,rfl⟩⟩;rw[_v.own_ne (JC e)];exact a
  refine⟨_,rfl,rfl,_,rfl,K9 rfl ⟨_,rfl,kk q H2 (S k) (S1.trans S2) (d.same S2) ⟨f,I,E,.inl ⟨a,λj hj hl=>?_⟩⟩⟩⟩;have:=W j hj;unfold helps at this;simp[hl] at this;exact this
 refine Xu (λh=>?_) (λh=>?_)
 ·obtain⟨i,hi,e⟩:=mem_ownI.mp (XO h);exact absurd (e.trans F.symm) (r.1.ne hi hc)
 exact⟨_,rfl,kk q H1 T' S1 d r⟩
end
section
variable {P:TU}
inductive spIsIn (K:TR) (vs:TZ) (H:Hp) (Q:VK) (_z3:XK):Prop
 | mk (i c:Nat) (o:TW) (v:V) (zz0:vs=[.int i,v]) (zz1:EvAt K H c o v) (zz2:i<c) (zz3:Q (.bl (inE o i)) H)
def Z88 {H:Hp}{c i:Nat}{o:TW}{v:V}{Q:VK}(h:EvAt K H c o v)(hi:i<c)(q:Q (.bl (inE o i)) H) :
  if decide (v=V.non)=true then Q (.bl true) H else rIn K false (.int i) v H Q:=by
 cases o with
 | none =>
  have e:v=.non:=h;exact K9 e q
 | some p =>
  obtain⟨a,rfl,h⟩:=h;refine Qz (by intro z;cases z) ⟨a,_,rfl,.inr h,rfl,Sh _,?_⟩;show Q (.bl (inV (.int (i:Int)) ((evI c p).map V.int))) H;rw[Pd];have e:decide ((i:Int)∈evI c p)=p i:=by
   rw[GE,zE,Gw];simp[hi]
  rw[e];exact q
theorem Z6p (D:Def K mg "is_in" kJ UU):Has P w K mg base 1 "is_in" UU (spIsIn K):=by
 refine D.h9 (N:=UU) fsc λH Q hr h nd=>?_;obtain⟨i,c,o,v,rfl,a,hi,q⟩:=h;refine⟨_,(Zb (Zh (Z7s (Yu Mh (pv 1) Xo (Zp _)) (Me (Yu Wh (pv 0) (pv 1) rfl))))),?_⟩;refine⟨_,rfl,rfl,_,rfl,?_⟩;have:=Z88 (Q:=Q) a hi q;refine Z4o (λe=>?_) (λe=>?_)
 ·rw[e] at this;rw[YH rfl] at this;exact this
 rw[e] at this;rw[YF YO] at this;exact⟨_,rfl,_,rfl,this⟩
inductive spCut (K:TR) (vs:TZ) (H:Hp) (Q:VK) (_z3:XK):Prop
 | mk (a:Addr) (v:V) (rs:UA) (o:TW) (zz0:vs=[.ref a,v]) (zz1:RowAt K H a rs) (zz2:EvAt K H rs.length o v) (zz3:rs.length<=1000) (zz4:∀ p H',Same H H'->RowAt K H' p (cutR o rs)->Q (.ref p) H')
theorem Z7z (D:Def K mg "cut" kU UV)(T:Blt mg)(L:Has P w K mg base 1 "is_in" UU (spIsIn K))(J:Con K mg "NOUGHT" (0,1)):Has P w K mg base 2 "cut" UV (spCut K):=by
 refine D.h9 (N:=UV) fsc λH Q hr h nd=>?_;obtain⟨a,v,rs,o,rfl,⟨xs,z,s⟩,I,hl,k⟩:=h;obtain⟨c,b,f⟩:=J;have m:(["world","worth","event"]:List Str).Nodup:=ZZ
 refine⟨_,(Zb (Zh (Y7 Yc rfl T.tuple XV (Z0 (Yd (ox:=none) (N:=["world","worth","event"]) (k:=2) (fv:=[1]) rfl (Z3e rfl T.enumerate (Z0 (pv 0) Z8))
  (λ_ _ _ _ _=>W0 (n:=2) rfl (Y1 (Zi (i:=0) m rfl (Or.inl rfl)) (Y1 (Zi (i:=1) m rfl (Or.inl rfl)) Xg))) (λ_ _ _ _ _=>Y8) (λ_ _ _ _ _=>(Vt (Yp (Zf L hr (Z0 (pv 0) (Z0 (pv 2) Z8)))) (pv 1) (Xb (v:=.ref c) rfl b rfl))) Xw) Z8)))),?_⟩
 refine⟨_,rfl,a,rfl,⟨_,z⟩,λd hd=>?_⟩;have lx:=s.len;refine⟨rs.length,λi ys H2=>Same H H2/\Rs K H2 ((cutR o rs).take i) ys,Zz hl,⟨Same.new hd,.nil⟩,?_,?_⟩
 ·rintro i ys H2 hi ⟨S2,R2⟩ g;refine⟨⟨xs,Zx S2 z,J0⟩,?_⟩;rintro x O ⟨p,x0,rfl,hp,rfl,F⟩;obtain⟨r,M,C⟩:=s.back (F xs (Zx S2 z));have j:Same H2 (upd H2 p (.tup [.int (i:Int),x0])):=Same.new hp;have A:=C.ext ((Ext.same S2).trans (Ext.same j));refine T9 (SqT.of Zc) ?_;refine⟨_,rfl,_,rfl,i,rs.length,o,v,rfl,(I.same S2).same j,hi,_,rfl,?_⟩;have G:d≠p:=Zd g hp;have u:upd H2 p (.tup [.int (i:Int),x0]) d=some (.lst ys):=j _ _ g;have t:∀ y,IsR K (upd H2 p (.tup [.int (i:Int),x0])) (if inE o i then r else (0,1)) y →
    upd H2 p (.tup [.int (i:Int),x0]) d=some (.lst ys)/\Same H (upd (upd H2 p (.tup [.int (i:Int),x0])) d (.lst (ys++[y])))/\Rs K (upd (upd H2 p (.tup [.int (i:Int),x0])) d (.lst (ys++[y]))) ((cutR o rs).take (i+1)) (ys++[y]):=λy E=>by
   refine⟨u,λq o' e=>?_,?_⟩
   ·rw[Ze (Zd e hd)];exact j _ _ (S2 _ _ e)
   rw[Yl (Ww M)];have B:Ext (upd H2 p (.tup [.int (i:Int),x0])) (upd (upd H2 p (.tup [.int (i:Int),x0])) d (.lst (ys++[y]))):=Ext.upd u;exact (R2.ext ((Ext.same j).trans B)).snoc (E.ext B)
  refine Z4o (λe=>?_) (λe=>?_)
  ·exact⟨_,rfl,t _ (by rw[e,YH rfl];exact A)⟩
  exact t _ (by rw[e,YF YO];exact⟨_,rfl,f _⟩)
 rintro ys H2 ⟨S2,R2⟩ g;refine⟨⟨xs,Zx S2 z,J0⟩,d,ys,rfl,.inl ⟨SqL.of g,λl hl'=>?_⟩⟩;rw[YZ (by rw[X1];omega)] at R2;exact k l _ (S2.trans (Same.new hl')) ⟨ys,SqT.of Zc,R2.ext (Ext.new hl')⟩
inductive spLCut (K:TR) (vs:TZ) (H:Hp) (Q:VK) (_z3:XK):Prop
 | mk (a:Addr) (v:V) (xs:TZ) (rs:UA) (o:TW) (zz0:vs=[.ref a,v]) (zz1:(SqL K H a xs \/ SqT K H a xs)) (zz2:Rs K H rs xs) (zz3:EvAt K H rs.length o v) (zz4:rs.length<=1000) (zz5:∀ p H',Same H H'->RowAt K H' p (cutR o rs)->Q (.ref p) H')
def Pm (rs:UA):cutR none rs=rs:=by
 apply jb;intro i
 cases e:rs[i]? with
 | none=>rw[GJ (by rw[X1];exact (List.getElem?_eq_none_iff.mp e))]
 | some r=>rw[Ww e];rfl
theorem Z6n (D:Def K mg "_law_cut" kH UW)(T:Blt mg):Has P w K mg base 2 "_law_cut" UW (spLCut K):=by
 refine D.h9 (N:=UW) fsc λH Q hr h nd=>?_;obtain⟨a,v,xs,rs,o,rfl,f,c,y,hl,k⟩:=h;have r:(["_law_k","_law_row_here","_law_event_here"]:List Str).Nodup:=ZZ
 refine⟨_,(Z9 (Y9 (Zo Mh (pv 1) Xo (Zp _))
   (Zb (Zh (Y7 Yc rfl T.tuple XV (Z0 (pv 0) Z8))))
   Zw)
  (Zb (Zh (Y7 Yc rfl T.tuple XV (Z0 (Yd (ox:=none) (N:=["_law_k","_law_row_here","_law_event_here"]) (k:=1) (fv:=[0,1]) rfl (Yf rfl T.range (Z0 (Zt Zq rfl T.len GL (Z0 (pv 0) Z8)) Z8))
  (λ_ _ _ _ _=>Zi (i:=0) r rfl xj) (λ_ _ _ _ _=>Y8) (λ_ _ _ _ _=>(Vt (Zo (Jc (K:=K)) (pv 0) (pv 2) rfl) (Zg (Z87 (K:=K)) (pv 1) (pv 0)) (Yx (Z0 Za (Z0 Za Z8))))) Zv) Z8))))),?_⟩
 have lx:=c.len;refine⟨_,rfl,rfl,_,rfl,?_⟩
 cases o with
 | none =>
  have e:v=.non:=y;refine K9 e ?_;refine⟨_,rfl,a,xs,rfl,?_⟩;rcases f with f | f
  ·exact .inl ⟨f,λl hl'=>k l _ (Same.new hl') ⟨xs,SqT.of Zc,by rw[Pm];exact c.ext (Ext.new hl')⟩⟩
  exact .inr ⟨f,k a H (Same.refl _) ⟨xs,f,by rw[Pm];exact c⟩⟩
 | some p =>
  obtain⟨B,rfl,s⟩:=y;refine Qz (by intro z;cases z) ?_;refine⟨_,rfl,a,xs,rfl,f,(xs.length:Int),rfl,J0,J0,λd hd=>?_⟩;have C:(xs.length:Int).toNat=xs.length:=J0
  rw[C];refine⟨xs.length,λi ys H2=>Same H H2/\Rs K H2 ((cutR (some p) rs).take i) ys,Zz J0,⟨Same.new hd,.nil⟩,?_,?_⟩
  ·rintro i ys H2 hi ⟨S2,R2⟩ b;refine⟨hi,?_⟩;rintro x m ⟨rfl,rfl⟩;have e0:(0+(i:Int))=((i:Nat):Int):=J0
   rw[e0];refine Yh ?_;have j:i<rs.length:=J0
   have t:rs[i]?=some rs[i]:=by simp[j]
   obtain⟨x0,ex,A⟩:=c.at t;have u:SqL K m a xs \/ SqT K m a xs:=f.elim (λz=>.inl (Xr S2 z)) λz=>.inr (Zx S2 z);refine⟨_,rfl,_,rfl,B,_,rfl,.inr (Zx S2 s),rfl,Sh _,_,rfl,?_⟩;have ev:inV (.int (i:Int)) ((evI rs.length p).map V.int)=inE (some p) i:=by
    rw[Pd,GE,zE,Gw];show _ ↔ p i=true;simp[j]
   show if inV (.int (i:Int)) ((evI rs.length p).map V.int)=true then _ else _
   rw[ev];refine Z4o (λe=>?_) (λe=>?_)
   ·refine⟨_,rfl,_,rfl,a,xs,_,_,rfl,rfl,u,Zk ex,b,λq o' e=>?_,?_⟩
    ·rw[Ze (Zd e hd)];exact S2 _ _ e
    rw[Yl (Ww t),e,YH rfl];exact (R2.ext (Ext.upd b)).snoc ((A.ext (Ext.same S2)).ext (Ext.upd b))
   refine⟨sz2,λp hp=>?_⟩;have n:Same m (upd m p (.tup [.int 0,.int 1])):=Same.new hp;have g:=n _ _ b;refine⟨g,λq o' e=>?_,?_⟩
   ·rw[Ze (Zd e hd)];exact n _ _ (S2 _ _ e)
   rw[Yl (Ww t),e,YF YO];exact (R2.ext ((Ext.same n).trans (Ext.upd g))).snoc ⟨p,rfl,(Ext.upd g).sq (SqT.of Zc)⟩
  rintro ys H2 ⟨S2,R2⟩ b;refine⟨YJ _,d,ys,rfl,.inl ⟨SqL.of b,λl hl'=>?_⟩⟩;rw[YZ (by rw[X1];omega)] at R2;exact k l _ (S2.trans (Same.new hl')) ⟨ys,SqT.of Zc,R2.ext (Ext.new hl')⟩
inductive spPaper (K:TR) (vs:TZ) (H:Hp) (Q:VK) (_z3:XK):Prop
 | mk (c:Nat) (v:V) (o:TW) (zz0:vs=[.int c,v]) (zz1:EvAt K H c o v) (zz2:1<=c) (zz3:c<=1000) (zz4:∀ p H',Same H H'->RowAt K H' p (cutR o (List.replicate c (1,1)))->Q (.ref p) H')
theorem Rs.rep {H:Hp}{r:Rat}{v:V}(h:IsR K H r v):∀ n:Nat,Rs K H (List.replicate n r) (List.replicate n v)
 | 0=>.nil
 | n+1=>.cons h (Rs.rep h n)
theorem Z3x (D:Def K mg "paper_of" i9 UX)(l:Has P w K mg base 2 "cut" UV (spCut K))(q:Con K mg "ONE" (1,1)):Has P w K mg base 3 "paper_of" UX (spPaper K):=by
 refine D.h9 (N:=UX) fsc λH Q hr h nd=>?_;obtain⟨c,v,o,rfl,i,h2,hl,k⟩:=h;obtain⟨a,b,d⟩:=q;refine⟨_,(Zb (Zh (Zf l hr (Z0 (Zl Gv (Yx (Z0 (Xb (v:=.ref a) rfl b rfl) Z8)) (pv 0)) (Z0 (pv 1) Z8))))),?_⟩;refine⟨sz1,λt n=>⟨_,rfl,t,c,[.ref a],rfl,rfl,SqT.of Zc,J0,ZJ,by simpa using hl,λp H1 e f=>?_⟩⟩;have S1:Same H (upd H t (.tup [.ref a])):=Same.new n;have r:(c:Int).toNat=c:=J0
 have g:(List.replicate (c:Int).toNat [V.ref a]).flatten=List.replicate c (V.ref a):=by rw[r];simp
 rw[g] at f;have S2:=S1.trans e;refine⟨_,rfl,p,v,List.replicate c (1,1),o,rfl,⟨_,f,Rs.rep ⟨a,rfl,d _⟩ c⟩,?_,by simpa using hl,λm H' j R'=>k m H' (S2.trans j) R'⟩;rw[zw];exact i.same S2
inductive spCommon (K:TR) (vs:TZ) (H:Hp) (Q:VK) (_z3:XK):Prop
 | mk (a:Addr) (xs:TZ) (rs:UA) (n:Nat) (D:Int) (Ws:TV) (zz0:vs=[.ref a]) (zz1:(SqL K H a xs \/ SqT K H a xs)) (zz2:Rs K H rs xs) (zz3:RepL n D Ws rs) (zz4:n<=200000) (zz5:Q (.int (lcmB rs)) H)
abbrev Z3 (P:TU)(w:World)(K:TR)(mg:TB)(base:Heap):Prop:=Has P w K mg base 2 "common_bottom" ["several"] (spCommon K)
theorem Z1g (D:Def K mg "common_bottom" iO ["several"])(j:Has P w K mg base 1 "common_divisor" UG spGcd):Z3 P w K mg base:=by
 refine D.h9 (N:=["several","least","one"]) fsc λH Q hr h nd=>?_;obtain⟨a,xs,rs,n,D,Ws,rfl,k,c,rep,hn,q⟩:=h;refine⟨_,(Z9 (Zj (i:=1) nd rfl (Or.inl rfl) Za)
  (Z9 (Yw XS rfl (Z6d (pv 0)) (Zi (i:=2) nd rfl xj)
   (Zb (Zj (i:=1) nd rfl (Or.inl rfl) (Zl Wd (Zl Zu (pv 1) (Zg Ym (pv 2) Za)) (Zf j hr (Z0 (pv 1) (Z0 (Zg Ym (pv 2) Za) Z8)))))))
  (Zb (Zh (pv 1))))),?_⟩
 have lx:=c.len;refine⟨_,rfl,Z4u (K:=K) (a:=a) (xs:=xs) (λi σ H'=>H'=H/\∃ x:Option V,σ=[some (.ref a),some (.int (lcmB (rs.take i))),x]) k ⟨rfl,none,rfl⟩ (λi σ H' _ h=>by rw[h.1];exact Same.refl _) ?_ ?_⟩
 ·rintro i x σ H1 hi ⟨rfl,x0,rfl⟩;obtain⟨r,f,b,rfl,e⟩:=c.back hi;have g:=rep.good r (YD f);have lo:=(rep.take i).least;have hg:((Int.gcd (lcmB (rs.take i)) r.2:Nat):Int)≠0:=by
   have:=Y0z r.2 (show lcmB (rs.take i)≠0 by have:=lo.pos;omega);omega
  have d:Bd n ((Int.gcd (lcmB (rs.take i)) r.2:Nat):Int):=g.b2.of_le' (Xm g.pos (Y03 _ _));refine⟨_,rfl,_,rfl,b,_,_,rfl,rfl,e,_,_,rfl,rfl,lo.bD.mulOk g.b2 J0 J0,_,rfl,_,rfl,b,_,_,rfl,rfl,e,_,_,rfl,_,_,rfl,rfl,⟨hg,d.log J0⟩,?_⟩;refine⟨rfl,some (.ref b),?_⟩;rw[C9 f];rfl
 rintro σ H1 ⟨rfl,x0,rfl⟩;rw[<-lx,YZ (YJ _)];exact⟨_,rfl,q⟩
inductive spWholeBy (K:TR) (vs:TZ) (H:Hp) (Q:VK) (_z3:XK):Prop
 | mk (a:Addr) (D:Int) (xs:TZ) (rs:UA) (n:Nat) (zz0:vs=[.ref a,.int D]) (zz1:(SqL K H a xs \/ SqT K H a xs)) (zz2:Rs K H rs xs) (zz3:(∀ r∈rs,Good n r)) (zz4:Bd n D) (zz5:0<D) (zz6:n<=200000) (zz7:rs.length<=1000) (zz8:∀ (d:Addr) (H':Hp),H d=none->Same H H'->H' d=some (.lst ((wholeB rs D).map V.int))->Q (.ref d) H')
theorem Do (D:Def K mg "whole_by" i5 UY):Has P w K mg base 1 "whole_by" UY (spWholeBy K):=by
 refine D.h9 (N:=UY) fsc λH Q hr h nd=>?_;obtain⟨a,D,xs,rs,n,rfl,v,f,g,bD,t,hn,hl,k⟩:=h;have l:(["one","bottom"]:List Str).Nodup:=ZZ
 refine⟨_,(Zb (Zh (Yd (ox:=none) (N:=["one","bottom"]) (k:=1) (fv:=[1]) rfl (Z6e (pv 0))
  (λ_ _ _ _ _=>Zi (i:=0) l rfl xj) (λ_ _ _ _ _=>Y8) (λ_ _ _ _ _=>(Zl Zu (Zg (Z1u (K:=K)) (pv 0) Za) (Zl Wd (pv 1) (Zg (Z71 (K:=K)) (pv 0) Za)))) Zv))),?_⟩
 have lx:=f.len;refine⟨_,rfl,a,xs,rfl,v,λJ G d hd=>?_⟩;refine⟨xs.length,λi ys H2=>Same H H2/\ys=((wholeB rs D).take i).map V.int,Zz J0,⟨Same.new hd,rfl⟩,?_,?_⟩
 ·rintro i ys H2 hi ⟨S2,rfl⟩ c;refine⟨G.go i H2 S2 hi,?_⟩;intro x u s;obtain⟨rfl,ex⟩:=G.yld i H2 x u S2 s;obtain⟨r,o,p⟩:=f.back ex;obtain⟨b,rfl,m⟩:=p.ext (Ext.same S2);have j:=g r (YD o);refine Yh ?_;refine⟨_,rfl,b,_,_,rfl,rfl,m,_,rfl,_,rfl,b,_,_,rfl,rfl,m,_,_,rfl,rfl,⟨by have:=j.pos;omega,j.b2.log J0⟩,_,_,rfl,rfl,j.b1.mulOk (bD.of_le' (Mv t j.pos)) J0 J0,c,λq o' e=>?_,?_⟩
  ·rw[Ze (Zd e hd)];exact S2 _ _ e
  have:(wholeB rs D)[i]?=some (r.1*D.fdiv r.2):=by unfold wholeB;rw[YI,o];rfl
  rw[Yl this,XH];rfl
 rintro ys H2 ⟨S2,rfl⟩ c;refine⟨G.stop H2 S2,?_⟩;rw[YZ (by unfold wholeB;rw[YB];omega)] at c;exact k d H2 hd S2 c
noncomputable def rowZ (rs:UA):List Int:=wholeB rs (lcmB rs)
def V7 (rs:UA):(rowZ rs).length=rs.length:=by unfold rowZ wholeB;rw[YB]
inductive spWholeLine (K:TR) (vs:TZ) (H:Hp) (Q:VK) (_z3:XK):Prop
 | mk (a:Addr) (e:Int) (xs:TZ) (rs:UA) (n:Nat) (D:Int) (Ws:TV) (zz0:vs=[.ref a,.int e]) (zz1:(SqL K H a xs \/ SqT K H a xs)) (zz2:Rs K H rs xs) (zz3:RepL n D Ws rs) (zz4:n<=200000) (zz5:rs.length<=900) (zz6:∀ (d:Addr) (H':Hp),H d=none->Same H H'->H' d=some (.lst ((rowZ rs++[e]).map V.int))->Q (.ref d) H')
theorem Lx (D:Def K mg "whole_line" iS ["row","end"])(i:Z3 P w K mg base)(l:Has P w K mg base 1 "whole_by" UY (spWholeBy K)):Has P w K mg base 3 "whole_line" ["row","end"] (spWholeLine K):=by
 refine D.h9 (N:=["row","end"]) fsc λH Q hr h nd=>?_;obtain⟨a,e,xs,rs,n,D,Ws,rfl,g,b,rep,hn,hl,k⟩:=h;refine⟨_,(Zb (Zh (Zl Z0y (Zf l hr (Z0 (pv 0) (Z0 (Zf i hr (Z0 (pv 0) Z8)) Z8))) (Xe (Z0 (pv 1) Z8))))),?_⟩;have le:=rep.least;refine⟨_,rfl,_,rfl,a,xs,rs,n,D,Ws,rfl,g,b,rep,hn,a,lcmB rs,xs,rs,n,rfl,g,b,rep.good,le.bD,le.pos,hn,J0,λd H1 j S1 e1=>?_⟩;refine⟨_,rfl,sz1,λp hp=>?_⟩;have f:upd H1 p (.lst [.int e]) d=some (.lst ((rowZ rs).map V.int)):=by rw[Ze (Zd e1 hp)];exact e1
 refine⟨d,p,_,_,rfl,rfl,f,Zc,?_,λq hq=>?_⟩
 ·rw[YB,V7];exact Zz (show rs.length+1<=1000 by omega)
 have c:H q=none:=by
  cases z:H q with
  | none=>rfl
  | some o =>
   have z2:=S1 _ _ z;rw[Ze (Zd z2 hp)] at hq;rw[z2] at hq
   cases hq
 refine k q _ c (λx o z=>?_) ?_
 ·have z2:=S1 _ _ z;rw[Ze (Zd (show upd H1 p (.lst [.int e]) x=some o by rw[Ze (Zd z2 hp)];exact z2) hq),Ze (Zd z2 hp)];exact z2
 rw[Zc,XH];rfl
end
section
variable {P:TU}
noncomputable def AOf (rss:UB)(k v:Nat):Int:=(rowZ (rss.getD k [])).getD v 0
noncomputable def rowF (rs:UA)(v:Nat):Int:=(rowZ rs).getD v 0
noncomputable def papR (c:Nat)(o:TW):List Rat:=cutR o (List.replicate c (1,1))
noncomputable def T0S (c:Nat)(rss:UB)(o:TW)(gs:UA):_v.Tab:=_v.T0 c rss.length (AOf rss) (rowF (papR c o)) (rowF gs)
inductive spStart (K:TR) (C:Addr) (vs:TZ) (H:Hp) (Q:VK) (_z3:XK):Prop
 | mk (l g:Addr) (ve:V) (c n:Nat) (rss:UB) (o:TW) (gs:UA) (zz0:vs=[.int (c:Int),.ref l,ve,.ref g]) (zz1:RowsAt K H l rss) (zz2:EvAt K H c o ve) (zz3:RowAt K H g gs) (zz4:gs.length=c) (zz5:(∀ rs∈rss,rs.length=c/\∃ D Ws,RepL n D Ws rs)) (zz6:(∃ D Ws,RepL n D Ws gs)) (zz7:1<=n) (zz8:n<=200000) (zz9:1<=c) (zz10:c<=800) (zz11:rss.length<=800) (zz12:∀ (q:Addr) (H':Hp),Same H H'->TabAt C H' q (rss.length+2) c (c+rss.length) (T0S c rss o gs)->Q (.ref q) H')
def U0 {c:Nat}{e:Int}{F:TY}(hl:rs.length=c)(h:∀ j,j<c->F j=(rowZ rs).getD j 0)(a:F c=e):rowZ rs++[e]=(List.range (c+1)).map F:=by
 refine Vd (by simp[V7,hl]) λi hi=>?_;by_cases q:i<c
 ·rw[JO (by rw[V7];omega),h i q];simp[List.getD,show i<(rowZ rs).length by rw[V7];omega]
 have:i=c:=J0
 subst this;rw[JM (by rw[V7];omega),a];simp[V7,hl]
theorem Z3s (D:Def K mg "start" jV UZ)(eR:Has P w K mg base 3 "whole_line" ["row","end"] (spWholeLine K))(eY:Has P w K mg base 3 "paper_of" UX (spPaper K))(fN:Has P w K mg base 3 "first_table" ["lines"] (spFirst C)):Has P w K mg base 4 "start" UZ (spStart K C):=by
 refine D.h9 (N:=["count","rows","event","goal","lines"]) fsc λH Q hr h nd=>?_;obtain⟨l,g,ve,c,n,rss,o,gs,rfl,⟨as,hl,hp⟩,hv,hg,gl,F,⟨Dg,Wg,rg⟩,a0,hn,O,hc,hm,k⟩:=h;have X:(["row"]:TF).Nodup:=ZZ
 refine⟨_,(Z9 (Xa (i:=4) (ox:=none) (N:=["row"]) (k:=1) (fv:=[]) nd rfl xj rfl (Yn (pv 1))
  (λ_ _ _ _ _=>Zi (i:=0) X rfl xj) (λ_ _ _ _ _=>Y8) (λ_ _ _ _ _=>(Zf eR hr (Z0 (pv 0) (Z0 Za Z8)))) Zv)
  (Z9 (Yz (W6 XJ JA JB Ys (pv 4) (Z0 (Zf eR hr (Z0 (Zf eY hr (Z0 (pv 0) (Z0 (pv 2) Z8))) (Z0 Za Z8))) Z8)))
  (Z9 (Yz (W6 XJ JA JB Ys (pv 4) (Z0 (Zf eR hr (Z0 (pv 3) (Z0 Za Z8))) Z8)))
  (Zb (Zh (Zf fN hr (Z0 (pv 4) Z8))))))),?_⟩
 have lx:=XB hp;refine⟨_,rfl,l,rfl,⟨_,SqL.of hl⟩,λd hd=>?_⟩;refine⟨as.length,λi ys H2=>Same H H2/\∃ ns:List Addr,ys=ns.map V.ref/\ns.length=i/\∀ (t:Nat) (a:Addr),ns[t]?=some a->a≠d/\H2 a=some (.lst ((rowZ (rss.getD t [])++[0]).map V.int)),Zz J0,⟨Same.new hd,[],rfl,rfl,λt a e=>by simp at e⟩,?_,?_⟩
 ·rintro i ys H2 hi ⟨S2,ns,rfl,l2,W⟩ b;have ei:as[i]?=some (as[i]'hi):=ZJ
  have M:rss[i]?=some (rss[i]'J0):=ZJ
  refine⟨⟨_,V.ref (as[i]'hi),SqL.of (S2 _ _ hl),ZJ⟩,?_⟩;rintro x H3 ⟨rfl,fx⟩;have ex:x=V.ref (as[i]'hi):=by
   have:=fx _ (SqL.of (S2 _ _ hl));rw[YI,ei] at this;exact (YU this).symm
  subst ex;refine Yh ?_;obtain⟨xs,h1,h2⟩:=(Paired.getB hp ei M).same S2;obtain⟨a7,Dr,Wr,rr⟩:=F _ (YD M);refine⟨_,rfl,_,_,xs,_,n,Dr,Wr,rfl,.inr h1,h2,rr,hn,J0,λa4 G B v T=>?_⟩;have u:=v _ _ b;have E:a4≠d:=λz=>by rw[z] at B;rw[B] at b;cases b
  refine⟨u,λq o e=>?_,ns++[a4],by rw[XH];rfl,by rw[YY,l2];rfl,λt a e=>?_⟩
  ·rw[Ze (Zd e hd)];exact v _ _ (S2 _ _ e)
  by_cases q:t<ns.length
  ·rw[JO q] at e;have:=W t a e;refine⟨this.1,?_⟩;rw[Ze this.1];exact v _ _ this.2
  rw[JM J0] at e;have f:t - ns.length=0:=by
   have:=(YG.mp e).1;simp at this;omega
  rw[f] at e
  cases e;have S:t=i:=J0
  subst S;refine⟨E,?_⟩;rw[Ze E];have eg:rss.getD t []=rss[t]'J0:=by simp[List.getD,show t<rss.length by omega]
  rw[eg];exact T
 rintro ys H2 ⟨S2,ns,rfl,l2,W⟩ b;refine⟨⟨_,SqL.of (S2 _ _ hl),ZJ⟩,?_⟩;have s:RepL n 1 (cutZ o (List.replicate c 1)) (papR c o):=((RepL.ones c).cut o).mono a0;have I:(papR c o).length=c:=by
  have:=s.len;rw[Pl] at this
  simpa using this.symm
 refine⟨_,rfl,.inl ⟨rfl,_,SqL.of b⟩,_,rfl,_,rfl,c,ve,o,rfl,hv.same S2,O,J0,λp H3 L rp=>?_⟩;obtain⟨xp,a1,Z⟩:=rp;refine⟨p,1,xp,papR c o,n,_,_,rfl,.inr a1,Z,s,hn,J0,λa4 G B v T=>?_⟩;have u:=v _ _ (L _ _ b);have r:a4≠d:=λz=>by rw[z] at B;rw[L _ _ b] at B;cases B
 refine⟨d,_,_,rfl,rfl,u,?_,?_⟩
 ·rw[YB];exact Zz (show ns.length+1<=1000 by omega)
 have J:Same H (upd G d (.lst (ns.map V.ref++[.ref a4]))):=λq z y=>by
  rw[Ze (Zd y hd)];exact v _ _ (L _ _ (S2 _ _ y))
 have q4:∀ (t:Nat) (a:Addr),(ns++[a4])[t]?=some a->a≠d/\upd G d (.lst (ns.map V.ref++[.ref a4])) a=some (.lst ((if t<as.length then rowZ (rss.getD t [])++[0] else rowZ (papR c o)++[1]).map V.int)):=λt a e=>by
  by_cases q:t<ns.length
  ·rw[JO q] at e;have:=W t a e;refine⟨this.1,?_⟩;rw[Ze this.1,YH J0];exact v _ _ (L _ _ this.2)
  rw[JM J0] at e;have f:t - ns.length=0:=by
   have:=(YG.mp e).1;simp at this;omega
  rw[f] at e
  cases e;refine⟨r,?_⟩;rw[Ze r,YF J0];exact T
 have A:upd G d (.lst (ns.map V.ref++[.ref a4])) d=some (.lst ((ns++[a4]).map V.ref)):=by rw[Zc,XH];rfl
 generalize upd G d (.lst (ns.map V.ref++[.ref a4]))=H5 at *
 obtain⟨xg,a5,a2⟩:=hg.same J;refine⟨_,rfl,.inl ⟨rfl,_,SqL.of A⟩,_,rfl,g,0,xg,gs,n,_,_,rfl,.inr a5,a2,rg,hn,J0,λa6 H6 f6 S6 e6=>?_⟩;have Y:=S6 _ _ A;have m:a6≠d:=λz=>by rw[z] at f6;rw[A] at f6;cases f6
 refine⟨d,_,_,rfl,rfl,Y,?_,?_⟩
 ·rw[YB,YY];exact Zz (show ns.length+1+1<=1000 by omega)
 have U:Same H (upd H6 d (.lst ((ns++[a4]).map V.ref++[.ref a6]))):=λq z y=>by
  rw[Ze (Zd y hd)];exact S6 _ _ (J _ _ y)
 have a3:upd H6 d (.lst ((ns++[a4]).map V.ref++[.ref a6])) d=some (.lst ((ns++[a4]++[a6]).map V.ref)):=by rw[Zc,XH (l₁:=ns++[a4])];rfl
 refine⟨_,rfl,d,rss.length,c,ns++[a4]++[a6],T0S c rss o gs,rfl,a3,by simp;omega,λt a e=>?_,J0,J0,rfl,λ_=>rfl,λ_=>rfl,λq H8 S8 R=>k q H8 (U.trans S8) R⟩;have key:∀ (t:Nat) (a:Addr),(ns++[a4]++[a6])[t]?=some a->a≠d/\upd H6 d (.lst ((ns++[a4]).map V.ref++[.ref a6])) a=some (.lst ((if t<rss.length then rowZ (rss.getD t [])++[0] else if t=rss.length then rowZ (papR c o)++[1] else rowZ gs++[0]).map V.int))/\t<rss.length+2:=λt a e=>by
  by_cases q:t<(ns++[a4]).length
  ·rw[JO q] at e;have:=q4 t a e;rw[YY] at q;simp at q;refine⟨this.1,?_,J0⟩;rw[Ze this.1,S6 _ _ this.2];by_cases q':t<rss.length
   ·rw[YH q',YH J0]
   rw[YF q',YF J0,YH J0]
  rw[JM J0] at e;have f:t - (ns++[a4]).length=0:=by
   have:=(YG.mp e).1;simp at this;simp;omega
  rw[f] at e
  cases e;simp at q f;refine⟨m,?_,J0⟩;rw[Ze m,YF J0,YF J0];exact e6
 obtain⟨_,e7,ht⟩:=key t a e;rw[e7]
 congr 2
 unfold lineI;by_cases q:t<rss.length
 ·rw[YH q];have M:rss[t]?=some (rss[t]'q):=ZJ
  have eg:rss.getD t []=rss[t]'q:=by simp[List.getD,q]
  refine congrArg _ (U0 ?_ (λj hj=>?_) ?_)
  ·rw[eg];exact (F _ (YD M)).1
  ·show (if j<c then _v.colS c rss.length (AOf rss) (rowF (papR c o)) (rowF gs) j t else _)=_;rw[YH hj];unfold _v.colS;rw[YH hj,YH q];rfl
  show (if c<c then _ else _v.rhsS rss.length t)=_;rw[YF J0];unfold _v.rhsS;rw[YF J0]
 rw[YF q];by_cases q':t=rss.length
 ·rw[YH q'];refine congrArg _ (U0 I (λj hj=>?_) ?_)
  ·show (if j<c then _v.colS c rss.length (AOf rss) (rowF (papR c o)) (rowF gs) j t else _)=_;rw[YH hj];unfold _v.colS;rw[YH hj,YF q,YH q'];rfl
  show (if c<c then _ else _v.rhsS rss.length t)=_;rw[YF J0];unfold _v.rhsS;rw[YH q']
 rw[YF q'];refine congrArg _ (U0 gl (λj hj=>?_) ?_)
 ·show (if j<c then _v.colS c rss.length (AOf rss) (rowF (papR c o)) (rowF gs) j t else _)=_;rw[YH hj];unfold _v.colS;rw[YH hj,YF q,YF q'];rfl
 show (if c<c then _ else _v.rhsS rss.length t)=_;rw[YF J0];unfold _v.rhsS;rw[YF q']
noncomputable def multR (c:Nat)(rss:UB)(T:UC)(i:Nat)(b:Int):List Rat:=(List.range rss.length).map λk=>nrm (-(_v.numAt c T i (c+k))*lcmB (rss.getD k [])) (b*T.b)
def Bd.zero (n:Nat):Bd n 0:=Y0s n
theorem TabOk.numBd {m n N:Nat}(h:TabOk m n T)(bd:TabBd N m n T)(hi:i<m)(v:Nat):Bd N (_v.numAt n T i v):=by
 by_cases q:∃ j,j<n/\T.hd j=v
 ·obtain⟨j,hj,rfl⟩:=q;rw[h.numH hj];exact bd.l i j hi J0
 have:_v.numAt n T i v=0:=_v.sm_zero λj hj=>YF λz=>q ⟨j,hj,z⟩;rw[this];exact Bd.zero N
inductive spShown (K:TR) (C:Addr) (vs:TZ) (H:Hp) (Q:VK) (_z3:XK):Prop
 | mk (l p:Addr) (c m lk i n N:Nat) (b:Int) (rss:UB) (T:UC) (zz0:vs=[.int (c:Int),.ref l,.ref p,.int (T.own i:Int),.int b]) (zz1:RowsAt K H l rss) (zz2:TabAt C H p m c lk T) (zz3:TabOk m c T) (zz4:TabBd N m c T) (zz5:0<T.b) (zz6:i<m) (zz7:m<=900) (zz8:c<=900) (zz9:rss.length<=900) (zz10:(∀ rs∈rss,∃ D Ws,RepL n D Ws rs)) (zz11:0<b) (zz12:Bd n b) (zz13:n<=200000) (zz14:n+N<=440000) (zz15:∀ (q:Addr) (xs:TZ) (H':Hp),H q=none->Same H H'->H' q=some (.lst xs)->Rs K H' (multR c rss T i b) xs->Q (.ref q) H')
theorem Z3v (D:Def K mg "shown_multiples" iL VA)(T0:Blt mg)(tc:TabC K mg C)(S:Has P w K mg base 2 "number_at" UM (spNumAt C))(W:Z3 P w K mg base)(eV:Has P w K mg base 3 "ratio" UH spLowest):Has P w K mg base 4 "shown_multiples" VA (spShown K C):=by
 refine D.h9 (N:=["count","rows","table","owner","bottom","told","number","row","top"]) fsc λH Q hr h nd=>?_;obtain⟨l,p,c,m,lk,i0,n,N,b,rss,Tb,rfl,⟨as,hl,hp⟩,s,ok,bd,X,t,hm,hc,Y,B,J,M,hn,hN,kk⟩:=h;obtain⟨dx,la,oa,ha,las,h1,h2,h3,h4,h5,h6⟩:=id s;have T:=T0;have lx:=XB hp;refine⟨_,(Z9 (Zj (i:=5) nd rfl (Or.inl rfl) (Xe Z8))
  (Z9 (Yw XS rfl (T7 rfl T.enumerate (Z0 (pv 1) Z8)) (W0 (n:=2) rfl (Y1 (Zi (i:=6) nd rfl (Or.inl rfl)) (Y1 (Zi (i:=7) nd rfl (Or.inl rfl)) Xg)))
   (Z9 (Zj (i:=8) nd rfl (Or.inl rfl) (Zl Zu (V9 Xx (Zf S hr (Z0 (pv 2) (Z0 (pv 3) (Z0 (Zl X6 (pv 0) (pv 6)) Z8))))) (Zf W hr (Z0 (pv 7) Z8))))
   (Zb (Yz (W6 XJ JA JB Ys (pv 5) (Z0 (Zf eV hr (Z0 (pv 8) (Z0 (Zl Zu (pv 4) (Yg (pv 2) rfl)) Z8))) Z8))))))
  (Zb (Zh (pv 5))))),?_⟩
 refine⟨sz0,λd hd=>?_⟩;refine⟨_,rfl,l,rfl,⟨_,SqL.of ((Same.new hd) _ _ hl)⟩,Sg (K:=K) (a:=l) (xs:=as.map V.ref) (λi σ H'=>Same H H'/\∃ (xs:TZ) (x y z:Option V),H' d=some (.lst xs)/\Rs K H' ((multR c rss Tb i0 b).take i) xs/\σ=[some (.int (c:Int)),some (.ref l),some (.ref p),some (.int (Tb.own i0:Int)),some (.int b),some (.ref d),x,y,z]) ⟨Same.new hd,[],none,none,none,Zc,.nil,rfl⟩ (λi σ H' _ h=>SqL.of (h.1 _ _ hl)) ?_ ?_⟩
 ·rintro i v σ H1 F hi ⟨S1,xs,x,y,z,k,f,rfl⟩ L;have r:i<as.length:=by
   have:=(YG.mp hi).1;rw[YB] at this;exact this
  have O:as[i]?=some (as[i]'r):=ZJ
  have R:rss[i]?=some (rss[i]'J0):=ZJ
  have Z:rss.getD i []=rss[i]'J0:=by simp[List.getD,show i<rss.length by omega]
  rw[YI,O] at hi
  cases hi;refine⟨F,_,rfl,SqT.of Zc,rfl,_,_,rfl,_,_,rfl,rfl,?_⟩;have S2:Same H1 (upd H1 F (.tup [.int (i:Int),.ref (as[i]'r)])):=Same.new L;generalize upd H1 F (.tup [.int (i:Int),.ref (as[i]'r)])=H2 at *
  have j:=S1.trans S2;obtain⟨us,E,G⟩:=(Paired.getB hp O R).same j;obtain⟨Dr,Wr,rr⟩:=B _ (YD R);have I:=rr.least;refine⟨_,rfl,_,rfl,_,rfl,_,rfl,_,_,rfl,rfl,p,m,c,lk,i0,c+i,Tb,rfl,s.same j,ok,t,J0,J0,_,rfl,_,rfl,_,us,_,n,Dr,Wr,rfl,.inr E,G,rr,J0,_,_,rfl,rfl,((ok.numBd bd t (c+i)).neg).mulOk I.bD J0 J0,?_⟩;refine⟨_,rfl,.inl ⟨rfl,_,SqL.of (S2 _ _ k)⟩,_,rfl,_,rfl,_,rfl,p,C,dx,_,_,rfl,j _ _ h1,tc.cl,tc.nB,Vc,_,_,rfl,rfl,M.mulOk bd.b J0 J0,?_⟩;have u:b*Tb.b≠0:=by
   have:=XU J X;omega
  refine⟨_,_,rfl,u,(M.mul bd.b).log J0,λa H3 f3 A e3=>?_⟩;have g:=A _ _ (S2 _ _ k);refine⟨d,xs,_,rfl,rfl,g,?_,?_⟩
  ·have:=f.len;rw[JY] at this;exact Zz (show xs.length+1<=1000 by omega)
  refine⟨λq o e=>?_,xs++[.ref a],_,_,_,Zc,?_,rfl⟩
  ·rw[Ze (Zd e hd)];exact A _ _ (j _ _ e)
  have U:(multR c rss Tb i0 b)[i]?=some (nrm (-(_v.numAt c Tb i0 (c+i))*lcmB (rss.getD i [])) (b*Tb.b)):=by
   unfold multR;rw[YI,qq (show i<rss.length by omega)];rfl
  rw[Yl U];refine Paired.appP ((f.ext (Ext.same (S2.trans A))).ext (Ext.upd g)) (.cons ⟨a,rfl,?_⟩ .nil);refine SqT.of ?_;rw[Ze (λz=>by rw[z] at e3;rw[e3] at g;cases g),Z];exact e3
 rintro σ H1 ⟨S1,xs,x,y,z,k,f,rfl⟩;rw[YZ (by unfold multR;simp[lx])] at f;exact⟨_,rfl,kk d xs H1 hd S1 k f⟩
end
end _b
namespace _v
noncomputable def sN:Nat->(Nat->Nat)->Nat
 | 0,_=>0
 | n+1,f=>sN n f+f n
noncomputable def pN:Nat->(Nat->Nat)->Nat
 | 0,_=>1
 | n+1,f=>pN n f*f n
theorem Lk (f:TX):∀ n,sN (n+1) f=f 0+sN n (λr=>f (r+1))
 | 0=>by show 0+f 0=f 0+0;omega
 | n+1=>by
  show sN (n+1) f+f (n+1)=f 0+(sN n (λr=>f (r+1))+f (n+1));rw[Lk f n];omega
theorem Z5d {f g:TX}:∀ {n:Nat},(∀ k,k<n->f k<=g k)->sN n f<=sN n g
 | 0,_=>YJ _
 | n+1,h=>Nat.add_le_add (Z5d λk hk=>h k J0) (h n J0)
theorem Z0w {f g:TX}:∀ {n:Nat},(∀ k,k<n->f k<=g k)->pN n f<=pN n g
 | 0,_=>YJ _
 | n+1,h=>zO (Z0w λk hk=>h k J0) (h n J0)
theorem Lw {f g:TX}:∀ {n:Nat},(∀ k,k<n->f k=g k)->pN n f=pN n g
 | 0,_=>rfl
 | n+1,h=>by
  show pN n f*f n=pN n g*g n;rw[Lw (n:=n) λk hk=>h k J0,h n J0]
theorem sN_congr {f g:TX}:∀ {n:Nat},(∀ k,k<n->f k=g k)->sN n f=sN n g
 | 0,_=>rfl
 | n+1,h=>by
  show sN n f+f n=sN n g+g n;rw[sN_congr (n:=n) λk hk=>h k J0,h n J0]
theorem Z07 (f:TX)(b:Nat):∀ n,sN n (λk=>f k*b)=sN n f*b
 | 0=>by show 0=0*b;rw[Nat.zero_mul]
 | n+1=>by
  show sN n (λk=>f k*b)+f n*b=(sN n f+f n)*b;rw[Z07 f b n,Nat.add_mul]
theorem Ge {f:TY}:∀ {n:Nat},(sm n f).natAbs<=sN n (λk=>(f k).natAbs)
 | 0=>by show (0:Int).natAbs<=0;decide
 | n+1=>by
  show (sm n f+f n).natAbs<=sN n (λk=>(f k).natAbs)+(f n).natAbs;have:=Ge (f:=f) (n:=n);have:=Int.natAbs_add_le (sm n f) (f n);omega
theorem Rt {x:TX}:∀ {n:Nat},sm n (λk=>((x k:Nat):Int))=((sN n x:Nat):Int)
 | 0=>rfl
 | n+1=>by
  show sm n (λk=>((x k:Nat):Int))+(x n:Int)=((sN n x+x n:Nat):Int);rw[Rt (n:=n),Int.natCast_add]
theorem Z25 (a b:TX):∀ m,sN (m+1) (λk=>a k*pN m (λi=>b (skip k i)))<=pN (m+1) (λk=>a k+b k)
 | 0=>by
  show 0+a 0*1<=1*(a 0+b 0);omega
 | m+1=>by
  have c:=Z25 a b m;have e1:sN (m+1) (λk=>a k*pN (m+1) (λi=>b (skip k i)))=sN (m+1) (λk=>a k*pN m (λi=>b (skip k i)))*b (m+1):=by
   rw[<-Z07];refine sN_congr λk hk=>?_;show a k*(pN m (λi=>b (skip k i))*b (skip k m))=_;have:skip k m=m+1:=by unfold skip;split <;> omega
   rw[this,Nat.mul_assoc]
  have e2:pN (m+1) (λi=>b (skip (m+1) i))=pN (m+1) b:=Lw λi hi=>by
   have:skip (m+1) i=i:=by unfold skip;split <;> omega
   rw[this]
  show sN (m+1) (λk=>a k*pN (m+1) (λi=>b (skip k i)))+a (m+1)*pN (m+1) (λi=>b (skip (m+1) i))<=pN (m+1) (λk=>a k+b k)*(a (m+1)+b (m+1));rw[e1,e2];have h1:=zF (b (m+1)) c;have h2:pN (m+1) b<=pN (m+1) (λk=>a k+b k):=Z0w λk _=>J0
  have h3:=zn (a (m+1)) h2;rw[Nat.mul_add,zU (pN (m+1) λk=>a k+b k) (a (m+1))];omega
theorem det_w:∀ {m:Nat} {v:Mat} {w:TX},(∀ k,k<m->sN m (λr=>(v k r).natAbs)<=w k)->(det m v).natAbs<=pN m w
 | 0,_,_,_=>by show (1:Int).natAbs<=1;decide
 | m+1,v,w,h=>by
  have key:(sm (m+1) (λk=>sgn k*v k 0*det m (minor v k))).natAbs<=sN (m+1) (λk=>(v k 0).natAbs*pN m (λi=>sN m (λr=>(v (skip k i) (r+1)).natAbs))):=by
   refine YR Ge (Z5d λk hk=>?_);show (sgn k*v k 0*det m (minor v k)).natAbs<=_;rw[GX,GX,Nu,Nat.one_mul];exact zn _ (det_w (m:=m) λi hi=>YJ _)
  refine YR key (YR (Z25 (λk=>(v k 0).natAbs) (λk=>sN m (λr=>(v k (r+1)).natAbs)) m) (Z0w λk hk=>?_));have:=h k hk;rw[Lk] at this;exact this
theorem pN_pow (B:Nat)(x:TX):∀ m,pN m (λk=>B ^ x k)=B ^ sN m x
 | 0=>rfl
 | m+1=>by
  show pN m (λk=>B ^ x k)*B ^ x m=B ^ (sN m x+x m);rw[pN_pow B x m,Y0R]
theorem sN_const {f:TX}{M:Nat}:∀ {n:Nat},(∀ k,k<n->f k<=M)->sN n f<=n*M
 | 0,_=>JK _
 | n+1,h=>by
  have h1:=sN_const (n:=n) (f:=f) (M:=M) λk hk=>h k J0;have h2:=h n J0;show sN n f+f n<=(n+1)*M;rw[Y02];omega
theorem sN_unit {i:Nat}:∀ {m:Nat},sN m (λr=>(if i=r then (1:Int) else 0).natAbs)<=1
 | 0=>JK _
 | m+1=>by
  show sN m (λr=>(if i=r then (1:Int) else 0).natAbs)+(if i=m then (1:Int) else 0).natAbs<=1;by_cases h:i=m
  ·subst h;have:sN i (λr=>(if i=r then (1:Int) else 0).natAbs)<=i*0:=sN_const λk hk=>by rw[YF J0];decide
   rw[YH rfl];show _+1<=1;omega
  rw[YF h];exact sN_unit (m:=m)
theorem Z08 {x:TX}{j:Nat}:∀ {n:Nat},j<n->x j<=sN n x
 | 0,h=>J0
 | n+1,h=>by
  show x j<=sN n x+x n;by_cases e:j=n
  ·rw[e];omega
  have:=Z08 (x:=x) (n:=n) (j:=j) J0;omega
theorem J6 {x:TX}{i y:Nat}:∀ {m:Nat},sN m (λk=>if k=i then y else x k)<=sN m x+y
 | 0=>JK _
 | m+1=>by
  show sN m (λk=>if k=i then y else x k)+(if m=i then y else x m)<=sN m x+x m+y;by_cases e:m=i
  ·rw[YH e];have:sN m (λk=>if k=i then y else x k)=sN m x:=sN_congr λk hk=>YF J0;omega
  rw[YF e];have:=J6 (x:=x) (i:=i) (y:=y) (m:=m);omega
section
variable {m n:Nat}{col:Nat->Vec}{rhs:Vec}{T:Tab}
noncomputable def isW (n v:Nat):Nat:=if v<n then 1 else 0
theorem Fc:∀ k,sN (n+k) (isW n)=n
 | 0=>by
  have:∀ j,j<=n->sN j (isW n)=j:=λj=>by
   induction j with
   | zero=>intro _;rfl
   | succ j a =>
    intro hj;show sN j (isW n)+isW n j=j+1;rw[a J0];unfold isW;rw[YH J0]
  exact this n (YJ _)
 | k+1=>by
  show sN (n+k) (isW n)+isW n (n+k)=n;rw[Fc k];unfold isW;rw[YF J0];rfl
theorem Inv.worlds (I:Inv m n col rhs T):sN m (λi=>isW n (T.own i))+sN n (λj=>isW n (T.hd j))=n:=by
 have:=I.part (λv=>((isW n v:Nat):Int));rw[Rt,Rt,Rt,Fc] at this;omega
def Inv.sizeW (I:Inv m n col rhs T){B:Nat}(hc:∀ v,v<n+m->sN m (λr=>(col v r).natAbs)<=B ^ isW n v)(hr:sN m (λr=>(rhs r).natAbs)<=1)(hB:1<=B){i j:Nat}(hi:i<m)(hj:j<=n):(T.L i j).natAbs<=B ^ n:=by
 have b:=I.worlds;rw[<-I.phi hi hj];by_cases a:j<n
 ·have key:(det m (put (bas col T) i (colOf n col rhs T j))).natAbs<=pN m (λk=>B ^ (if k=i then isW n (T.hd j) else isW n (T.own k))):=det_w λk hk=>by
   by_cases e:k=i
   ·subst e;rw[put_eq,YH rfl,Wq a];exact hc _ (I.hdLt a)
   rw[put_ne e,YF e];exact hc _ (I.ownLt hk)
  refine YR key ?_;rw[pN_pow];refine GK hB ?_;have h1:=J6 (x:=λk=>isW n (T.own k)) (i:=i) (y:=isW n (T.hd j)) (m:=m);have h2:=Z08 (x:=λj=>isW n (T.hd j)) (n:=n) a;omega
 have key:(det m (put (bas col T) i (colOf n col rhs T j))).natAbs<=pN m (λk=>B ^ (if k=i then 0 else isW n (T.own k))):=det_w λk hk=>by
  by_cases e:k=i
  ·subst e;rw[put_eq,YH rfl];unfold colOf;rw[YF a];exact hr
  rw[put_ne e,YF e];exact hc _ (I.ownLt hk)
 refine YR key ?_;rw[pN_pow];refine GK hB ?_;have h1:=J6 (x:=λk=>isW n (T.own k)) (i:=i) (y:=0) (m:=m);omega
def Inv.sizeBW (I:Inv m n col rhs T){B:Nat}(hc:∀ v,v<n+m->sN m (λr=>(col v r).natAbs)<=B ^ isW n v)(hB:1<=B):T.b.natAbs<=B ^ n:=by
 have a:=I.worlds;rw[<-I.dt];have key:(det m (bas col T)).natAbs<=pN m (λk=>B ^ isW n (T.own k)):=det_w λk hk=>hc _ (I.ownLt hk);refine YR key ?_;rw[pN_pow];exact GK hB J0
end
end _v
namespace _b
open PySem _L
def Nz {v:Nat}{r:Rat}(h:rs[v]?=some r):rowF rs v=r.1*(lcmB rs).fdiv r.2:=by
 unfold rowF rowZ wholeB;simp[List.getD,h]
def Ny {n:Nat}(h:RepL n D Ws rs)(v:Nat):Bd n (rowF rs v):=by
 unfold rowF;exact Mt (λz hz=>(h.least).bdW z hz) v
def Wi (c:Nat)(o:TW):(papR c o).length=c:=by unfold papR;rw[X1];simp
def T8 (c:Nat)(o:TW):RepL 1 1 (cutZ o (List.replicate c 1)) (papR c o):=(RepL.ones c).cut o
def Z6g {c v:Nat}(a:v<c):rowF (papR c o) v=if inE o v then lcmB (papR c o) else 0:=by
 rw[Nz (show (papR c o)[v]?=some (if inE o v then (1,1) else (0,1)) from Ww (by simp[a]))]
 cases inE o v <;> simp
def Z3h {c v:Nat}(a:v<c):0<=rowF (papR c o) v:=by
 rw[Z6g a];have:=(T8 c o).least.pos;split <;> omega
def Dl {c v:Nat}{o:TW}{rs:UA}(a:v<c)(hl:rs.length=c)(h:rowF (papR c o) v=0):rowF (cutR o rs) v=0:=by
 rw[Z6g a] at h;have:=(T8 c o).least.pos;have e:inE o v=false:=by
  cases q:inE o v with
  | false=>rfl
  | true=>rw[q,YH rfl] at h;omega
 rw[Nz (Ww (show rs[v]?=some (rs[v]'J0) by simp)),e];simp
abbrev InvR (c:Nat)(rss:UB)(o:TW)(gs:UA)(T:UC):Prop:=_v.InvS c rss.length (AOf rss) (rowF (papR c o)) (rowF gs) T
noncomputable def bitsOf (n c g:Nat):Nat:=(n+5)*min c (g+2)+1
theorem Bf {c n:Nat}(m:∀ rs∈rss,rs.length=c/\∃ D Ws,RepL n D Ws rs)(l:∃ D Ws,RepL n D Ws gs)(hn:1<=n)(hm:rss.length+2<=32)(I:InvR c rss o gs T):TabBd (bitsOf n c rss.length) (rss.length+2) c T:=by
 have t:1<=2 ^ n:=Y0s n;have a:∀ v r,v<c+(rss.length+2)->r<rss.length+2->(_v.colS c rss.length (AOf rss) (rowF (papR c o)) (rowF gs) v r).natAbs<=2 ^ n:=λv r _ _=>by
  unfold _v.colS;split
  ·split
   ·rename_i h
    have z:rss[r]?=some (rss[r]'h):=ZJ
    have y:rss.getD r []=rss[r]'h:=by simp[List.getD,h]
    obtain⟨_,D,Ws,g⟩:=m _ (YD z);have:=Ny g v;unfold AOf;rw[y];exact JH this
   split
   ·exact JH ((Ny (T8 c o) v).mono hn)
   obtain⟨D,Ws,g⟩:=l;exact JH (Ny g v)
  split
  ·exact t
  exact JK _
 have f:∀ r,r<rss.length+2->(_v.rhsS rss.length r).natAbs<=2 ^ n:=λr _=>by
  unfold _v.rhsS;split
  ·exact t
  exact JK _
 have s:(rss.length+2)*2 ^ n<=2 ^ (n+5):=by
  rw[Y0R,zU];exact zn _ (show rss.length+2<=2 ^ 5 by omega)
 have b:∀ (x k:Nat),x<=(2 ^ (n+5)) ^ k->k<=min c (rss.length+2)->x<2 ^ bitsOf n c rss.length:=λx k h hk=>by
  rw[<-Nat.pow_mul] at h;refine JD h (Y1w J1 ?_);unfold bitsOf;have:=zn (n+5) hk;omega
 by_cases u:c<=rss.length+2
 ·have d:∀ v,v<c+(rss.length+2)->_v.sN (rss.length+2) (λr=>(_v.colS c rss.length (AOf rss) (rowF (papR c o)) (rowF gs) v r).natAbs)<=(2 ^ (n+5)) ^ _v.isW c v:=λv w=>by
   by_cases q:v<c
   ·have e:_v.isW c v=1:=YH q;rw[e,Nat.pow_one];exact YR (_v.sN_const λr hr=>a v r w hr) s
   have e:_v.isW c v=0:=YF q;rw[e,Nat.pow_zero];refine YR (jz (_v.sN_congr λr _=>?_)) (_v.sN_unit (i:=v - c));unfold _v.colS;rw[YF q]
  have p:_v.sN (rss.length+2) (λr=>(_v.rhsS rss.length r).natAbs)<=1:=by
   refine YR (jz (_v.sN_congr λr _=>?_)) (_v.sN_unit (i:=rss.length));unfold _v.rhsS;by_cases q:r=rss.length
   ·rw[YH q,YH q.symm]
   rw[YF q,YF (JC q)]
  exact⟨λi j hi hj=>b _ c (I.sizeW d p (Y0s _) hi hj) J0,b _ c (I.sizeBW d (Y0s _)) J0⟩
 have low:∀ x,x<=((rss.length+2)*2 ^ n) ^ (rss.length+2)->x<2 ^ bitsOf n c rss.length:=λx h=>b x (rss.length+2) (YR h (Y1A s _)) J0;exact⟨λi j hi hj=>low _ (I.size a f hi hj),low _ (I.sizeB a)⟩
section
variable {P:TU}
structure NoneT (c:Nat)(rss:UB)(o:TW)(gs:UA)(T:UC):Prop where
 inv:InvR c rss o gs T
 lk:T.own rss.length=c+rss.length
 aim:T.own (rss.length+1)=c+rss.length+1
 no:∀ j,j<c->T.hd j≠c+rss.length->T.L rss.length j<=0
structure MostT (c:Nat)(rss:UB)(o:TW)(gs:UA)(T:UC):Prop where
 inv:InvR c rss o gs T
 feas:_v.Feas (rss.length+2) c (c+rss.length) T
 aim:T.own (rss.length+1)=c+rss.length+1
 lk:∃ jl,jl<c/\T.hd jl=c+rss.length
 no:∀ j,j<c->T.hd j≠c+rss.length->T.L (rss.length+1) j<=0
noncomputable def loadsR (c g:Nat)(T:UC):List Rat:=(List.range c).map λv=>nrm (_v.endOf (g+2) c T v) T.b
noncomputable def valueR (c g:Nat)(gs:UA)(T:UC):Rat:=nrm (-_v.endOf (g+2) c T (c+g+1)) (lcmB gs*T.b)
def Nc {H H':Hp}{q:Addr}(S:Same H H')(h:H' q=none):H q=none:=by
 cases z:H q with
 | none=>rfl
 | some o =>
  have:=S _ _ z;rw[h] at this
  cases this
inductive spSolveN (K:TR) (vs:TZ) (H:Hp) (Q:VK) (_z3:XK):Prop
 | mk (l g:Addr) (ve:V) (c n N:Nat) (rss:UB) (o:TW) (as:UA) (zz0:vs=[.int (c:Int),.ref l,ve,.ref g]) (zz1:RowsAt K H l rss) (zz2:EvAt K H c o ve) (zz3:RowAt K H g as) (zz4:as.length=c) (zz5:(∀ rs∈rss,rs.length=c/\∃ D Ws,RepL n D Ws rs)) (zz6:(∃ D Ws,RepL n D Ws as)) (zz7:1<=n) (zz8:n<=200000) (zz9:N<=400000) (zz10:n+N<=440000) (zz11:(∀ T':_v.Tab,InvR c rss o (cutR o as) T'->TabBd N (rss.length+2) c T')) (zz12:1<=c) (zz13:c<=800) (zz14:rss.length+2<=32) (zz15:(∀ (T:UC) (q t:Addr) (xs:TZ) (H':Hp),H q=none->Same H H'->NoneT c rss o (cutR o as) T->H' q=some (.lst xs)->Rs K H' (multR c rss T rss.length 1) xs->SqT K H' t [.str "none",.ref q]->Q (.ref t) H')) (zz16:(∀ (T:UC) (q t va lo:Addr) (xs:TZ) (H':Hp),H q=none->Same H H'->MostT c rss o (cutR o as) T->H' q=some (.lst xs)->Rs K H' (multR c rss T (rss.length+1) (lcmB (cutR o as))) xs->IsR K H' (valueR c rss.length (cutR o as) T) (.ref va)->RowAt K H' lo (loadsR c rss.length T)->SqT K H' t [.str "most",.ref va,.ref lo,.ref q]->Q (.ref t) H'))
theorem Z12 (D:Def K mg "solve" jW VB)(T0:Blt mg)(tc:TabC K mg C)(gQ:Has P w K mg base 2 "cut" UV (spCut K))(gZ:Has P w K mg base 4 "start" UZ (spStart K C))(fU:Has P w K mg base 4 "driven" UK (spDriven C))(eO:Has P w K mg base 4 "shown_multiples" VA (spShown K C))(eA:Z3 P w K mg base)(eV:Has P w K mg base 3 "ratio" UH spLowest)(gO:Has P w K mg base 2 "end_of" UL (spEndOf C)):Has P w K mg base 5 "solve" VB (spSolveN K):=by
 refine D.h9 (N:=["count","rows","event","aim","goal","lack","table","bottom","value","loads"]) fsc λH Q hr h nd=>?_;obtain⟨l,g,ve,c,n,N,rss,o,as,rfl,hR,hv,hg,gl,J,⟨Da,Wa,ra⟩,a6,hn,a,O,A,b1,hc,hm,kN,kM⟩:=h;have T:=T0;have b6:(["world","table"]:List Str).Nodup:=ZZ
 refine⟨_,(Z9 (Zj (i:=4) nd rfl (Or.inl rfl) (Zf gQ hr (Z0 (pv 3) (Z0 (pv 2) Z8))))
  (Z9 (Zj (i:=5) nd rfl (Or.inl rfl) (Zl X6 (pv 0) (Zt Zq rfl T.len GL (Z0 (pv 1) Z8))))
  (Z9 (Zj (i:=6) nd rfl (Or.inr rfl) (Zf fU hr (Z0 (Zf gZ hr (Z0 (pv 0) (Z0 (pv 1) (Z0 (pv 2) (Z0 (pv 4) Z8))))) (Z0 (pv 5) Z8))))
  (Z9 (Y9 (Zo Wh (pv 5) (Yg (pv 6) rfl) rfl)
   (Zb (Zh (Yx (Z0 Vk (Z0 (Zf eO hr (Z0 (pv 0) (Z0 (pv 1) (Z0 (pv 6) (Z0 (pv 5) (Z0 Za Z8)))))) Z8)))))
   Zw)
  (Z9 (Zj (i:=6) nd rfl (Or.inr rfl) (Zf fU hr (Z0 (pv 6) (Z0 (Zl X6 (pv 5) Za) Z8))))
  (Z9 (Zj (i:=7) nd rfl (Or.inl rfl) (Zf eA hr (Z0 (pv 4) Z8)))
  (Z9 (Zj (i:=8) nd rfl (Or.inl rfl) (Zf eV hr (Z0 (V9 Xx (Zf gO hr (Z0 (pv 6) (Z0 (Zl X6 (pv 5) Za) Z8)))) (Z0 (Zl Zu (pv 7) (Yg (pv 6) rfl)) Z8))))
  (Z9 (Zj (i:=9) nd rfl (Or.inl rfl) (Y7 Yc rfl T.tuple XV (Z0 (Yd (ox:=none) (N:=["world","table"]) (k:=1) (fv:=[6]) rfl (Yf rfl T.range (Z0 (pv 0) Z8))
  (λ_ _ _ _ _=>Zi (i:=0) b6 rfl xj) (λ_ _ _ _ _=>Y8) (λ_ _ _ _ _=>(Zf eV hr (Z0 (Zf gO hr (Z0 (pv 1) (Z0 (pv 0) Z8))) (Z0 (Mf (K:=K) (pv 1) rfl) Z8)))) Zv) Z8)))
  (Zb (Zh (Yx (Z0 Vk (Z0 (pv 8) (Z0 (pv 9) (Z0 (Zf eO hr (Z0 (pv 0) (Z0 (pv 1) (Z0 (pv 6) (Z0 (Zl X6 (pv 5) Za) (Z0 (pv 7) Z8)))))) Z8))))))))))))))),?_⟩
 have o1:rss.length<rss.length+2:=Nat.lt_add_of_pos_right J1;have o2:rss.length+1<rss.length+2:=Y0e _;have Z:rss.length+2<=900:=YR hm J1;have o4:c<=900:=YR hc J1;have o5:rss.length<=900:=YR (GH _ 2) Z;have o6:rss.length+2<=1000:=YR Z J1;have o8:c<=1000:=YR o4 J1;have o9:rss.length<=800:=YR (GH _ 2) (YR hm J1);have c4:EvAt K H as.length o ve:=by rw[gl];exact hv
 refine⟨_,rfl,_,rfl,g,ve,as,o,rfl,hg,c4,by rw[gl];exact o8,λpg H1 S1 rg=>?_⟩;obtain⟨B,hl,hp⟩:=id hR;have a5:(B.map V.ref).length=rss.length:=by rw[YB];exact XB hp
 have c3:(cutR o as).length=c:=by rw[X1];exact gl
 refine⟨_,rfl,_,rfl,l,_,rfl,.inl (SqL.of (S1 _ _ hl)),?_⟩;rw[a5];refine⟨_,_,rfl,rfl,?_⟩;refine⟨_,rfl,_,rfl,_,rfl,_,rfl,l,pg,ve,c,n,rss,o,cutR o as,rfl,⟨B,S1 _ _ hl,Y0 hp (Ext.same S1)⟩,hv.same S1,rg,c3,J,⟨_,_,ra.cut o⟩,a6,hn,b1,hc,o9,λq2 H2 S2 b0=>?_⟩;refine⟨_,rfl,q2,rss.length+2,c,c+rss.length,rss.length,N,c+rss.length,_v.colS c rss.length (AOf rss) (rowF (papR c o)) (rowF (cutR o as)),_v.rhsS rss.length,(λT'=>T'.own (rss.length+1)=c+rss.length+1),_,rfl,b0,o1,Z,o4,a,_v.inv0,_v.feas0,rfl,rfl,A,λT' c' I' F' S ho a4 a3 r=>⟨rss.length,o1,by rw[ho];exact YJ _,r⟩,λT' pl c' I' S st=>?_,λq3 H3 T3 S3 p ⟨G,F3,X3,M⟩=>?_⟩
 ·have:pl≠rss.length+1:=λz=>by
   have:=st.el;rw[z,S] at this;omega
  show (_v.piv T' pl c').own (rss.length+1)=_;rw[_v.own_ne (JC this)];exact S
 have s:=(S1.trans S2).trans S3;obtain⟨dx,la,oa,ha,las,h1,h2,h3,h4,h5,h6⟩:=id p;refine⟨_,rfl,_,rfl,q3,C,dx,_,_,rfl,h1,tc.cl,tc.nO,Xh,Ms h5 ⟨_,rfl,?_⟩⟩;rcases M with ⟨ho,c0⟩ | ⟨T1,c1,ho,I1,st,e3⟩
 ·refine Xu (λ_=>?_) (λh=>absurd (XA (mem_ownI.mpr ⟨rss.length,o1,ho⟩)) h);refine⟨_,rfl,_,rfl,_,rfl,_,rfl,l,q3,c,rss.length+2,c+rss.length,rss.length,n,N,1,rss,T3,by rw[ho];rfl,⟨B,s _ _ hl,Y0 hp (Ext.same s)⟩,p,TabOk.of G,A _ G,G.pos,o1,Z,o4,o5,λrs hr=>(J rs hr).2,J1,(show Bd n 1 from YX (show (1:Int).natAbs<2 ^ 1 by decide) (GK J1 a6)),hn,O,λq4 xs H4 f4 S4 e4 r4=>?_⟩;refine⟨sz2,λt ht=>?_⟩;have Y:=Same.new (o:=.tup [.str "none",.ref q4]) ht;exact kN T3 q4 t xs _ (Nc s f4) ((s.trans S4).trans Y) ⟨G,ho,X3,c0⟩ (Y _ _ e4) (r4.ext (Ext.same Y)) (SqT.of Zc)
 subst e3;have a7:∃ jl,jl<c/\(_v.piv T1 rss.length c1).hd jl=c+rss.length:=⟨c1,st.hc,by
  show _v.up T1.hd c1 (T1.own rss.length) c1=_;unfold _v.up;rw[YH rfl];exact ho⟩
 generalize _v.piv T1 rss.length c1=T3 at *
 refine Xu (λh=>?_) (λ_=>?_)
 ·obtain⟨i,hi,e⟩:=mem_ownI.mp (XO h);obtain⟨jl,u,ej⟩:=a7;exact absurd (e.trans ej.symm) (G.ne hi u)
 have d2:=TabOk.of G;refine⟨_,rfl,_,rfl,_,_,rfl,rfl,q3,rss.length+2,c,c+rss.length,rss.length+1,N,c+rss.length+1,_v.colS c rss.length (AOf rss) (rowF (papR c o)) (rowF (cutR o as)),_v.rhsS rss.length,(λT'=>∃ jl,jl<c/\T'.hd jl=c+rss.length),T3,rfl,p,o2,Z,o4,a,G,F3,a7,X3,A,λT' c' I' F' S b8 a4 a3 r=>?_,λT' pl c' I' S b9=>?_,λq5 H5 m Y f ⟨X,F5,X5,M⟩=>?_⟩
 ·obtain⟨jl,u,ej⟩:=S;obtain⟨k,hk,h7,h8⟩:=_v.InvS.bounded I' (λv hv=>Z3h hv) (λv hv z=>Dl hv gl z) (i:=rss.length+1) (o2) b8 u ej a4 a3 r;exact⟨k,hk,h7,h8⟩
 ·obtain⟨jl,u,ej⟩:=S;refine⟨jl,u,?_⟩;show _v.up T'.hd c' (T'.own pl) jl=_;unfold _v.up;rw[YF (λz=>b9.nl (by rw[<-z];exact ej))];exact ej
 have I:m.own (rss.length+1)=c+rss.length+1/\∀ j,j<c->m.hd j≠c+rss.length->m.L (rss.length+1) j<=0:=by
  rcases M with h | ⟨T6,c6,h7,_,b5,_⟩
  ·exact h
  have:=b5.el;omega
 have b7:=s.trans Y;have E:=A _ X;have R:=TabOk.of X;have gr:=(ra.cut o).least;obtain⟨xg,c5,c2⟩:=rg.same ((S2.trans S3).trans Y);obtain⟨a1,c9,d1,d0,c7,t1,t2,t3,t4,t5,t6⟩:=id f;refine⟨_,rfl,pg,xg,cutR o as,n,_,_,rfl,.inr c5,c2,ra.cut o,hn,?_⟩;have b3:lcmB (cutR o as)*m.b≠0:=by
  have:=XU gr.pos X.pos;omega
 refine⟨_,rfl,_,rfl,_,_,rfl,rfl,q5,rss.length+2,c,c+rss.length,c+rss.length+1,m,rfl,f,R,o6,o8,_,rfl,_,rfl,_,rfl,q5,C,a1,_,_,rfl,t1,tc.cl,tc.nB,Vc,_,_,rfl,rfl,gr.bD.mulOk E.b (YR hn J1) (YR a J1),_,_,rfl,b3,(gr.bD.mul E.b).log (JD O J1),λva H6 f6 S6 e6=>?_⟩;have b4:=b7.trans S6;have c8:=S6 _ _ t1;refine⟨_,rfl,(c:Int),rfl,J0,J0,λd hd=>?_⟩;have et:(c:Int).toNat=c:=J0
 rw[et];refine⟨c,λi ys H2=>Same H6 H2/\Rs K H2 ((loadsR c rss.length m).take i) ys,Zz (o8),⟨Same.new hd,.nil⟩,?_,?_⟩
 ·rintro i ys H7 hi ⟨S7,r7⟩ W;refine⟨hi,?_⟩;rintro x H8 ⟨rfl,rfl⟩;refine Yh ?_;have a2:=S6.trans S7;refine⟨_,rfl,_,rfl,q5,rss.length+2,c,c+rss.length,i,m,by rw[Y1i];rfl,f.same a2,R,o6,o8,_,rfl,q5,C,a1,_,_,rfl,a2 _ _ t1,tc.cl,tc.nB,Vc,_,_,rfl,by have:=X.pos;omega,E.b.log (JD a J1),λa8 H8 f8 U e8=>?_⟩;have y:=U _ _ W;refine⟨y,λq z e=>?_,?_⟩
  ·rw[Ze (Zd e hd)];exact U _ _ (S7 _ _ e)
  have e4:(loadsR c rss.length m)[i]?=some (nrm (_v.endOf (rss.length+2) c m i) m.b):=by
   unfold loadsR;rw[YI,qq hi];rfl
  rw[Yl e4];refine ((r7.ext (Ext.same U)).ext (Ext.upd y)).snoc ⟨a8,rfl,SqT.of ?_⟩;rw[Ze (λz=>by rw[z] at e8;rw[e8] at y;cases y)];exact e8
 rintro ys H7 ⟨S7,r7⟩ W;rw[YZ (by unfold loadsR;simp)] at r7;refine⟨YJ _,d,ys,rfl,.inl ⟨SqL.of W,λlo a0=>?_⟩⟩;have U:=S7.trans (Same.new (o:=.tup ys) a0);have a9:RowAt K (upd H7 lo (.tup ys)) lo (loadsR c rss.length m):=⟨ys,SqT.of Zc,r7.ext (Ext.new a0)⟩;generalize upd H7 lo (.tup ys)=H8 at *
 have F:=b4.trans U;have b2:=S6.trans U;refine⟨_,rfl,_,rfl,_,rfl,_,rfl,_,rfl,_,rfl,_,_,rfl,rfl,_,rfl,l,q5,c,rss.length+2,c+rss.length,rss.length+1,n,N,lcmB (cutR o as),rss,m,by rw[I.1];rfl,⟨B,F _ _ hl,Y0 hp (Ext.same F)⟩,f.same b2,R,E,X.pos,o2,Z,o4,o5,λrs hr=>(J rs hr).2,gr.pos,gr.bD,hn,O,λq9 xs H9 f9 S9 e9 r9=>?_⟩;refine⟨sz4,λt ht=>?_⟩;have SX:=Same.new (o:=.tup [.str "most",.ref va,.ref lo,.ref q9]) ht;refine kM m q9 t va lo xs _ (Nc F f9) ((F.trans S9).trans SX) ⟨X,F5,I.1,X5,I.2⟩ (SX _ _ e9) (r9.ext (Ext.same SX)) ⟨va,rfl,SqT.of (SX _ _ (S9 _ _ (U _ _ e6)))⟩ ((a9.same S9).same SX) (SqT.of Zc)
inductive spSolve (K:TR) (vs:TZ) (H:Hp) (Q:VK) (_z3:XK):Prop
 | mk (l g:Addr) (ve:V) (c n:Nat) (rss:UB) (o:TW) (as:UA) (zz0:vs=[.int (c:Int),.ref l,ve,.ref g]) (zz1:RowsAt K H l rss) (zz2:EvAt K H c o ve) (zz3:RowAt K H g as) (zz4:as.length=c) (zz5:(∀ rs∈rss,rs.length=c/\∃ D Ws,RepL n D Ws rs)) (zz6:(∃ D Ws,RepL n D Ws as)) (zz7:1<=n) (zz8:n<=800) (zz9:bitsOf n c rss.length<=400000) (zz10:1<=c) (zz11:c<=800) (zz12:rss.length+2<=32) (zz13:(∀ (T:UC) (q t:Addr) (xs:TZ) (H':Hp),H q=none->Same H H'->NoneT c rss o (cutR o as) T->H' q=some (.lst xs)->Rs K H' (multR c rss T rss.length 1) xs->SqT K H' t [.str "none",.ref q]->Q (.ref t) H')) (zz14:(∀ (T:UC) (q t va lo:Addr) (xs:TZ) (H':Hp),H q=none->Same H H'->MostT c rss o (cutR o as) T->H' q=some (.lst xs)->Rs K H' (multR c rss T (rss.length+1) (lcmB (cutR o as))) xs->IsR K H' (valueR c rss.length (cutR o as) T) (.ref va)->RowAt K H' lo (loadsR c rss.length T)->SqT K H' t [.str "most",.ref va,.ref lo,.ref q]->Q (.ref t) H'))
theorem Has.imp {L:Nat}{x:Str}{ps:TF}{sp b:Sp}(h:Has P w K mg base L x ps sp)(f:∀ vs H Q E,b vs H Q E->sp vs H Q E):Has P w K mg base L x ps b:=let ⟨a,fd,F,r⟩:=h;⟨a,fd,F.imp f,r⟩
theorem Z3t {L:Nat}(h:Has P w K mg base L "solve" VB (spSolveN K)):Has P w K mg base L "solve" VB (spSolve K) :=
 h.imp λvs H Q E z0=>by
  obtain⟨l,g,ve,c,n,rss,o,as,e,m,k,hg,gl,b,i,d,hn,a,f,hc,hm,kN,j⟩:=z0;exact⟨l,g,ve,c,n,bitsOf n c rss.length,rss,o,as,e,m,k,hg,gl,b,i,d,J0,a,J0,λT' I=>Bf b (i.elim λD z=>z.elim λW r=>⟨_,_,r.cut o⟩) d hm I,f,hc,hm,kN,j⟩
end
open _v (sm Y5 Wx Xd sm_zero Y6 Y4 Uv)
def Z1s {c:Nat}:lcmB (papR c o)=1:=by
 have h:∀ r∈papR c o,0<r.2:=λr hr=>((T8 c o).good r hr).pos;obtain⟨h1,_,h3⟩:=Sc h;have h4:=h3 1 λr hr=>by
  obtain⟨i,hi⟩:=XQ hr;have hc:i<c:=by
   have:=(YG.mp hi).1;rw[Wi] at this;exact this
  have e:(papR c o)[i]?=some (if inE o i then (1,1) else (0,1)):=Ww (by simp[hc]);rw[e] at hi
  cases hi
  cases inE o i <;> exact Int.one_dvd 1
 have:=Xm J1 h4;omega
def Dy {r:Rat}{W:Int}(a:0<D)(hr:0<r.2)(h:r.1*D=W*r.2):(0<=r.1 ↔ 0<=W)/\(r.1<=0 ↔ W<=0)/\(r.1=0 ↔ W=0):=by
 have a1:0<r.1->0<W:=λz=>by
  have h1:=XU z a;rw[h] at h1;apply YE;intro q;have:=qh (show W<=0 by omega) (show 0<=r.2 by omega);omega
 have a2:r.1<0->W<0:=λz=>by
  have h1:=XU (show 0 < -r.1 by omega) a;rw[Y1x,h] at h1;apply YE;intro q;have:=Y05 (show 0<=W by omega) (show 0<=r.2 by omega);omega
 have a3:r.1=0->W=0:=λz=>by
  rw[z,jf] at h;rcases Int.mul_eq_zero.mp h.symm with q | q <;> omega
 omega
def MostT.sv {c:Nat}(h:MostT c rss o gs T):_v.Most c rss.length (AOf rss) (rowF (papR c o)) (rowF gs) T (rss.length+1):=by
 obtain⟨jl,a,b⟩:=h.lk;exact _v.InvS.most h.inv h.feas J0 h.aim a b h.no
def NoneT.sv {c:Nat}(h:NoneT c rss o gs T):(∀ k,k<rss.length->_v.numAt c T rss.length (c+k)<=0)/\∀ w,w<c->rowF (papR c o) w*T.b<=sm rss.length (λk=>AOf rss k w * -_v.numAt c T rss.length (c+k)) :=
 _v.InvS.none h.inv J0 h.lk (ia:=rss.length+1) J0 h.aim h.no
def TabHere (K:TR)(mg:TB):Prop:=∃ (C f:Addr) (fd:FuncData),TabC K mg C/\Mk K C f/\Fun K "__init__" "Table.__init__" iK f fd/\Binds K fd US []
def Z5u {sl:Array (Option Value)}{kV:Value}(X:K.In h)(G:h.Ns mainGlobals mg)
  (c:W.nsIn K mainGlobals "Table"=some (some (.ref C)))
  (a1:W.findIn K (.ref C) "__init__"=some (some (.ref f))) (i1:W.isFn K (.ref f)=true) (b:K.lookup f=some ⟨oc,od,.func (W.fnOf "__init__" "Table.__init__" (defArgs iK) (defBody iK) (defScope iK) .none kV dc pm an cd ct),sl⟩) (a:W.codeIn K cd "Table.__init__"=true) (k1:W.keepIn K (.ref f)=true)
  (pg:W.plainGet K C Str.empty=true) (hd:W.hasDictIn K C=true) (po:W.plainOver K C=true) (sa:W.findIn K (.ref C) "__setattr__"=some (some (.builtin "object.__setattr__"))) (mk:W.makesIn K C=true) (d:W.keepIn K (.ref C)=true)
  (nL:W.findIn K (.ref C) "lines"=some none) (nO:W.findIn K (.ref C) "owners"=some none) (nH:W.findIn K (.ref C) "heads"=some none) (nB:W.findIn K (.ref C) "bottom"=some none) (nK:W.findIn K (.ref C) "lack"=some none):TabHere K mg :=
 ⟨C,f,_,⟨⟨pg,hd,po,sa⟩,nL,nO,nH,nB,nK,Y1R X G c⟩,⟨mk,a1,i1,d⟩,Up b a k1,(Up b a k1).binds λ_ _ _ _ _ _ us hl=>match us,hl with | [_,_,_,_,_,_],_=>rfl⟩
inductive spMeanP (K:TR) (vs:TZ) (H:Hp) (Q:VK) (_z3:XK):Prop
 | mk (a b:Addr) (xs us:TZ) (ws rs:UA) (n n':Nat) (D D':Int) (Ws Zs:TV) (zz0:vs=[.ref a,.ref b]) (zz1:(SqL K H a xs \/ SqT K H a xs)) (zz2:Rs K H ws xs) (zz3:(SqL K H b us \/ SqT K H b us)) (zz4:Rs K H rs us) (zz5:ws.length=rs.length) (zz6:rs.length<=1000) (zz7:RepL n D Ws ws) (zz8:RepL n' D' Zs rs) (zz9:n+n'+10<=200000) (zz10:∀ c H',Same H H'->SqT K H' c [.int (sumR (List.zipWith mulR' ws rs)).1,.int (sumR (List.zipWith mulR' ws rs)).2]->Q (.ref c) H')
section
variable {P:TU}
abbrev Z5 (P:TU)(w:World)(K:TR)(mg:TB)(base:Heap):Prop:=Has P w K mg base 4 "_law_mean" VC (spMeanP K)
theorem Z1c (D:Def K mg "_law_mean" j2 VC)(T:Blt mg)(F:Z7 P w K mg base)(G:Has P w K mg base 3 "_law_times" UI (spTwo K mulR')) :
  Z5 P w K mg base:=by
 refine D.h9 (N:=["_law_weights_here","_law_row_here","_law_come","_law_k"]) fsc λH Q hr h nd=>?_;obtain⟨a,b,xs,us,ws,rs,n,n',D,D',Ws,Zs,rfl,I,l,hB,g,hl,v,f,rr,m,k⟩:=h;refine⟨_,(Z9 (Zj (i:=2) nd rfl (Or.inl rfl) (Yx (Z0 Za (Z0 Za Z8))))
  (Z9 (Yw XS rfl (Yf rfl T.range (Z0 (Zt Zq rfl T.len GL (Z0 (pv 1) Z8)) Z8)) (Zi (i:=3) nd rfl xj)
   (Zb (Zj (i:=2) nd rfl (Or.inl rfl) (Zf F hr (Z0 (pv 2) (Z0 (Zf G hr (Z0 (Zg Js (pv 0) (pv 3)) (Z0 (Zg Js (pv 1) (pv 3)) Z8))) Z8))))))
  (Zb (Zh (pv 2))))),?_⟩
 refine⟨sz2,λp hp=>?_⟩;have lx:=l.len;have L:=g.len;have r:Same H (upd H p (.tup [.int 0,.int 1])):=Same.new hp;have t:=f.mul rr hl;have M:(List.zipWith mulR' ws rs).length=rs.length:=by rw[JW];omega
 have d:∀ {c:Addr} {ys:TZ} {H1:Hp},Same H H1->(SqL K H c ys \/ SqT K H c ys)->(SqL K H1 c ys \/ SqT K H1 c ys):=λS h=>h.elim (λz=>.inl (Xr S z)) λz=>.inr (Zx S z);refine⟨_,rfl,b,us,rfl,d r hB,(us.length:Int),rfl,J0,J0,?_⟩;have y:(us.length:Int).toNat=us.length:=J0
 rw[y];refine Xq (lo:=0) (n:=us.length) (λi σ H'=>Same H H'/\∃ (c:Addr) (x:Option V),σ=[some (.ref a),some (.ref b),some (.ref c),x]/\SqT K H' c [.int (sumR ((List.zipWith mulR' ws rs).take i)).1,.int (sumR ((List.zipWith mulR' ws rs).take i)).2]) ⟨r,p,none,rfl,SqT.of Zc⟩ ?_ ?_
 ·rintro i σ H1 hi ⟨S1,c,x0,rfl,hc⟩;have e0:(0+(i:Int))=((i:Nat):Int):=J0
  rw[e0];have j:i<ws.length:=J0
  have e:i<rs.length:=J0
  have u:ws[i]?=some ws[i]:=by simp[j]
  have es:rs[i]?=some rs[i]:=by simp[e]
  obtain⟨x1,ex,E⟩:=l.at u;obtain⟨O,J,iy⟩:=g.at es;obtain⟨a1,rfl,q⟩:=E.ext (Ext.same S1);obtain⟨b1,rfl,o⟩:=iy.ext (Ext.same S1);refine⟨_,rfl,_,rfl,_,rfl,a,xs,_,_,rfl,rfl,d S1 I,Zk ex,_,rfl,_,rfl,b,us,_,_,rfl,rfl,d S1 hB,Zk J,?_⟩;refine⟨a1,b1,ws[i],rs[i],n+n'+10,rfl,q,o,(f.good _ (XR j)).mono J0,(rr.good _ (XR e)).mono J0,J0,λC H2 f2 S2 e2=>?_⟩;have s:(List.zipWith mulR' ws rs)[i]?=some (mulR' ws[i] rs[i]):=by rw[GI,u,es]
  refine⟨c,C,_,mulR' ws[i] rs[i],n+n'+10,rfl,Zx S2 hc,SqT.of e2,(t.take i).sumGood (k:=10) (by rw[JY];omega),(t.good _ (YD s)).mono J0,m,λB U R A e3=>?_⟩;refine⟨(S1.trans S2).trans A,B,_,rfl,?_⟩;rw[Pz s];exact SqT.of e3
 rintro σ H1 ⟨S1,c,x0,rfl,hc⟩;rw[YZ J0] at hc;exact⟨_,rfl,k c H1 S1 hc⟩
inductive spEvent (K:TR) (vs:TZ) (H:Hp) (Q:VK) (_z3:XK):Prop
 | mk (b:Addr) (c n:Nat) (zz0:vs=[.ref b,.int c]) (zz1:BagAt H b n) (zz2:n<=100000) (zz3:c<=1000) (zz4:∀ (v:V) (H':Hp) (o:TW),BagAt H' b (n+c+1)->SameX b H H'->EvAt K H' c o v->Q v H')
theorem Z47 (D:Def K mg "_law_event" j6 UN)(T:Blt mg)(B:Z2 P w K mg base):Has P w K mg base 2 "_law_event" UN (spEvent K):=by
 refine D.h9 (N:=UN) fsc λH Q hr h nd=>?_;obtain⟨b,c,n,rfl,hB,hn,hl,k⟩:=h;have m:(UO:List Str).Nodup:=ZZ
 refine⟨_,(Z9 (Y9 (Zo Xp (Zf B hr (Z0 (pv 0) (Z0 Za Z8))) Za (Zp _))
   (Zb (Zh Xo))
   Zw)
  (Zb (Zh (Y7 Yc rfl T.tuple XV (Z0 (Yd (ox:=none) (N:=UO) (k:=1) (fv:=[0]) rfl (Yf rfl T.range (Z0 (pv 1) Z8))
  (λ_ _ _ _ _=>Zi (i:=0) m rfl xj) (λ_ _ _ _ _=>Xs (Zo Xp (Zf B hr (Z0 (pv 1) (Z0 Za Z8))) Za (Zp _))) (λ_ _ _ _ _=>(pv 0)) Zv) Z8))))),?_⟩
 refine⟨_,rfl,b,_,_,rfl,hB,J0,J1,ZZ,λz H1 z0 z1 u S1=>⟨rfl,_,rfl,?_⟩⟩;refine Xu (λh=>?_) (λh=>?_)
 ·exact k _ _ none (u.mono J0) S1 rfl
 have v:=u.lst;refine⟨_,rfl,(c:Int),rfl,J0,J0,λd hd=>?_⟩;have f:d≠b:=by
  obtain⟨ys,e⟩:=v;exact (Zd e hd).symm
 have C:(c:Int).toNat=c:=J0
 rw[C];refine⟨c,λi ys H2=>∃ p:Nat->Bool,ys=(evI i p).map V.int/\BagAt H2 b (n+1+i)/\SameX b H H2,Zz hl,?_,?_,?_⟩
 ·exact⟨λ_=>true,rfl,u.upd (JC f),S1.trans (SameX.of (Same.new hd))⟩
 ·rintro i ys H2 hi ⟨p,rfl,s,S2⟩ a;refine⟨hi,?_⟩;rintro x F ⟨rfl,rfl⟩;have e0:(0+(i:Int))=((i:Nat):Int):=J0
  rw[e0];refine Vy ?_;refine⟨_,rfl,b,_,_,rfl,s,J0,J1,ZZ,λr E r0 r1 A t=>⟨rfl,_,rfl,?_⟩⟩;have g:E d=some (.lst ((evI i p).map V.int)):=t _ _ a f;have ep:evI i p=evI i (λj=>if j=i then decide (r=1) else p j):=Co λj hj=>by rw[YF J0]
  refine Xu (λh=>?_) (λh=>?_)
  ·have h0:r=1:=by
    have:=XO h;injection this
   refine⟨_,rfl,g,λj=>if j=i then decide (r=1) else p j,?_,(A.upd (JC f)).mono J0,?_⟩
   ·rw[Kf,YH (by simp[h0]),XH,<-ep];rfl
   exact λq o e ne=>by
    have e2:=t q o (S2 q o e ne) ne;rw[Ze (Zd (S1 q o e ne) hd)];exact e2
  have h0:¬ r=1:=λz=>h (XA (by rw[z]));refine⟨g,λj=>if j=i then decide (r=1) else p j,?_,A.mono J0,S2.trans t⟩;rw[Kf,YF (by simp[h0]),GN,<-ep]
 rintro ys H2 ⟨p,rfl,s,S2⟩ a;refine⟨YJ _,d,_,rfl,.inl ⟨SqL.of a,λl hl'=>?_⟩⟩;have y:Same H2 (upd H2 l (.tup ((evI c p).map V.int))):=Same.new hl';exact k _ _ (some p) ((s.same y).mono J0) (S2.trans (SameX.of y)) ⟨l,rfl,SqT.of Zc⟩
end
open _v (sm Y5 Wx Xd sm_zero Y6 Y4 Uv)
open _v (sm Y5 Wx Xd sm_zero Y6 Y4 Uv)
def Z1m {c:Nat}{b:Int}:(multR c rss T i b).length=rss.length:=by unfold multR;simp
noncomputable def multY (c:Nat)(rss:UB)(T:UC)(i:Nat):List Int:=(List.range rss.length).map λk=>-(_v.numAt c T i (c+k))*lcmB (rss.getD k [])
def Z1l {c n N:Nat}{b:Int}(d:∀ rs∈rss,rs.length=c/\∃ D Ws,RepL n D Ws rs)(pos:0<T.b)(ok:TabOk (rss.length+2) c T)(bd:TabBd N (rss.length+2) c T)(hi:i<rss.length+2)(j:0<b)(f:Bd n b):RepL (n+N) (b*T.b) (multY c rss T i) (multR c rss T i b):=by
 have g:=XU j pos;refine RepL.of_map g (f.mul bd.b) (List.range rss.length) _ _ λk hk=>⟨Xt _ _,?_,Yi J0⟩;have a:k<rss.length:=by simpa using hk
 have h:rss.getD k []=rss[k]:=by simp[List.getD,a]
 obtain⟨_,D,Ws,e⟩:=d _ (XR a);have b1:=((ok.numBd bd hi (c+k)).neg).mul e.least.bD;rw[Y1Q] at b1;rw[h];exact b1
open PySem.Spec PyProof.Rows
section
variable {X:Cx}
inductive rNeI (K:TR) (x:V) (y:V) (H:Hp) (Q:VK):Prop
 | mk (a b:Addr) (ns ms:TV) (zz0:x=.ref a) (zz1:y=.ref b) (zz2:SqT K H a (ns.map V.int)) (zz3:SqT K H b (ms.map V.int)) (zz4:Q (.bl (!decide (ns=ms))) H)
theorem Z6h (hu:X.A.units<cLine)(hK:X.K=K:=by rfl):OpR X (compareOp .NotEq) (rNeI K):=by
 subst hK;intro pins s σ H x y v u Q I n o h;obtain⟨a,b,ns,ms,rfl,rfl,ha,l,q⟩:=h
 cases n
 cases o;obtain⟨its,r1,m,_⟩:=I.tuple ha;obtain⟨c,r2,k,_⟩:=I.tuple l;have i:=r1.length;have g:=r2.length;rw[YB] at i g;refine SeqAt.RcNeAt.tuples (A:=X.A) (e:=λj=>ns.getD j 0 == ms.getD j 0) m k hu (λj h1 h2=>?_) _ _ _ _ ?_
 ·obtain⟨t,e1⟩:=U9 r1 (j:=j) (by simpa using h1);obtain⟨t',e2⟩:=U9 r2 (j:=j) (by simpa using h2);have f:its.toArray[j]=Value.int (ns.getD j 0) t:=by simpa using e1
  have d:c.toArray[j]=Value.int (ms.getD j 0) t':=by simpa using e2
  rw[f,d];exact zv _ _ _ _
 rw[YM,YM,<-i,<-g,G7];exact⟨.bl _,H,I,rfl,q⟩
end
end _b
namespace _b
open PySem _L
section
variable {P:TU}
theorem Z3z (D:Def K mg "minus" j0 UG)(e:Z4 P w K mg base):Has P w K mg base 3 "minus" UG (spTwo K subR):=by
 refine D.h9 (N:=UG) fsc λH Q hr h nd=>?_;obtain⟨a,b,r,s,n,rfl,d,hB,c,gs,hn,k⟩:=h;refine⟨_,(Zb (Zh (Zf e hr (Z0 (Zl Wz (Zl Zu (Zg Yq (pv 0) Za) (Zg Ym (pv 1) Za)) (Zl Zu (Zg Yq (pv 1) Za) (Zg Ym (pv 0) Za))) (Z0 (Zl Zu (Zg Ym (pv 0) Za) (Zg Ym (pv 1) Za)) Z8))))),?_⟩;exact⟨_,rfl,_,_,_,rfl,rfl,d,_,rfl,_,_,_,rfl,rfl,hB,_,_,rfl,rfl,c.b1.mulOk gs.b2 J0 J0,_,rfl,_,_,_,rfl,rfl,hB,_,rfl,_,_,_,rfl,rfl,d,_,_,rfl,rfl,gs.b1.mulOk c.b2 J0 J0,_,_,rfl,rfl,_,rfl,_,_,_,rfl,rfl,d,_,rfl,_,_,_,rfl,rfl,hB,_,_,rfl,rfl,c.b2.mulOk gs.b2 J0 J0,_,_,rfl,Wl c.pos gs.pos,W4 c.b2 gs.b2 hn,k⟩
end
def ConI (mg:TB)(x:Str)(i:Int):Prop:=∃ t,mg x=some (Value.int i t)
def Q4 {x:Str}{i:Int}{t:Tok}(X:K.In h)(G:h.Ns mainGlobals mg)(e:W.nsIn K mainGlobals x=some (some (.int i t))):ConI mg x i:=⟨t,Y1R X G e⟩
structure Offr where
 row:List Rat
 ask:Option Rat
 bid:Option Rat
 ev:Option (Nat->Bool)
abbrev _root_.UD:=List Offr
def MayAt (K:TR)(H:Hp)(o:Option Rat)(v:V):Prop:=match o with
 | none=>v=.non
 | some r=>IsR K H r v
theorem MayAt.ext {K:TR}{H H':Hp}{o:Option Rat}{v:V}(h:MayAt K H o v)(e:Ext H H'):MayAt K H' o v:=by
 cases o with
 | none=>exact h
 | some r=>exact IsR.ext h e
def OffAt (K:TR)(H:Hp)(c:Nat)(o:Offr)(v:V):Prop:=∃ (p a:Addr) (va vb ve:V),v=.ref p/\SqT K H p [.ref a,va,vb,ve]/\RowAt K H a o.row/\o.row.length=c/\MayAt K H o.ask va/\MayAt K H o.bid vb/\EvAt K H c o.ev ve
theorem OffAt.ext {K:TR}{H H':Hp}{c:Nat}{o:Offr}{v:V}(h:OffAt K H c o v)(e:Ext H H'):OffAt K H' c o v:=by
 obtain⟨p,a,va,vb,ve,h0,h1,h2,h3,h4,b,d⟩:=h;exact⟨p,a,va,vb,ve,h0,e.sq h1,h2.ext e,h3,h4.ext e,b.ext e,d.ext e⟩
theorem OffAt.same {K:TR}{H H':Hp}{c:Nat}{o:Offr}{v:V}(h:OffAt K H c o v)(e:Same H H'):OffAt K H' c o v:=h.ext (Ext.same e)
structure GoodO (n:Nat)(o:Offr):Prop where
 row:∀ r∈o.row,Good n r
 ask:∀ r,o.ask=some r->Good n r
 bid:∀ r,o.bid=some r->Good n r
noncomputable def gainR (o:Offr)(buy:Bool):List Rat:=cutR o.ev (o.row.map λr=>if buy then subR r (o.ask.getD (0,1)) else subR (o.bid.getD (0,1)) r)
noncomputable def priceO (o:Offr)(buy:Bool):Option Rat:=if buy then o.ask else o.bid
noncomputable def wordO (buy:Bool):Str:=if buy then "buy" else "sell"
def Cm (o:Offr)(buy:Bool):(gainR o buy).length=o.row.length:=by unfold gainR;rw[X1,YB]
section
variable {P:TU}
inductive spGain (K:TR) (vs:TZ) (H:Hp) (Q:VK) (_z3:XK):Prop
 | mk (v:V) (c n:Nat) (o:Offr) (buy:Bool) (pr:Rat) (zz0:vs=[v,.str (wordO buy)]) (zz1:OffAt K H c o v) (zz2:c<=1000) (zz3:GoodO n o) (zz4:n<=200000) (zz5:priceO o buy=some pr) (zz6:∀ p H',Same H H'->RowAt K H' p (gainR o buy)->Q (.ref p) H')
theorem Z6r (D:Def K mg "gain" kK ["offer","word"])(T:Blt mg)(W:Has P w K mg base 3 "minus" UG (spTwo K subR))(gQ:Has P w K mg base 2 "cut" UV (spCut K))(iJ:ConI mg "ROW" 0)(iF:ConI mg "ASK" 1)(iD:ConI mg "BID" 2)(Z:ConI mg "EVENT" 3) :
  Has P w K mg base 4 "gain" ["offer","word"] (spGain K):=by
 refine D.h9 (N:=["offer","word","worths"]) fsc λH Q hr h nd=>?_;obtain⟨v,c,n,o,buy,pr,rfl,⟨p,a,va,vb,ve,rfl,hp,hR,hl,Y,hB,X⟩,hc,g,hn,f,k⟩:=h;obtain⟨t0,y⟩:=iJ;obtain⟨t1,E⟩:=iF;obtain⟨t2,A⟩:=iD;obtain⟨t3,u⟩:=Z;obtain⟨xs,m,B⟩:=hR;have lx:=B.len;have O:(["worth","offer"]:List Str).Nodup:=ZZ
 have U:(["worth","offer"]:List Str).Nodup:=ZZ
 refine⟨_,(Z9 (Y9 (Zo Xp (pv 1) Vk (Zp _))
   (Zb (Xa (i:=2) (ox:=none) (N:=["worth","offer"]) (k:=1) (fv:=[0]) nd rfl xj rfl (Vs (Zg X9 (pv 0) (Xb (v:=.int 0) rfl y ⟨_,rfl⟩)))
  (λ_ _ _ _ _=>Zi (i:=0) O rfl xj) (λ_ _ _ _ _=>Y8) (λ_ _ _ _ _=>(Zf W hr (Z0 (pv 0) (Z0 (Zg (F4 (K:=K)) (pv 1) (Xb (v:=.int 1) rfl E ⟨_,rfl⟩)) Z8)))) Zv))
   (Zb (Xa (i:=2) (ox:=none) (N:=["worth","offer"]) (k:=1) (fv:=[0]) nd rfl xj rfl (Vs (Zg X9 (pv 0) (Xb (v:=.int 0) rfl y ⟨_,rfl⟩)))
  (λ_ _ _ _ _=>Zi (i:=0) U rfl xj) (λ_ _ _ _ _=>Y8) (λ_ _ _ _ _=>(Zf W hr (Z0 (Zg (F4 (K:=K)) (pv 1) (Xb (v:=.int 2) rfl A ⟨_,rfl⟩)) (Z0 (pv 0) Z8)))) Zv)))
  (Zb (Zh (Zf gQ hr (Z0 (Y7 Yc rfl T.tuple XV (Z0 (pv 2) Z8)) (Z0 (Zg X9 (pv 0) (Xb (v:=.int 3) rfl u ⟨_,rfl⟩)) Z8)))))),?_⟩
 cases buy with
 | true =>
  replace f:o.ask=some pr:=f;have kk:=k;unfold gainR at kk;rw[f] at Y kk;obtain⟨b,rfl,L⟩:=Y;refine⟨_,rfl,rfl,_,rfl,K9 rfl ?_⟩;refine⟨_,rfl,p,_,_,_,rfl,rfl,hp,Zk (j:=0) rfl,a,rfl,⟨_,m⟩,λd hd=>?_⟩;refine⟨o.row.length,λi ys H2=>Same H H2/\Rs K H2 ((o.row.map λr=>subR r pr).take i) ys,Zz J0,⟨Same.new hd,.nil⟩,?_,?_⟩
  ·rintro i ys H2 hi ⟨S2,R2⟩ t;refine⟨⟨xs,xs[i]'J0,Zx S2 m,ZJ⟩,?_⟩;rintro x H3 ⟨rfl,I⟩;obtain⟨r,G,M⟩:=B.back (I xs (Zx S2 m));obtain⟨a1,rfl,F⟩:=M.ext (Ext.same S2);refine Yh ?_;refine⟨_,rfl,_,rfl,p,_,_,_,rfl,rfl,Zx S2 hp,Zk (j:=1) rfl,a1,b,r,pr,n,rfl,F,Zx S2 L,g.row r (YD G),g.ask pr f,hn,λV H4 f4 C J=>?_⟩;have s:=C _ _ t;refine⟨s,λq o' e=>?_,?_⟩
   ·rw[Ze (Zd e hd)];exact C _ _ (S2 _ _ e)
   rw[V5 _ G];exact (R2.ext ((Ext.same C).trans (Ext.upd s))).snoc ⟨V,rfl,(Ext.upd s).sq (SqT.of J)⟩
  rintro ys H2 ⟨S2,R2⟩ t;rw[YZ (by rw[YB];omega)] at R2;refine⟨⟨xs,Zx S2 m,J0⟩,_,rfl,d,ys,rfl,.inl ⟨SqL.of t,λl hl'=>?_⟩⟩;have z:Same H2 (upd H2 l (.tup ys)):=Same.new hl';refine⟨_,rfl,p,_,_,_,rfl,rfl,Zx (S2.trans z) hp,Zk (j:=3) rfl,l,ve,_,o.ev,rfl,⟨ys,SqT.of Zc,R2.ext (Ext.same z)⟩,?_,by rw[YB];omega,λS H' R R'=>kk S H' ((S2.trans z).trans R) R'⟩;rw[YB,hl];exact X.same (S2.trans z)
 | false =>
  replace f:o.bid=some pr:=f;have kk:=k;unfold gainR at kk;rw[f] at hB kk;obtain⟨b,rfl,L⟩:=hB;refine⟨_,rfl,rfl,_,rfl,Qz J1 ?_⟩;refine⟨_,rfl,p,_,_,_,rfl,rfl,hp,Zk (j:=0) rfl,a,rfl,⟨_,m⟩,λd hd=>?_⟩;refine⟨o.row.length,λi ys H2=>Same H H2/\Rs K H2 ((o.row.map λr=>subR pr r).take i) ys,Zz J0,⟨Same.new hd,.nil⟩,?_,?_⟩
  ·rintro i ys H2 hi ⟨S2,R2⟩ t;refine⟨⟨xs,xs[i]'J0,Zx S2 m,ZJ⟩,?_⟩;rintro x H3 ⟨rfl,I⟩;obtain⟨r,G,M⟩:=B.back (I xs (Zx S2 m));obtain⟨a1,rfl,F⟩:=M.ext (Ext.same S2);refine Yh ?_;refine⟨_,rfl,p,_,_,_,rfl,rfl,Zx S2 hp,Zk (j:=2) rfl,_,rfl,b,a1,pr,r,n,rfl,Zx S2 L,F,g.bid pr f,g.row r (YD G),hn,λV H4 f4 C J=>?_⟩;have s:=C _ _ t;refine⟨s,λq o' e=>?_,?_⟩
   ·rw[Ze (Zd e hd)];exact C _ _ (S2 _ _ e)
   rw[V5 _ G];exact (R2.ext ((Ext.same C).trans (Ext.upd s))).snoc ⟨V,rfl,(Ext.upd s).sq (SqT.of J)⟩
  rintro ys H2 ⟨S2,R2⟩ t;rw[YZ (by rw[YB];omega)] at R2;refine⟨⟨xs,Zx S2 m,J0⟩,_,rfl,d,ys,rfl,.inl ⟨SqL.of t,λl hl'=>?_⟩⟩;have z:Same H2 (upd H2 l (.tup ys)):=Same.new hl';refine⟨_,rfl,p,_,_,_,rfl,rfl,Zx (S2.trans z) hp,Zk (j:=3) rfl,l,ve,_,o.ev,rfl,⟨ys,SqT.of Zc,R2.ext (Ext.same z)⟩,?_,by rw[YB];omega,λS H' R R'=>kk S H' ((S2.trans z).trans R) R'⟩;rw[YB,hl];exact X.same (S2.trans z)
end
noncomputable def wordsO (o:Offr):List Bool:=(if o.ask.isSome then [true] else [])++if o.bid.isSome then [false] else []
noncomputable def offD:Offr:=⟨[],none,none,none⟩
noncomputable def sidesP (os:UD)(n:Nat):List (Nat × Bool):=(List.range n).flatMap λi=>(wordsO (os.getD i offD)).map λb=>(i,b)
noncomputable def gainsP (os:UD)(n:Nat):List (List Rat):=(List.range n).flatMap λi=>(wordsO (os.getD i offD)).map λb=>gainR (os.getD i offD) b
def So (os:UD)(n:Nat):sidesP os (n+1)=sidesP os n++(wordsO (os.getD n offD)).map λb=>(n,b):=by
 unfold sidesP;rw[GG,jh];simp
def Rh (os:UD)(n:Nat):gainsP os (n+1)=gainsP os n++(wordsO (os.getD n offD)).map λb=>gainR (os.getD n offD) b:=by
 unfold gainsP;rw[GG,jh];simp
def U2 (os:UD)(n:Nat):(sidesP os n).map (λs=>gainR (os.getD s.1 offD) s.2)=gainsP os n:=by
 unfold sidesP gainsP;rw[List.map_flatMap]
 congr 1
 funext i
 rw[qm];rfl
def Kv {os:UD}{n:Nat}{b:Bool}(h:(i,b)∈sidesP os n):i<n/\∃ r,priceO (os.getD i offD) b=some r:=by
 unfold sidesP at h;rw[jg] at h;obtain⟨j,hj,hm⟩:=h;rw[YN] at hm;obtain⟨c,a,e⟩:=hm
 cases e;refine⟨XI.mp hj,?_⟩;unfold wordsO at a;rcases XN.mp a with z | z
 ·split at z
  ·rename_i hs
   rw[XD.mp z];exact ze.mp hs
  cases z
 split at z
 ·rename_i hs
  rw[XD.mp z];exact ze.mp hs
 cases z
def Q7 (o:Offr):(wordsO o).length<=2:=by
 unfold wordsO;split <;> split <;> decide
theorem Vh (os:UD):∀ n,(sidesP os n).length<=2*n
 | 0=>by unfold sidesP;simp
 | n+1=>by
  rw[So,YY,YB];have:=Vh os n;have:=Q7 (os.getD n offD);omega
section
variable {P:TU}
def OffsAt (K:TR)(H:Hp)(l:Addr)(c:Nat)(os:UD):Prop:=∃ vs:List V,H l=some (.lst vs)/\Paired (λv o=>OffAt K H c o v) vs os
def Wk {c:Nat}{vs:TZ}{os:UD}(h:Paired (λv o=>OffAt K H c o v) vs os)(x:Ext H H'):Paired (λv o=>OffAt K H' c o v) vs os:=Paired.mapP h λ_ _ q=>q.ext x
def OffAt.asks {H:Hp}{c:Nat}{o:Offr}{v:V}(h:OffAt K H c o v):∃ (p a:Addr) (va vb ve:V),v=.ref p/\SqT K H p [.ref a,va,vb,ve]/\(va=.non ↔ o.ask=none)/\(vb=.non ↔ o.bid=none):=by
 obtain⟨p,a,va,vb,ve,rfl,hp,_,_,d,hB,_⟩:=h;refine⟨p,a,va,vb,ve,rfl,hp,?_,?_⟩
 ·cases e:o.ask with
  | none=>rw[e] at d;exact⟨λ_=>rfl,λ_=>d⟩
  | some r=>rw[e] at d;obtain⟨b,rfl,_⟩:=d;exact⟨(λz=>nomatch z),λz=>nomatch z⟩
 cases e:o.bid with
 | none=>rw[e] at hB;exact⟨λ_=>rfl,λ_=>hB⟩
 | some r=>rw[e] at hB;obtain⟨b,rfl,_⟩:=hB;exact⟨(λz=>nomatch z),λz=>nomatch z⟩
inductive spWords (K:TR) (vs:TZ) (H:Hp) (Q:VK) (_z3:XK):Prop
 | mk (v:V) (c:Nat) (o:Offr) (zz0:vs=[v]) (zz1:OffAt K H c o v) (zz2:∀ l H',H l=none->Same H H'->H' l=some (.lst ((wordsO o).map λb=>V.str (wordO b)))->Q (.ref l) H')
theorem Z3n (D:Def K mg "words_of" i4 ["offer"])(s:ConI mg "ASK" 1)(t:ConI mg "BID" 2):Has P w K mg base 1 "words_of" ["offer"] (spWords K):=by
 refine D.h9 (N:=["offer","told"]) fsc λH Q hr h nd=>?_;obtain⟨v,c,o,rfl,hO,k⟩:=h;obtain⟨u,f⟩:=s;obtain⟨x,d⟩:=t;obtain⟨p,a,va,vb,ve,rfl,hp,ha,n⟩:=hO.asks;refine⟨_,(Z9 (Zj (i:=1) nd rfl (Or.inl rfl) (Xe Z8))
  (Z9 (Vj (Y9 (Zo Q1 (Zg X9 (pv 0) (Xb (v:=.int 1) rfl f ⟨_,rfl⟩)) Xo (Zp _))
   (Zb (Yz (W6 XJ JA JB Ys (pv 1) (Z0 Vk Z8))))
   Zw))
  (Z9 (Y9 (Zo Q1 (Zg X9 (pv 0) (Xb (v:=.int 2) rfl d ⟨_,rfl⟩)) Xo (Zp _))
   (Zb (Yz (W6 XJ JA JB Ys (pv 1) (Z0 Vk Z8))))
   Zw)
  (Zb (Zh (pv 1)))))),?_⟩
 refine⟨sz0,λl hl=>?_⟩;have m:Same H (upd H l (.lst [])):=Same.new hl;have up:∀ (zs:TZ) (H1:Hp),Same H H1->Same H (upd H1 l (.lst zs)):=λzs H1 S1 q o e=>by
  rw[Ze (Zd e hl)];exact S1 _ _ e
 refine⟨λσ H'=>Same H H'/\σ=[some (.ref p),some (.ref l)]/\H' l=some (.lst ((if o.ask.isSome then [true] else []).map λb=>V.str (wordO b))),?_,?_⟩
 ·refine⟨_,rfl,p,_,_,_,rfl,rfl,Zx m hp,Zk (j:=1) rfl,rfl,_,rfl,?_⟩
  cases e:o.ask with
  | none =>
   have:=ha.mpr e;subst this;exact Xc ⟨m,rfl,Zc⟩
  | some r =>
   have g:va≠V.non:=λz=>by rw[ha.mp z] at e;cases e
   refine K8 g ?_;exact⟨_,rfl,.inl ⟨rfl,_,SqL.of Zc⟩,l,_,_,rfl,rfl,Zc,(by show 0<sizeLine;decide),up _ _ m,rfl,Zc⟩
 rintro σ H1 ⟨S1,rfl,h1⟩;refine⟨_,rfl,p,_,_,_,rfl,rfl,Zx S1 hp,Zk (j:=2) rfl,rfl,_,rfl,?_⟩
 cases e:o.bid with
 | none =>
  have:=n.mpr e;subst this;refine Xc ⟨_,rfl,k l H1 hl S1 ?_⟩;rw[h1];unfold wordsO;rw[e];simp
 | some r =>
  have g:vb≠V.non:=λz=>by rw[n.mp z] at e;cases e
  refine K8 g ⟨_,rfl,.inl ⟨rfl,_,SqL.of h1⟩,l,_,_,rfl,rfl,h1,?_,_,rfl,k l _ hl (up _ _ S1) ?_⟩
  ·refine Tt ?_;rw[YB];split <;> decide
  rw[Zc];unfold wordsO;rw[e];simp;rfl
def SideV (K:TR)(H:Hp)(v:V)(s:Nat × Bool):Prop:=∃ t:Addr,v=.ref t/\SqT K H t [.int (s.1:Int),.str (wordO s.2)]
def SideV.ext {s:Nat × Bool}(h:SideV K H v s)(x:Ext H H'):SideV K H' v s:=by
 obtain⟨t,e,q⟩:=h;exact⟨t,e,x.sq q⟩
inductive spSides (K:TR) (vs:TZ) (H:Hp) (Q:VK) (_z3:XK):Prop
 | mk (l:Addr) (c:Nat) (os:UD) (zz0:vs=[.ref l]) (zz1:OffsAt K H l c os) (zz2:os.length<=100) (zz3:∀ (d:Addr) (ws:TZ) (H':Hp),H d=none->Same H H'->H' d=some (.lst ws)->Paired (SideV K H') ws (sidesP os os.length)->Q (.ref d) H')
theorem Z3u (D:Def K mg "sides" jY VD)(T:Blt mg)(gG:Has P w K mg base 1 "words_of" ["offer"] (spWords K)):Has P w K mg base 2 "sides" VD (spSides K):=by
 refine D.h9 (N:=["offers","told","number","offer"]) fsc λH Q hr h nd=>?_;obtain⟨l,c,os,rfl,⟨vs,hl,hO⟩,S,k⟩:=h;have I:(["word","number"]:List Str).Nodup:=ZZ
 refine⟨_,(Z9 (Zj (i:=1) nd rfl (Or.inl rfl) (Xe Z8))
  (Z9 (Yw XS rfl (T7 rfl T.enumerate (Z0 (pv 0) Z8)) (W0 (n:=2) rfl (Y1 (Zi (i:=2) nd rfl (Or.inr rfl)) (Y1 (Zi (i:=3) nd rfl (Or.inl rfl)) Xg)))
   (Zb (Yz (W6 XJ Y14 Y15 Nd (pv 1) (Z0 (Yd (ox:=none) (N:=["word","number"]) (k:=1) (fv:=[2]) rfl (Yn (Zf gG hr (Z0 (pv 3) Z8)))
  (λ_ _ _ _ _=>Zi (i:=0) I rfl xj) (λ_ _ _ _ _=>Y8) (λ_ _ _ _ _=>(Yx (Z0 (pv 1) (Z0 (pv 0) Z8)))) Zv) Z8)))))
  (Zb (Zh (pv 1))))),?_⟩
 have lo:=XB hO;refine⟨sz0,λd hd=>?_⟩;have L:Same H (upd H d (.lst [])):=Same.new hd;have up:∀ (zs:TZ) (H1:Hp),Same H H1->Same H (upd H1 d (.lst zs)):=λzs H1 S1 q o e=>by
  rw[Ze (Zd e hd)];exact S1 _ _ e
 refine⟨_,rfl,l,rfl,⟨_,SqL.of (L _ _ hl)⟩,Sg (K:=K) (a:=l) (xs:=vs) (λi σ H'=>Same H H'/\∃ (ws:TZ) (x y:Option V),σ=[some (.ref l),some (.ref d),x,y]/\H' d=some (.lst ws)/\Paired (SideV K H') ws (sidesP os i)) ⟨L,[],none,none,rfl,Zc,.nil⟩ (λi σ H' _ h=>SqL.of (h.1 _ _ hl)) ?_ ?_⟩
 ·rintro i v σ H1 p hi ⟨S1,ws,x,y,rfl,m,P1⟩ hp;have S2:Same H1 (upd H1 p (.tup [.int (i:Int),v])):=Same.new hp;have E:=S2 _ _ m;have a0:i<vs.length:=(YG.mp hi).1;have F:i<os.length:=J0
  have Y:os[i]?=some (os.getD i offD):=by simp[List.getD,F]
  have hv:=((Paired.getB hO hi Y).same S1).same S2;refine⟨p,_,rfl,SqT.of Zc,rfl,_,_,rfl,_,_,rfl,rfl,?_⟩;refine⟨_,rfl,.inl ⟨rfl,_,SqL.of E⟩,_,rfl,v,c,os.getD i offD,rfl,hv,λlw H3 f3 O e3=>?_⟩;generalize hw:wordsO (os.getD i offD)=f at *
  have X:f.length<=2:=by rw[<-hw];exact Q7 _
  refine⟨lw,rfl,⟨_,SqL.of e3⟩,λdc u=>?_⟩;refine⟨f.length,λj ys B=>Same H3 B/\Paired (SideV K B) ys ((f.map λb=>(i,b)).take j),Zz J0,⟨Same.new u,.nil⟩,?_,?_⟩
  ·rintro j ys B hj ⟨s,z⟩ g;have M:f[j]?=some f[j]:=by simp[hj]
   refine⟨⟨_,V.str (wordO f[j]),SqL.of (s _ _ e3),by simp[hj]⟩,?_⟩;rintro x' H5 ⟨rfl,U⟩;have ex:x'=V.str (wordO f[j]):=by
    have:=U _ (SqL.of (s _ _ e3));rw[YI,M] at this;exact (YU this).symm
   subst ex;refine Yh ?_;refine⟨_,rfl,_,rfl,sz2,λt Z=>?_⟩;have J:Same H5 (upd H5 t (.tup [.int (i:Int),.str (wordO f[j])])):=Same.new Z;have r:=J _ _ g;refine⟨r,λq o' e=>?_,?_⟩
   ·rw[Ze (Zd e u)];exact J _ _ (s _ _ e)
   rw[V5 _ M];have x7:=(Ext.same J).trans (Ext.upd (o:=.lst (ys++[.ref t])) r);exact Y0S (Paired.mapP z λ_ _ q=>q.ext x7) ⟨t,rfl,(Ext.upd r).sq (SqT.of Zc)⟩
  rintro ys B ⟨s,z⟩ g;rw[YZ (by rw[YB];omega)] at z;refine⟨⟨_,SqL.of (s _ _ e3),by rw[YB];omega⟩,?_⟩;have C:=s _ _ (O _ _ E);have W:=XB P1;have G:=XB z;have sl:=Vh os i;rw[YB] at G;refine⟨d,dc,ws,ys,rfl,rfl,C,g,Zz J0,?_⟩;have A:Same H1 B:=(S2.trans O).trans s;refine⟨up _ _ (S1.trans A),ws++ys,_,_,rfl,Zc,?_⟩;rw[So,hw];have R:=Ext.upd (o:=.lst (ws++ys)) C;exact Paired.appP (Paired.mapP P1 λ_ _ q=>q.ext ((Ext.same A).trans R)) (Paired.mapP z λ_ _ q=>q.ext R)
 rintro σ H1 ⟨S1,ws,x,y,rfl,m,P1⟩;rw[lo] at P1;exact⟨_,rfl,k d ws H1 hd S1 m P1⟩
inductive spGainsP (K:TR) (vs:TZ) (H:Hp) (Q:VK) (_z3:XK):Prop
 | mk (l:Addr) (c n:Nat) (os:UD) (zz0:vs=[.ref l]) (zz1:OffsAt K H l c os) (zz2:os.length<=100) (zz3:c<=1000) (zz4:n<=200000) (zz5:(∀ o∈os,GoodO n o)) (zz6:∀ (d:Addr) (H':Hp),H d=none->Same H H'->RowsAt K H' d (gainsP os os.length)->Q (.ref d) H')
theorem Z1d (D:Def K mg "gains" j4 VD)(S:Has P w K mg base 2 "sides" VD (spSides K))(O:Has P w K mg base 4 "gain" ["offer","word"] (spGain K)):Has P w K mg base 5 "gains" VD (spGainsP K):=by
 refine D.h9 (N:=VD) fsc λH Q hr h nd=>?_;obtain⟨l,c,n,os,rfl,⟨vs,hl,hO⟩,v,hc,hn,g,k⟩:=h;have s:(["number","word","offers"]:List Str).Nodup:=ZZ
 refine⟨_,(Zb (Zh (Yd (ox:=none) (N:=["number","word","offers"]) (k:=2) (fv:=[0]) rfl (Yn (Zf S hr (Z0 (pv 0) Z8)))
  (λ_ _ _ _ _=>W0 (n:=2) rfl (Y1 (Zi (i:=0) s rfl (Or.inl rfl)) (Y1 (Zi (i:=1) s rfl (Or.inl rfl)) Xg))) (λ_ _ _ _ _=>Y8) (λ_ _ _ _ _=>(Zf O hr (Z0 (Zg (Z5n (K:=K)) (pv 2) (pv 0)) (Z0 (pv 1) Z8)))) Xw))),?_⟩
 have lo:=XB hO;refine⟨_,rfl,l,c,os,rfl,⟨vs,hl,hO⟩,v,λds ws H1 f1 S1 e1 P1=>?_⟩;have lp:=XB P1;have sl:=Vh os os.length;refine⟨ds,rfl,⟨_,SqL.of e1⟩,λd hd=>?_⟩;have y:H d=none:=by
  cases q:H d with
  | none=>rfl
  | some o=>rw[S1 _ _ q] at hd;cases hd
 refine⟨ws.length,λi ys H2=>Same H1 H2/\∃ as:List Addr,ys=as.map V.ref/\Paired (RowAt K H2) as ((gainsP os os.length).take i),Zz J0,⟨Same.new hd,[],rfl,.nil⟩,?_,?_⟩
 ·rintro i ys H2 hi ⟨S2,as,rfl,P2⟩ f;have E:ws[i]?=some ws[i]:=by simp[hi]
  refine⟨⟨_,ws[i],SqL.of (S2 _ _ e1),ZJ⟩,?_⟩;rintro R X ⟨rfl,G⟩;have ex:R=ws[i]:=by
   have:=G _ (SqL.of (S2 _ _ e1));rw[E] at this;exact (YU this).symm
  subst ex;have m:i<(sidesP os os.length).length:=J0
  have es:(sidesP os os.length)[i]?=some ((sidesP os os.length)[i]):=by simp[m]
  obtain⟨t,L,z⟩:=(Paired.getB P1 E es).ext (Ext.same S2);have u:=XR m;generalize I:(sidesP os os.length)[i]=T at *
  obtain⟨j,b⟩:=T;obtain⟨hj,r,C⟩:=Kv u;rw[L];refine T9 z ?_;have F:os[j]?=some (os.getD j offD):=by simp[List.getD,hj]
  have x:j<vs.length:=J0
  have ev:vs[j]?=some vs[j]:=by simp[x]
  have B:=((Paired.getB hO ev F).same S1).same S2;refine⟨_,rfl,_,rfl,l,vs,_,_,rfl,rfl,SqL.of (S2 _ _ (S1 _ _ hl)),Zk ev,_,rfl,?_⟩;refine⟨vs[j],c,n,os.getD j offD,b,r,rfl,B,hc,g _ (YD F),hn,C,λp U A J=>?_⟩;have a:=A _ _ f;refine⟨a,λq o' e=>?_,as++[p],by rw[XH];rfl,?_⟩
  ·rw[Ze (Zd e hd)];exact A _ _ (S2 _ _ e)
  have M:(gainsP os os.length)[i]?=some (gainR (os.getD j offD) b):=by rw[<-U2,YI,es];rfl
  rw[Yl M];exact Y0S (Y0 P2 ((Ext.same A).trans (Ext.upd a))) (J.ext (Ext.upd a))
 rintro ys H2 ⟨S2,as,rfl,P2⟩ f;have W:(gainsP os os.length).length=ws.length:=by rw[<-U2,YB,lp]
 rw[YZ J0] at P2;exact⟨⟨_,SqL.of (S2 _ _ e1),YJ _⟩,k d H2 y (S1.trans S2) ⟨as,f,P2⟩⟩
end
open _v (sm Y5 Wx Xd sm_zero Y6 Y4 Uv)
end _b
variable {os:UD}
namespace _b
open PySem _L
open _v (sm Y5 Wx Xd sm_zero Y6 Y4 Uv)
structure Wts (c:Nat)(rss:UB)(ls:UA):Prop where
 len:ls.length=c
 rep:∃ N D Ls,RepL N D Ls ls
 nn:∀ r∈ls,0<=r.1
 fit:∀ rs∈rss,(sumR (List.zipWith mulR' ls rs)).1<=0
 lie:sumR (List.zipWith mulR' ls (papR c none))=(1,1)
noncomputable def mn (ls as:UA):Rat:=sumR (List.zipWith mulR' ls as)
def leR (r s:Rat):Prop:=r.1*s.2<=s.1*r.2
noncomputable def negR (r:Rat):Rat:=(-r.1,r.2)
def negR.low {r:Rat}(h:Low r):Low (negR r):=⟨h.pos,by show Int.gcd (-r.1) r.2=1;rw[Int.neg_gcd];exact h.cop⟩
def RowR (c:Nat)(as:UA):Prop:=as.length=c/\∃ n D Zs,RepL n D Zs as
structure MostV (c:Nat)(rss:UB)(as:UA)(va:Rat):Prop where
 low:Low va
 hit:∃ ls,Wts c rss ls/\mn ls as=va
 top:∀ ls,Wts c rss ls->leR (mn ls as) va
structure LeastV (c:Nat)(rss:UB)(as:UA)(va:Rat):Prop where
 low:Low va
 hit:∃ ls,Wts c rss ls/\mn ls as=va
 bot:∀ ls,Wts c rss ls->leR va (mn ls as)
section
variable {P:TU}
theorem Z3q (D:Def K mg "times" jU UG)(e:Z4 P w K mg base):Has P w K mg base 3 "times" UG (spTwo K mulR'):=by
 refine D.h9 (N:=UG) fsc λH Q hr h nd=>?_;obtain⟨a,b,r,s,n,rfl,d,hB,c,gs,hn,k⟩:=h;refine⟨_,(Zb (Zh (Zf e hr (Z0 (Zl Zu (Zg Yq (pv 0) Za) (Zg Yq (pv 1) Za)) (Z0 (Zl Zu (Zg Ym (pv 0) Za) (Zg Ym (pv 1) Za)) Z8))))),?_⟩;exact⟨_,rfl,_,_,_,rfl,rfl,d,_,rfl,_,_,_,rfl,rfl,hB,_,_,rfl,rfl,c.b1.mulOk gs.b1 J0 J0,_,rfl,_,_,_,rfl,rfl,d,_,rfl,_,_,_,rfl,rfl,hB,_,_,rfl,rfl,c.b2.mulOk gs.b2 J0 J0,_,_,rfl,Wl c.pos gs.pos,W4 c.b2 gs.b2 hn,k⟩
inductive spMultiplied (K:TR) (vs:TZ) (H:Hp) (Q:VK) (_z3:XK):Prop
 | mk (a b:Addr) (rs:UA) (s:Rat) (n:Nat) (zz0:vs=[.ref a,.ref b]) (zz1:RowAt K H a rs) (zz2:SqT K H b [.int s.1,.int s.2]) (zz3:rs.length<=1000) (zz4:(∀ r∈rs,Good n r)) (zz5:Good n s) (zz6:n<=200000) (zz7:∀ c H' ys,Same H H'->H' c=some (.tup ys)->Rs K H' (rs.map λr=>mulR' r s) ys->Q (.ref c) H')
def Ux:FnScope ["row","by"] ["row","by"] (defScope iP):=fsc
theorem Mi (D:Def K mg "multiplied" iP ["row","by"])(T:Blt mg)(I:Has P w K mg base 3 "times" UG (spTwo K mulR')):Has P w K mg base 4 "multiplied" ["row","by"] (spMultiplied K):=by
 refine D.has λf fd F=>F.ok Ux (λvs H Q E h=>?_) (λcdv A outer s H vs Q E hr h=>?_)
 ·obtain⟨a,b,rs,s,n,rfl,_⟩:=h;rfl
 obtain⟨a,b,rs,s,n,rfl,⟨xs,p,j⟩,hB,u,L,gs,hn,k⟩:=h;have sc:=Ux;have nd:(["worth","by"]:List Str).Nodup:=ZZ
 refine⟨_,(Zb (Zh (Y7 Yc rfl T.tuple XV (Z0 (Yd (ox:=none) (N:=["worth","by"]) (k:=1) (fv:=[1]) rfl (Vs (pv 0))
  (λ_ _ _ _ _=>Zi (i:=0) nd rfl xj) (λ_ _ _ _ _=>Y8) (λ_ _ _ _ _=>Md I (hr.mono J1) rfl (Z0 (pv 0) (Z0 (pv 1) Z8))) Zv) Z8)))),?_⟩
 refine⟨_,rfl,a,rfl,⟨_,p⟩,λd hd=>?_⟩;have lx:=j.len;refine⟨rs.length,λi ys H2=>Same H H2/\Rs K H2 (mapR (λr=>mulR' r s) rs i) ys,Zz u,⟨Same.new hd,.nil⟩,?_,?_⟩
 ·rintro i ys H2 hi ⟨S2,R2⟩ g;refine⟨⟨xs,xs[i]'J0,Zx S2 p,ZJ⟩,?_⟩;rintro x M ⟨rfl,G⟩;obtain⟨r,z,C⟩:=j.back (G xs (Zx S2 p));obtain⟨a1,rfl,y⟩:=C.ext (Ext.same S2);refine Yh ?_;refine⟨_,rfl,_,rfl,a1,b,r,s,n,rfl,y,Zx S2 hB,L r (YD z),gs,hn,λc v O t J=>?_⟩;have m:v d=some (.lst ys):=t _ _ g;have B:Ext v (upd v d (.lst (ys++[.ref c]))):=Ext.upd m;refine⟨m,λq o e=>?_,?_⟩
  ·rw[Ze (Zd e hd)];exact t _ _ (S2 _ _ e)
  rw[C7 _ z];exact (R2.ext ((Ext.same t).trans B)).snoc ⟨c,rfl,B.sq (SqT.of J)⟩
 rintro ys H2 ⟨S2,R2⟩ g;refine⟨⟨xs,Zx S2 p,J0⟩,d,ys,rfl,.inl ⟨SqL.of g,λl hl'=>?_⟩⟩;rw[Z1o _ rfl] at R2;exact k l _ ys (S2.trans (Same.new hl')) Zc (R2.ext (Ext.new hl'))
end
noncomputable def gainsO (o:Offr):List (List Rat):=(wordsO o).map λb=>gainR o b
theorem Re (os:UD):∀ n,n<=os.length->gainsP os n=(os.take n).flatMap gainsO
 | 0,_=>rfl
 | n+1,h=>by
  have e:os[n]?=some (os.getD n offD):=by simp[List.getD,show n<os.length by omega]
  rw[Rh,Re os n J0,Yl e,jh];simp[gainsO]
def Uo (os:UD):gainsP os os.length=os.flatMap gainsO:=by rw[Re os _ (YJ _),YZ (YJ _)]
structure OffRep (c:Nat)(o:Offr):Prop where
 len:o.row.length=c
 rep:∃ (D A B:Int) (Zs:TV),RepL 90 D Zs o.row/\(∀ r,o.ask=some r->Low r/\r.1*D=A*r.2/\Bd 90 A)/\∀ r,o.bid=some r->Low r/\r.1*D=B*r.2/\Bd 90 B
theorem OffRep.good {c:Nat}{o:Offr}(h:OffRep c o):GoodO 90 o:=by
 obtain⟨D,A,B,Zs,h1,h2,h3⟩:=h.rep;exact⟨h1.good,λr e=>Wv h1.pos (h2 r e).1.pos (h2 r e).1.cop (h2 r e).2.1 h1.bD (h2 r e).2.2,λr e=>Wv h1.pos (h3 r e).1.pos (h3 r e).1.cop (h3 r e).2.1 h1.bD (h3 r e).2.2⟩
def OffRep.gain {c:Nat}{o:Offr}(h:OffRep c o){b:Bool}{r:Rat}(hr:priceO o b=some r):(gainR o b).length=c/\∃ D Zs,RepL 91 D Zs (gainR o b):=by
 refine⟨by rw[Cm];exact h.len,?_⟩;obtain⟨D,A,B,Zs,h1,h2,h3⟩:=h.rep;have key:∀ (f:Rat->Rat) (g:Int->Int),(∀ i W x,Zs[i]?=some W->o.row[i]?=some x->(f x).1*D=g W*(f x).2/\Bd 91 (g W)/\Low (f x))->RepL 91 D (Zs.map g) (o.row.map f):=λf g hf=>by
  refine⟨h1.pos,h1.bD.mono J1,by rw[YB,YB,h1.len],λi W x d hx=>?_⟩;rw[YI] at d hx
  cases e1:Zs[i]? with
  | none=>rw[e1] at d;cases d
  | some l =>
   cases e2:o.row[i]? with
   | none=>rw[e2] at hx;cases hx
   | some k =>
    rw[e1] at d;rw[e2] at hx
    cases d
    cases hx;exact hf i l k e1 e2
 unfold gainR
 cases b with
 | true =>
  have hr:o.ask=some r:=hr;obtain⟨a,j,e⟩:=h2 r hr;rw[hr];refine⟨D,_,RepL.cut (key _ (λW=>W - A) λi W x e1 e2=>?_) o.ev⟩;obtain⟨a1,a2,a3⟩:=h1.at_ i W x e1 e2;exact⟨Gm a3.pos a.pos a1 j,a2.sub e,Mn a3 a⟩
 | false =>
  have hr:o.bid=some r:=hr;obtain⟨a,j,e⟩:=h3 r hr;rw[hr];refine⟨D,_,RepL.cut (key _ (λW=>B - W) λi W x e1 e2=>?_) o.ev⟩;obtain⟨a1,a2,a3⟩:=h1.at_ i W x e1 e2;exact⟨Gm a.pos a3.pos j a1,e.sub a2,Mn a a3⟩
def PriceR (t:Int)(mid:Rat)(o:Option Rat):Prop:=∀ r,o=some r->∃ (sl:Rat) (s:Int),r=addR mid sl/\Low sl/\0<=s/\s<=18/\sl.1*6=(t*s)*sl.2
section
variable {mid:Rat}{k C:Int}
def N9 {t:Int}{o:Option Rat}{r:Rat}(hp:PriceR t mid o)(a:Low mid)(hm:mid.1*(6*k)=C*mid.2)(bk:Bd 21 k)(bC:Bd 46 C)(c:t=1 \/ t=-1)(hr:o=some r):∃ s,0<=s/\s<=18/\Low r/\r.1*(6*k)=(C+t*s*k)*r.2/\Bd 50 (C+t*s*k):=by
 obtain⟨sl,s,e,ls,b,s1,es⟩:=hp r hr;refine⟨s,b,s1,by rw[e];exact Mo a ls,?_,?_⟩
 ·rw[e];exact Gn a.pos ls.pos hm (Tu k es)
 have b1:Bd 6 (t*s):=Pq 6 (show (t*s).natAbs<64 by rcases c with rfl | rfl <;> omega) J1;exact ((bC.mono (show 46<=49 by decide)).add ((b1.mul bk).mono J1)).mono J1
end
def Fr (r s:Rat):subR r s=addR r (negR s):=by
 show nrm (r.1*s.2 - s.1*r.2) (r.2*s.2)=nrm (r.1*s.2 + -s.1*r.2) (r.2*s.2);rw[Y1x,Int.sub_eq_add_neg]
def Th {z:Int}:(nrm z 2).1*6=z*3*(nrm z 2).2:=by
 have:=M0 (p:=z) (show (2:Int)≠0 by decide);have e:=Tu 3 this;exact e
def Z0l {z:Int}{mid:Rat}(h0:0<=z)(h1:z<=6):PriceR 1 mid (some (addR mid (nrm z 2))):=λr e=>by
 cases e;refine⟨nrm z 2,z*3,rfl,Yi J1,J0,J0,?_⟩;rw[Y0i];exact Th
def J9 {z:Int}{mid:Rat}(h0:0<=z)(h1:z<=6):PriceR (-1) mid (some (subR mid (nrm z 2))):=λr e=>by
 cases e;refine⟨negR (nrm z 2),z*3,Fr _ _,negR.low (Yi J1),J0,J0,?_⟩;show -(nrm z 2).1*6=-1*(z*3)*(nrm z 2).2;rw[Y1x,Th];grind
def PriceR.non {t:Int}{mid:Rat}:PriceR t mid none:=λr e=>nomatch e
structure MidR (c:Nat)(Ws:TV)(rs:UA)(o:TW)(mid:Rat)(k C:Int):Prop where
 len:rs.length=c
 six:∀ r∈rs,Six r
 g:Good 100 mid
 pos:0<k
 eq:mid.1*(6*k)=C*mid.2
 bk:Bd 21 k
 bC:Bd 46 C
 at_:0<(List.zipWith (·*·) Ws (cutZ o (List.replicate c 1))).sum->k=(List.zipWith (·*·) Ws (cutZ o (List.replicate c 1))).sum/\C=(List.zipWith (·*·) Ws (cutZ o (wholeB rs 6))).sum
section
variable {P:TU}
inductive spMid (K:TR) (vs:TZ) (H:Hp) (Q:VK) (_z3:XK):Prop
 | mk (a g:Addr) (ve:V) (c:Nat) (Ws:TV) (ws rs:UA) (o:TW) (zz0:vs=[.ref a,.ref g,ve]) (zz1:RowAt K H a ws) (zz2:WtsR c Ws ws) (zz3:RowAt K H g rs) (zz4:rs.length=c) (zz5:(∀ r∈rs,Six r)) (zz6:EvAt K H c o ve) (zz7:1<=c) (zz8:c<=100) (zz9:∀ (am:Addr) (H':Hp) (mid:Rat) (k C:Int),Same H H'->SqT K H' am [.int mid.1,.int mid.2]->MidR c Ws rs o mid k C->Q (.ref am) H')
theorem Z7v (D:Def K mg "_law_mid" kQ VE)(T:Blt mg)(eK:Z5 P w K mg base)(eU:Has P w K mg base 2 "_law_cut" UW (spLCut K))(eS:Has P w K mg base 3 "_law_parted" UI (spParted K)) :
  Has P w K mg base 5 "_law_mid" VE (spMid K):=by
 refine D.h9 (N:=["_law_weights_here","_law_row_here","_law_event_here","_law_share"]) fsc λH Q hr h nd=>?_;obtain⟨a,g,ve,c,Ws,ws,rs,o,rfl,⟨xs,V,S⟩,f,⟨us,I,U⟩,l1,six,E0,c2,hc,k⟩:=h;have b5:(["_law_one"]:TF).Nodup:=ZZ
 refine⟨_,(Z9 (Zj (i:=3) nd rfl (Or.inl rfl) (Zf eK hr (Z0 (pv 0) (Z0 (Zf eU hr (Z0 (Yd (ox:=none) (N:=["_law_one"]) (k:=1) (fv:=[]) rfl (Vs (pv 1))
  (λ_ _ _ _ _=>Zi (i:=0) b5 rfl xj) (λ_ _ _ _ _=>Y8) (λ_ _ _ _ _=>(Yx (Z0 Za (Z0 Za Z8)))) Zv) (Z0 (pv 2) Z8))) Z8))))
  (Z9 (Y9 (Zo Xp (Zg Yq (pv 3) Za) Za (Zp _))
   (Zb (Zh (Yx (Z0 Za (Z0 Za Z8)))))
   Zw)
  (Zb (Zh (Zf eS hr (Z0 (Zf eK hr (Z0 (pv 0) (Z0 (Zf eU hr (Z0 (pv 1) (Z0 (pv 2) Z8))) Z8))) (Z0 (pv 3) Z8))))))),?_⟩
 have c8:=U.len;refine⟨_,rfl,_,rfl,g,rfl,⟨_,I⟩,λd hd=>?_⟩;refine⟨c,λj ys H'=>Same H H'/\Rs K H' (List.replicate j (1,1)) ys,Zz J0,⟨Same.new hd,.nil⟩,?_,?_⟩
 ·rintro j ys a3 hj ⟨l,L⟩ B;refine⟨⟨us,us[j]'J0,Zx l I,ZJ⟩,?_⟩;rintro x' H3 ⟨rfl,fx⟩;refine Yh ?_;refine⟨sz2,λp hp=>?_⟩;have E:Same H3 (upd H3 p (.tup [.int 1,.int 1])):=Same.new hp;have u:=E _ _ B;refine⟨u,λq o' e=>?_,?_⟩
  ·rw[Ze (Zd e hd)];exact E _ _ (l _ _ e)
  rw[List.replicate_succ'];exact (L.ext ((Ext.same E).trans (Ext.upd u))).snoc ⟨p,rfl,(Ext.upd u).sq (SqT.of Zc)⟩
 rintro ys a3 ⟨l,L⟩ B;refine⟨⟨us,Zx l I,J0⟩,_,rfl,d,ve,ys,List.replicate c (1,1),o,rfl,.inl (SqL.of B),L,by rw[zw];exact E0.same l,by rw[zw];omega,λa4 c3 E a1=>?_⟩;obtain⟨Z,b6,a8⟩:=a1;have A:=l.trans E;have ro:=(RepL.ones c).cut o;have lo:(cutR o (List.replicate c (1,1))).length=c:=by rw[X1,zw]
 refine⟨a,a4,xs,Z,ws,_,10,1,_,_,_,_,rfl,.inr (Zx A V),S.ext (Ext.same A),.inr b6,a8,by rw[lo];exact f.len,by rw[lo];omega,f.rep,ro,J1,λX c4 a6 G=>?_⟩;have b:=A.trans a6;have R:Ws.length=c:=by rw[f.rep.len];exact f.len
 obtain⟨r,t⟩:=(f.rep.mul ro (by rw[lo];exact f.len)).sum;have C:=(f.rep.mul ro (by rw[lo];exact f.len)).sumGood (k:=10) (by rw[JW,lo];omega);replace r:(sumR (List.zipWith mulR' ws (cutR o (List.replicate c (1,1))))).1*(Ws.sum*1)=(List.zipWith (·*·) Ws (cutZ o (List.replicate c 1))).sum*(sumR (List.zipWith mulR' ws (cutR o (List.replicate c (1,1))))).2:=r;replace t:Low (sumR (List.zipWith mulR' ws (cutR o (List.replicate c (1,1))))):=t;replace C:Good (10+1+10) (sumR (List.zipWith mulR' ws (cutR o (List.replicate c (1,1))))):=C;generalize sumR (List.zipWith mulR' ws (cutR o (List.replicate c (1,1))))=s at *
 have bS:Bd 21 (List.zipWith (·*·) Ws (cutZ o (List.replicate c 1))).sum:=Z2b (m:=10) (n:=1) (k:=10) (λW hW=>f.rep.bdW W hW) (λz hz=>ro.bdW z hz) (by rw[R];omega);have r6:=RepL.six six;have bM:Bd 44 (List.zipWith (·*·) Ws (cutZ o (wholeB rs 6))).sum:=Z2b (m:=10) (n:=24) (k:=10) (λW hW=>f.rep.bdW W hW) (λz hz=>(r6.cut o).bdW z hz) (by rw[R];omega);have c0:0<=(List.zipWith (·*·) Ws (cutZ o (List.replicate c 1))).sum:=(Bj R f.nn).1;have wp:=f.pos;refine⟨_,rfl,X,_,_,rfl,rfl,G,rfl,_,rfl,?_⟩;refine Xu (λh=>?_) (λh=>?_)
 ·have h0:s.1=0:=by
   have:=XO h;injection this
  have S0:¬ 0<(List.zipWith (·*·) Ws (cutZ o (List.replicate c 1))).sum:=λz=>by
   have h1:=XU z t.pos;rw[h0,jf] at r;omega
  refine⟨sz2,λp hp=>?_⟩;exact k p _ (0,1) 1 0 (b.trans (Same.new hp)) (SqT.of Zc) ⟨l1,six,⟨bd0 _,Pq 1 J1 J1,J1,J1⟩,J1,J1,Pq 1 J1 J1,bd0 _,λz=>absurd z S0⟩
 have h0:s.1≠0:=λz=>h (XA (by rw[z]));have y:0<s.1:=by
  have:0<=s.1:=((Dy (show 0<Ws.sum*1 by omega) t.pos r).1).mpr c0;omega
 have a0:0<(List.zipWith (·*·) Ws (cutZ o (List.replicate c 1))).sum:=by
  apply YE;intro z;have:(List.zipWith (·*·) Ws (cutZ o (List.replicate c 1))).sum=0:=J0
  rw[this,jf] at r;have:=XU y (show 0<Ws.sum*1 by omega);omega
 refine⟨_,rfl,_,rfl,_,rfl,g,ve,us,rs,o,rfl,.inr (Zx b I),U.ext (Ext.same b),by rw[l1];exact E0.same b,J0,λa7 c7 M b0=>?_⟩;obtain⟨Y,b3,b7⟩:=b0;have rc:=r6.cut o;have lc:(cutR o rs).length=c:=by rw[X1];exact l1
 refine⟨a,a7,xs,Y,ws,_,10,24,_,_,_,_,rfl,.inr (Zx (b.trans M) V),S.ext (Ext.same (b.trans M)),.inr b3,b7,by rw[lc];exact f.len,by rw[lc];omega,f.rep,rc,J1,λa2 c5 c1 b9=>?_⟩;obtain⟨O,F⟩:=(f.rep.mul rc (by rw[lc];exact f.len)).sum;have v:=(f.rep.mul rc (by rw[lc];exact f.len)).sumGood (k:=10) (by rw[JW,lc];omega);replace O:(sumR (List.zipWith mulR' ws (cutR o rs))).1*(Ws.sum*6)=(List.zipWith (·*·) Ws (cutZ o (wholeB rs 6))).sum*(sumR (List.zipWith mulR' ws (cutR o rs))).2:=O;replace F:Low (sumR (List.zipWith mulR' ws (cutR o rs))):=F;replace v:Good (10+24+10) (sumR (List.zipWith mulR' ws (cutR o rs))):=v;generalize sumR (List.zipWith mulR' ws (cutR o rs))=J at *
 have x:=M.trans c1;replace G:=Zx x G;refine⟨_,rfl,a2,X,J,s,44,rfl,b9,G,v,C.mono J1,y,J1,λaq a9 c6 b4 b8=>?_⟩;have qE:=Z0d (q:=nrm (J.1*s.2) (J.2*s.1)) F.pos t.pos O r (Xt (J.1*s.2) (J.2*s.1));have a5:J.2*s.1≠0:=Wl F.pos y;have qG:Good 65 (nrm (J.1*s.2) (J.2*s.1)):=Vw (v.b1.mul C.b2) (v.b2.mul C.b1) a5;exact k aq a9 _ _ _ ((b.trans x).trans b4) (SqT.of b8) ⟨l1,six,qG.mono J1,a0,qE,bS,bM.mono J1,λ_=>⟨rfl,rfl⟩⟩
def Kb {z:Int}{mid:Rat}(h0:-6<=z)(h1:z<=6):∃ t:Int,(t=1 \/ t=-1)/\PriceR t mid (some (addR mid (nrm z 2)))/\PriceR (-t) mid (some (subR mid (nrm z 2))):=by
 by_cases h:0<=z
 ·exact⟨1,.inl rfl,Z0l h h1,J9 h h1⟩
 refine⟨-1,.inr rfl,λr e=>?_,λr e=>?_⟩
 ·cases e;refine⟨nrm z 2,-z*3,rfl,Yi J1,J0,J0,?_⟩;rw[Th];grind
 cases e;refine⟨negR (nrm z 2),-z*3,Fr _ _,negR.low (Yi J1),J0,J0,?_⟩;show -(nrm z 2).1*6=- -1*(-z*3)*(nrm z 2).2;rw[Y1x,Th];grind
theorem Jh {c:Nat}{rs:UA}{ask bid:Option Rat}{ev:TW}{mid:Rat}{k C t u:Int}(six:∀ r∈rs,Six r)(f:rs.length=c)(d:Low mid)(hk:0<k)(hm:mid.1*(6*k)=C*mid.2)(bk:Bd 21 k)(bC:Bd 46 C)(h:t=1 \/ t=-1)(hu:u=1 \/ u=-1)(ha:PriceR t mid ask)(g:PriceR u mid bid):OffRep c ⟨rs,ask,bid,ev⟩:=by
 refine⟨f,?_⟩;have i:=(RepL.six six).scale hk bk;have A:∃ A:Int,∀ r,ask=some r->Low r/\r.1*(6*k)=A*r.2/\Bd 90 A:=by
  cases ask with
  | none=>exact⟨0,λr e=>nomatch e⟩
  | some x =>
   obtain⟨s,_,_,l,e,b⟩:=N9 ha d hm bk bC h rfl;exact⟨_,λr a=>by cases a;exact⟨l,e,b.mono J1⟩⟩
 have B:∃ A:Int,∀ r,bid=some r->Low r/\r.1*(6*k)=A*r.2/\Bd 90 A:=by
  cases bid with
  | none=>exact⟨0,λr e=>nomatch e⟩
  | some x =>
   obtain⟨s,_,_,l,e,b⟩:=N9 g d hm bk bC hu rfl;exact⟨_,λr a=>by cases a;exact⟨l,e,b.mono J1⟩⟩
 obtain⟨A,j⟩:=A;obtain⟨B,hB⟩:=B;exact⟨6*k,A,B,_,i.mono J1,j,hB⟩
inductive spOfferL (K:TR) (vs:TZ) (H:Hp) (Q:VK) (_z3:XK):Prop
 | mk (b a:Addr) (c n:Nat) (lo:Int) (Ws:TV) (ws:UA) (zz0:vs=[.ref b,.ref a,.int lo]) (zz1:0<=lo) (zz2:lo<=2) (zz3:BagAt H b n) (zz4:n<=50000) (zz5:RowAt K H a ws) (zz6:WtsR c Ws ws) (zz7:1<=c) (zz8:c<=100) (zz9:∀ (v:V) (H':Hp) (o:Offr),SameX b H H'->OffAt K H' c o v->OffRep c o->Q v H')
theorem Z17 (D:Def K mg "_law_offer" jZ VF)(T:Blt mg)(eC:Z2 P w K mg base)(gC:Has P w K mg base 2 "_law_event" UN (spEvent K))(gT:Has P w K mg base 4 "_law_row" UN (spRow6 K))(gU:Has P w K mg base 5 "_law_mid" VE (spMid K))
  (eB:Z1 P w K mg base) (eP:Z7 P w K mg base) (eH:Z6 P w K mg base) :
  Has P w K mg base 6 "_law_offer" VF (spOfferL K):=by
 refine D.h9 (N:=["_law_bag_here","_law_weights_here","_law_loose","_law_event_here","_law_row_here","_law_mid_here","_law_ask","_law_bid","_law_way"]) fsc λH Q hr h nd=>?_;obtain⟨b,a,c,n,lo,Ws,ws,rfl,b2,b5,hB,hn,⟨xs,G,v⟩,S,Y,hc,k⟩:=h;refine⟨_,(Z9 (Zj (i:=3) nd rfl (Or.inl rfl) (Zf gC hr (Z0 (pv 0) (Z0 (Zt Zq rfl T.len GL (Z0 (pv 1) Z8)) Z8))))
  (Z9 (Zj (i:=4) nd rfl (Or.inl rfl) (Zf gT hr (Z0 (pv 0) (Z0 (Zt Zq rfl T.len GL (Z0 (pv 1) Z8)) Z8))))
  (Z9 (Zj (i:=5) nd rfl (Or.inl rfl) (Zf gU hr (Z0 (pv 1) (Z0 (pv 4) (Z0 (pv 3) Z8)))))
  (Z9 (Zj (i:=6) nd rfl (Or.inl rfl) (Zf eP hr (Z0 (pv 5) (Z0 (Zf eB hr (Z0 (Zl Wz (Zf eC hr (Z0 (pv 0) (Z0 Za Z8))) (pv 2)) (Z0 Za Z8))) Z8))))
  (Z9 (Zj (i:=7) nd rfl (Or.inl rfl) (Zf eH hr (Z0 (pv 5) (Z0 (Zf eB hr (Z0 (Zl Wz (Zf eC hr (Z0 (pv 0) (Z0 Za Z8))) (pv 2)) (Z0 Za Z8))) Z8))))
  (Z9 (Zj (i:=8) nd rfl (Or.inl rfl) (Zf eC hr (Z0 (pv 0) (Z0 Za Z8))))
  (Z9 (Vj (Y9 (Zo Xp (pv 8) Za (Zp _))
   (Zb (Zj (i:=6) nd rfl (Or.inl rfl) Xo))
   Zw))
  (Z9 (Vj (Y9 (Zo Xp (pv 8) Za (Zp _))
   (Zb (Zj (i:=7) nd rfl (Or.inl rfl) Xo))
   Zw))
  (Zb (Zh (Yx (Z0 (pv 4) (Z0 (pv 6) (Z0 (pv 7) (Z0 (pv 3) Z8))))))))))))))),?_⟩
 have lx:=v.len;obtain rfl:c=xs.length:=by have:=S.len;omega
 generalize hcc:xs.length=c at *
 refine⟨_,rfl,_,rfl,a,xs,rfl,.inr G,?_⟩;rw[hcc];refine⟨b,c,n,rfl,hB,J0,J0,λve H1 o X S1 E1=>?_⟩;have j:SqT K H1 a xs:=(Ext.bag S1 hB).sq G;have q:=v.ext (Ext.bag S1 hB);refine⟨_,rfl,_,rfl,a,xs,rfl,.inr j,?_⟩;rw[hcc];refine⟨b,c,_,rfl,X,J0,J0,λa1 H2 rs B2 S2 R2 l1 six=>?_⟩;have e:=Ext.bag S2 X;refine⟨_,rfl,_,rfl,_,rfl,a,a1,ve,c,Ws,ws,rs,o,rfl,⟨xs,e.sq j,q.ext e⟩,S,R2,l1,six,E1.ext e,Y,hc,λam H3 mid kk C B I s=>?_⟩;have B3:=B2.same B;have E3:=(E1.ext e).same B;have R3:=R2.same B;have a8:SameX b H H3:=(S1.trans S2).trans (SameX.of B);clear S1 S2 B X B2 j q e E1 R2;refine⟨_,rfl,_,rfl,b,_,_,rfl,B3,J0,J1,ZZ,λz H4 z0 z1 B4 S4=>⟨_,rfl,_,_,rfl,rfl,?_⟩⟩;refine⟨_,_,rfl,J1,J1,λr H5 f5 R e5=>?_⟩;have g5:Good 100 (nrm (z - lo) 2):=(Rv J0 J0 (.inr (.inl rfl))).g.mono J1;have A:=(Ext.bag S4 B3).trans (Ext.same R);refine⟨am,r,mid,nrm (z - lo) 2,100,rfl,A.sq I,SqT.of e5,s.g,g5,J1,λaA H6 f6 S6 e6=>?_⟩;have M:SameX b H3 H6:=(S4.trans (SameX.of R)).trans (SameX.of S6);have B6:=(B4.same R).same S6;have x:=Ext.bag M B3;clear S4 R S6 e5 A f5 f6 B4;refine⟨_,rfl,_,rfl,b,_,_,rfl,B6,J0,J1,ZZ,λy H7 y0 y1 B7 Z=>⟨_,rfl,_,_,rfl,rfl,?_⟩⟩;refine⟨_,_,rfl,J1,J1,λr H8 f8 U e8=>?_⟩;have g8:Good 100 (nrm (y - lo) 2):=(Rv J0 J0 (.inr (.inl rfl))).g.mono J1;have L:=(Ext.bag Z B6).trans (Ext.same U);refine⟨am,r,mid,nrm (y - lo) 2,100,rfl,L.sq (x.sq I),SqT.of e8,s.g,g8,J1,λaB H9 f9 S9 e9=>?_⟩;have J:SameX b H6 H9:=(Z.trans (SameX.of U)).trans (SameX.of S9);have B9:=(B7.same U).same S9;have E:=Ext.bag J B6;have a3:=E.sq (SqT.of (K:=K) e6);have a6:=SqT.of (K:=K) e9;have W:=x.trans E;have a9:=(a8.trans M).trans J;clear Z U S9 e8 L f8 f9 B7 e6 e9;refine⟨_,rfl,b,_,_,rfl,B9,J0,J1,ZZ,λwy d w0 w1 b1 u=>?_⟩;have f:=Ext.bag u B9;obtain⟨ta,a2,pu,_⟩:=Kb (z:=z - lo) (mid:=mid) J0 J0;obtain⟨a5,b0,_,pd⟩:=Kb (z:=y - lo) (mid:=mid) J0 J0;obtain⟨tb,a0⟩:∃ tb,tb=-a5:=⟨_,rfl⟩;have a7:tb=1 \/ tb=-1:=J0
 rw[<-a0] at pd;have a4:∀ (l ob:Option Rat) (va vb:V),MayAt K d l va->MayAt K d ob vb->PriceR ta mid l->PriceR tb mid ob->∀ p,d p=none->Q (.ref p) (upd d p (.tup [.ref a1,va,vb,ve])):=λl ob va vb Ma Mb pa pb p hp=>by
  have O:Same d (upd d p (.tup [.ref a1,va,vb,ve])):=Same.new hp;have t:=Ext.same O;have m:=(W.trans f).trans t;have b4:Ws.length=c:=by rw[S.rep.len];exact S.len
  exact k _ _ ⟨rs,l,ob,o⟩ ((a9.trans u).trans (SameX.of O)) ⟨p,a1,va,vb,ve,rfl,SqT.of Zc,R3.ext m,l1,Ma.ext t,Mb.ext t,E3.ext m⟩ (Jh six l1 s.g.low s.pos s.eq s.bk s.bC a2 a7 pa pb)
 refine⟨λσ H'=>H'=d/\∃ (l:Option Rat) (va:V),σ=[some (.ref b),some (.ref a),some (.int lo),some ve,some (.ref a1),some (.ref am),some va,some (.ref aB),some (.int wy)]/\MayAt K d l va/\PriceR ta mid l,?_,?_⟩
 ·refine⟨_,rfl,rfl,_,rfl,?_⟩;refine Xu (λh=>?_) (λh=>?_)
  ·exact⟨rfl,none,.non,rfl,rfl,PriceR.non⟩
  exact⟨rfl,some _,.ref aA,rfl,⟨aA,rfl,f.sq a3⟩,pu⟩
 rintro σ F ⟨rfl,l,va,rfl,Ma,pa⟩;refine⟨λσ H'=>H'=F/\∃ (ob:Option Rat) (vb:V),σ=[some (.ref b),some (.ref a),some (.int lo),some ve,some (.ref a1),some (.ref am),some va,some vb,some (.int wy)]/\MayAt K F ob vb/\PriceR tb mid ob,?_,?_⟩
 ·refine⟨_,rfl,rfl,_,rfl,?_⟩;refine Xu (λh=>?_) (λh=>?_)
  ·exact⟨rfl,none,.non,rfl,rfl,PriceR.non⟩
  exact⟨rfl,some _,.ref aB,rfl,⟨aB,rfl,f.sq a6⟩,pd⟩
 rintro σ b3 ⟨rfl,ob,vb,rfl,Mb,pb⟩;exact⟨_,rfl,_,rfl,_,rfl,_,rfl,sz4,λp hp=>a4 l ob va vb Ma Mb pa pb p hp⟩
theorem Dv (D:Def K mg "_law_gains" jO ["_law_offers"])(eH:Z6 P w K mg base)(eU:Has P w K mg base 2 "_law_cut" UW (spLCut K)):Has P w K mg base 4 "_law_gains" ["_law_offers"] (spGainsP K):=by
 refine D.h9 (N:=["_law_offers","_law_rows","_law_row_here","_law_ask","_law_bid","_law_event_here"]) fsc λH Q hr h nd=>?_;obtain⟨l,c,n,os,rfl,⟨vs,hl,hO⟩,a4,hc,hn,g,k⟩:=h;have a2:(["_law_worth","_law_ask"]:List Str).Nodup:=ZZ
 have a3:(["_law_worth","_law_bid"]:List Str).Nodup:=ZZ
 refine⟨_,(Z9 (Zj (i:=1) nd rfl (Or.inl rfl) (Xe Z8))
  (Z9 (Yw XS rfl (Yn (pv 0)) (W0 (n:=4) rfl (Y1 (Zi (i:=2) nd rfl (Or.inl rfl)) (Y1 (Zi (i:=3) nd rfl (Or.inr rfl)) (Y1 (Zi (i:=4) nd rfl (Or.inr rfl)) (Y1 (Zi (i:=5) nd rfl (Or.inl rfl)) Xg)))))
   (Z9 (Vj (Y9 (Zo Q1 (pv 3) Xo (Zp _))
    (Zb (Yz (W6 XJ JA JB Ys (pv 1) (Z0 (Zf eU hr (Z0 (Yd (ox:=none) (N:=["_law_worth","_law_ask"]) (k:=1) (fv:=[3]) rfl (Vs (pv 2))
  (λ_ _ _ _ _=>Zi (i:=0) a2 rfl xj) (λ_ _ _ _ _=>Y8) (λ_ _ _ _ _=>(Zf eH hr (Z0 (pv 0) (Z0 (pv 1) Z8)))) Zv) (Z0 (pv 5) Z8))) Z8))))
    Zw))
   (Zb (Y9 (Zo Q1 (pv 4) Xo (Zp _))
    (Zb (Yz (W6 XJ JA JB Ys (pv 1) (Z0 (Zf eU hr (Z0 (Yd (ox:=none) (N:=["_law_worth","_law_bid"]) (k:=1) (fv:=[4]) rfl (Vs (pv 2))
  (λ_ _ _ _ _=>Zi (i:=0) a3 rfl xj) (λ_ _ _ _ _=>Y8) (λ_ _ _ _ _=>(Zf eH hr (Z0 (pv 1) (Z0 (pv 0) Z8)))) Zv) (Z0 (pv 5) Z8))) Z8))))
    Zw))))
  (Zb (Zh (pv 1))))),?_⟩
 have lo:=XB hO;refine⟨sz0,λd hd=>?_⟩;have S0:Same H (upd H d (.lst [])):=Same.new hd;have up:∀ (zs:TZ) (H1:Hp),Same H H1->Same H (upd H1 d (.lst zs)):=λzs H1 S1 q o e=>by
  rw[Ze (Zd e hd)];exact S1 _ _ e
 have L:∀ i,i<=os.length->(gainsP os i).length<=2*i:=λi _=>by rw[<-U2,YB];exact Vh os i
 refine⟨_,rfl,l,rfl,⟨_,SqL.of (S0 _ _ hl)⟩,Wp (K:=K) (a:=l) (xs:=vs) (λi σ H'=>Same H H'/\∃ (as:TJ) (x1 C x3 x4:Option V),σ=[some (.ref l),some (.ref d),x1,C,x3,x4]/\H' d=some (.lst (as.map V.ref))/\Paired (RowAt K H') as (gainsP os i)) ⟨S0,[],none,none,none,none,rfl,Zc,.nil⟩ (λi σ H' _ h=>SqL.of (h.1 _ _ hl)) ?_ ?_⟩
 ·rintro i v σ H1 hi ⟨S1,as,x1,C,x3,x4,rfl,t,P1⟩;have a7:i<vs.length:=(YG.mp hi).1;have a0:i<os.length:=J0
  have eo:os[i]?=some (os.getD i offD):=by simp[List.getD,a0]
  have hv:=(Paired.getB hO hi eo).same S1;have go:=g _ (YD eo);have gl:=L i J0;have ga:=Rh os i;generalize os.getD i offD=o at *
  obtain⟨p,ar,va,vb,ve,rfl,hp,hR,O,X,hB,W⟩:=hv;have a8:=XB P1;refine⟨p,_,rfl,hp,rfl,_,_,rfl,_,_,rfl,_,_,rfl,_,_,rfl,rfl,?_⟩;obtain⟨xs,b,u⟩:=hR;have lx:=u.len;refine⟨λσ H'=>SameX d H1 H'/\Same H H'/\∃ as':List Addr,σ=[some (.ref l),some (.ref d),some (.ref ar),some va,some vb,some ve]/\H' d=some (.lst (as'.map V.ref))/\Paired (RowAt K H') as' (gainsP os i++(if o.ask.isSome then [gainR o true] else [])),?_,?_⟩
  ·refine⟨_,rfl,rfl,_,rfl,?_⟩
   cases e:o.ask with
   | none =>
    rw[e] at X;have z:va=V.non:=X;subst z;exact Xc ⟨SameX.refl _ _,S1,as,rfl,t,by simpa using P1⟩
   | some r =>
    rw[e] at X;obtain⟨ab,rfl,F⟩:=X;refine K8 (λz=>nomatch z) ?_;refine⟨_,rfl,.inl ⟨rfl,_,SqL.of t⟩,_,rfl,ar,rfl,⟨_,b⟩,λdd y=>?_⟩;refine⟨o.row.length,λj ys H2=>Same H1 H2/\Rs K H2 ((o.row.map λx=>subR x r).take j) ys,Zz J0,⟨Same.new y,.nil⟩,?_,?_⟩
    ·rintro j ys H2 hj ⟨S2,R2⟩ s;refine⟨⟨xs,xs[j]'J0,Zx S2 b,ZJ⟩,?_⟩;rintro x R ⟨rfl,Y⟩;obtain⟨x0,M,ix⟩:=u.back (Y xs (Zx S2 b));obtain⟨a1,rfl,J⟩:=ix.ext (Ext.same S2);refine Yh ?_;refine⟨_,rfl,_,rfl,a1,ab,x0,r,n,rfl,J,Zx S2 F,go.row x0 (YD M),go.ask r e,hn,λc4 H4 f4 I Z=>?_⟩;have f:=I _ _ s;refine⟨f,λq o' e=>?_,?_⟩
     ·rw[Ze (Zd e y)];exact I _ _ (S2 _ _ e)
     rw[V5 _ M];exact (R2.ext ((Ext.same I).trans (Ext.upd f))).snoc ⟨c4,rfl,(Ext.upd f).sq (SqT.of Z)⟩
    rintro ys H2 ⟨S2,R2⟩ s;rw[YZ (by rw[YB];omega)] at R2;refine⟨⟨xs,Zx S2 b,J0⟩,_,rfl,dd,ve,ys,_,o.ev,rfl,.inl (SqL.of s),R2,by rw[YB,O];exact W.same S2,by rw[YB];omega,λS H' S' R'=>?_⟩;have B:=S2.trans S';have m:=B _ _ t;refine⟨d,_,_,rfl,rfl,m,Tt (by rw[YB];omega),(SameX.of B).trans (SameX.upd d H' _),up _ _ (S1.trans B),as++[S],rfl,by rw[Zc,XH];rfl,?_⟩;have hg:cutR o.ev (o.row.map λx=>subR x r)=gainR o true:=by unfold gainR;rw[e];rfl
    rw[hg] at R';simp only [Y1L,Y0y];exact Y0S (Y0 P1 ((Ext.same B).trans (Ext.upd m))) (R'.ext (Ext.upd m))
  rintro σ H2 ⟨SX,S2,as',rfl,s,P2⟩;have C:Ext H1 H2:=Ext.x SX t;replace b:=C.sq b;replace u:=u.ext C;replace W:=W.ext C;replace hB:=hB.ext C;have a6:=XB P2;have a5:(gainsP os i++(if o.ask.isSome then [gainR o true] else [])).length<=2*i+1:=by
   rw[YY];have:(if o.ask.isSome then [gainR o true] else []).length<=1:=by split <;> simp
   omega
  refine⟨_,rfl,rfl,_,rfl,?_⟩
  cases e:o.bid with
  | none =>
   rw[e] at hB;have z:vb=V.non:=hB;subst z;refine Xc ⟨S2,as',_,_,_,_,rfl,s,?_⟩;rw[ga];unfold wordsO;rw[e]
   cases ea:o.ask with
   | none=>rw[ea] at P2;simpa using P2
   | some r=>rw[ea] at P2;simpa using P2
  | some r =>
   rw[e] at hB;obtain⟨ab,rfl,F⟩:=hB;refine K8 (λz=>nomatch z) ?_;refine⟨_,rfl,.inl ⟨rfl,_,SqL.of s⟩,_,rfl,ar,rfl,⟨_,b⟩,λdd y=>?_⟩;refine⟨o.row.length,λj ys R=>Same H2 R/\Rs K R ((o.row.map λx=>subR r x).take j) ys,Zz J0,⟨Same.new y,.nil⟩,?_,?_⟩
   ·rintro j ys R hj ⟨A,T⟩ E;refine⟨⟨xs,xs[j]'J0,Zx A b,ZJ⟩,?_⟩;rintro x H4 ⟨rfl,Y⟩;obtain⟨x0,M,ix⟩:=u.back (Y xs (Zx A b));obtain⟨a1,rfl,J⟩:=ix.ext (Ext.same A);refine Yh ?_;refine⟨_,rfl,_,rfl,ab,a1,r,x0,n,rfl,Zx A F,J,go.bid r e,go.row x0 (YD M),hn,λc4 H5 f4 I Z=>?_⟩;have f:=I _ _ E;refine⟨f,λq o' e=>?_,?_⟩
    ·rw[Ze (Zd e y)];exact I _ _ (A _ _ e)
    rw[V5 _ M];exact (T.ext ((Ext.same I).trans (Ext.upd f))).snoc ⟨c4,rfl,(Ext.upd f).sq (SqT.of Z)⟩
   rintro ys R ⟨A,T⟩ E;rw[YZ (by rw[YB];omega)] at T;refine⟨⟨xs,Zx A b,J0⟩,_,rfl,dd,ve,ys,_,o.ev,rfl,.inl (SqL.of E),T,by rw[YB,O];exact W.same A,by rw[YB];omega,λS H' S' R'=>?_⟩;have G:=A.trans S';have m:=G _ _ s;refine⟨d,_,_,rfl,rfl,m,Tt (by rw[YB];omega),up _ _ (S2.trans G),as'++[S],_,_,_,_,rfl,by rw[Zc,XH];rfl,?_⟩;have hg:cutR o.ev (o.row.map λx=>subR r x)=gainR o false:=by unfold gainR;rw[e];rfl
   rw[hg] at R';have U:=Y0S (Y0 P2 ((Ext.same G).trans (Ext.upd (o:=.lst (as'.map V.ref++[.ref S])) m))) (R'.ext (Ext.upd m));rw[ga];unfold wordsO;rw[e]
   cases ea:o.ask with
   | none=>rw[ea] at U;simpa using U
   | some r=>rw[ea] at U;simpa using U
 rintro σ H1 ⟨S1,as,x1,C,x3,x4,rfl,t,P1⟩;rw[lo] at P1;exact⟨_,rfl,k d H1 hd S1 ⟨as,t,P1⟩⟩
end
noncomputable def shR (c:Nat)(ev:TW)(ws:UA):Rat:=mn ws (cutR ev (List.replicate c (1,1)))
def RowR.low8 {c:Nat}{as:UA}(a:RowR c as){x:Rat}(h:x∈as):Low x:=by
 obtain⟨_,n,D,Z,r⟩:=a;exact (r.good x h).low
theorem RowR.cut {c:Nat}{as:UA}(a:RowR c as)(ev:TW):RowR c (cutR ev as):=by
 obtain⟨l,n,D,Z,r⟩:=a;exact⟨by rw[X1];exact l,n,_,_,r.cut ev⟩
noncomputable def gP (o:TW)(as:UA)(p:Rat):List Rat:=cutR o (as.map λx=>subR x p)
structure ConV (c:Nat)(rss:UB)(o:TW)(as:UA)(v:Rat):Prop where
 low:Low v
 hit:∃ W,Wts c rss W/\(mn W (gP o as v)).1=0/\0<(shR c o W).1
 top:∀ W,Wts c rss W->(mn W (gP o as v)).1<=0
def Fv (c:Nat){n:Nat}(hn:1<=n):RepL n 1 (List.replicate c 0) (List.replicate c (0,1)):=by
 refine⟨J1,YX (show (1:Int).natAbs<2 ^ 1 by decide) (GK J1 hn),ZJ,λi W r a hr=>?_⟩;have h1:=zf (YD a);have h2:=zf (YD hr);subst h1;subst h2;exact⟨rfl,bd0 n,Qu⟩
def Z1q {r:Rat}(l:Low r):∃ m,Good m r:=⟨r.1.natAbs+r.2.natAbs,YX Y1B (GK J1 J0),YX Y1B (GK J1 J0),l.pos,l.cop⟩
abbrev QQ:=_root_.Rat
noncomputable def qv (r:Rat):QQ:=(r.1:QQ) / (r.2:QQ)
def Xv {z:Int}(h:0<z):(z:QQ)≠0:=λe=>by
 have:z=0:=_root_.Rat.intCast_inj.mp (e.trans _root_.Rat.intCast_zero.symm);omega
def Wy {z:Int}(h:0<z):0<(z:QQ):=_root_.Rat.intCast_pos.mpr h
def Z3d {a b:QQ}(h:0<=a*b)(p:0<b):0<=a:=by
 by_cases q:0<=a
 ·exact q
 have:=_root_.Rat.mul_pos (show 0 < -a by grind) p;grind
def Z5f {r:Rat}{p q:Int}(hr:0<r.2)(hq:0<q)(e:r.1*q=p*r.2):qv r=(p:QQ) / q:=by
 unfold qv;have h1:=Xv hr;have h2:=Xv hq;have e':(r.1:QQ)*q=p*r.2:=by rw[<-_root_.Rat.intCast_mul,<-_root_.Rat.intCast_mul,e]
 grind
def Qf {p q:Int}(h:0<q):qv (nrm p q)=(p:QQ) / q:=Z5f (Yi J0).pos h (Xt p q)
def Z0i {r s:Rat}(a:Low r)(ls:Low s):qv (addR r s)=qv r+qv s:=by
 have h1:=Xv a.pos;have h2:=Xv ls.pos;rw[show addR r s=nrm (r.1*s.2+s.1*r.2) (r.2*s.2) from rfl,Qf (XU a.pos ls.pos)];unfold qv;rw[_root_.Rat.intCast_add,_root_.Rat.intCast_mul,_root_.Rat.intCast_mul,_root_.Rat.intCast_mul];grind
def Qe {r s:Rat}(a:Low r)(ls:Low s):qv (subR r s)=qv r - qv s:=by
 have h1:=Xv a.pos;have h2:=Xv ls.pos;rw[show subR r s=nrm (r.1*s.2 - s.1*r.2) (r.2*s.2) from rfl,Qf (XU a.pos ls.pos)];unfold qv;rw[_root_.Rat.intCast_sub,_root_.Rat.intCast_mul,_root_.Rat.intCast_mul,_root_.Rat.intCast_mul];grind
def M3 {r s:Rat}(a:Low r)(ls:Low s):qv (mulR' r s)=qv r*qv s:=by
 have h1:=Xv a.pos;have h2:=Xv ls.pos;rw[show mulR' r s=nrm (r.1*s.1) (r.2*s.2) from rfl,Qf (XU a.pos ls.pos)];unfold qv;rw[_root_.Rat.intCast_mul,_root_.Rat.intCast_mul];grind
def Qd {r:Rat}(h:0<r.2):qv r*(r.2:QQ)=r.1:=by
 have:=Xv h;unfold qv;grind
def Vq {r:Rat}(h:0<r.2):0<=r.1 ↔ 0<=qv r:=by
 have e:=Qd h;have p:=Wy h;constructor
 ·intro q;have:(0:QQ)<=(r.1:QQ):=_root_.Rat.intCast_nonneg.mpr q;rw[<-e] at this;exact Z3d this p
 intro q;have:=_root_.Rat.mul_nonneg q (_root_.Rat.le_of_lt p);rw[e] at this;exact _root_.Rat.intCast_nonneg.mp this
def Ub {r:Rat}(h:0<r.2):r.1<=0 ↔ qv r<=0:=by
 have a:=Vq (r:=(-r.1,r.2)) h;have e:qv (-r.1,r.2)=- qv r:=by
  unfold qv;rw[show ((-r.1,r.2):Rat).1=-r.1 from rfl,_root_.Rat.intCast_neg];grind
 rw[e] at a;constructor
 ·intro q;have:=a.mp (show 0<=-r.1 by omega);grind
 intro q;have:0<=-r.1:=a.mpr ZQ;omega
def M1 {r:Rat}(h:0<r.2):0<r.1 ↔ 0<qv r:=by
 have:=Ub h;constructor
 ·intro q;by_cases z:qv r<=0
  ·have:=this.mpr z;omega
  grind
 intro q;by_cases z:r.1<=0
 ·have:=this.mp z;grind
 omega
def Tv {r s:Rat}(a:Low r)(ls:Low s)(h:qv r=qv s):r=s:=by
 refine Ui a.pos ls.pos a.cop ls.cop ?_;have h1:=Qd a.pos;have h2:=Qd ls.pos;have:(r.1:QQ)*s.2=s.1*r.2:=by rw[<-h1,<-h2,h];grind
 rw[<-_root_.Rat.intCast_mul,<-_root_.Rat.intCast_mul] at this;exact _root_.Rat.intCast_inj.mp this
def Z0j:qv (0,1)=0:=by
 show ((0:Int):QQ) / ((1:Int):QQ)=0;rw[_root_.Rat.intCast_zero,_root_.Rat.intCast_one];grind
def Dh:qv (1,1)=1:=by
 show ((1:Int):QQ) / ((1:Int):QQ)=1;rw[_root_.Rat.intCast_one];grind
noncomputable def sQ:Nat->(Nat->QQ)->QQ
 | 0,_=>0
 | n+1,f=>sQ n f+f n
theorem Zm {f g:Nat->QQ}:∀ {n:Nat},(∀ k,k<n->f k=g k)->sQ n f=sQ n g
 | 0,_=>rfl
 | n+1,h=>by
  show sQ n f+f n=sQ n g+g n;rw[Zm λk hk=>h k J0,h n J0]
theorem Xy (f g:Nat->QQ):∀ (n:Nat),sQ n (λk=>f k+g k)=sQ n f+sQ n g
 | 0=>by show (0:QQ)=0+0;grind
 | n+1=>by
  show sQ n (λk=>f k+g k)+(f n+g n)=(sQ n f+f n)+(sQ n g+g n);rw[Xy f g n];grind
theorem Ye (a:QQ)(f:Nat->QQ):∀ (n:Nat),sQ n (λk=>a*f k)=a*sQ n f
 | 0=>by show 0=a*0;grind
 | n+1=>by
  show sQ n (λk=>a*f k)+a*f n=a*(sQ n f+f n);rw[Ye a f n];grind
def Wc {f:Nat->QQ}{n:Nat}(h:∀ k,k<n->f k=0):sQ n f=0:=by
 rw[Zm h];have:∀ n,sQ n (λ_=>0)=0:=λn=>by
  induction n with
  | zero=>rfl
  | succ n a=>show sQ n _+0=0;rw[a];grind
 exact this n
theorem Gh {f:Nat->QQ}:∀ {n:Nat},(∀ k,k<n->0<=f k)->0<=sQ n f
 | 0,_=>by show (0:QQ)<=0;grind
 | n+1,h=>by
  show 0<=sQ n f+f n;have h1:=Gh (f:=f) λk (hk:k<n)=>h k J0;have h2:=h n J0;grind
def Z05 {f g:Nat->QQ}{n:Nat}(h:∀ k,k<n->f k<=g k):sQ n f<=sQ n g:=by
 have:=Gh (f:=λk=>g k + -1*f k) λk (hk:k<n)=>by have:=h k hk;grind
 rw[Xy,Ye] at this;grind
theorem Nw (f:Nat->Nat->QQ)(m:Nat):∀ (n:Nat),sQ n (λi=>sQ m (λj=>f i j))=sQ m (λj=>sQ n (λi=>f i j))
 | 0=>(Wc λ_ _=>rfl).symm
 | n+1=>by
  show sQ n (λi=>sQ m (λj=>f i j))+sQ m (λj=>f n j)=sQ m (λj=>sQ n (λi=>f i j)+f n j);rw[Nw f m n,Xy]
theorem Qa (f:Nat->QQ):∀ (n:Nat),sQ (n+1) f=f 0+sQ n (λk=>f (k+1))
 | 0=>by show 0+f 0=f 0+0;grind
 | n+1=>by
  show sQ (n+1) f+f (n+1)=f 0+(sQ n (λk=>f (k+1))+f (n+1));rw[Qa f n];grind
noncomputable def qr (l:UA)(k:Nat):QQ:=qv (l.getD k (0,1))
def Lows (l:UA):Prop:=∀ r∈l,Low r
def RowR.lows {c:Nat}(h:RowR c l):Lows l:=λr hr=>h.low8 hr
def Lows.row {l:UA}(h:Lows l):RowR l.length l:=by
 have:∃ n,∀ r∈l,Good n r:=by
  induction l with
  | nil=>exact⟨0,λr hr=>nomatch hr⟩
  | cons a t b =>
   obtain⟨n,hn⟩:=b λr hr=>h r (YL _ hr);obtain⟨m,hm⟩:=Z1q (h a YV);refine⟨n+m,λr hr=>?_⟩;rcases YT.mp hr with rfl | hr
   ·exact hm.mono J0
   exact (hn r hr).mono J0
 obtain⟨n,hn⟩:=this;exact⟨rfl,_,_,_,RepL.of_good hn⟩
theorem Q9:∀ {l:UA} {x:Rat},Low x->Lows l->Low (l.foldl addR x)/\qv (l.foldl addR x)=qv x+sQ l.length (qr l)
 | [],x,lx,_=>⟨lx,by show qv x=qv x+0;grind⟩
 | a::t,x,lx,h=>by
  have la:=h a YV;obtain⟨h1,h2⟩:=Q9 (x:=addR x a) (Mo lx la) λr hr=>h r (YL _ hr);refine⟨h1,?_⟩;show qv (t.foldl addR (addR x a))=qv x+sQ (t.length+1) (qr (a::t));rw[h2,Qa,Z0i lx la];have e:sQ t.length (λk=>qr (a::t) (k+1))=sQ t.length (qr t):=Zm λk _=>rfl;rw[e];show qv x+qv a+_=qv x+(qv a+_);grind
def Gc (h:Lows l):Low (sumR l):=(Q9 Qu h).1
def Z0g (h:Lows l):qv (sumR l)=sQ l.length (qr l):=by
 have:=(Q9 Qu h).2;rw[Z0j] at this;show qv (l.foldl addR (0,1))=_;rw[this];grind
def Td {l:UA}(h:Lows l)(k:Nat):Low (l.getD k (0,1)):=by
 rw[XC]
 cases e:l[k]? with
 | none=>exact Qu
 | some x=>exact h x (YD e)
def K3 {l m:UA}(h:Lows l)(h':Lows m):Lows (List.zipWith mulR' l m):=λr hr=>by
 obtain⟨i,hi⟩:=XQ hr;rw[GI] at hi
 cases e1:l[i]? with
 | none=>rw[e1] at hi;simp at hi
 | some x =>
  cases e2:m[i]? with
  | none=>rw[e1,e2] at hi;simp at hi
  | some y =>
   rw[e1,e2] at hi
   cases hi;exact Gy (h x (YD e1)) (h' y (YD e2))
def Z6b {m:UA}(h:Lows l)(h':Lows m){k:Nat}(h1:k<l.length)(h2:k<m.length):qr (List.zipWith mulR' l m) k=qr l k*qr m k:=by
 unfold qr;have e:(List.zipWith mulR' l m).getD k (0,1)=mulR' (l.getD k (0,1)) (m.getD k (0,1)):=by
  rw[XC,GI,XC,XC,XL h1,XL h2];rfl
 rw[e,M3 (Td h k) (Td h' k)]
def Xj {m:UA}(h:Lows l)(h':Lows m):Low (mn l m):=Gc (K3 h h')
def Qg {m:UA}{c:Nat}(h:Lows l)(h':Lows m)(h1:l.length=c)(h2:m.length=c):qv (mn l m)=sQ c (λk=>qr l k*qr m k):=by
 show qv (sumR _)=_;rw[Z0g (K3 h h')];have:(List.zipWith mulR' l m).length=c:=by rw[JW,h1,h2];omega
 rw[this];exact Zm λk hk=>Z6b h h' J0 J0
def Vz (h:Lows l):Lows (cutR o l):=(h.row.cut o).lows
def J8 {o:TW}{l:UA}{k:Nat}:qr (cutR o l) k=if inE o k then qr l k else 0:=by
 unfold qr cutR;rw[XC,jd,XC]
 cases l[k]? with
 | none=>show qv (0,1)=if inE o k then qv (0,1) else 0;rw[Z0j];cases inE o k <;> rfl
 | some x =>
  show qv (if inE o k then x else (0,1))=if inE o k then qv x else 0
  cases inE o k
  ·exact Z0j
  rfl
def Z3b {c k:Nat}(h:k<c):qr (List.replicate c (1,1)) k=1:=by
 unfold qr;rw[XC,jt,YH h];exact Dh
def U8 (c:Nat):Lows (List.replicate c (1,1)):=λr hr=>by rw[zf hr];exact K4
def M7 {c k:Nat}(h:k<c):qr (papR c o) k=if inE o k then 1 else 0:=by
 unfold papR;rw[J8,Z3b h]
def Wm (c:Nat)(o:TW):Lows (papR c o):=Vz (U8 c)
structure WtsQ (c:Nat)(rss:UB)(l:UA):Prop where
 len:l.length=c
 low:Lows l
 nn:∀ k,k<c->0<=qr l k
 fit:∀ rs∈rss,sQ c (λk=>qr l k*qr rs k)<=0
 lie:sQ c (qr l)=1
def Wts.toQ {c:Nat}(w:Wts c rss l)(a:∀ rs∈rss,RowR c rs):WtsQ c rss l:=by
 have b:Lows l:=w.rep.elim λn z=>z.elim λD z=>z.elim λL r=>λx hx=>(r.good x hx).low;refine⟨w.len,b,λk hk=>?_,λrs hr=>?_,?_⟩
 ·refine (Vq (Td b k).pos).mp ?_;rw[XC,XL (by rw[w.len];exact hk)];exact w.nn _ (XR _)
 ·have h2:=(a rs hr).lows;rw[<-Qg b h2 w.len (a rs hr).1];exact (Ub (Xj b h2).pos).mp (w.fit rs hr)
 have h:=congrArg qv w.lie;have e:qv (mn l (papR c none))=1:=by rw[<-Dh];exact h
 rw[Qg b (Wm c none) w.len (Wi c none)] at e;rw[<-e];exact Zm λk hk=>by rw[M7 hk];show _=_*1;grind
def WtsQ.wts {c:Nat}(w:WtsQ c rss l)(a:∀ rs∈rss,RowR c rs):Wts c rss l:=by
 have rr:=w.low.row;rw[w.len] at rr;refine⟨w.len,rr.2,λr hr=>?_,λrs hr=>?_,?_⟩
 ·obtain⟨k,hk⟩:=XQ hr;have lk:k<c:=by have:=(YG.mp hk).1;rw[w.len] at this;exact this
  have:=w.nn k lk;unfold qr at this;rw[XC,hk] at this;exact (Vq (w.low r hr).pos).mpr this
 ·have h2:=(a rs hr).lows;refine (Ub (Xj w.low h2).pos).mpr ?_;rw[Qg w.low h2 w.len (a rs hr).1];exact w.fit rs hr
 refine Tv (Xj w.low (Wm c none)) K4 ?_;show qv (mn l (papR c none))=_;rw[Qg w.low (Wm c none) w.len (Wi c none),Dh,<-w.lie];exact Zm λk hk=>by rw[M7 hk];show _*1=_;grind
def V8 {c:Nat}(h:Lows l)(hl:l.length=c):qv (shR c o l)=sQ c (λk=>if inE o k then qr l k else 0):=by
 show qv (mn l (papR c o))=_;rw[Qg h (Wm c o) hl (Wi c o)];exact Zm λk hk=>by rw[M7 hk];cases inE o k <;> simp <;> grind
open _v (sm)
def Ti {α:Type}{l:List α}{k:Nat}{x d:α}(h:l[k]?=some x):l.getD k d=x:=by rw[XC,h];rfl
def Z3c {a l:QQ}(hl:0<l)(h:l*a<=0):a<=0:=by
 have:=Z3d (a:=-a) (b:=l) ZQ hl;grind
def Z7r {a b:QQ}(h:b≠0):a / b*b=a:=by grind
def Jk {a b:QQ}(ha:0<=a)(c:b<=0):a*b<=0:=by
 have:=_root_.Rat.mul_nonneg ha (show 0<=-b by grind);grind
def Z7n {f:Nat->QQ}{n:Nat}(h:∀ k,k<n->f k<=0):sQ n f<=0:=by
 have:=Z05 (f:=f) (g:=λ_=>0) h;rw[Wc (f:=λ_=>0) λ_ _=>rfl] at this;exact this
theorem Ks (f:TY):∀ (n:Nat),((sm n f:Int):QQ)=sQ n (λj=>(f j:QQ))
 | 0=>_root_.Rat.intCast_zero
 | n+1=>by
  show ((sm n f+f n:Int):QQ)=sQ n (λj=>(f j:QQ))+(f n:QQ);rw[_root_.Rat.intCast_add,Ks f n]
def Z6c {f:Rat->Rat}{k:Nat}(hk:k<l.length):qr (l.map f) k=qv (f (l.getD k (0,1))):=by
 have e1:l[k]?=some l[k]:=by simp[hk]
 unfold qr;rw[XC,YI,e1,Ti e1];rfl
def Z7p {c k:Nat}{f:Nat->Rat}(hk:k<c):qr ((List.range c).map f) k=qv (f k):=by
 unfold qr;rw[XC,YI,qq hk];rfl
def Z5e {c:Nat}(h:RowR c rs):0<lcmB rs/\∀ v,v<c->(rowF rs v:QQ)=(lcmB rs:QQ)*qr rs v:=by
 obtain⟨hl,n,D,Z,r⟩:=h;refine⟨r.least.pos,λv b=>?_⟩;have a:rs[v]?=some (rs[v]'J0):=ZJ
 obtain⟨e2,_,lo⟩:=r.least.at_ v ((rs[v]'J0).1*(lcmB rs).fdiv (rs[v]'J0).2) (rs[v]'J0) (by unfold wholeB;simp[show v<rs.length by omega]) a;have p:=Xv r.least.pos;rw[Nz a];unfold qr;rw[Ti a,Z5f lo.pos r.least.pos e2];grind
section
variable {c:Nat}{rss:UB}{as W:UA}{T:UC}{v:Rat}
theorem Z5r (a:∀ rs∈rss,RowR c rs){j:Nat}(hj:j<rss.length):0<lcmB (rss.getD j [])/\∀ i,i<c->(AOf rss j i:QQ)=(lcmB (rss.getD j []):QQ)*qr (rss.getD j []) i:=by
 refine Z5e ?_;rw[Ti (l:=rss) (x:=rss[j]) (by simp[hj])];exact a _ (XR hj)
def Z0t (hi:i<c):(rowF (papR c o) i:QQ)=if inE o i then 1 else 0:=by
 rw[Z6g hi,Z1s]
 cases inE o i <;> rfl
theorem Z28 {y α β:TY}(d:∀ rs∈rss,RowR c rs)(w:WtsQ c rss W)(y0:∀ j,j<rss.length->0<=y j)(h:∀ i,i<c->α i<=sm rss.length (λj=>AOf rss j i*y j)+β i):sQ c (λi=>qr W i*(α i:QQ))<=sQ c (λi=>qr W i*(β i:QQ)):=by
 have a:sQ c (λi=>qr W i*(α i:QQ))<=sQ c (λi=>sQ rss.length (λj=>qr W i*((AOf rss j i:QQ)*(y j:QQ)))+qr W i*(β i:QQ)):=Z05 λi hi=>by
  have:=_root_.Rat.intCast_le_intCast.mpr (h i hi);rw[_root_.Rat.intCast_add,Ks] at this;rw[Zm (f:=λj=>((AOf rss j i*y j:Int):QQ)) (g:=λj=>(AOf rss j i:QQ)*(y j:QQ)) λj _=>_root_.Rat.intCast_mul _ _] at this;rw[Ye];have:=_root_.Rat.mul_nonneg (w.nn i hi) (show 0<=sQ rss.length (λj=>(AOf rss j i:QQ)*(y j:QQ))+(β i:QQ) - (α i:QQ) by grind);grind
 rw[Xy,Nw] at a;have b:sQ rss.length (λj=>sQ c (λi=>qr W i*((AOf rss j i:QQ)*(y j:QQ))))<=0:=Z7n λj hj=>by
  obtain⟨lp,e⟩:=Z5r d hj;rw[Zm (g:=λi=>(y j:QQ)*(lcmB (rss.getD j []):QQ)*(qr W i*qr (rss.getD j []) i)) λi hi=>by rw[e i hi];grind,Ye];refine Jk (_root_.Rat.mul_nonneg (_root_.Rat.intCast_nonneg.mpr (y0 j hj)) (_root_.Rat.le_of_lt (Wy lp))) (w.fit _ ?_);rw[Ti (l:=rss) (x:=rss[j]) (by simp[hj])];exact XR hj
 grind
def NoneT.noshareq (h:NoneT c rss o gs T)(f:∀ rs∈rss,RowR c rs)(w:WtsQ c rss W):(shR c o W).1=0:=by
 obtain⟨h1,h2⟩:=h.sv;have d:=Z28 (y:=λk=>-_v.numAt c T rss.length (c+k)) (α:=λi=>rowF (papR c o) i*T.b) (β:=λ_=>0) f w (λj hj=>by have:=h1 j hj;omega) λi hi=>by have:=h2 i hi;omega
 have ls:=Xj w.low (Vz (o:=o) (U8 c));have e:sQ c (λi=>qr W i*((rowF (papR c o) i*T.b:Int):QQ))=(T.b:QQ)*qv (shR c o W):=by
  rw[V8 w.low w.len,<-Ye];refine Zm λi hi=>?_;rw[_root_.Rat.intCast_mul,Z0t hi]
  cases inE o i <;> simp <;> grind
 rw[e,Wc λi _=>by rw[_root_.Rat.intCast_zero];grind] at d;have a:=(Ub ls.pos).mpr (Z3c (Wy h.inv.pos) d);have b:0<=qv (shR c o W):=by
  rw[V8 w.low w.len];exact Gh λk hk=>by cases inE o k <;> simp <;> exact w.nn k hk
 have b:=(Vq ls.pos).mpr b;have a:(shR c o W).1<=0:=a;have b:0<=(shR c o W).1:=b;omega
theorem NoneT.noloadsq (h:NoneT c rss none gs T)(d:∀ rs∈rss,RowR c rs)(w:WtsQ c rss W):False:=by
 have e:=h.noshareq d w;have ls:=Xj w.low (Vz (o:=none) (U8 c));have a:=(Ub ls.pos).mp (show (shR c none W).1<=0 by omega);have b:qv (shR c none W)=1:=(V8 w.low w.len).trans w.lie;have a:qv (shR c none W)<=0:=a;rw[b] at a;exact absurd a J1
def Jx (hl:Lows as)(a:Low v):Lows (gP o as v):=by
 unfold gP;refine Vz λr hr=>?_;obtain⟨x,hx,rfl⟩:=YN.mp hr;exact Mn (hl x hx) a
def Z74:(gP o as v).length=as.length:=by unfold gP;rw[X1,YB]
def Z7q {k:Nat}(hl:Lows as)(a:Low v)(hk:k<as.length):qr (gP o as v) k=if inE o k then qr as k - qv v else 0:=by
 unfold gP;rw[J8,Z6c hk,Qe (Td hl k) a];rfl
def Z1z (b:Lows W)(len:W.length=c)(hl:Lows as)(la:as.length=c)(a:Low v):qv (mn W (gP o as v))=sQ c (λk=>qr W k*qr (cutR o as) k) + -qv v*qv (shR c o W):=by
 rw[Qg b (Jx hl a) len (by rw[Z74,la]),V8 b len,<-Ye,<-Xy];refine Zm λk hk=>?_;rw[Z7q hl a J0,J8]
 cases inE o k <;> simp <;> grind
def mnz9 {r:Rat}(l:Low r)(e:qv r=0):r.1=0:=by
 have a:=(Ub l.pos).mpr ZQ;have b:=(Vq l.pos).mpr ZQ;omega
theorem MostT.conq (h:MostT c rss o (cutR o as) T)(m:∀ rs∈rss,RowR c rs)(A:RowR c as):ConV c rss o as (valueR c rss.length (cutR o as) T):=by
 have M:=h.sv;have G:=h.inv.pos;have B:=Wy G;obtain⟨D,F⟩:=Z5e (A.cut o);have pg:=Wy D;have la:=A.1;have low:=A.lows;have I:=XU D G;have t:Low (valueR c rss.length (cutR o as) T):=Yi J0;have ev:qv (valueR c rss.length (cutR o as) T)*((lcmB (cutR o as):QQ)*(T.b:QQ))=((-T.L (rss.length+1) c:Int):QQ):=by
  have e:qv (valueR c rss.length (cutR o as) T)=((-_v.endOf (rss.length+2) c T (c+rss.length+1):Int):QQ) / ((lcmB (cutR o as)*T.b:Int):QQ):=Qf I;rw[<-h.aim,(TabOk.of h.inv).endO J0,_root_.Rat.intCast_mul] at e;rw[e];exact Z7r (by have:=_root_.Rat.mul_pos pg B;grind)
 generalize valueR c rss.length (cutR o as) T=v at *
 generalize C:-T.L (rss.length+1) c=V at *
 refine⟨t,?_,λW w=>?_⟩
 ·have x0:=M.x0;have fit:=M.fit;have lie:=congrArg (λz:Int=>(z:QQ)) M.lie;have val:=congrArg (λz:Int=>(z:QQ)) M.val;simp only [Ks,_root_.Rat.intCast_mul] at lie val;generalize _v.endOf (rss.length+2) c T=e at *
  rw[Zm λi hi=>by rw[Z0t hi]] at lie;rw[Zm λi hi=>by rw[F i hi],C] at val;have E:∀ i,i<c->0<=(e i:QQ):=λi hi=>_root_.Rat.intCast_nonneg.mpr (x0 i hi);have Sp:0<sm c e:=by
   refine _root_.Rat.intCast_pos.mp ?_;rw[Ks];have:=Z05 (n:=c) (f:=λi=>(if inE o i then (1:QQ) else 0)*(e i:QQ)) (g:=λi=>(e i:QQ)) λi hi=>by have:=E i hi;cases inE o i <;> simp <;> grind
   grind
  have ps:=Wy Sp;have H:=Ks e c;generalize sm c e=S at *
  have u:0<(1:QQ) / (S:QQ):=by
   rcases Classical.em (0<(1:QQ) / (S:QQ)) with z | z
   ·exact z
   have:=Jk (_root_.Rat.le_of_lt ps) (show (1:QQ) / (S:QQ)<=0 by grind);have e1:(S:QQ)*(1 / (S:QQ))=1:=ZQ
   rw[e1] at this;exact absurd this J1
  have s:∀ i,i<c->qr ((List.range c).map λi=>nrm (e i) S) i=1 / (S:QQ)*(e i:QQ):=λi hi=>by rw[Z7p hi,Qf Sp];grind
  have q:Lows ((List.range c).map λi=>nrm (e i) S):=λr hr=>by
   obtain⟨i,_,rfl⟩:=YN.mp hr;exact Yi J0
  have len:((List.range c).map λi=>nrm (e i) S).length=c:=ZJ
  generalize (List.range c).map (λi=>nrm (e i) S)=W at *
  have p:WtsQ c rss W:=by
   refine⟨len,q,λi hi=>?_,λrs hr=>?_,?_⟩
   ·rw[s i hi];exact _root_.Rat.mul_nonneg (_root_.Rat.le_of_lt u) (E i hi)
   ·obtain⟨j,hj,rfl⟩:=Y1C hr;have f:=_root_.Rat.intCast_le_intCast.mpr (fit j hj);rw[Ks] at f;obtain⟨lp,ea⟩:=Z5r m hj;rw[Ti (l:=rss) (x:=rss[j]) (by simp[hj])] at lp ea;rw[Zm (g:=λi=>(lcmB rss[j]:QQ)*((e i:QQ)*qr rss[j] i)) λi hi=>by rw[_root_.Rat.intCast_mul,ea i hi];grind,Ye] at f;rw[Zm (g:=λi=>1 / (S:QQ)*((e i:QQ)*qr rss[j] i)) λi hi=>by rw[s i hi];grind,Ye];exact Jk (_root_.Rat.le_of_lt u) (Z3c (Wy lp) f)
   rw[Zm s,Ye,<-H];grind
  have es:qv (shR c o W)=1 / (S:QQ)*(T.b:QQ):=by
   rw[V8 q len,<-lie,<-Ye];exact Zm λi hi=>by rw[s i hi];cases inE o i <;> simp <;> grind
  refine⟨W,p.wts m,mnz9 (Xj q (Jx low t)) ?_,(M1 (Xj q (Vz (U8 c))).pos).mpr ?_⟩
  ·rw[Z1z q len low la t,es];have e1:(lcmB (cutR o as):QQ)*sQ c (λk=>qr W k*qr (cutR o as) k)=1 / (S:QQ)*(V:QQ):=by
    rw[<-val,<-Ye,<-Ye];exact Zm λi hi=>by rw[s i hi];grind
   have e2:(lcmB (cutR o as):QQ)*(sQ c (λk=>qr W k*qr (cutR o as) k) + -qv v*(1 / (S:QQ)*(T.b:QQ)))=0:=by
    rw[<-ev] at e1;grind
   have a:=Z3c pg (show _<=(0:QQ) by rw[e2];exact _root_.Rat.le_refl);have b:=Z3d (a:=sQ c (λk=>qr W k*qr (cutR o as) k) + -qv v*(1 / (S:QQ)*(T.b:QQ))) (b:=(lcmB (cutR o as):QQ)) ZQ pg;grind
  show 0<qv (shR c o W);rw[es];exact _root_.Rat.mul_pos u B
 have p:=w.toQ m;refine (Ub (Xj p.low (Jx low t)).pos).mpr ?_;rw[Z1z p.low p.len low la t];have d:=Z28 (y:=λk=>-_v.numAt c T (rss.length+1) (c+k)) (α:=λi=>rowF (cutR o as) i*T.b) (β:=λi=>rowF (papR c o) i*V) m p (λj hj=>by have:=M.y0 j hj;omega) λi hi=>by have:=M.show_ i hi;rw[C] at this;exact this
 have e1:sQ c (λi=>qr W i*((rowF (cutR o as) i*T.b:Int):QQ))=(lcmB (cutR o as):QQ)*(T.b:QQ)*sQ c (λk=>qr W k*qr (cutR o as) k):=by
  rw[<-Ye];exact Zm λi hi=>by rw[_root_.Rat.intCast_mul,F i hi];grind
 have e2:sQ c (λi=>qr W i*((rowF (papR c o) i*V:Int):QQ))=(V:QQ)*qv (shR c o W):=by
  rw[V8 p.low p.len,<-Ye];exact Zm λi hi=>by rw[_root_.Rat.intCast_mul,Z0t hi];cases inE o i <;> simp <;> grind
 rw[e1,e2,<-ev] at d;exact Z3c (_root_.Rat.mul_pos pg B) ZQ
end
open _v (sm)
theorem RepL.each {n:Nat}{D:Int}(a:0<D)(bD:Bd n D):∀ {rs:UA},(∀ r∈rs,∃ W,r.1*D=W*r.2/\Bd n W/\Low r)->∃ Ws,RepL n D Ws rs
 | [],_=>⟨[],a,bD,rfl,λi W r h=>by simp at h⟩
 | r::t,h=>by
  obtain⟨Ws,p⟩:=RepL.each a bD (rs:=t) λx hx=>h x (YL _ hx);obtain⟨W,e⟩:=h r YV;refine⟨W::Ws,a,bD,by simp[p.len],λi V x b hx=>?_⟩
  cases i with
  | zero=>cases b;cases hx;exact e
  | succ i=>exact p.at_ i V x (by simpa using b) (by simpa using hx)
theorem Gi {f:Nat->QQ}:∀ {n:Nat},(∀ k,k<n->0<=f k)->sQ n f=0->∀ k,k<n->f k=0
 | 0,_,_=>λk hk=>absurd hk J0
 | n+1,h,e=>λk hk=>by
  have e':sQ n f+f n=0:=e;have a:=Gh (n:=n) (f:=f) λk hk=>h k J0;have b:=h n J0;by_cases z:k=n
  ·rw[z];grind
  exact Gi (n:=n) (λk hk=>h k J0) ZQ k J0
section
variable {n:Nat}
abbrev Pt:=Nat->QQ
noncomputable def dq (n:Nat)(x e:Pt):QQ:=sQ n λk=>x k*e k
def Yy (x d e:Pt)(t:QQ):dq n (λk=>x k+t*d k) e=dq n x e+t*dq n d e:=by
 unfold dq;rw[<-Ye,<-Xy];exact Zm λk _=>ZQ
def Yk {x y e:Pt}(h:∀ k,k<n->x k=y k):dq n x e=dq n y e:=Zm λk hk=>by rw[h k hk]
def Vg (x d:Pt)(t:QQ):sQ n (λk=>x k+t*d k)=sQ n x+t*sQ n d:=by
 rw[<-Ye,<-Xy]
structure Bnds (n m:Nat)(c:Nat->Pt):Prop where
 le:n<=m
 un:∀ i,i<n->∀ x:Pt,dq n x (c i)=-x i
structure InP (n m:Nat)(c:Nat->Pt)(x:Pt):Prop where
 le:∀ k,k<m->dq n x (c k)<=0
 one:sQ n x=1
def Stuck (n m:Nat)(c:Nat->Pt)(x:Pt):Prop:=∀ d:Pt,sQ n d=0->(∀ k,k<m->dq n x (c k)=0->dq n d (c k)=0)->∀ i,i<n->d i=0
structure Vx (n m:Nat)(c:Nat->Pt)(x:Pt):Prop where
 inn:InP n m c x
 st:Stuck n m c x
theorem R5 (a b:Nat->QQ):∀ m:Nat,(∃ k,k<m/\0<b k)->(∀ k,k<m->0<b k->0<a k)->∃ k,k<m/\0<b k/\∀ j,j<m->0<b j->a k / b k<=a j / b j
 | 0,⟨k,h,_⟩,_=>absurd h J0
 | m+1,⟨k,hk,bk⟩,pos=>by
  by_cases h:∃ k,k<m/\0<b k
  ·obtain⟨d,h0,g,f⟩:=R5 a b m h λk hk=>pos k J0;by_cases bm:0<b m
   ·by_cases le:a d / b d<=a m / b m
    ·refine⟨d,J0,g,λj hj c=>?_⟩;by_cases e:j=m
     ·subst e;exact le
     exact f j J0 c
    refine⟨m,J0,bm,λj hj c=>?_⟩;by_cases e:j=m
    ·subst e;grind
    have:=f j J0 c;grind
   refine⟨d,J0,g,λj hj c=>?_⟩;by_cases e:j=m
   ·subst e;exact absurd c bm
   exact f j J0 c
  refine⟨k,hk,bk,λj hj c=>?_⟩;have e1:k=m:=by
   by_cases z:k=m
   ·exact z
   exact absurd ⟨k,J0,bk⟩ h
  have e2:j=m:=by
   by_cases z:j=m
   ·exact z
   exact absurd ⟨j,J0,c⟩ h
  rw[e1,e2];grind
variable {m:Nat}{c:Nat->Pt}{x d:Pt}
def J5 {d:Pt}(h:sQ n d=0){i:Nat}(hi:i<n)(ne:d i≠0):∃ j,j<n/\d j<0:=by
 by_cases q:∃ j,j<n/\d j<0
 ·exact q
 have nn:∀ k,k<n->0<=d k:=λk hk=>by
  by_cases z:0<=d k
  ·exact z
  exact absurd ⟨k,hk,ZQ⟩ q
 exact absurd (Gi nn h i hi) ne
def L1 {a b:QQ}(h:0<b):a / b*b=a:=by
 have:b≠0:=ZQ
 grind
def InP.go (B:Bnds n m c)(I:InP n m c x)(f:sQ n d=0)(b:∀ k,k<m->dq n x (c k)=0->dq n d (c k)=0){i:Nat}(hi:i<n)(ne:d i≠0) :
  ∃ t:QQ,0<t/\InP n m c (λk=>x k+t*d k)/\(∀ k,k<m->dq n x (c k)=0->dq n (λk=>x k+t*d k) (c k)=0)/\∃ k,k<m/\dq n x (c k)≠0/\dq n (λk=>x k+t*d k) (c k)=0:=by
 obtain⟨j,hj,r⟩:=J5 f hi ne;have p:0<dq n d (c j):=by rw[B.un j hj];grind
 have le:=B.le;obtain⟨k,hk,bk,lk⟩:=R5 (λk=>-dq n x (c k)) (λk=>dq n d (c k)) m ⟨j,J0,p⟩ λk hk bk=>by
  have:=I.le k hk;have:dq n x (c k)≠0:=λz=>by have:=b k hk z;grind
  grind
 have l:dq n x (c k)≠0:=λz=>by have:=b k hk z;grind
 have o:=I.le k hk;have e:=L1 (a:=-dq n x (c k)) bk;have tp:0 < -dq n x (c k) / dq n d (c k):=by
  by_cases z:0 < -dq n x (c k) / dq n d (c k)
  ·exact z
  have:0<=-(-dq n x (c k) / dq n d (c k)):=ZQ
  have:=_root_.Rat.mul_nonneg this (show 0<=dq n d (c k) by grind);grind
 refine⟨-dq n x (c k) / dq n d (c k),tp,⟨λq hq=>?_,?_⟩,λq hq z=>?_,k,hk,l,?_⟩
 ·rw[Yy];have:=I.le q hq;by_cases g:0<dq n d (c q)
  ·have h:=lk q hq g;have e2:=L1 (a:=-dq n x (c q)) g;have:=_root_.Rat.mul_le_mul_of_nonneg_right h (show 0<=dq n d (c q) by grind);grind
  have:=_root_.Rat.mul_nonneg (show 0<=-dq n x (c k) / dq n d (c k) by grind) (show 0<=-dq n d (c q) by grind);grind
 ·rw[Vg,f,I.one];grind
 ·rw[Yy,z,b q hq z];grind
 rw[Yy,e];grind
noncomputable def nz:Nat->(Nat->QQ)->Nat
 | 0,_=>0
 | m+1,f=>nz m f+if f m=0 then 0 else 1
theorem Z5j {f g:Nat->QQ}:∀ {m:Nat},(∀ k,k<m->f k=0->g k=0)->nz m g<=nz m f
 | 0,_=>YJ _
 | m+1,h=>by
  have:=Z5j (m:=m) λk hk=>h k J0;unfold nz;by_cases e:f m=0
  ·rw[YH e,YH (h m J0 e)];omega
  rw[YF e];split <;> omega
theorem Z5i {f g:Nat->QQ}:∀ {m:Nat},(∀ k,k<m->f k=0->g k=0)->(∃ k,k<m/\f k≠0/\g k=0)->nz m g<nz m f
 | 0,_,⟨k,h,_⟩=>absurd h J0
 | m+1,h,⟨k,hk,fk,gk⟩=>by
  unfold nz;by_cases e:k=m
  ·subst e;have:=Z5j (m:=k) λj hj=>h j J0;rw[YF fk,YH gk];omega
  have:=Z5i (m:=m) (λj hj=>h j J0) ⟨k,J0,fk,gk⟩;by_cases e:f m=0
  ·rw[YH e,YH (h m J0 e)];omega
  rw[YF e];split <;> omega
def Nb (h:¬ Stuck n m c x):∃ d:Pt,sQ n d=0/\(∀ k,k<m->dq n x (c k)=0->dq n d (c k)=0)/\∃ i,i<n/\d i≠0:=by
 refine YE λq=>h λd a b i hi=>?_;refine YE λne=>q ⟨d,a,b,i,hi,ne⟩
def Si (d e:Pt):dq n (λk=>-d k) e=-dq n d e:=by
 have:=Yy (n:=n) (λ_=>0) d e (-1);have z:dq n (λ_=>0) e=0:=Wc λk _=>ZQ
 rw[z] at this;rw[show (λk=>-d k)=λk=>(0:QQ) + -1*d k by funext k;grind,this];grind
def Nq (d:Pt):sQ n (λk=>-d k)=-sQ n d:=by
 have:=Ye (-1) d n;rw[show (λk=>-d k)=λk=>(-1:QQ)*d k by funext k;grind,this];grind
theorem InP.top (B:Bnds n m c)(f:Pt):∀ (N:Nat) (x:Pt),nz m (λk=>dq n x (c k))<=N->InP n m c x->∃ w,Vx n m c w/\(∀ k,k<m->dq n x (c k)=0->dq n w (c k)=0)/\dq n x f<=dq n w f
 | N,x,hN,I=>by
  by_cases st:Stuck n m c x
  ·exact⟨x,⟨I,st⟩,λ_ _ h=>h,ZQ⟩
  obtain⟨d,e,b,i,hi,ne⟩:=Nb st;have key:∀ d:Pt,sQ n d=0->(∀ k,k<m->dq n x (c k)=0->dq n d (c k)=0)->d i≠0->0<=dq n d f->∃ w,Vx n m c w/\(∀ k,k<m->dq n x (c k)=0->dq n w (c k)=0)/\dq n x f<=dq n w f:=λd e b ne h0=>by
   obtain⟨t,tp,o,a,k,hk,q,r⟩:=I.go B e b hi ne;have s:=Z5i (m:=m) (f:=λk=>dq n x (c k)) (g:=λk=>dq n (λk=>x k+t*d k) (c k)) a ⟨k,hk,q,r⟩
   cases N with
   | zero=>omega
   | succ N =>
    obtain⟨w,p,j,l⟩:=InP.top B f N _ J0 o;refine⟨w,p,λk hk z=>j k hk (a k hk z),?_⟩;rw[Yy] at l;have:=_root_.Rat.mul_nonneg (show 0<=t by grind) h0;grind
  by_cases h0:0<=dq n d f
  ·exact key d e b ne h0
  refine key (λk=>-d k) (by rw[Nq,e];grind) (λk hk z=>by rw[Si,b k hk z];grind) ZQ (by rw[Si];grind)
def InP.corner (B:Bnds n m c)(f:Pt)(I:InP n m c x):∃ w,Vx n m c w/\(∀ k,k<m->dq n x (c k)=0->dq n w (c k)=0)/\dq n x f<=dq n w f:=InP.top B f _ x (YJ _) I
def InP.congr {y:Pt}(h:∀ k,k<n->x k=y k)(I:InP n m c x):InP n m c y:=⟨λk hk=>by rw[<-Yk h];exact I.le k hk,by rw[<-I.one];exact (Zm h).symm⟩
theorem Vx.congr {y:Pt}(h:∀ k,k<n->x k=y k)(v:Vx n m c x):Vx n m c y:=⟨v.inn.congr h,λd a b=>v.st d a λk hk z=>b k hk (by rw[<-Yk h];exact z)⟩
def Vx.mid {p q:QQ}(v:Vx n m c x)(e:sQ n d=0)(g:0<p)(f:0<q)(j:InP n m c λk=>x k+p*d k)(h:InP n m c λk=>x k + -q*d k):∀ i,i<n->d i=0:=by
 refine v.st d e λk hk z=>?_;have h1:=j.le k hk;have h2:=h.le k hk;rw[Yy,z] at h1 h2;by_cases a:0<dq n d (c k)
 ·have:=_root_.Rat.mul_pos g a;grind
 by_cases b:dq n d (c k)<0
 ·have:=_root_.Rat.mul_pos f (show 0 < -dq n d (c k) by grind);grind
 grind
def Q2 (x e e':Pt)(a b:QQ):dq n x (λk=>a*e k+b*e' k)=a*dq n x e+b*dq n x e':=by
 unfold dq;rw[<-Ye,<-Ye,<-Xy];exact Zm λk _=>ZQ
def Near (n m:Nat)(c:Nat->Pt)(V:List Pt)(u v:Pt):Prop:=∀ w∈V,(∀ k,k<m->dq n u (c k)=0->dq n v (c k)=0->dq n w (c k)=0)->(∀ i,i<n->w i=u i) \/ ∀ i,i<n->w i=v i
noncomputable def crs (n:Nat)(g u v:Pt):Pt:=λk=>u k+dq n u g / (dq n u g - dq n v g)*(v k - u k)
structure Cors (n m:Nat)(c:Nat->Pt)(V:List Pt):Prop where
 vx:∀ v∈V,Vx n m c v
 all:∀ x,Vx n m c x->∃ v∈V,∀ i,i<n->v i=x i
variable {V:List Pt}{u v:Pt}
def Pn {g:Pt}(hu:dq n u g<0)(c:0<dq n v g):∃ t:QQ,0<t/\t<1/\t=dq n u g / (dq n u g - dq n v g)/\t*(dq n v g - dq n u g)=-dq n u g:=by
 have e:=L1 (a:=-dq n u g) (b:=dq n v g - dq n u g) ZQ;have e2:dq n u g / (dq n u g - dq n v g)=-dq n u g / (dq n v g - dq n u g):=by
  have h1:dq n u g - dq n v g≠0:=ZQ
  have h2:dq n v g - dq n u g≠0:=ZQ
  grind
 refine⟨_,?_,?_,e2.symm,e⟩
 ·by_cases z:0 < -dq n u g / (dq n v g - dq n u g)
  ·exact z
  have:=_root_.Rat.mul_nonneg (show 0<=-(-dq n u g / (dq n v g - dq n u g)) by grind) (show 0<=dq n v g - dq n u g by grind);grind
 by_cases z:-dq n u g / (dq n v g - dq n u g)<1
 ·exact z
 have:=_root_.Rat.mul_nonneg (show 0<=-dq n u g / (dq n v g - dq n u g) - 1 by grind) (show 0<=dq n v g - dq n u g by grind);grind
def Pk (a b e:Pt):dq n (λk=>a k - b k) e=dq n a e - dq n b e:=by
 have:=Yy (n:=n) a b e (-1);rw[show (λk=>a k - b k)=λk=>a k + -1*b k by funext k;grind,this];grind
def Uu (a b:Pt):sQ n (λk=>a k - b k)=sQ n a - sQ n b:=by
 have:=Vg (n:=n) a b (-1);rw[show (λk=>a k - b k)=λk=>a k + -1*b k by funext k;grind,this];grind
def Mz {g:Pt}(e:Pt):dq n (crs n g u v) e=dq n u e+dq n u g / (dq n u g - dq n v g)*(dq n v e - dq n u e):=by
 show dq n (λk=>u k+_*(v k - u k)) e=_;rw[Yy u (λk=>v k - u k),Pk]
def L7 {g:Pt}(d:InP n m c u)(j:InP n m c v)(hu:dq n u g<0)(f:0<dq n v g){k:Nat}(hk:k<m):dq n (crs n g u v) (c k)=0 ↔ dq n u (c k)=0/\dq n v (c k)=0:=by
 obtain⟨t,o,l,i,_⟩:=Pn hu f;rw[Mz,<-i];have a:=d.le k hk;have b:=j.le k hk;constructor
 ·intro z;have h1:=_root_.Rat.mul_nonneg (show 0<=t by grind) (show 0<=-dq n v (c k) by grind);have h2:=_root_.Rat.mul_nonneg (show 0<=1 - t by grind) (show 0<=-dq n u (c k) by grind);have e:(1 - t) * -dq n u (c k)+t * -dq n v (c k)=0:=ZQ
  have z1:t * -dq n v (c k)=0:=ZQ
  have z2:(1 - t) * -dq n u (c k)=0:=ZQ
  have n1:t≠0:=ZQ
  have n2:1 - t≠0:=ZQ
  constructor
  ·rcases _root_.Rat.mul_eq_zero.mp z2 with h | h
   ·exact absurd h n2
   grind
  rcases _root_.Rat.mul_eq_zero.mp z1 with h | h
  ·exact absurd h n1
  grind
 rintro ⟨z1,z2⟩;rw[z1,z2];grind
def Z79 {g:Pt}(a:InP n m c u)(b:InP n m c v)(hu:dq n u g<0)(e:0<dq n v g):InP n m c (crs n g u v):=by
 obtain⟨t,h,f,d,_⟩:=Pn hu e;refine⟨λk hk=>?_,?_⟩
 ·rw[Mz,<-d];have h1:=_root_.Rat.mul_nonneg (show 0<=t by grind) (show 0<=-dq n v (c k) by have:=b.le k hk;grind);have h2:=_root_.Rat.mul_nonneg (show 0<=1 - t by grind) (show 0<=-dq n u (c k) by have:=a.le k hk;grind);grind
 show sQ n (λk=>u k+_*(v k - u k))=1;rw[Vg u (λk=>v k - u k),Uu,a.one,b.one];grind
def Z78 {g:Pt}(hu:dq n u g<0)(b:0<dq n v g):dq n (crs n g u v) g=0:=by
 obtain⟨t,d,c,a,e⟩:=Pn hu b;rw[Mz,<-a];grind
theorem Cors.cross (B:Bnds n m c)(C:Cors n m c V)(hu:u∈V)(L:v∈V)(l:dq n u (c m)<0)(A:0<dq n v (c m))(Q:Near n m c V u v):Vx n (m+1) c (crs n (c m) u v):=by
 have D:=(C.vx u hu).inn;have H:=(C.vx v L).inn;have I:=Z79 D H l A;have G:=Z78 (n:=n) l A;refine⟨⟨λk hk=>?_,I.one⟩,λd P E=>?_⟩
 ·by_cases e:k=m
  ·subst e;rw[G];grind
  exact I.le k J0
 refine YE λq=>?_;obtain⟨i,hi,ne⟩:∃ i,i<n/\d i≠0:=YE λz=>q λi hi=>YE λy=>z ⟨i,hi,y⟩;have r:∀ k,k<m->dq n (_b.crs n (c m) u v) (c k)=0->dq n d (c k)=0:=λk hk=>E k J0;obtain⟨t,tp,M,t',_⟩:=I.go B P r hi ne;have a:∀ f:Pt,dq n u f=dq n v f->dq n d f<=0:=λf g=>by
  obtain⟨w,N,J,K⟩:=M.corner B f;obtain⟨S,p,F⟩:=C.all w N;have cl:=Q S p λk hk z1 z2=>by
   rw[Yk F];exact J k hk (t' k hk ((L7 D H l A hk).mpr ⟨z1,z2⟩))
  have e:dq n w f=dq n u f:=by
   rw[<-Yk F];rcases cl with h | h
   ·exact Yk h
   rw[g];exact Yk h
  rw[Yy,Mz,g,e,g] at K;by_cases z:0<dq n d f
  ·have:=_root_.Rat.mul_pos tp z;grind
  grind
 have zero:∀ f:Pt,dq n u f=dq n v f->dq n d f=0:=λf g=>by
  have h1:=a f g;have o:∀ x:Pt,dq n x (λk=>(-1)*f k+0*f k)=-dq n x f:=λx=>by rw[Q2];grind
  have h2:=a (λk=>(-1)*f k+0*f k) (by rw[o,o,g]);rw[o] at h2;grind
 obtain⟨i0,h0,R⟩:∃ i,i<n/\u i≠v i:=by
  refine YE λz=>?_;have:dq n u (c m)=dq n v (c m):=Yk λk hk=>YE λy=>z ⟨k,hk,y⟩;grind
 have un:=B.un;have b:∀ j,j<n->(v i0 - u i0)*d j=(v j - u j)*d i0:=λj hj=>by
  have h:=zero (λk=>(v i0 - u i0)*c j k + -(v j - u j)*c i0 k) (by rw[Q2,Q2,un j hj,un i0 h0,un j hj,un i0 h0];grind);rw[Q2,un j hj,un i0 h0] at h;grind
 have O:=E m J0 G;have:(v i0 - u i0)*dq n d (c m)=(dq n v (c m) - dq n u (c m))*d i0:=by
  rw[<-Pk];unfold dq;rw[<-Ye,show ∀ z:QQ,z*d i0=d i0*z from λz=>ZQ,<-Ye];exact Zm λk hk=>by have:=b k hk;grind
 rw[O] at this;have s:d i0=0:=by
  have h:(dq n v (c m) - dq n u (c m))*d i0=0:=ZQ
  rcases _root_.Rat.mul_eq_zero.mp h with h | h
  ·grind
  exact h
 have:=b i hi;rw[s] at this;have h:(v i0 - u i0)*d i=0:=ZQ
 rcases _root_.Rat.mul_eq_zero.mp h with h | h
 ·exact R ZQ
 exact ne h
theorem Cors.kept (C:Cors n m c V)(f:v∈V)(h:dq n v (c m)<=0):Vx n (m+1) c v:=by
 have x:=C.vx v f;refine⟨⟨λk hk=>?_,x.inn.one⟩,λd a b=>x.st d a λk hk=>b k J0⟩;by_cases e:k=m
 ·subst e;exact h
 exact x.inn.le k J0
def Vx.along {g:QQ}(v:Vx n (m+1) c x)(a:sQ n d=0)(o:∀ k,k<m->dq n x (c k)=0->dq n d (c k)=0)(nd:dq n d (c m)≠0){b:Pt}(j:sQ n b=0)(f:∀ k,k<m->dq n x (c k)=0->dq n b (c k)=0)(l:g=dq n b (c m) / dq n d (c m)):∀ i,i<n->b i=g*d i:=by
 have e:g*dq n d (c m)=dq n b (c m):=by rw[l];grind
 have h:=v.st (λk=>b k + -g*d k) (by rw[Vg,j,a];grind) λk hk z=>by
  rw[Yy];by_cases q:k=m
  ·subst q;grind
  rw[f k J0 z,o k J0 z];grind
 intro i hi;have:=h i hi;grind
theorem Cors.new (B:Bnds n m c)(C:Cors n m c V)(X:Vx n (m+1) c x):(∃ v∈V,(∀ i,i<n->v i=x i)/\dq n v (c m)<=0) \/ ∃ u∈V,∃ v∈V,dq n u (c m)<0/\0<dq n v (c m)/\Near n m c V u v/\∀ i,i<n->crs n (c m) u v i=x i:=by
 have I:InP n m c x:=⟨λk hk=>X.inn.le k J0,X.inn.one⟩;by_cases st:Stuck n m c x
 ·obtain⟨v,L,ev⟩:=C.all x ⟨I,st⟩;exact .inl ⟨v,L,ev,by rw[Yk ev];exact X.inn.le m J0⟩
 refine .inr ?_;obtain⟨H,r,l,i,hi,D⟩:=Nb st;have Q:dq n x (c m)=0:=YE λq=>D (X.st H r (λk hk z=>by
  by_cases e:k=m
  ·subst e;exact absurd z q
  exact l k J0 z) i hi)
 have a0:dq n H (c m)≠0:=λq=>D (X.st H r (λk hk z=>by
  by_cases e:k=m
  ·subst e;exact q
  exact l k J0 z) i hi)
 obtain⟨d,A,E,ne,Y⟩:∃ d:Pt,sQ n d=0/\(∀ k,k<m->dq n x (c k)=0->dq n d (c k)=0)/\d i≠0/\0<dq n d (c m):=by
  by_cases p:0<dq n H (c m)
  ·exact⟨H,r,l,D,p⟩
  exact⟨λk=>-H k,by rw[Nq,r];grind,λk hk z=>by rw[Si,l k hk z];grind,ZQ,by rw[Si];grind⟩
 have nd:dq n d (c m)≠0:=ZQ
 have y:∀ k,k<m->dq n x (c k)=0->dq n (λk=>-d k) (c k)=0:=λk hk z=>by rw[Si,E k hk z];grind
 have a:∀ (b:Pt) (t:QQ),t≠0->(∀ k,b k=x k+t*d k)->InP n m c b->(∃ k,k<m/\dq n x (c k)≠0/\dq n b (c k)=0)->Vx n m c b:=λb t t0 eb Ib ⟨k,hk,nk,S⟩=>by
  refine⟨Ib,λG s' o=>?_⟩;have J:b=λk=>x k+t*d k:=funext eb;have sub:∀ k,k<m->dq n x (c k)=0->dq n G (c k)=0:=λk hk z=>o k hk (by rw[J,Yy,z,E k hk z];grind);have pr:=X.along A E nd s' sub rfl;have e1:=o k hk S;rw[Yk pr] at e1;have e2:dq n (λi=>dq n G (c m) / dq n d (c m)*d i) (c k)=dq n G (c m) / dq n d (c m)*dq n d (c k):=by
   have:=Yy (n:=n) (λ_=>0) d (c k) (dq n G (c m) / dq n d (c m));rw[show (λk=>(0:QQ)+dq n G (c m) / dq n d (c m)*d k)=λi=>dq n G (c m) / dq n d (c m)*d i by funext k;grind,show dq n (λ_=>0) (c k)=0 from Wc λk _=>ZQ] at this;grind
  rw[e2] at e1;have P:dq n d (c k)≠0:=λq=>by rw[J,Yy,q] at S;grind
  intro j hj;rw[pr j hj];rcases _root_.Rat.mul_eq_zero.mp e1 with h | h
  ·rw[h];grind
  exact absurd h P
 obtain⟨g,U,Z,a1,w1⟩:=I.go B A E hi ne;obtain⟨f,T,W,a2,w2⟩:=I.go B (d:=λk=>-d k) (by rw[Nq,A];grind) y hi ZQ;obtain⟨v,L,ev⟩:=C.all _ (a _ g ZQ (λ_=>rfl) Z w1);obtain⟨u,hu,K⟩:=C.all _ (a _ (-f) ZQ (λk=>ZQ) W w2);have O:∀ e,dq n v e=dq n x e+g*dq n d e:=λe=>by rw[Yk ev,Yy]
 have N:∀ e,dq n u e=dq n x e - f*dq n d e:=λe=>by rw[Yk K,Yy x λk=>-d k,Si];grind
 have R:dq n u (c m)<0:=by rw[N,Q];have:=_root_.Rat.mul_pos T Y;grind
 have lv:0<dq n v (c m):=by rw[O,Q];have:=_root_.Rat.mul_pos U Y;grind
 refine⟨u,hu,v,L,R,lv,λw hw o=>?_,λj hj=>?_⟩
 ·have M:=C.vx w hw;have sub:∀ k,k<m->dq n x (c k)=0->dq n (λk=>w k - x k) (c k)=0:=λk hk z=>by
   rw[Pk,z,o k hk (by rw[N,z,E k hk z];grind) (by rw[O,z,E k hk z];grind)];grind
  have pr:=X.along A E nd (by rw[Uu,M.inn.one,I.one];grind) sub rfl;generalize dq n (λk=>w k - x k) (c m) / dq n d (c m)=s at pr;have F:∀ k,k<n->w k=x k+s*d k:=λk hk=>by have:=pr k hk;grind
  have at_:∀ t:QQ,t=s->∀ k,k<n->w k=x k+t*d k:=λt e=>e ▸ F;by_cases e1:s=g
  ·exact .inr λk hk=>by rw[F k hk,ev k hk,e1]
  by_cases e2:s=-f
  ·exact .inl λk hk=>by rw[F k hk,K k hk,e2];grind
  exfalso;by_cases h1:g<s
  ·have V1:=(C.vx v L).congr ev;exact ne (V1.mid A (p:=s - g) (q:=g) ZQ U (M.inn.congr λk hk=>by rw[F k hk];grind) (I.congr λk hk=>ZQ) i hi)
  by_cases h2:s < -f
  ·have V2:=(C.vx u hu).congr K;exact ne (V2.mid A (p:=f) (q:=-f - s) T ZQ (I.congr λk hk=>ZQ) (M.inn.congr λk hk=>by rw[F k hk];grind) i hi)
  have V3:=M.congr F;exact ne (V3.mid A (p:=g - s) (q:=s+f) ZQ ZQ (Z.congr λk hk=>ZQ) (W.congr λk hk=>ZQ) i hi)
 obtain⟨t,t0,tl,et,e⟩:=Pn (n:=n) R lv;show u j+dq n u (c m) / (dq n u (c m) - dq n v (c m))*(v j - u j)=x j;rw[<-et];rw[N,O,Q] at e;have q:t*(g+f)=f:=by
  have:(t*(g+f) - f)*dq n d (c m)=0:=ZQ
  rcases _root_.Rat.mul_eq_zero.mp this with h | h
  ·grind
  exact absurd h nd
 have:=ev j hj;have:=K j hj;have:t*(v j - u j)=t*(g+f)*d j:=ZQ
 grind
theorem Cors.fresh (C:Cors n m c V)(hu:u∈V)(g:v∈V)(f:dq n u (c m)<0)(l:0<dq n v (c m)){w:Pt}(hw:w∈V):¬ ∀ i,i<n->w i=crs n (c m) u v i:=λh=>by
 obtain⟨t,j,tl,e,_⟩:=Pn (n:=n) f l;have W:=(C.vx w hw).congr h;have a:=(C.vx u hu).inn;have b:=(C.vx v g).inn;have:=W.mid (d:=λk=>v k - u k) (p:=1 - t) (q:=t) (by rw[Uu,a.one,b.one];grind) ZQ j (b.congr λk hk=>by show v k=u k+_*(v k - u k)+_;rw[<-e];grind) (a.congr λk hk=>by show u k=u k+_*(v k - u k)+_;rw[<-e];grind);have:dq n v (c m)=dq n u (c m):=Yk λk hk=>by have:=this k hk;grind
 grind
def Cors.apart (C:Cors n m c V){u' v':Pt}(hu:u∈V)(q:v∈V)(b:u'∈V)(a:v'∈V)(o:dq n u (c m)<0)(r:0<dq n v (c m))(j:dq n u' (c m)<0)(d:0<dq n v' (c m))(l:Near n m c V u v)(e:∀ i,i<n->crs n (c m) u v i=crs n (c m) u' v' i):(∀ i,i<n->u' i=u i)/\∀ i,i<n->v' i=v i:=by
 have p:=(C.vx u hu).inn;have s:=(C.vx v q).inn;have g:=(C.vx u' b).inn;have f:=(C.vx v' a).inn;have met:∀ k,k<m->dq n u (c k)=0->dq n v (c k)=0->dq n u' (c k)=0/\dq n v' (c k)=0:=λk hk z1 z2=>(L7 g f j d hk).mp (by rw[<-Yk e];exact (L7 p s o r hk).mpr ⟨z1,z2⟩);constructor
 ·rcases l u' b λk hk z1 z2=>(met k hk z1 z2).1 with h | h
  ·exact h
  have:dq n u' (c m)=dq n v (c m):=Yk h;grind
 rcases l v' a λk hk z1 z2=>(met k hk z1 z2).2 with h | h
 ·have:dq n v' (c m)=dq n u (c m):=Yk h;grind
 exact h
end
section
variable {P:TU}
inductive spUnder (K:TR) (vs:TZ) (H:Hp) (Q:VK) (_z3:XK):Prop
 | mk (a b:Addr) (p q r s:Int) (zz0:vs=[.ref a,.ref b]) (zz1:SqT K H a [.int p,.int q]) (zz2:SqT K H b [.int r,.int s]) (zz3:IntMulOk p s) (zz4:IntMulOk r q) (zz5:Q (.bl (decide (p*s<r*q))) H)
def Z3p (D:Def K mg "under" jT UG):Has P w K mg base 1 "under" UG (spUnder K):=by
 refine D.h9 (N:=UG) fsc λH Q hr h nd=>?_;obtain⟨a,b,p,q,r,s,rfl,c,hB,d,e,k⟩:=h;refine⟨_,(Zb (Zh (Yu Ud (Zl Zu (Zg Yq (pv 0) Za) (Zg Ym (pv 1) Za)) (Zl Zu (Zg Yq (pv 1) Za) (Zg Ym (pv 0) Za)) (Zp _)))),?_⟩;exact⟨_,rfl,_,_,_,rfl,rfl,c,_,rfl,_,_,_,rfl,rfl,hB,_,_,rfl,rfl,d,_,rfl,_,_,_,rfl,rfl,hB,_,rfl,_,_,_,rfl,rfl,c,_,_,rfl,rfl,e,_,_,rfl,rfl,k⟩
end
def Z22 {t u:Addr}{g:TG}{D:Ends}{σ:_L.St}(a:Nat->_L.St->Hp->Prop)(le:xs.length=ys.length)(h0:a 0 σ H)(hl:∀ i σ H,i<=xs.length->a i σ H->SqT K H t xs/\SqT K H u ys)
  (hs:∀ i x y σ H p,xs[i]?=some x->ys[i]?=some y->a i σ H->H p=none->g (.ref p) σ (upd H p (.tup [x,y])) λb H2=>tb { D with nx:=a (i+1),ct:=a (i+1),bk:=D.nx } b H2) (hd:∀ σ H,a xs.length σ H->D.nx σ H) :
  ∃ W:Nat->Nat->_L.St->Hp->Prop,(∃ m,W 0 m σ H)/\∀ i m σ H,W i m σ H →
   ((Itz K t u).stop i H/\D.nx σ H) \/ ((Itz K t u).go i H/\∃ N:_L.St->Hp->Prop,(∀ σ' H',N σ' H'->∃ h,h<m/\W (i+1) h σ' H')/\∀ x H',(Itz K t u).yld i H x H'->g x σ H' λb H2=>tb { D with nx:=N,ct:=N,bk:=D.nx } b H2):=by
 refine⟨λi m σ H=>m=xs.length - i/\i<=xs.length/\a i σ H,⟨xs.length,ZJ,JK _,h0⟩,?_⟩;rintro i m σ H ⟨rfl,hi,p⟩;obtain⟨f,d⟩:=hl i σ H hi p;by_cases c:i<xs.length
 ·refine .inr ⟨⟨xs,ys,f,d,c,J0⟩,a (i+1),λσ' H' n=>⟨xs.length - (i+1),J0,rfl,c,n⟩,λx H' y=>?_⟩;obtain⟨l,x0,y0,rfl,hp,rfl,j,k⟩:=y;exact hs i x0 y0 σ H l (j xs f) (k ys d) p hp
 have e:i=xs.length:=J0
 subst e;exact .inl ⟨⟨xs,ys,f,d,rfl⟩,hd σ H p⟩
section
variable {P:TU}
noncomputable def aheadR:List Rat->List Rat->Bool
 | r::rs,s::ss=>if r=s then aheadR rs ss else decide (r.1*s.2<s.1*r.2)
 | _,_=>false
def Ps {ss:UA}{r s:Rat}(h1:rs[i]?=some r)(h2:ss[i]?=some s):aheadR (rs.drop i) (ss.drop i)=if r=s then aheadR (rs.drop (i+1)) (ss.drop (i+1)) else decide (r.1*s.2<s.1*r.2):=by
 obtain⟨a,rfl⟩:=YG.mp h1;obtain⟨b,rfl⟩:=YG.mp h2;rw[Y0N a,Y0N b];rfl
inductive spAhead (K:TR) (vs:TZ) (H:Hp) (Q:VK) (_z3:XK):Prop
 | mk (a b:Addr) (rs ss:UA) (n:Nat) (zz0:vs=[.ref a,.ref b]) (zz1:RowAt K H a rs) (zz2:RowAt K H b ss) (zz3:rs.length=ss.length) (zz4:rs.length<=1000) (zz5:(∀ r∈rs,Good n r)) (zz6:(∀ r∈ss,Good n r)) (zz7:n<=200000) (zz8:∀ H',Same H H'->Q (.bl (aheadR rs ss)) H')
theorem Z4b (D:Def K mg "is_ahead" jC UG)(T:Blt mg)(E:Has P w K mg base 1 "under" UG (spUnder K)):Has P w K mg base 2 "is_ahead" UG (spAhead K):=by
 refine D.h9 (N:=["one","other","mine","theirs"]) fsc λH Q hr h nd=>?_;obtain⟨a,b,rs,ss,n,rfl,⟨xs,s,f⟩,⟨us,hB,d⟩,hl,A,C,gs,hn,k⟩:=h;have B:=zB (Fe hr);refine⟨_,(Z9 (Yw XS rfl (Z0n rfl T.zip (Z0 (pv 0) (Z0 (pv 1) Z8))) (W0 (n:=2) rfl (Y1 (Zi (i:=2) nd rfl (Or.inl rfl)) (Y1 (Zi (i:=3) nd rfl (Or.inl rfl)) Xg)))
   (Zb (Y9 (Zo (Z6h (K:=K) B) (pv 2) (pv 3) (Zp _))
    (Zb (Zh (Zf E hr (Z0 (pv 2) (Z0 (pv 3) Z8)))))
    Zw)))
  (Zb (Zh W7))),?_⟩
 have lx:=f.len;have F:=d.len;refine⟨_,rfl,_,rfl,a,b,rfl,⟨_,s⟩,⟨_,hB⟩,?_⟩;refine Z22 (K:=K) (xs:=xs) (ys:=us) (λi σ H'=>Same H H'/\aheadR rs ss=aheadR (rs.drop i) (ss.drop i)/\∃ x y,σ=[some (.ref a),some (.ref b),x,y]) J0 ⟨Same.refl H,rfl,none,none,rfl⟩ (λi σ H' _ h=>⟨Zx h.1 s,Zx h.1 hB⟩) ?_ ?_
 ·rintro i x y σ H1 p hx t ⟨S1,ea,x1,v,rfl⟩ hp;have u:SqT K (upd H1 p (.tup [x,y])) p [x,y]:=SqT.of Zc;have j:=S1.trans (Same.new (o:=.tup [x,y]) hp);obtain⟨r,q,a1,rfl,g⟩:=(Rs.ext f (Ext.same j)).back hx;obtain⟨s',es,b1,rfl,c⟩:=(Rs.ext d (Ext.same j)).back t;generalize upd H1 p (.tup [V.ref a1,V.ref b1])=G at *
  have m:=C r (YD q);have l:=gs s' (YD es);rw[Ps q es] at ea;refine⟨_,_,rfl,u,rfl,_,_,rfl,_,_,rfl,rfl,?_⟩;refine⟨_,rfl,_,rfl,a1,b1,[r.1,r.2],[s'.1,s'.2],rfl,rfl,g,c,?_⟩;refine⟨_,rfl,?_⟩;by_cases e:r=s'
  ·have e2:[r.1,r.2]=[s'.1,s'.2]:=by rw[e]
   rw[YH e] at ea;show if (!decide ([r.1,r.2]=[s'.1,s'.2]))=true then _ else _
   rw[XA e2];exact Xc ⟨j,ea,_,_,rfl⟩
  have e2:¬ [r.1,r.2]=[s'.1,s'.2]:=λz=>by
   injection z with z1 z2
   injection z2 with z2 _
   exact e (Y1U z1 z2)
  rw[YF e] at ea;show if (!decide ([r.1,r.2]=[s'.1,s'.2]))=true then _ else _
  rw[XF e2];refine V0 ⟨_,rfl,_,rfl,a1,b1,r.1,r.2,s'.1,s'.2,rfl,g,c,m.b1.mulOk l.b2 J0 J0,l.b1.mulOk m.b2 J0 J0,?_⟩;rw[<-ea];exact k _ j
 rintro σ H1 ⟨S1,ea,x1,v,rfl⟩;have e0:aheadR rs ss=false:=by rw[ea,Y08 J0];rfl
 rw[e0] at k;exact k H1 S1
end
end _b
namespace _b
open PySem
noncomputable abbrev lamP:Pos:=⟨114,28,114,94⟩
open PySem.Spec PyProof.Rows _L
noncomputable def Cw {K:TR}(h:X.K=K:=by rfl):CallR X (.builtin "len") (λxs H Q=>∃ p ys,xs=[V.ref p]/\(SqL K H p ys \/ SqT K H p ys)/\Q (V.int ↑ys.length) H):=h ▸ Zq
end _b
namespace _b
open PySem _L
def Yr {g:TG}{D:Ends}{σ:_L.St}(h:te σ H λx H1=>g x σ H1 D.nx):tAsg te g D σ H:=h
def L8 {t:TA}{σ:_L.St}{Q:List V->Hp->Prop}(h:te σ H λx H1=>t σ H1 λxs H2=>Q (x::xs) H2):tCons te t σ H Q:=h
def Z7a {r:List V->Hp->VK->Prop}{t:TA}{σ:_L.St}{Q:VK}(h:t σ H λvs H1=>r vs H1 Q):tCB r t σ H Q:=h
def Z5m {t:TA}{σ:_L.St}{Q:VK}(h:t σ H λxs H1=>xs.length<=sizeLine/\∀ l,H1 l=none->Q (.ref l) (upd H1 l (.lst xs))):tLst t σ H Q:=h
def Z0c {D:Ends}{σ:_L.St}(h:te σ H D.rt):tRet te D σ H:=h
def Z0u {p:Addr}{u:V}{σ:_L.St}{A B:_L.St->Hp->Prop}{t:TT}(hp:SqT K H p [u,v])(h:t ((σ.set 0 (some u)).set 1 (some v)) H λb H5=>if b=true then A ((σ.set 0 (some u)).set 1 (some v)) H5 else B ((σ.set 0 (some u)).set 1 (some v)) H5) :
  gTup K 2 (gCons (gName 0) (gCons (gName 1) gNil)) (.ref p) σ H λa c=>t a c λb H5=>if b=true then A a H5 else B a H5 :=
 ⟨p,[u,v],rfl,hp,rfl,u,[v],rfl,v,[],rfl,rfl,h⟩
section
variable {α:Type}
def Yj {d:Addr}{o:HO}(S:Same H H1)(hd:H d=none):Same H (upd H1 d o):=λb ob e=>by
 rw[Ze (Zd e hd)];exact S b ob e
def Yo {zs:List α}{z:α}(h:zs[i]?=some z):zs.take (i+1)=zs.take i++[z]:=by
 rw[GU,h];rfl
theorem Ve {l:Addr}{as:TJ}{zs:List α}{q:α->Bool}{k:Nat}{fv:List Nat}{σ:_L.St}{Q:VK}(R:Hp->Addr->α->Prop)(c:∀ H1 H2 a z,Ext H1 H2->R H1 a z->R H2 a z)
  (u:∀ G:VK,G (.ref l) H->tl σ H G) (hl:SqL K H l (as.map V.ref)) (hz:as.length<=1000) (hp:Paired (R H) as zs)
  (o:∀ (i:Nat) (a:Addr) (z:α) (H1:Hp) (G:Bool->Hp->Prop),as[i]?=some a->zs[i]?=some z->Same H H1->R H1 a z->(∀ H2,Same H1 H2->G (q z) H2)->tt ((comp0 k fv σ).set 0 (some (.ref a))) H1 G)
  (h0:((comp0 k fv σ).length≠0))
  (t:∀ (d:Addr) (H2:Hp) (bs:TJ),H d=none->Same H H2->H2 d=some (.lst (bs.map V.ref))->Paired (R H2) bs (zs.filter q)->(∀ b∈bs,b∈as)->Q (.ref d) H2) :
  tComp (iList K tl) (gName 0) tt (tVar 0) k fv σ H Q:=by
 refine u _ ⟨l,rfl,⟨_,hl⟩,λd hd=>?_⟩;have lp:=XB hp;refine⟨as.length,λi ys H2=>Same H H2/\∃ bs:List Addr,ys=bs.map V.ref/\Paired (R H2) bs ((zs.take i).filter q)/\∀ b∈bs,b∈as,YR hz J1,⟨Same.new hd,[],rfl,by simpa using Paired.nil,λb j=>by cases j⟩,?_,?_⟩
 ·rintro i ys H2 hi ⟨S2,bs,rfl,P2,s⟩ m;have p:=Xr S2 hl;have ea:as[i]?=some as[i]:=by simp[hi]
  have n:zs[i]?=some (zs[i]'J0):=ZJ
  generalize as[i]=a at ea;generalize (zs[i]'J0)=z at n;have ex:(as.map V.ref)[i]?=some (V.ref a):=by rw[YI,ea];rfl
  refine⟨⟨_,V.ref a,p,ex⟩,?_⟩;rintro x C ⟨rfl,B⟩;have e:=B _ p;rw[ex] at e
  cases e;refine Vy ?_;refine o i a z C _ ea n S2 (c _ _ _ _ (Ext.same S2) (Paired.getB hp ea n)) λw r=>?_;have g:=r _ _ m;have f:=S2.trans r;by_cases e:q z=true
  ·rw[e];have v:((comp0 k fv σ).set 0 (some (V.ref a)))[0]?=some (some (V.ref a)):=by
    rw[JG J0]
   refine V0 ⟨V.ref a,v,g,Yj f hd,bs++[a],ZJ,?_,?_⟩
   ·rw[Yo n,JV,JL,YH e,zm];have A:Ext w (upd w d (.lst (bs.map V.ref++[V.ref a]))):=Ext.upd g;exact Paired.appP (Paired.mapP P2 λb y h=>c _ _ _ _ ((Ext.same r).trans A) h) (.cons (c _ _ _ _ ((Ext.same f).trans A) (Paired.getB hp ea n)) .nil)
   intro b j;rcases XN.mp j with j | j
   ·exact s b j
   rw[XD.mp j];exact YD ea
  have e':q z=false:=by simpa using e
  rw[e'];refine Xc ⟨g,f,bs,rfl,?_,s⟩;rw[Yo n,JV,JL,YF e,zm,GN];exact Paired.mapP P2 λb y h=>c _ _ _ _ (Ext.same r) h
 rintro ys H2 ⟨S2,bs,rfl,P2,s⟩ m;rw[lp,JQ] at P2;exact⟨⟨_,Xr S2 hl,ZJ⟩,t d H2 bs hd S2 m P2 s⟩
end
open PySem.Spec PyProof.Rows
def Cd {x y:Str}{sc:Scope}(kind:sc.kind=.function)(co:sc.isCoroutine=false)(gen:sc.isGenerator=false)(ne:x≠y)(par:sc.names.lookup x=some .cell)(fre:sc.names.lookup y=some .free)
  (only:∀ p∈sc.names,p.2=.cell \/ p.2=.free->p.1=x \/ p.1=y) (cs:∀ n c,cellsFrom n sc.names [(y,c)]=[(x,n),(y,c)]) (pc:∀ h,pushCells h sc.names=h.push { cls:=.type "cell",data:=.cell none }):LamScope x y sc :=
 ⟨kind,co,gen,ne,par,fre,λz h=>h.elim (λh=>only _ (qo h) (.inl rfl)) (λh=>only _ (qo h) (.inr rfl)),cs,pc⟩
def DefC (K:TR)(mg:TB)(x:Str)(st:Stmt)(ps:TF)(cc:Addr):Prop :=
 ∃ (f:Addr) (fd:FuncData),Fun K x x st f fd/\mg x=some (.ref f)/\Binds K fd ps []/\fd.code=.ref cc
section
variable {P:TU}
def DefC.has {k:Nat}{x:Str}(D:DefC K mg x st ps cc)
  (h:∀ (f:Addr) (fd:FuncData),Fun K x x st f fd->fd.code=.ref cc->FnOk P w K mg base CX0 k f fd ps sp sr):Has P w K mg base k x ps sp sr:=by
 obtain⟨f,fd,F,hm,b,c⟩:=D;exact⟨f,fd,h f fd F c,hm,F.kp,b⟩
def Fun.okC {x:Str}{N:TF}{k:Nat}(F:Fun K x qual st f fd)(hc:fd.code=.ref cc)(S:FnScope N ps (defScope st))(len:∀ vs H Q E,sp vs H Q E->vs.length=ps.length)
  (a:∀ (A:Around) (outer:TN) (s:Shared) (H:Hp) (vs:TZ) (Q:VK) (E:XK),Room k (A.deeper (envOfC qual (defScope st) s.heap.objs.size f (.ref cc))) sr->sp vs H Q E →
   ∃ t,PSs (cxOf CX0 P w K mg base N qual (defScope st) f (.ref cc) A outer s H E).nox (defBody st) t/\t { nx:=λ_ H'=>Q .non H',rt:=Q } (start N vs) H):FnOk P w K mg base CX0 (k+1) f fd ps sp sr:=by
 obtain⟨oc,od,kV,doc,pm,an,cdv,ct,osl,rfl,lk,b⟩:=F.ex
 cases (show cdv=.ref cc from hc);refine Z5o lk b S len λA outer s H vs Q E hr c=>?_;obtain⟨t,h,q⟩:=a A outer s H vs Q E hr c;exact⟨t,h.nox,q⟩
theorem G9 (f:List Rat->Int):∀ (as:TJ) (rss:UB),as.length=rss.length->(rss.map f).zip (as.map V.ref)=(as.zip rss).map λq=>(f q.2,V.ref q.1)
 | [],[],_=>rfl
 | _::as,_::rss,h=>by
  have:=G9 f as rss (by simpa using h);simp only [GM,Y0H,this]
 | [],_::_,h=>by simp at h
 | _::_,[],h=>by simp at h
theorem Qn {α β:Type}{R:α->β->Prop}:∀ (L:List (α × β)),(∀ q∈L,R q.1 q.2)->Paired R (L.map Prod.fst) (L.map Prod.snd)
 | [],_=>.nil
 | q::L,h=>.cons (h q YV) (Qn L λz hz=>h z (YL _ hz))
theorem Qm {α β:Type}{R:α->β->Prop}:∀ {xs:List α} {ys:List β},Paired R xs ys->∀ {q:α × β},q∈xs.zip ys->R q.1 q.2
 | _,_,.nil,_,h=>by cases h
 | _,_,.cons r t,q,h=>by
  rcases YT.mp h with rfl | h
  ·exact r
  exact Qm t h
abbrev Tab1 (H:Hp)(T:Addr):Prop:=LamAt H T lamP (((("rising":Str)++".<locals>."))++"<lambda>")
noncomputable def cntR (rss:UB)(r:UA):Int:=((rss.filter λo=>aheadR o r).length:Nat)
inductive spRising (K:TR) (T:Addr) (vs:TZ) (H:Hp) (Q:VK) (_z3:XK):Prop
 | mk (l:Addr) (as:TJ) (rss:UB) (c n:Nat) (zz0:vs=[.ref l]) (zz1:H l=some (.lst (as.map V.ref))) (zz2:Paired (RowAt K H) as rss) (zz3:rss.length<64) (zz4:∀ r∈rss,r.length=c) (zz5:c<=1000) (zz6:∀ r∈rss,∀ x∈r,Good n x) (zz7:n<=200000) (zz8:Tab1 H T)
  (zz9:∀ (d:Addr) (H':Hp) (as':TJ) (rss':UB),H d=none->SameX T H H'->Tab1 H' T->H' d=some (.lst (as'.map V.ref))->Paired (RowAt K H') as' rss'->rss'.Perm rss->rss'.Pairwise (λa b=>cntR rss a<=cntR rss b)->Q (.ref d) H')
def Li:FnScope ["rows"] ["rows"] (defScope jH):=fsc
theorem Z14 {T:Addr}(D:DefC K mg "rising" jH ["rows"] cc)(T0:Blt mg)(U:mg "sorted"=none)(KB:K.In base)(hcc:W.codeHdIn K cc T=true)(hB:BltIn mg base)(gK:Has P w K mg base 2 "is_ahead" UG (spAhead K)) :
  Has P w K mg base 6 "rising" ["rows"] (spRising K T):=by
 refine D.has λf fd F hc=>_b.Fun.okC F hc Li (λvs H Q E h=>?_) (λA outer s H vs Q E hr h=>?_)
 ·obtain⟨l,as,rss,c,n,rfl,_⟩:=h;rfl
 obtain⟨l,as,rss,c,n,rfl,hl,hp,a1,m,J,hg,hn,hT,k⟩:=h;have sc:=Li;have R:(["other","row"]:List Str).Nodup:=ZZ
 refine⟨_,Zb (Zh (Z0p (x:="row") (y:="rows") (k:=2) (iy:=0) (c:=s.heap.objs.size+1) (cc:=cc) (P:=T) ?S hr rfl U (pv 0) rfl rfl rfl rfl rfl rfl (W.codeHd_of_K KB hcc) hB rfl (λ_ _ _ _ _=>rfl) (λA' B s' H' f' c' Y=>Zt (Cw (K:=K)) rfl T0.len GL (Z0 (Yd (ox:=none) (N:=["other","row"]) (k:=1) (fv:=[0]) rfl (Lq (K:=K) (pv 1))
   (λ_ _ _ _ _=>Zi (i:=0) R rfl xj) (λ_ _ _ _ _=>Xs (Yp (Md gK (Y.mono J1) rfl (Z0 (pv 0) (Z0 (pv 1) Z8))))) (λ_ _ _ _ _=>(pv 0)) Zv) Z8)))),?_⟩
 case S=>exact Cd rfl rfl rfl J1 rfl rfl ZZ (λ_ _=>rfl) (λ_=>rfl)
 have lp:=XB hp;obtain⟨a0,t⟩:=hT.tbl;refine⟨_,rfl,l,as.map V.ref,rss.map (cntR rss),.ref l,rfl,hl,by simp[lp],by rw[YB];omega,rfl,hT,?_,?_⟩
 ·intro i x kk H' hx hk S1;have hi:i<as.length:=by have:=(YG.mp hx).1;simpa using this
  have ea:as[i]?=some as[i]:=by simp[hi]
  have v:rss[i]?=some (rss[i]'J0):=ZJ
  generalize as[i]=a at ea;generalize (rss[i]'J0)=r at v;rw[YI,ea] at hx;rw[YI,v] at hk
  cases hx
  cases hk;have nT:∀ b u,H b=some u->(∀ q,u≠.tbl q)->b≠T:=λb u e n z=>by rw[z,t] at e;cases e;exact n _ rfl
  have O:Ext H H':=⟨λb xs e=>S1 b _ e (nT b _ e λq z=>nomatch z),λb o u e=>S1 b _ e (nT b _ e λq z=>nomatch z)⟩;have I:H' l=some (.lst (as.map V.ref)):=S1 l _ hl (nT l _ hl λq z=>nomatch z);have P1:=Y0 hp O;have mr:r∈rss:=YD v;refine Z7a (L8 ?_);refine Ve (K:=K) (α:=List Rat) (tl:=tVar 1) (tt:=tB (tCall (spAhead K) [] E0 (tCons (tVar 0) (tCons (tVar 1) tNil)))) (k:=1) (fv:=[0]) (σ:=[some (V.ref a),some (V.ref l)]) (H:=H') (l:=l) (as:=as) (zs:=rss) (q:=λo=>aheadR o r) (λH' a r=>RowAt K H' a r) (λ_ _ _ _ e h=>h.ext e) (λG g=>⟨_,rfl,g⟩) (SqL.of I) J0 P1 (λj b o H2 G eb eo S2 hb hG=>?_) (by simp[comp0]) λd H2 bs hd S2 X P2 _=>?_
  ·have C:o∈rss:=YD eo;exact⟨_,rfl,_,rfl,b,a,o,r,n,rfl,hb,((Paired.getB P1 ea v).ext (Ext.same S2)),by rw[m o C,m r mr],by rw[m o C];exact J,hg o C,hg r mr,hn,λH3 S3=>⟨_,rfl,hG H3 S3⟩⟩
  refine⟨d,bs.map V.ref,rfl,.inl (SqL.of X),?_,S2⟩;rw[YB,XB P2];rfl
 intro d H' ys S1 p hd so;obtain⟨ps,pp,rfl,po⟩:=so;have nT:∀ b u,H b=some u->(∀ q,u≠.tbl q)->b≠T:=λb u e n z=>by rw[z,t] at e;cases e;exact n _ rfl
 have O:Ext H H':=⟨λb xs e=>S1 b _ e (nT b _ e λq z=>nomatch z),λb o u e=>S1 b _ e (nT b _ e λq z=>nomatch z)⟩;have P1:=Y0 (Y0 hp O) (Ext.new (o:=.lst (ps.map Prod.snd)) hd);obtain⟨L,pL,Z⟩:=Lu pp _ (G9 (cntR rss) as rss lp);rw[Z] at po;rw[GV] at po;have e1:ps.map Prod.snd=(L.map Prod.fst).map V.ref:=by rw[Z,qm,qm];rfl
 have M:H d=none:=YE λz=>by
  obtain⟨u,e⟩:=Option.ne_none_iff_exists'.mp z;by_cases y:d=T
  ·obtain⟨ps,h⟩:=p.tbl;rw[y,h] at hd;cases hd
  rw[S1 d u e y] at hd;cases hd
 refine k d _ (L.map Prod.fst) (L.map Prod.snd) M ?_ (p.same (Same.new hd)) (by rw[e1,Zc]) ?_ ?_ ?_
 ·intro b o e n;by_cases z:b=d
  ·have q:=S1 b o e n;rw[z,hd] at q
   cases q
  rw[Ze z];exact S1 b o e n
 ·refine Qn L λq hq=>?_;exact Qm P1 (pL.mem_iff.mp hq)
 ·have:=pL.map Prod.snd
  rwa [List.map_snd_zip J0] at this
 rw[GV];exact po
inductive spMeanW (K:TR) (vs:TZ) (H:Hp) (Q:VK) (_z3:XK):Prop
 | mk (a b:Addr) (xs us:TZ) (ws rs:UA) (n n':Nat) (D D':Int) (Ws Zs:TV) (zz0:vs=[.ref a,.ref b]) (zz1:(SqL K H a xs \/ SqT K H a xs)) (zz2:Rs K H ws xs) (zz3:(SqL K H b us \/ SqT K H b us)) (zz4:Rs K H rs us) (zz5:ws.length=rs.length) (zz6:rs.length<=1000) (zz7:RepL n D Ws ws) (zz8:RepL n' D' Zs rs) (zz9:n<=200000) (zz10:n'<=200000) (zz11:n+n'+10<=400000) (zz12:∀ c H',Same H H'->SqT K H' c [.int (sumR (List.zipWith mulR' ws rs)).1,.int (sumR (List.zipWith mulR' ws rs)).2]->Q (.ref c) H')
theorem Z40 (D:Def K mg "mean" kG VG)(T:Blt mg)(F:Z3 P w K mg base)(I:Has P w K mg base 1 "whole_by" UY (spWholeBy K))(X:Has P w K mg base 3 "ratio" UH spLowest):Has P w K mg base 4 "mean" VG (spMeanW K):=by
 refine D.h9 (N:=["weights","row","mine","theirs","products"]) fsc λH Q hr h nd=>?_;obtain⟨a,b,xs,us,ws,rs,n,n',D,D',Ws,Zs,rfl,J,v,hB,s,hl,m,r,rr,hn,u,O,k⟩:=h;have t:(UG:List Str).Nodup:=ZZ
 refine⟨_,(Z9 (Zj (i:=2) nd rfl (Or.inl rfl) (Zf F hr (Z0 (pv 0) Z8)))
  (Z9 (Zj (i:=3) nd rfl (Or.inl rfl) (Zf F hr (Z0 (pv 1) Z8)))
  (Z9 (Xa (i:=4) (ox:=none) (N:=UG) (k:=2) (fv:=[]) nd rfl xj rfl (Mc rfl T.zip (Z0 (Zf I hr (Z0 (pv 0) (Z0 (pv 2) Z8))) (Z0 (Zf I hr (Z0 (pv 1) (Z0 (pv 3) Z8))) Z8)))
  (λ_ _ _ _ _=>W0 (n:=2) rfl (Y1 (Zi (i:=0) t rfl (Or.inl rfl)) (Y1 (Zi (i:=1) t rfl (Or.inl rfl)) Xg))) (λ_ _ _ _ _=>Y8) (λ_ _ _ _ _=>(Zl Zu (pv 0) (pv 1))) Xw)
  (Zb (Zh (Zf X hr (Z0 (Zt (Sk (K:=K) rfl) rfl T.sum Y0c (Z0 (pv 4) Z8)) (Z0 (Zl Zu (pv 2) (pv 3)) Z8)))))))),?_⟩
 have l:=r.least;have j:=rr.least;refine⟨_,rfl,a,xs,ws,n,D,Ws,rfl,J,v,r,hn,?_⟩;refine⟨_,rfl,b,us,rs,n',D',Zs,rfl,hB,s,rr,u,?_⟩;refine⟨_,rfl,_,rfl,a,_,xs,ws,n,rfl,J,v,l.good,l.bD,l.pos,hn,J0,λd1 H1 f1 S1 e1=>?_⟩;have y:SqL K H1 b us \/ SqT K H1 b us:=hB.elim (λz=>.inl (Xr S1 z)) λz=>.inr (Zx S1 z);refine⟨_,rfl,_,rfl,b,_,us,rs,n',rfl,y,s.ext (Ext.same S1),j.good,j.bD,j.pos,u,m,λd2 H2 f2 S2 e2=>?_⟩;replace e1:=S2 _ _ e1;refine⟨d1,d2,rfl,⟨_,SqL.of e1⟩,⟨_,SqL.of e2⟩,λd hd=>?_⟩;have ll:(wholeB ws (lcmB ws)).length=rs.length:=by rw[l.len,hl]
 have a0:(wholeB rs (lcmB rs)).length=rs.length:=j.len;generalize hX:wholeB ws (lcmB ws)=As at *
 generalize hY:wholeB rs (lcmB rs)=Bs at *
 have U:∀ z∈As,Bd n z:=λz hz=>by
  obtain⟨i,hi⟩:=XQ hz;have hl':i<As.length:=(YG.mp hi).1;exact (l.at_ i z (ws[i]'J0) hi ZJ).2.1
 have Z:∀ z∈Bs,Bd n' z:=λz hz=>by
  obtain⟨i,hi⟩:=XQ hz;have hl':i<Bs.length:=(YG.mp hi).1;exact (j.at_ i z (rs[i]'J0) hi ZJ).2.1
 refine⟨rs.length,λi ys E=>Same H2 E/\ys=((List.zipWith (·*·) As Bs).take i).map V.int,Zz m,⟨Same.new hd,rfl⟩,?_,?_⟩
 ·rintro i ys E hi ⟨g,rfl⟩ f;refine⟨⟨_,_,SqL.of (g _ _ e1),SqL.of (g _ _ e2),by rw[YB];omega,by rw[YB];omega⟩,?_⟩;rintro x G ⟨p,x0,y0,rfl,hp,rfl,L,M⟩;have ea:As[i]?=some (As[i]'J0):=ZJ
  have eb:Bs[i]?=some (Bs[i]'J0):=ZJ
  have A:x0=V.int (As[i]'J0):=by
   have:=L _ (SqL.of (g _ _ e1));rw[YI,ea] at this;exact (YU this).symm
  have C:y0=V.int (Bs[i]'J0):=by
   have:=M _ (SqL.of (g _ _ e2));rw[YI,eb] at this;exact (YU this).symm
  subst A C;refine T9 (SqT.of Zc) ?_;have B:d≠p:=Zd f hp;refine⟨_,rfl,_,rfl,_,_,rfl,rfl,(U _ (XR _)).mulOk (Z _ (XR _)) J0 J0,by rw[Ze B];exact f,λq o e=>?_,?_⟩
  ·have:=g _ _ e;rw[Ze (Zd e hd),Ze (Zd this hp)];exact this
  have:(List.zipWith (·*·) As Bs)[i]?=some (As[i]'J0*Bs[i]'J0):=by rw[GI,ea,eb]
  rw[Yl this,XH];rfl
 rintro ys E ⟨g,rfl⟩ f;rw[YZ (by rw[JW];omega)] at f;refine⟨⟨_,_,SqL.of (g _ _ e1),SqL.of (g _ _ e2),by rw[YB];omega⟩,?_⟩;refine⟨_,rfl,d,_,rfl,SqL.of f,_,rfl,_,rfl,_,_,rfl,rfl,l.bD.mulOk j.bD J0 J0,_,_,rfl,by have:=XU l.pos j.pos;omega,(l.bD.mul j.bD).log J0,λc G f4 W R=>?_⟩;have Y:=Z4i l j hl;have S:sumR (List.zipWith mulR' ws rs)=nrm (List.zipWith (·*·) As Bs).sum (lcmB ws*lcmB rs):=Y.symm;refine k c G (((S1.trans S2).trans g).trans W) ?_;rw[S];exact SqT.of R
noncomputable def natL (us:List Nat):List V:=us.map λk=>V.int ((k:Nat):Int)
noncomputable def touR (ess:UB)(r:UA):List Nat:=(List.range ess.length).filter λk=>decide (mn r (ess.getD k [])=(0,1))
def MeanOk (r e:UA):Prop:=r.length=e.length/\r.length<=1000/\∃ n n' D D' Ws Zs,RepL n D Ws r/\RepL n' D' Zs e/\n+n'+10<=200000
inductive spTouched (K:TR) (vs:TZ) (H:Hp) (Q:VK) (_z3:XK):Prop
 | mk (l a:Addr) (as:TJ) (ess:UB) (r:UA) (zz0:vs=[.ref l,.ref a]) (zz1:H l=some (.lst (as.map V.ref))) (zz2:Paired (RowAt K H) as ess) (zz3:RowAt K H a r) (zz4:ess.length<=1000) (zz5:∀ e∈ess,MeanOk r e)
  (zz6:∀ (d:Addr) (H':Hp),H d=none->Same H H'->H' d=some (.lst (natL (touR ess r)))->Q (.ref d) H')
theorem Dp (D:Def K mg "touched" i7 VH)(T:Blt mg)(O:Has P w K mg base 4 "mean" VG (spMeanW K))(R:Con K mg "NOUGHT" (0,1)):Has P w K mg base 5 "touched" VH (spTouched K):=by
 refine D.h9 (N:=VH) fsc λH Q hr h nd=>?_;obtain⟨l,a,as,ess,r,rfl,hl,hp,Z,hz,hm,k⟩:=h;have Y:=zB (Fe hr);obtain⟨c,g,f⟩:=R;have t:(["place","edge","corner"]:List Str).Nodup:=ZZ
 refine⟨_,(Zb (Zh (Yd (ox:=none) (N:=["place","edge","corner"]) (k:=2) (fv:=[1]) rfl (T7 rfl T.enumerate (Z0 (pv 0) Z8))
  (λ_ _ _ _ _=>W0 (n:=2) rfl (Y1 (Zi (i:=0) t rfl (Or.inl rfl)) (Y1 (Zi (i:=1) t rfl (Or.inl rfl)) Xg))) (λ_ _ _ _ _=>Xs (Zo (Jd (K:=K) Y) (Zf O hr (Z0 (pv 2) (Z0 (pv 1) Z8))) (Xb (v:=.ref c) rfl g rfl) (Zp _))) (λ_ _ _ _ _=>(pv 0)) Xw))),?_⟩
 have lp:=XB hp;refine Z0c ?_;refine⟨_,rfl,l,rfl,⟨_,SqL.of hl⟩,λd hd=>?_⟩;refine⟨as.length,λi ys H2=>Same H H2/\ys=natL ((List.range i).filter λk=>decide (mn r (ess.getD k [])=(0,1))),YR (show as.length<=1000 by omega) J1,⟨Same.new hd,rfl⟩,?_,?_⟩
 ·rintro i ys H2 hi ⟨S2,rfl⟩ j;have m:=S2 _ _ hl;refine⟨⟨_,SqL.of m,by simpa using hi⟩,?_⟩;rintro x W ⟨p,x0,rfl,q,rfl,E⟩;have ea:as[i]?=some as[i]:=by simp[hi]
  have ee:ess[i]?=some (ess[i]'J0):=ZJ
  have A:ess.getD i []=ess[i]'J0:=by simp[List.getD,show i<ess.length by omega]
  have eb:=Paired.getB hp ea ee;have C:=hm _ (YD ee);rw[<-A] at eb C;have ex:x0=V.ref as[i]:=by
   have:=E _ (SqL.of m);rw[YI,ea] at this;exact (YU this).symm
  subst ex;generalize as[i]=b at *
  have u:=S2.trans (Same.new (o:=.tup [V.int ((i:Nat):Int),V.ref b]) q);have y:(upd H2 p (.tup [V.int ((i:Nat):Int),V.ref b])) d=_:=(Same.new (o:=.tup [V.int ((i:Nat):Int),V.ref b]) q) _ _ j;have I:SqT K (upd H2 p (.tup [V.int ((i:Nat):Int),V.ref b])) p [V.int ((i:Nat):Int),V.ref b]:=SqT.of Zc;generalize upd H2 p (.tup [V.int ((i:Nat):Int),V.ref b])=W at *
  obtain⟨J,qb,U⟩:=eb.ext (Ext.same u);obtain⟨M,qa,F⟩:=Z.ext (Ext.same u);obtain⟨G,m2,n,n',L,D2,Ws,Zs,r1,r2,m3⟩:=C;refine Z0u I ?_;refine⟨_,rfl,_,rfl,a,b,M,J,r,ess.getD i [],n,n',L,D2,Ws,Zs,rfl,.inr qa,F,.inr qb,U,G,J0,r1,r2,J0,J0,J0,λX H4 B S=>?_⟩;refine⟨X,c,[_,_],[0,1],rfl,rfl,S,f _,_,rfl,?_⟩;have e1:decide ([(sumR (List.zipWith mulR' r (ess.getD i []))).1,(sumR (List.zipWith mulR' r (ess.getD i []))).2]=[0,1])=decide (mn r (ess.getD i [])=(0,1)):=by
   rw[zP];constructor
   ·intro z;injection z with z1 z2
    injection z2 with z2 _
    exact Y1U z1 z2
   intro z;show [(mn r (ess.getD i [])).1,(mn r (ess.getD i [])).2]=_;rw[z]
  show if decide _=true then _ else _
  rw[e1];have s:=B _ _ y;have ru:(List.range (i+1)).filter (λk=>decide (mn r (ess.getD k [])=(0,1)))=(List.range i).filter (λk=>decide (mn r (ess.getD k [])=(0,1)))++(if decide (mn r (ess.getD i [])=(0,1))=true then [i] else []):=by
   rw[GG,JV,JL,zm]
  by_cases e:mn r (ess.getD i [])=(0,1)
  ·rw[XA e];refine V0 ⟨_,rfl,s,Yj (u.trans B) hd,?_⟩;rw[ru,XA e,YH rfl];unfold natL;rw[XH];rfl
  rw[XF e];refine Xc ⟨s,u.trans B,?_⟩;rw[ru,XF e,YF YO,GN]
 rintro ys H2 ⟨S2,rfl⟩ j;refine⟨⟨_,SqL.of (S2 _ _ hl),ZJ⟩,k d H2 hd S2 ?_⟩;rw[j,lp];rfl
theorem Z6l (D:Def K mg "plus" kE UG)(e:Z4 P w K mg base):Has P w K mg base 3 "plus" UG (spTwo K addR):=by
 refine D.h9 (N:=UG) fsc λH Q hr h nd=>?_;obtain⟨a,b,r,s,n,rfl,d,hB,c,gs,hn,k⟩:=h;refine⟨_,(Zb (Zh (Zf e hr (Z0 (Zl X6 (Zl Zu (Zg Yq (pv 0) Za) (Zg Ym (pv 1) Za)) (Zl Zu (Zg Yq (pv 1) Za) (Zg Ym (pv 0) Za))) (Z0 (Zl Zu (Zg Ym (pv 0) Za) (Zg Ym (pv 1) Za)) Z8))))),?_⟩;exact⟨_,rfl,_,_,_,rfl,rfl,d,_,rfl,_,_,_,rfl,rfl,hB,_,_,rfl,rfl,c.b1.mulOk gs.b2 J0 J0,_,rfl,_,_,_,rfl,rfl,hB,_,rfl,_,_,_,rfl,rfl,d,_,_,rfl,rfl,gs.b1.mulOk c.b2 J0 J0,_,_,rfl,rfl,_,rfl,_,_,_,rfl,rfl,d,_,rfl,_,_,_,rfl,rfl,hB,_,_,rfl,rfl,c.b2.mulOk gs.b2 J0 J0,_,_,rfl,Wl c.pos gs.pos,W4 c.b2 gs.b2 hn,k⟩
inductive spAdded (K:TR) (vs:TZ) (H:Hp) (Q:VK) (_z3:XK):Prop
 | mk (a b:Addr) (rs ss:UA) (n:Nat) (zz0:vs=[.ref a,.ref b]) (zz1:RowAt K H a rs) (zz2:RowAt K H b ss) (zz3:rs.length=ss.length) (zz4:rs.length<=1000) (zz5:(∀ r∈rs,Good n r)) (zz6:(∀ r∈ss,Good n r)) (zz7:n<=200000) (zz8:∀ c H' ys,Same H H'->H' c=some (.tup ys)->Rs K H' (List.zipWith addR rs ss) ys->Q (.ref c) H')
def Gg:FnScope UG UG (defScope j9):=fsc
theorem Z4c (D:Def K mg "added" j9 UG)(T:Blt mg)(S:Has P w K mg base 3 "plus" UG (spTwo K addR)):Has P w K mg base 4 "added" UG (spAdded K):=by
 refine D.has λf fd F=>F.ok Gg (λvs H Q E h=>?_) (λcdv A outer s H vs Q E hr h=>?_)
 ·obtain⟨a,b,rs,ss,n,rfl,_⟩:=h;rfl
 obtain⟨a,b,rs,ss,n,rfl,⟨xs,v,m⟩,⟨us,hB,j⟩,hl,y,R,gs,hn,k⟩:=h;have sc:=Gg;have nd:(["mine","theirs"]:List Str).Nodup:=ZZ
 refine⟨_,(Zb (Zh (Y7 Yc rfl T.tuple XV (Z0 (Yd (ox:=none) (N:=["mine","theirs"]) (k:=2) (fv:=[]) rfl (Z0n rfl T.zip (Z0 (pv 0) (Z0 (pv 1) Z8)))
  (λ_ _ _ _ _=>W0 (n:=2) rfl (Y1 (Zi (i:=0) nd rfl (Or.inl rfl)) (Y1 (Zi (i:=1) nd rfl (Or.inl rfl)) Xg))) (λ_ _ _ _ _=>Y8) (λ_ _ _ _ _=>Md S (hr.mono J1) rfl (Z0 (pv 0) (Z0 (pv 1) Z8))) Xw) Z8)))),?_⟩
 refine⟨_,rfl,_,rfl,a,b,rfl,⟨_,v⟩,⟨_,hB⟩,λd hd=>?_⟩;have lx:=m.len;have W:=j.len;refine⟨rs.length,λi ys H2=>Same H H2/\Rs K H2 (zipR addR rs ss i) ys,Zz y,⟨Same.new hd,.nil⟩,?_,?_⟩
 ·rintro i ys H2 hi ⟨S2,R2⟩ g;refine⟨⟨xs,us,Zx S2 v,Zx S2 hB,J0,J0⟩,?_⟩;rintro x X ⟨p,x0,y0,rfl,hp,rfl,L,M⟩;obtain⟨r,J,U⟩:=m.back (L xs (Zx S2 v));obtain⟨s',es,iy⟩:=j.back (M us (Zx S2 hB));obtain⟨a1,rfl,G⟩:=U.ext ((Ext.same S2).trans (Ext.new (o:=.tup [x0,y0]) hp));obtain⟨b1,rfl,z⟩:=iy.ext ((Ext.same S2).trans (Ext.new (o:=.tup [.ref a1,y0]) hp));refine T9 (SqT.of Zc) ?_;refine⟨_,rfl,_,rfl,a1,b1,r,s',n,rfl,G,z,R r (YD J),gs s' (YD es),hn,λc u Y B O=>?_⟩;have C:d≠p:=Zd g hp;have t:u d=some (.lst ys):=B _ _ (by rw[Ze C];exact g);have V:Ext H2 u:=(Ext.new hp).trans (Ext.same B);have I:Ext u (upd u d (.lst (ys++[.ref c]))):=Ext.upd t;refine⟨t,λq o e=>?_,?_⟩
  ·rw[Ze (Zd e hd)];exact B _ _ (by rw[Ze (Zd (S2 _ _ e) hp)];exact S2 _ _ e)
  rw[Fs addR J es];exact (R2.ext (V.trans I)).snoc ⟨c,rfl,I.sq (SqT.of O)⟩
 rintro ys H2 ⟨S2,R2⟩ g;refine⟨⟨xs,us,Zx S2 v,Zx S2 hB,lx⟩,d,ys,rfl,.inl ⟨SqL.of g,λl hl'=>?_⟩⟩;rw[B0 addR rfl hl.symm] at R2;exact k l _ ys (S2.trans (Same.new hl')) Zc (R2.ext (Ext.new hl'))
end
end _b
namespace _b
open PySem _L
noncomputable def parR (r s:Rat):Rat:=nrm (r.1*s.2) (r.2*s.1)
def Q0 {r s:Rat}(hr:0<r.2)(hs:s.1≠0):r.2*s.1≠0:=Y1n J0 hs
def Ql {n m:Nat}{r s:Rat}(h:Good n r)(k:Good m s)(h0:s.1≠0):Good (n+m) (parR r s):=Vw (h.b1.mul k.b2) (h.b2.mul k.b1) (Q0 h.pos h0)
def U7 {n m:Nat}{r s:Rat}(h:Good n r)(k:Good m s):Good (n+m) (mulR' r s):=Vw (h.b1.mul k.b1) (h.b2.mul k.b2) (zW (XU h.pos k.pos))
def Tr {n m:Nat}{r s:Rat}(h:Good n r)(k:Good m s):Good (n+m+1) (subR r s):=by
 have a:=h.b1.mul k.b2;have b:=k.b1.mul h.b2;rw[Y1Q m n] at b;exact Vw (Bd.sub a b) ((h.b2.mul k.b2).mono J0) (zW (XU h.pos k.pos))
noncomputable def byR (one other row:UA):Rat:=parR (mn one row) (subR (mn one row) (mn other row))
noncomputable def crR (one other row:UA):List Rat:=List.zipWith addR (one.map λr=>mulR' r (subR (1,1) (byR one other row))) (other.map λr=>mulR' r (byR one other row))
def Ml {n n':Nat}{D':Int}{r e:UA}(h:RepL n D Ws r)(k:RepL n' D' Zs e)(hl:r.length=e.length)(a:r.length<=1000):Good (n+n'+10) (mn r e):=(h.mul k hl).sumGood (k:=10) (by rw[JW];omega)
section
variable {P:TU}
inductive spPart0 (K:TR) (vs:TZ) (H:Hp) (Q:VK) (_z3:XK):Prop
 | mk (a b:Addr) (r s:Rat) (n:Nat) (zz0:vs=[.ref a,.ref b]) (zz1:SqT K H a [.int r.1,.int r.2]) (zz2:SqT K H b [.int s.1,.int s.2]) (zz3:Good n r) (zz4:Good n s) (zz5:n<=200000) (zz6:s.1≠0) (zz7:∀ c H',H c=none->Same H H'->H' c=some (.tup [.int (parR r s).1,.int (parR r s).2])->Q (.ref c) H')
theorem Z3w (D:Def K mg "parted" i8 UG)(e:Z4 P w K mg base):Has P w K mg base 3 "parted" UG (spPart0 K):=by
 refine D.h9 (N:=UG) fsc λH Q hr h nd=>?_;obtain⟨a,b,r,s,n,rfl,d,hB,c,gs,hn,h0,k⟩:=h;refine⟨_,(Z9 (Y9 (Zo Xp (Zg Yq (pv 1) Za) Za (Zp _))
   (Zb Qi)
   Zw)
  (Zb (Zh (Zf e hr (Z0 (Zl Zu (Zg Yq (pv 0) Za) (Zg Ym (pv 1) Za)) (Z0 (Zl Zu (Zg Ym (pv 0) Za) (Zg Yq (pv 1) Za)) Z8)))))),?_⟩
 refine⟨_,rfl,b,_,_,rfl,rfl,hB,rfl,_,rfl,Qz (λz=>h0 (V.int.inj z)) ?_⟩;exact⟨_,rfl,_,_,_,rfl,rfl,d,_,rfl,_,_,_,rfl,rfl,hB,_,_,rfl,rfl,c.b1.mulOk gs.b2 J0 J0,_,rfl,_,_,_,rfl,rfl,d,_,rfl,_,_,_,rfl,rfl,hB,_,_,rfl,rfl,c.b2.mulOk gs.b1 J0 J0,_,_,rfl,Q0 c.pos h0,W4 c.b2 gs.b1 hn,k⟩
inductive spCrossing (K:TR) (vs:TZ) (H:Hp) (Q:VK) (_z3:XK):Prop
 | mk (a b e:Addr) (one other row:UA) (n:Nat) (D D' D2:Int) (Ws Us Zs:TV) (zz0:vs=[.ref a,.ref b,.ref e]) (zz1:RowAt K H a one) (zz2:RowAt K H b other) (zz3:RowAt K H e row) (zz4:one.length=row.length) (zz5:other.length=row.length) (zz6:row.length<=1000) (zz7:RepL n D Ws one) (zz8:RepL n D' Us other) (zz9:RepL n D2 Zs row) (zz10:n<=20000) (zz11:(subR (mn one row) (mn other row)).1≠0)
  (zz12:∀ c H',Same H H'->RowAt K H' c (crR one other row)->Q (.ref c) H')
theorem Jg (D:Def K mg "crossing" i3 VI)(U:Has P w K mg base 4 "mean" VG (spMeanW K))(L:Has P w K mg base 3 "minus" UG (spTwo K subR))(gS:Has P w K mg base 3 "parted" UG (spPart0 K))(iE:Has P w K mg base 4 "added" UG (spAdded K))(V:Has P w K mg base 4 "multiplied" ["row","by"] (spMultiplied K))(iA:Con K mg "ONE" (1,1)):Has P w K mg base 5 "crossing" VI (spCrossing K):=by
 refine D.h9 (N:=["one","other","row","spare","by"]) fsc λH Q hr h nd=>?_;obtain⟨a,b,e,one,other,row,n,D,D',D2,Ws,Us,Zs,rfl,⟨O,qa,E⟩,⟨I,qb,X⟩,⟨xe,S,re⟩,l1,Z,W,r1,r2,p,hn,h0,k⟩:=h;obtain⟨c,l,f⟩:=iA;refine⟨_,(Z9 (Zj (i:=3) nd rfl (Or.inl rfl) (Zf U hr (Z0 (pv 0) (Z0 (pv 2) Z8))))
  (Z9 (Zj (i:=4) nd rfl (Or.inl rfl) (Zf gS hr (Z0 (pv 3) (Z0 (Zf L hr (Z0 (pv 3) (Z0 (Zf U hr (Z0 (pv 1) (Z0 (pv 2) Z8))) Z8))) Z8))))
  (Zb (Zh (Zf iE hr (Z0 (Zf V hr (Z0 (pv 0) (Z0 (Zf L hr (Z0 (Xb (v:=.ref c) rfl l rfl) (Z0 (pv 4) Z8))) Z8))) (Z0 (Zf V hr (Z0 (pv 1) (Z0 (pv 4) Z8))) Z8))))))),?_⟩
 have o:=Ml r1 p l1 J0;have R:=Ml r2 p Z J0;have F:=Tr o R;have q:=Ql o F h0;have d:Good 1 ((1,1):Rat):=⟨(by show (1:Int).natAbs<2 ^ 1;decide),(by show (1:Int).natAbs<2 ^ 1;decide),J1,J1⟩;have T:=Tr d q;refine⟨_,rfl,_,rfl,a,e,O,xe,one,row,n,n,D,D2,Ws,Zs,rfl,.inr qa,E,.inr S,re,l1,W,r1,p,J0,J0,J0,λc1 H1 S1 J=>?_⟩;have a0:=Zx S1 qa;have t:=Zx S1 qb;have y:=Zx S1 S;refine⟨_,rfl,_,rfl,_,rfl,_,rfl,b,e,I,xe,other,row,n,n,D',D2,Us,Zs,rfl,.inr t,X.ext (Ext.same S1),.inr y,re.ext (Ext.same S1),Z,W,r2,p,J0,J0,J0,λc2 H2 S2 q2=>?_⟩;refine⟨c1,c2,mn one row,mn other row,2*n+10,rfl,Zx S2 J,q2,o.mono J0,R.mono J0,J0,λc3 H3 f3 G q3=>?_⟩;refine⟨c1,c3,mn one row,subR (mn one row) (mn other row),4*n+21,rfl,Zx (S2.trans G) J,SqT.of q3,o.mono J0,F.mono J0,J0,h0,λB H4 f4 S4 q4=>?_⟩;have C:=(S1.trans S2).trans (G.trans S4);have m:SqT K H4 B [.int (byR one other row).1,.int (byR one other row).2]:=SqT.of q4;refine⟨_,rfl,_,rfl,c,B,(1,1),byR one other row,6*n+40,rfl,f _,m,d.mono J0,q.mono J0,J0,λc5 H5 f5 M q5=>?_⟩;have j:=C.trans M;have gA:∀ r∈one,Good (6*n+45) r:=λr hr=>(r1.good r hr).mono J0;have gB:∀ r∈other,Good (6*n+45) r:=λr hr=>(r2.good r hr).mono J0;refine⟨a,c5,one,subR (1,1) (byR one other row),6*n+45,rfl,⟨O,Zx j qa,E.ext (Ext.same j)⟩,SqT.of q5,J0,gA,T.mono J0,J0,λc6 H6 x Y q6 R6=>?_⟩;have g:=j.trans Y;refine⟨_,rfl,_,rfl,b,B,other,byR one other row,6*n+45,rfl,⟨I,Zx g qb,X.ext (Ext.same g)⟩,Zx (M.trans Y) m,J0,gB,q.mono J0,J0,λc7 H7 A s q7 R7=>?_⟩;refine⟨c6,c7,_,_,7*n+60,rfl,⟨x,SqT.of (s _ _ q6),R6.ext (Ext.same s)⟩,⟨A,SqT.of q7,R7⟩,by rw[YB,YB];omega,by rw[YB];omega,λr hr=>?_,λr hr=>?_,J0,λc8 H8 u S8 q8 R8=>?_⟩
 ·obtain⟨z,hz,rfl⟩:=YN.mp hr;exact (U7 (r1.good z hz) T).mono J0
 ·obtain⟨z,hz,rfl⟩:=YN.mp hr;exact (U7 (r2.good z hz) q).mono J0
 exact k c8 H8 (g.trans (s.trans S8)) ⟨u,SqT.of q8,R8⟩
end
open PySem.Spec PyProof.Rows
section
variable {X:Cx}
noncomputable def Qx {P:TU}{w:World}{K:TR}(hu:X.A.units+64<cLine)(a:X.prog=P:=by rfl)(hw:X.w=w:=by rfl)(hK:X.K=K:=by rfl):IxR X (rIxD P w K):=by
 subst a hw;exact Z4n hu hK
noncomputable def G4 {P:TU}{w:World}{K:TR}(a:X.A.handled=none)(hu:X.A.units+64<cLine)(b:X.prog=P:=by rfl)(hw:X.w=w:=by rfl)(hK:X.K=K:=by rfl):CallR X (.type "dict") (rDict P w K):=by
 subst b hw;exact Pp a hu hK
noncomputable def Z0o {P:TU}{w:World}{K:TR}{l tg:Expr}(hl:PE X l tl)(a:X.prog=P:=by rfl)(hw:X.w=w:=by rfl)(hK:X.K=K:=by rfl):PI X tg l (iDict P w K tl):=by
 subst a hw;exact Z3f hl hK
end
end _b
namespace _b
open PySem _L
def Y2 {x:V}{σ:_L.St}{Q:_L.St->Hp->Prop}(h:Q (σ.set i (some x)) H):gName i x σ H Q:=h
def Ya {a b:TS}{D:Ends}{σ:_L.St}{H:Hp}(h:a { D with nx:=λσ' H'=>b D σ' H' } σ H):tSeq a b D σ H:=h
section
def Cn {p:V->Bool}{x:V}(h:xs[i]?=some x):(xs.take (i+1)).filter p=(xs.take i).filter p++(if p x=true then [x] else []):=by
 rw[GU,h];simp only [Y1O,JV,JL,zm]
theorem G1 {l:Addr}{p:V->Bool}{k:Nat}{fv:List Nat}{σ:_L.St}{Q:VK}
  (j:∀ G:VK,G (.ref l) H->tl σ H G) (hl:SqL K H l xs) (hz:xs.length<=1000)
  (c:∀ (i:Nat) (x:V) (H1:Hp) (G:Bool->Hp->Prop),xs[i]?=some x->Same H H1->(∀ H2,Same H1 H2->G (p x) H2)->tt ((comp0 k fv σ).set 0 (some x)) H1 G)
  (h0:((comp0 k fv σ).length≠0))
  (h:∀ (d:Addr) (H2:Hp),H d=none->Same H H2->H2 d=some (.lst (xs.filter p))->Q (.ref d) H2) :
  tComp (iList K tl) (gName 0) tt (tVar 0) k fv σ H Q:=by
 refine j _ ⟨l,rfl,⟨_,hl⟩,λd hd=>?_⟩;refine⟨xs.length,λi ys H2=>Same H H2/\ys=(xs.take i).filter p,YR hz J1,⟨Same.new hd,rfl⟩,?_,?_⟩
 ·rintro i ys H2 hi ⟨S2,rfl⟩ a;have g:=Xr S2 hl;have ex:xs[i]?=some xs[i]:=by simp[hi]
  generalize xs[i]=x at ex;refine⟨⟨_,x,g,ex⟩,?_⟩;rintro y q ⟨rfl,o⟩;have e:=o _ g;rw[ex] at e
  cases e;refine Vy ?_;refine c i x q _ ex S2 λr n=>?_;have f:=n _ _ a;have b:=S2.trans n;have fs:=Cn (p:=p) ex;by_cases e:p x=true
  ·rw[e];rw[YH e] at fs;have m:((comp0 k fv σ).set 0 (some x))[0]?=some (some x):=by
    rw[JG J0]
   exact V0 ⟨x,m,f,Yj b hd,fs.symm⟩
  have e':p x=false:=by simpa using e
  rw[e'];rw[YF e,GN] at fs;exact Xc ⟨f,b,fs.symm⟩
 rintro ys H2 ⟨S2,rfl⟩ a;rw[JQ] at a;exact⟨⟨_,Xr S2 hl,YJ _⟩,h d H2 hd S2 a⟩
theorem Cs {l:Addr}{f:V->V}{k:Nat}{fv:List Nat}{σ:_L.St}{Q:VK}
  (j:∀ G:VK,G (.ref l) H->tl σ H G) (hl:SqL K H l xs) (hz:xs.length<=1000)
  (c:∀ (i:Nat) (x:V) (H1:Hp) (G:VK),xs[i]?=some x->Same H H1->(∀ H2,Same H1 H2->G (f x) H2)->te ((comp0 k fv σ).set 0 (some x)) H1 G)
  (h:∀ (d:Addr) (H2:Hp),H d=none->Same H H2->H2 d=some (.lst (xs.map f))->Q (.ref d) H2) :
  tComp (iList K tl) (gName 0) tYes te k fv σ H Q:=by
 refine j _ ⟨l,rfl,⟨_,hl⟩,λd hd=>?_⟩;refine⟨xs.length,λi ys H2=>Same H H2/\ys=(xs.take i).map f,YR hz J1,⟨Same.new hd,rfl⟩,?_,?_⟩
 ·rintro i ys H2 hi ⟨S2,rfl⟩ a;have b:=Xr S2 hl;have ex:xs[i]?=some xs[i]:=by simp[hi]
  generalize xs[i]=x at ex;refine⟨⟨_,x,b,ex⟩,?_⟩;rintro y o ⟨rfl,n⟩;have e:=n _ b;rw[ex] at e
  cases e;refine Yh ?_;refine c i x o _ ex S2 λp m=>?_;have g:=m _ _ a;refine⟨g,Yj (S2.trans m) hd,?_⟩;rw[GU,ex];simp
 rintro ys H2 ⟨S2,rfl⟩ a;rw[JQ] at a;exact⟨⟨_,Xr S2 hl,YJ _⟩,h d H2 hd S2 a⟩
theorem G2 {P:TU}{j:Addr}{es:List (List Rat × Addr × Addr)}{ep:Nat}{p:List Rat->Bool}{k:Nat}{fv:List Nat}{σ:_L.St}{Q:VK}
  (h:∀ G:VK,G (.ref j) H->tl σ H G) (hl:DcAt P w K H j es ep) (hz:es.length<=1000)
  (c:∀ (i:Nat) (e:List Rat × Addr × Addr) (H1:Hp) (G:Bool->Hp->Prop),es[i]?=some e->Same H H1->(∀ H2,Same H1 H2->G (p e.1) H2)->tt ((comp0 k fv σ).set 0 (some (.ref e.2.1))) H1 G)
  (h0:((comp0 k fv σ).length≠0))
  (g:∀ (d:Addr) (H2:Hp),H d=none->Same H H2->H2 d=some (.lst ((es.filter λe=>p e.1).map λe=>V.ref e.2.1))->Q (.ref d) H2) :
  tComp (iDict P w K tl) (gName 0) tt (tVar 0) k fv σ H Q:=by
 refine h _ ⟨j,es,ep,rfl,hl,λd hd=>?_⟩;refine⟨es.length,λi ys H2=>Same H H2/\ys=((es.take i).filter λe=>p e.1).map λe=>V.ref e.2.1,YR hz J1,⟨Same.new hd,rfl⟩,?_,?_⟩
 ·rintro i ys H2 hi ⟨S2,rfl⟩ a;refine⟨⟨hl.same S2,hi⟩,?_⟩;rintro y n ⟨rfl,e,ee,rfl⟩;refine Vy ?_;refine c i e n _ ee S2 λq m=>?_;have f:=m _ _ a;have b:=S2.trans m;have fs:((es.take (i+1)).filter λe=>p e.1).map (λe=>V.ref e.2.1)=((es.take i).filter λe=>p e.1).map (λe=>V.ref e.2.1)++(if p e.1=true then [V.ref e.2.1] else []):=by
   rw[GU,ee];simp only [Y1O,JV,JL,zm,XH];split <;> rfl
  by_cases z:p e.1=true
  ·rw[z];rw[YH z] at fs;have l:((comp0 k fv σ).set 0 (some (V.ref e.2.1)))[0]?=some (some (V.ref e.2.1)):=by
    rw[JG J0]
   exact V0 ⟨_,l,f,Yj b hd,fs.symm⟩
  have o:p e.1=false:=by simpa using z
  rw[o];rw[YF z,GN] at fs;exact Xc ⟨f,b,fs.symm⟩
 rintro ys H2 ⟨S2,rfl⟩ a;rw[JQ] at a;exact⟨⟨hl.same S2,YJ _⟩,g d H2 hd S2 a⟩
end
theorem Ct {α:Type}{l:Addr}{as:TJ}{zs:List α}{g:α->List Rat}{k:Nat}{fv:List Nat}{σ:_L.St}{Q:VK}(R:Hp->Addr->α->Prop)(j:∀ H1 H2 a z,Ext H1 H2->R H1 a z->R H2 a z)
  (q:∀ G:VK,G (.ref l) H->tl σ H G) (hl:SqL K H l (as.map V.ref)) (hz:as.length<=1000) (hp:Paired (R H) as zs)
  (n:∀ (i:Nat) (a:Addr) (z:α) (H1:Hp) (G:VK),as[i]?=some a->zs[i]?=some z->Same H H1->R H1 a z->(∀ c H2,Same H1 H2->RowAt K H2 c (g z)->G (.ref c) H2)->te ((comp0 k fv σ).set 0 (some (.ref a))) H1 G)
  (p:∀ (d:Addr) (H2:Hp) (bs:TJ),H d=none->Same H H2->H2 d=some (.lst (bs.map V.ref))->Paired (RowAt K H2) bs (zs.map g)->Q (.ref d) H2) :
  tComp (iList K tl) (gName 0) tYes te k fv σ H Q:=by
 refine q _ ⟨l,rfl,⟨_,hl⟩,λd hd=>?_⟩;have lp:=XB hp;refine⟨as.length,λi ys H2=>Same H H2/\∃ bs:List Addr,ys=bs.map V.ref/\Paired (RowAt K H2) bs ((zs.take i).map g),YR hz J1,⟨Same.new hd,[],rfl,by simpa using Paired.nil⟩,?_,?_⟩
 ·rintro i ys H2 hi ⟨S2,bs,rfl,P2⟩ b;have h:=Xr S2 hl;have ea:as[i]?=some as[i]:=by simp[hi]
  have m:zs[i]?=some (zs[i]'J0):=ZJ
  generalize as[i]=a at ea;generalize (zs[i]'J0)=z at m;have ex:(as.map V.ref)[i]?=some (V.ref a):=by rw[YI,ea];rfl
  refine⟨⟨_,V.ref a,h,ex⟩,?_⟩;rintro x v ⟨rfl,t⟩;have e:=t _ h;rw[ex] at e
  cases e;refine Yh ?_;refine n i a z v _ ea m S2 (j _ _ _ _ (Ext.same S2) (Paired.getB hp ea m)) λc r o u=>?_;have f:=o _ _ b;have s:Ext r (upd r d (.lst (bs.map V.ref++[V.ref c]))):=Ext.upd f;refine⟨f,Yj (S2.trans o) hd,bs++[c],ZJ,?_⟩;rw[Yo m,XH];exact Paired.appP (Y0 P2 ((Ext.same o).trans s)) (.cons (u.ext s) .nil)
 rintro ys H2 ⟨S2,bs,rfl,P2⟩ b;rw[lp,JQ] at P2;exact⟨⟨_,Xr S2 hl,ZJ⟩,p d H2 bs hd S2 b P2⟩
open PySem.Spec PyProof.Rows
section
variable {P:TU}
structure Touch (P:TU)(w:World)(K:TR)(H:Hp)(d:Addr)(es:List (List Rat × Addr × Addr))(ep:Nat)(tou:List Rat->List Nat):Prop where
 dc:DcAt P w K H d es ep
 ls:∀ e∈es,H e.2.2=some (.lst (natL (tou e.1)))
noncomputable def nearR (a:UB)(tou:List Rat->List Nat)(one other:UA):Bool :=
 decide ((a.filter λr=>((tou one).filter λk=>decide (k∈tou other)).all λk=>decide (k∈tou r)).length=2)
def K1 (us:List Nat):(natL us).length=us.length:=YB ..
def Tx {us:List Nat}(x:V)(h:x∈natL us):flatV x=true:=by
 obtain⟨k,_,rfl⟩:=YN.mp h;rfl
def K2 (us:List Nat):(natL us).all flatV=true:=qj.mpr λx h=>Tx x h
def Fd (k:Nat)(us:List Nat):inV (V.int ((k:Nat):Int)) (natL us)=decide (k∈us):=by
 unfold inV natL;rw[List.any_map,GE,List.any_eq_true,GC];constructor
 ·rintro ⟨j,hj,e⟩;have e':eqV (V.int ((j:Nat):Int)) (V.int ((k:Nat):Int))=true:=e;have e2:(j:Int)=(k:Int):=by simpa [eqV] using e'
  have:j=k:=J0
  exact this ▸ hj
 intro h;exact⟨k,h,by simp[eqV]⟩
def C0 (us vs:List Nat):(natL us).filter (λx=>inV x (natL vs))=natL (us.filter λk=>decide (k∈vs)):=by
 conv=>lhs;unfold natL
 rw[List.filter_map];unfold natL
 congr 1
 refine List.filter_congr λk _=>?_;exact Fd k vs
def Z1j (us vs:List Nat):(natL us).map (λx=>V.bl (inV x (natL vs)))=(us.map λk=>decide (k∈vs)).map V.bl:=by
 conv=>lhs;unfold natL
 rw[qm,qm];refine List.map_congr_left λk _=>?_;show V.bl (inV (V.int ((k:Nat):Int)) (natL vs))=_;rw[Fd];rfl
inductive spNear (P:TU) (w:World) (K:TR) (vs:TZ) (H:Hp) (Q:VK) (_z3:XK):Prop
 | mk (d a b:Addr) (es:List (List Rat × Addr × Addr)) (ep:Nat) (tou:List Rat->List Nat) (one other:UA) (zz0:vs=[.ref d,.ref a,.ref b]) (zz1:Touch P w K H d es ep tou) (zz2:RowAt K H a one) (zz3:RowAt K H b other) (zz4:one∈es.map (·.1)) (zz5:other∈es.map (·.1)) (zz6:es.length<=1000) (zz7:∀ r,(tou r).length<=1000)
  (zz8:∀ H',Same H H'->Q (.bl (nearR (es.map (·.1)) tou one other)) H')
theorem Z6m (D:Def K mg "are_neighbours" iN VJ)(T:Blt mg)(A:mg "all"=none):Has P w K mg base 2 "are_neighbours" VJ (spNear P w K):=by
 refine D.h9 (N:=["touching","one","other","both","beside"]) fsc λH Q hr h nd=>?_;obtain⟨d,a,b,es,ep,tou,one,other,rfl,c,Y,hB,X,M,hz,s,k⟩:=h;have y:(["place","touching","other"]:List Str).Nodup:=ZZ
 have E:(["corner","touching","both"]:List Str).Nodup:=ZZ
 have v:(["place","corner","touching"]:List Str).Nodup:=ZZ
 refine⟨_,(Z9 (Zj (i:=3) nd rfl (Or.inr rfl) (Yd (ox:=none) (N:=["place","touching","other"]) (k:=1) (fv:=[0,2]) rfl (Yn (Zg (Qx (P:=P) (w:=w) (K:=K) (by exact hr.units)) (pv 0) (pv 1)))
  (λ_ _ _ _ _=>Zi (i:=0) y rfl xj) (λ_ _ _ _ _=>Xs (Zo (Jc (K:=K)) (pv 0) (Zg (Qx (P:=P) (w:=w) (K:=K) (by exact hr.units)) (pv 1) (pv 2)) rfl)) (λ_ _ _ _ _=>(pv 0)) Zv))
 (Z9 (Xa (i:=4) (N:=["corner","touching","both"]) (k:=1) (fv:=[0,3]) (ox:=some "corner") nd rfl xj rfl (Z0o (P:=P) (w:=w) (K:=K) (pv 0))
  (λ_ _ _ _ _=>Zi (i:=0) E rfl (Or.inr rfl)) (λ_ _ _ _ _=>Xs (Yp (Zt (Nj (K:=K) (by rfl)) rfl A Y1p (Z0 (Yd (ox:=none) (N:=["place","corner","touching"]) (k:=1) (fv:=[0,1]) rfl (Lq (K:=K) (pv 2))
  (λ_ _ _ _ _=>Zi (i:=0) v rfl xj) (λ_ _ _ _ _=>Y8) (λ_ _ _ _ _=>(Yu (Jc (K:=K)) (pv 0) (Zg (Qx (P:=P) (w:=w) (K:=K) (by exact hr.units)) (pv 2) (pv 1)) rfl)) Zv) Z8)))) (λ_ _ _ _ _=>(pv 0)) Zv)
 (Zb (Zh (Yu Xp (Zt Zq rfl T.len GL (Z0 (pv 4) Z8)) Za (Zp _)))))),?_⟩
 have m:∀ {x:UA},x∈es.map (·.1)->∃ (i:Nat) (e:List Rat × Addr × Addr),es[i]?=some e/\e.1=x:=λ{x} hx=>by
  obtain⟨e,L,ex⟩:=YN.mp hx;obtain⟨i,q⟩:=XQ L;exact⟨i,e,q,ex⟩
 obtain⟨i1,e1,o,rfl⟩:=m X;obtain⟨i2,e2,n,rfl⟩:=m M;have Z:=c.ls e1 (YD o);have U:=c.ls e2 (YD n);refine Yr ?_;refine G1 (K:=K) (tl:=tOp (rIxD P w K) (tVar 0) (tVar 1)) (tt:=tTest (tOp (rIn K false) (tVar 0) (tOp (rIxD P w K) (tVar 1) (tVar 2)))) (k:=1) (fv:=[0,2]) (p:=λx=>inV x (natL (tou e2.1))) (λG g=>⟨_,rfl,_,rfl,d,a,es,i1,e1,rfl,rfl,ep,c.dc,o,Y,g⟩) (SqL.of Z) (by rw[K1];exact s _) (λi x H1 G ex S1 C=>?_) (by simp[comp0]) λd1 H1 f1 S1 R=>?_
 ·have u:flatV x=true:=Tx x (YD ex);exact⟨_,rfl,_,rfl,_,rfl,d,b,es,i2,e2,rfl,rfl,ep,c.dc.same S1,n,hB.ext (Ext.same S1),_,_,rfl,.inl (SqL.of (S1 _ _ U)),u,K2 _,_,rfl,C _ (Same.refl _)⟩
 have t:H1 d1=some (.lst (natL ((tou e1.1).filter λk=>decide (k∈tou e2.1)))):=by rw[R,C0]
 refine Y2 ?_;dsimp only;refine Ya (Yr ?_);refine G2 (K:=K) (P:=P) (w:=w) (tl:=tVar 0) (k:=1) (fv:=[0,3]) (p:=λr=>((tou e1.1).filter λk=>decide (k∈tou e2.1)).all λk=>decide (k∈tou r)) (λG g=>⟨_,rfl,g⟩) (c.dc.same S1) hz (λi e H2 G q S2 C=>?_) (by simp[comp0]) λS H2 f2 S2 I=>?_
 ·have le:=(S1.trans S2) _ _ (c.ls e (YD q));have W:=(c.dc.ks e (YD q)).ext (Ext.same (S1.trans S2));refine Z7a (L8 ?_);refine Cs (K:=K) (tl:=tVar 2) (k:=1) (fv:=[0,1]) (f:=λx=>.bl (inV x (natL (tou e.1)))) (λG g=>⟨_,rfl,g⟩) (SqL.of (S2 _ _ t)) (by rw[K1];exact YR (qX _ _) (s _)) (λj x F G' ex l B=>?_) λO F f3 l J=>?_
  ·have u:flatV x=true:=Tx x (YD ex);exact⟨_,rfl,_,rfl,_,rfl,d,e.2.1,es,i,e,rfl,rfl,ep,c.dc.same ((S1.trans S2).trans l),q,W.ext (Ext.same l),_,_,rfl,.inl (SqL.of (l _ _ le)),u,K2 _,B _ (Same.refl _)⟩
  refine⟨O,((tou e1.1).filter λk=>decide (k∈tou e2.1)).map λk=>decide (k∈tou e.1),rfl,SqL.of (by rw[J,Z1j]),_,rfl,?_⟩;rw[Y1S];exact C F l
 refine⟨_,rfl,S,_,rfl,.inl (SqL.of I),rfl,?_⟩;refine Eq.mp (congrArg (λb=>Q (V.bl b) H2) ?_) (k H2 (S1.trans S2));unfold nearR;rw[List.filter_map,YB,YB,zP];constructor
 ·intro z;exact congrArg V.int (by rw[show ((es.filter λe=>((tou e1.1).filter λk=>decide (k∈tou e2.1)).all λk=>decide (k∈tou e.1)).length:Nat)=2 from z];rfl)
 intro z;have z':=V.int.inj z;show (es.filter λe=>((tou e1.1).filter λk=>decide (k∈tou e2.1)).all λk=>decide (k∈tou e.1)).length=2;omega
noncomputable def inR (fss:UB)(r:UA):List (List Rat):=fss.filter λf=>decide ((mn f r).1<0)
noncomputable def outR (fss:UB)(r:UA):List (List Rat):=fss.filter λf=>decide (0<(mn f r).1)
noncomputable def cutC (fss ess:UB)(r:UA):List (List Rat) :=
 (fss.filter λf=>!decide (f∈outR fss r))++(inR fss r).flatMap λone=>((outR fss r).filter λo=>nearR fss (touR ess) one o).map λo=>crR one o r
def RowN (n c:Nat)(r:UA):Prop:=r.length=c/\∃ D Ws,RepL n D Ws r
def RowN.mean {n c:Nat}{r e:UA}(h:RowN n c r)(k:RowN n c e)(hc:c<=1000)(hn:n<=20000):MeanOk r e:=by
 obtain⟨b,D,Ws,r1⟩:=h;obtain⟨a,D',Zs,r2⟩:=k;exact⟨J0,J0,n,n,D,D',Ws,Zs,r1,r2,J0⟩
inductive spCutOff (K:TR) (vs:TZ) (H:Hp) (Q:VK) (_z3:XK):Prop
 | mk (l m e:Addr) (as bs:TJ) (fss ess:UB) (r:UA) (n c:Nat) (zz0:vs=[.ref l,.ref m,.ref e]) (zz1:H l=some (.lst (as.map V.ref))) (zz2:Paired (RowAt K H) as fss) (zz3:H m=some (.lst (bs.map V.ref))) (zz4:Paired (RowAt K H) bs ess) (zz5:RowAt K H e r) (zz6:c<=1000) (zz7:n<=20000) (zz8:∀ f∈fss,RowN n c f) (zz9:∀ f∈ess,RowN n c f) (zz10:RowN n c r) (zz11:fss.Nodup) (zz12:fss.length<=60) (zz13:ess.length<=60)
  (zz14:∀ (d:Addr) (H':Hp),Same H H'->RowsAt K H' d (cutC fss ess r)->Q (.ref d) H')
theorem Z1f (D:Def K mg "cut_off" jR VL)(d7:mg "dict"=none)(gH:Has P w K mg base 5 "touched" VH (spTouched K))(fG:Has P w K mg base 1 "under" UG (spUnder K))(fA:Has P w K mg base 4 "mean" VG (spMeanW K))(fE:Has P w K mg base 2 "are_neighbours" VJ (spNear P w K))(gF:Has P w K mg base 5 "crossing" VI (spCrossing K))(eM:Con K mg "NOUGHT" (0,1)) :
  Has P w K mg base 6 "cut_off" VL (spCutOff K) true:=by
 refine D.h9 (N:=["found","edges","row","touching","inside","outside","kept","one","near"]) fsc λH Q hr h nd=>?_;obtain⟨l,m,e,as,bs,fss,ess,r,n,c,rfl,hl,hp,hm,hq,E,hc,hn,hf,hs,a4,b6,hz,e7,k⟩:=h;obtain⟨s,A,u⟩:=eM;have d3:(["corner","edges"]:List Str).Nodup:=ZZ
 have b8:(["corner","row"]:List Str).Nodup:=ZZ
 have e5:(["corner","outside"]:List Str).Nodup:=ZZ
 have c2:(["other","touching","one"]:List Str).Nodup:=ZZ
 have d5:(["other","row","one"]:List Str).Nodup:=ZZ
 refine⟨_,(Z9 (Zj (i:=3) nd rfl (Or.inr rfl) (Y7 (G4 (P:=P) (w:=w) (K:=K) (by exact hr.hd rfl) (by exact hr.units)) rfl d7 PyProof.Rows.boot_dict (Z0 (Yd (ox:=none) (N:=["corner","edges"]) (k:=1) (fv:=[1]) rfl (Yn (pv 0))
  (λ_ _ _ _ _=>Zi (i:=0) d3 rfl xj) (λ_ _ _ _ _=>Y8) (λ_ _ _ _ _=>(Yx (Z0 (pv 0) (Z0 (Zf gH hr (Z0 (pv 1) (Z0 (pv 0) Z8))) Z8)))) Zv) Z8)))
 (Z9 (Xa (ox:=none) (i:=4) (N:=["corner","row"]) (k:=1) (fv:=[2]) nd rfl xj rfl (Yn (pv 0))
  (λ_ _ _ _ _=>Zi (i:=0) b8 rfl xj) (λ_ _ _ _ _=>Xs (Yp (Zf fG hr (Z0 (Zf fA hr (Z0 (pv 0) (Z0 (pv 1) Z8))) (Z0 (Xb (v:=.ref s) rfl A rfl) Z8))))) (λ_ _ _ _ _=>(pv 0)) Zv)
 (Z9 (Zj (i:=5) nd rfl (Or.inr rfl) (Yd (ox:=none) (N:=["corner","row"]) (k:=1) (fv:=[2]) rfl (Yn (pv 0))
  (λ_ _ _ _ _=>Zi (i:=0) b8 rfl xj) (λ_ _ _ _ _=>Xs (Yp (Zf fG hr (Z0 (Xb (v:=.ref s) rfl A rfl) (Z0 (Zf fA hr (Z0 (pv 0) (Z0 (pv 1) Z8))) Z8))))) (λ_ _ _ _ _=>(pv 0)) Zv))
 (Z9 (Xa (ox:=none) (i:=6) (N:=["corner","outside"]) (k:=1) (fv:=[5]) nd rfl xj rfl (Yn (pv 0))
  (λ_ _ _ _ _=>Zi (i:=0) e5 rfl xj) (λ_ _ _ _ _=>Xs (Zo (Dm (K:=K) (by exact hr.units)) (pv 0) (pv 1) rfl)) (λ_ _ _ _ _=>(pv 0)) Zv)
 (Z9 (Yw XS rfl (Yn (pv 4)) (Zi (i:=7) nd rfl (Or.inr rfl))
 (Z9 (Xa (ox:=none) (i:=8) (N:=["other","touching","one"]) (k:=1) (fv:=[3,7]) nd rfl xj rfl (Yn (pv 5))
  (λ_ _ _ _ _=>Zi (i:=0) c2 rfl xj) (λ_ _ _ _ _=>Xs (Yp (Zf fE hr (Z0 (pv 1) (Z0 (pv 2) (Z0 (pv 0) Z8)))))) (λ_ _ _ _ _=>(pv 0)) Zv)
 (Zb (Yz (W6 XJ Y14 Y15 Nd (pv 6) (Z0 (Yd (ox:=none) (N:=["other","row","one"]) (k:=1) (fv:=[2,7]) rfl (Yn (pv 8))
  (λ_ _ _ _ _=>Zi (i:=0) d5 rfl xj) (λ_ _ _ _ _=>Y8) (λ_ _ _ _ _=>(Zf gF hr (Z0 (pv 2) (Z0 (pv 0) (Z0 (pv 1) Z8))))) Zv) Z8))))))
 (Zb (Zh (pv 6)))))))),?_⟩
 have lp:=XB hp;refine Ya (Yr (Z7a (L8 ?_)));refine⟨_,rfl,l,rfl,⟨_,SqL.of hl⟩,λd hd=>?_⟩;refine⟨as.length,λi ys H2=>Same H H2/\∃ es:List (List Rat × Addr × Addr),es.map (·.1)=fss.take i/\Paired (λv e=>∃ t,v=V.ref t/\SqT K H2 t [.ref e.2.1,.ref e.2.2]/\RowAt K H2 e.2.1 e.1) ys es/\∀ e∈es,H2 e.2.2=some (.lst (natL (touR ess e.1)))/\e.2.2≠d,YR (show as.length<=60 by omega) J1,⟨Same.new hd,[],rfl,.nil,λe E=>by cases E⟩,?_,?_⟩
 ·rintro i ys H2 hi ⟨S2,es,X,P2,a6⟩ a3;have ea:as[i]?=some as[i]:=by simp[hi]
  have I:fss[i]?=some (fss[i]'J0):=ZJ
  generalize as[i]=a at ea;generalize (fss[i]'J0)=z at I;have ex:(as.map V.ref)[i]?=some (V.ref a):=by rw[YI,ea];rfl
  have a8:=S2 _ _ hl;refine⟨⟨_,V.ref a,SqL.of a8,ex⟩,?_⟩;rintro x H3 ⟨rfl,fx⟩;have e':=fx _ (SqL.of a8);rw[ex] at e'
  cases e';have F:=YD I;have U:=(Paired.getB hp ea I).ext (Ext.same S2);refine Yh ?_;refine⟨_,rfl,_,rfl,_,rfl,m,a,bs,ess,z,rfl,S2 _ _ hm,Y0 hq (Ext.same S2),U,J0,λf d6=>(hf z F).mean (hs f d6) hc hn,λd4 M f4 J q4=>⟨sz2,λp b0=>?_⟩⟩;have b4:=J _ _ a3;have c3:d≠p:=Zd b4 b0;have b9:(upd M p (.tup [V.ref a,V.ref d4])) d=some (.lst ys):=by rw[Ze c3];exact b4
  have C:=Same.new (o:=.tup [V.ref a,V.ref d4]) b0;have E6:Ext (upd M p (.tup [V.ref a,V.ref d4])) (upd (upd M p (.tup [V.ref a,V.ref d4])) d (.lst (ys++[V.ref p]))):=Ext.upd b9;have a5:=(Ext.same C).trans E6;have n4:d4≠d:=λz=>by rw[z,a3] at f4;cases f4
  refine⟨b9,Yj ((S2.trans J).trans C) hd,es++[(z,a,d4)],by rw[XH,X,Yo I];rfl,?_,?_⟩
  ·refine Paired.appP (Paired.mapP P2 λv e ⟨t,e1,e2,e3⟩=>⟨t,e1,((Ext.same J).trans a5).sq e2,e3.ext ((Ext.same J).trans a5)⟩) (.cons ⟨p,rfl,E6.sq (SqT.of Zc),U.ext ((Ext.same J).trans a5)⟩ .nil)
  intro e R;rcases XN.mp R with R | R
  ·obtain⟨e1,e2⟩:=a6 e R;exact⟨by rw[Ze e2];exact C _ _ (J _ _ e1),e2⟩
  rw[XD.mp R];exact⟨by show upd _ d _ d4=_;rw[Ze n4];exact C _ _ q4,n4⟩
 rintro ys H2 ⟨S2,es,X,P2,a6⟩ a3;rw[lp,JQ] at X;refine⟨⟨_,SqL.of (S2 _ _ hl),ZJ⟩,?_⟩;refine⟨d,ys,es,rfl,SqL.of a3,P2,by rw[X];exact b6,λdt ep e0=>?_⟩;have S3:=Same.new (o:=dcO P w dt es ep) e0;have key:∀ (ys:TZ) (es:List (List Rat × Addr × Addr)),Paired (λv e=>∃ t,v=V.ref t/\SqT K H2 t [.ref e.2.1,.ref e.2.2]/\RowAt K H2 e.2.1 e.1) ys es->∀ e∈es,RowAt K H2 e.2.1 e.1:=λys es h=>by
  induction h with
  | nil=>intro e E;cases E
  | cons h1 _ ih =>
   intro e E;rcases YT.mp E with rfl | E
   ·obtain⟨t,_,_,r⟩:=h1;exact r
   exact ih e E
 have hT:Touch P w K (upd H2 dt (dcO P w dt es ep)) dt es ep (touR ess):=⟨⟨Zc,λe E=>(key _ _ P2 e E).ext (Ext.same S3),by rw[X];exact b6⟩,λe E=>S3 _ _ (a6 e E).1⟩;have Y:=S2.trans S3;generalize upd H2 dt (dcO P w dt es ep)=H3 at *
 refine Y2 ?_;dsimp only;have S:∀ {M H5:Hp} {a:Addr} {z:UA},Same H M->RowAt K M a z->z∈fss->∀ (G:VK),(∀ c4 H5,Same M H5->SqT K H5 c4 [.int (mn z r).1,.int (mn z r).2]->G (.ref c4) H5)->spMeanW K [.ref a,.ref e] M G E0:=λ{M H5 a z} J U F G T=>by
  obtain⟨xe,qe,re⟩:=E.ext (Ext.same J);obtain⟨xa,qa,c1⟩:=U;obtain⟨l1,D1,W1,r1⟩:=hf z F;obtain⟨l2,D2,W2,r2⟩:=a4;exact⟨a,e,xa,xe,z,r,n,n,D1,D2,W1,W2,rfl,.inr qa,c1,.inr qe,re,J0,J0,r1,r2,J0,J0,J0,λc4 H5 C q5=>T c4 H5 C q5⟩
 have B:∀ z∈fss,Good 40010 (mn z r):=λz F=>by
  obtain⟨l1,D1,W1,r1⟩:=hf z F;obtain⟨l2,D2,W2,r2⟩:=a4;exact (Ml r1 r2 J0 J0).mono J0
 have a9:Bd 1 (0:Int):=(by show (0:Int).natAbs<2 ^ 1;decide);have b3:Bd 1 (1:Int):=(by show (1:Int).natAbs<2 ^ 1;decide);refine Ya (Yr ?_);refine Ve (K:=K) (α:=List Rat) (tl:=tVar 0) (k:=1) (fv:=[2]) (l:=l) (as:=as) (zs:=fss) (q:=λf=>decide ((mn f r).1<0)) (λH' a r=>RowAt K H' a r) (λ_ _ _ _ e h=>h.ext e) (λG g=>⟨_,rfl,g⟩) (SqL.of (Y _ _ hl)) J0 (Y0 hp (Ext.same Y)) (λi a z M G ea I J U T=>?_) (by simp[comp0]) λd1 M L f1 J q4 P4 M4=>?_
 ·have F:=YD I;have g:=B z F;refine⟨_,rfl,_,rfl,S (H5:=M) (Y.trans J) U F _ λc5 H5 C q5=>?_⟩;refine⟨c5,s,_,_,0,1,rfl,q5,u _,g.b1.mulOk b3 J0 J0,a9.mulOk g.b2 J0 J0,_,rfl,?_⟩;have e1:decide ((mn z r).1*1<0*(mn z r).2)=decide ((mn z r).1<0):=by rw[zP];omega
  rw[e1];exact T H5 C
 have a0:=Y.trans J;refine Y2 ?_;dsimp only;refine Ya (Yr ?_);refine Ve (K:=K) (α:=List Rat) (tl:=tVar 0) (k:=1) (fv:=[2]) (l:=l) (as:=as) (zs:=fss) (q:=λf=>decide (0<(mn f r).1)) (λH' a r=>RowAt K H' a r) (λ_ _ _ _ e h=>h.ext e) (λG g=>⟨_,rfl,g⟩) (SqL.of (a0 _ _ hl)) J0 (Y0 hp (Ext.same a0)) (λi a z H5 G ea I C U T=>?_) (by simp[comp0]) λd2 H5 os f2 C q5 P5 M5=>?_
 ·have F:=YD I;have g:=B z F;refine⟨_,rfl,_,rfl,S (H5:=H5) (a0.trans C) U F _ λc5 H6 S6 q6=>?_⟩;refine⟨s,c5,0,1,_,_,rfl,u _,q6,a9.mulOk g.b2 J0 J0,g.b1.mulOk b3 J0 J0,_,rfl,?_⟩;have e1:decide (0*(mn z r).2<(mn z r).1*1)=decide (0<(mn z r).1):=by rw[zP];omega
  rw[e1];exact T H6 S6
 have O:=a0.trans C;refine Y2 ?_;dsimp only;refine Ya (Yr ?_);refine Ve (K:=K) (α:=List Rat) (tl:=tVar 0) (k:=1) (fv:=[5]) (l:=l) (as:=as) (zs:=fss) (q:=λf=>!decide (f∈outR fss r)) (λH' a r=>RowAt K H' a r) (λ_ _ _ _ e h=>h.ext e) (λG g=>⟨_,rfl,g⟩) (SqL.of (O _ _ hl)) J0 (Y0 hp (Ext.same O)) (λi a z H6 G ea I S6 U T=>?_) (by simp[comp0]) λdk H6 ks f3 S6 q6 P6 M6=>?_
 ·exact⟨_,rfl,_,rfl,a,d2,z,os,outR fss r,rfl,rfl,U,SqL.of (S6 _ _ q5),Y0 P5 (Ext.same S6),_,rfl,T H6 (Same.refl _)⟩
 have e8:=O.trans S6;refine Y2 ?_;dsimp only;have li:L.length<=60:=by rw[XB P4];exact YR (qX _ _) hz
 have lo:os.length<=60:=by rw[XB P5];exact YR (qX _ _) hz
 have lk:ks.length<=60:=by rw[XB P6];exact YR (qX _ _) hz
 have e6:es.length<=60:=by have:=congrArg List.length X;rw[YB] at this;omega
 have c7:∀ {H':Hp},Same H5 H'->Touch P w K H' dt es ep (touR ess):=λ{H'} S'=>⟨hT.dc.same ((J.trans C).trans S'),λe E=>S' _ _ (C _ _ (J _ _ (hT.ls e E)))⟩;have tl:∀ x,(touR ess x).length<=1000:=λx=>by
  unfold touR;refine YR (qX _ _) ?_;rw[ql];omega
 refine Ya ⟨_,rfl,d1,rfl,⟨_,SqL.of (S6 _ _ (C _ _ q4))⟩,?_⟩;refine Wp (K:=K) (xs:=L.map V.ref) (λi σ H'=>Same H5 H'/\(∃ cs:List Addr,H' dk=some (.lst (cs.map V.ref))/\Paired (RowAt K H') cs ((fss.filter λf=>!decide (f∈outR fss r))++((inR fss r).take i).flatMap λone=>((outR fss r).filter λo=>nearR fss (touR ess) one o).map λo=>crR one o r)/\cs.length<=60+i*60)/\∃ x y,σ=[some (.ref l),some (.ref m),some (.ref e),some (.ref dt),some (.ref d1),some (.ref d2),some (.ref dk),x,y]) ⟨S6,⟨ks,q6,by simpa using P6,J0⟩,none,none,rfl⟩ (λi σ H' _ h=>SqL.of (h.1 _ _ (C _ _ q4))) ?_ ?_
 ·rintro i x σ H7 hx ⟨S7,⟨cs,q7,P7,l7⟩,x1,y1,rfl⟩;have hi:i<L.length:=by have:=(YG.mp hx).1;simpa using this
  have e4:=XB P4;have ea:L[i]?=some L[i]:=by simp[hi]
  have I:(inR fss r)[i]?=some ((inR fss r)[i]'(by unfold inR;omega)):=ZJ
  generalize L[i]=a1 at ea;generalize ((inR fss r)[i]'(by unfold inR;omega))=z at I;rw[YI,ea] at hx
  cases hx;have b5:=YD I;have F:z∈fss:=(XE.mp b5).1;have nz:(mn z r).1<0:=by simpa using (XE.mp b5).2
  have c9:=C.trans S7;have rz:=(Paired.getB P4 ea I).ext (Ext.same c9);refine Y2 (Ya (Yr ?_));refine Ve (K:=K) (α:=List Rat) (tl:=tVar 5) (k:=1) (fv:=[3,7]) (l:=d2) (as:=os) (zs:=outR fss r) (q:=λo=>nearR fss (touR ess) z o) (λH' a r=>RowAt K H' a r) (λ_ _ _ _ e h=>h.ext e) (λG g=>⟨_,rfl,g⟩) (SqL.of (S7 _ _ q5)) J0 (Y0 P5 (Ext.same S7)) (λj b o H8 G eb eo Z rb T=>?_) (by simp[comp0]) λd8 H8 ns f8 Z q8 P8 M8=>?_
  ·have mo:o∈fss:=(XE.mp (YD eo)).1;refine⟨_,rfl,_,rfl,_,rfl,dt,a1,b,es,ep,touR ess,z,o,rfl,c7 (S7.trans Z),rz.ext (Ext.same Z),rb,by rw[X];exact F,by rw[X];exact mo,J0,tl,λH9 S9=>?_⟩;rw[X];exact⟨_,rfl,T H9 S9⟩
  have l5:(outR fss r).length<=60:=by have:=XB P5;unfold outR;omega
  have ln:ns.length<=60:=by rw[XB P8];exact YR (qX _ _) l5
  refine Y2 ?_;refine⟨_,rfl,.inl ⟨rfl,_,SqL.of (Z _ _ q7)⟩,?_⟩;refine L8 ?_;refine Ct (K:=K) (α:=List Rat) (tl:=tVar 8) (k:=1) (fv:=[2,7]) (l:=d8) (as:=ns) (zs:=(outR fss r).filter λo=>nearR fss (touR ess) z o) (g:=λo=>crR z o r) (λH' a r=>RowAt K H' a r) (λ_ _ _ _ e h=>h.ext e) (λG g=>⟨_,rfl,g⟩) (SqL.of q8) J0 P8 (λj b o H9 G eb eo S9 rb T=>?_) λd9 H9 W f9 S9 q9 P9=>?_
  ·have mo:=(XE.mp (YD eo)).1;have a7:o∈fss:=(XE.mp mo).1;have po:0<(mn o r).1:=by simpa using (XE.mp mo).2
   have h0:(subR (mn z r) (mn o r)).1≠0:=λz0=>by
    have g1:=B z F;have g2:=B o a7;have q0:=Qe g1.low g2.low;have:qv (subR (mn z r) (mn o r))=0:=by unfold qv;rw[z0];grind
    have a1:=(M1 g2.pos).mp po;have a2:qv (mn z r)<0:=by
     have:¬ 0<=qv (mn z r):=λy=>by have:=(Vq g1.pos).mpr y;omega
     grind
    grind
   obtain⟨l1,D1,W1,r1⟩:=hf z F;obtain⟨l2,D2,W2,r2⟩:=hf o a7;obtain⟨l3,D3,W3,r3⟩:=a4;exact⟨_,rfl,_,rfl,_,rfl,a1,b,e,z,o,r,n,D1,D2,D3,W1,W2,W3,rfl,rz.ext (Ext.same (Z.trans S9)),rb,E.ext (Ext.same ((O.trans S7).trans (Z.trans S9))),J0,J0,J0,r1,r2,r3,hn,h0,λc0 c8 c6 d0=>T c0 c8 c6 d0⟩
  have lb:W.length<=60:=by rw[XB P9,YB,<-XB P8];exact ln
  have b7:=S9 _ _ (Z _ _ q7);have E9:Ext H9 (upd H9 dk (.lst (cs.map V.ref++W.map V.ref))):=Ext.upd b7;refine⟨dk,d9,cs.map V.ref,W.map V.ref,rfl,rfl,b7,q9,YR (show _<=10000 by rw[YB,YB];omega) J1,?_⟩;refine⟨Yj (S7.trans (Z.trans S9)) f3,⟨cs++W,by rw[Zc,XH],?_,by rw[YY];omega⟩,_,_,rfl⟩;rw[Yo I,jh,List.flatMap_cons,List.flatMap_nil,GN,<-zZ];exact Paired.appP (Y0 P7 ((Ext.same (Z.trans S9)).trans E9)) (Y0 P9 E9)
 rintro σ H7 ⟨S7,⟨cs,q7,P7,l7⟩,x1,y1,rfl⟩;have e4:=XB P4;rw[YB,YZ (by unfold inR;omega)] at P7;refine⟨_,rfl,k dk H7 ((O.trans S7)) ⟨cs,q7,P7⟩⟩
end
end _b
namespace _b
open PySem _L
def Qh {n:Nat}:∀ {f g:UA},Lows f->Lows g->f.length=n->g.length=n->(∀ i,i<n->qr f i=qr g i)->f=g:=λ{f g} d c h1 h2 h=>by
 refine Y18 J0 λi a b=>?_;have e:=h i J0;unfold qr at e;have e1:f.getD i (0,1)=f[i]:=by simp[List.getD,a]
 have e2:g.getD i (0,1)=g[i]:=by simp[List.getD,b]
 rw[e1,e2] at e;exact Tv (d _ (XR a)) (c _ (XR b)) e
def Sz {n:Nat}{f e:UA}(a:Lows f)(le:Lows e)(h1:f.length=n)(h2:e.length=n):qv (mn f e)=dq n (qr f) (qr e):=Qg a le h1 h2
def Z4h {n:Nat}{f e:UA}(a:Lows f)(le:Lows e)(h1:f.length=n)(h2:e.length=n):mn f e=(0,1) ↔ dq n (qr f) (qr e)=0:=by
 rw[<-Sz a le h1 h2];constructor
 ·intro z;rw[z];exact Z0j
 intro z;exact Tv (Xj a le) Qu (by rw[z,Z0j])
theorem Z0h {r s:Rat}(b:Low r)(ls:Low s)(h:s.1≠0):Low (parR r s)/\qv (parR r s)=qv r / qv s:=by
 have q0:r.2*s.1≠0:=Q0 b.pos h;refine⟨Yi q0,?_⟩;have d:=Xt (r.1*s.2) (r.2*s.1);have b1:=Xv b.pos;have b2:=Xv ls.pos;have f:(s.1:QQ)≠0:=λz=>h (by have:=_root_.Rat.intCast_inj.mp (show ((s.1:Int):QQ)=((0:Int):QQ) by rw[z];rfl);exact this);have key:qv (parR r s)*((r.2:QQ)*(s.1:QQ))=(r.1:QQ)*(s.2:QQ):=by
  have lp:=(Yi (p:=r.1*s.2) q0).pos;have e:=Xv lp;have a:((nT (r.1*s.2) (r.2*s.1):Int):QQ)*((r.2*s.1:Int):QQ)=((r.1*s.2:Int):QQ)*((nB (r.1*s.2) (r.2*s.1):Int):QQ):=by
   rw[<-_root_.Rat.intCast_mul,<-_root_.Rat.intCast_mul,d]
  rw[_root_.Rat.intCast_mul,_root_.Rat.intCast_mul] at a;have c:((nB (r.1*s.2) (r.2*s.1):Int):QQ)≠0:=e;show ((nT (r.1*s.2) (r.2*s.1):Int):QQ) / ((nB (r.1*s.2) (r.2*s.1):Int):QQ)*_=_;grind
 unfold qv at *
 grind
def Z52 {n:Nat}{u v r:UA}(e:Lows u)(h:Lows v)(f:Lows r)(h1:u.length=n)(h2:v.length=n)(h3:r.length=n)(w:(mn u r).1<0)(pv:0<(mn v r).1) :
  Lows (crR u v r)/\(crR u v r).length=n/\∀ k,k<n->qr (crR u v r) k=crs n (qr r) (qr u) (qr v) k:=by
 have g:=Xj e f;have l:=Xj h f;have s1:Low (subR (mn u r) (mn v r)):=Yi (zW (XU g.pos l.pos));have a1:0<qv (mn v r):=(M1 l.pos).mp pv;have a2:qv (mn u r)<0:=by
  have:¬ 0<=qv (mn u r):=λy=>by have:=(Vq g.pos).mpr y;omega
  grind
 have q0:=Qe g l;have h0:(subR (mn u r) (mn v r)).1≠0:=λz0=>by
  have:qv (subR (mn u r) (mn v r))=0:=by unfold qv;rw[z0];grind
  grind
 obtain⟨lb,qb⟩:=Z0h g s1 h0;rw[q0,Sz e f h1 h3,Sz h f h2 h3] at qb;have c:Low (byR u v r):=lb;have p:Low (subR (1,1) (byR u v r)):=Yi (zW (XU J1 c.pos));have s:qv (subR (1,1) (byR u v r))=1 - qv (byR u v r):=by rw[Qe K4 c,Dh]
 have el:∀ {a b:Rat},Low a->Low b->Low (addR (mulR' a (subR (1,1) (byR u v r))) (mulR' b (byR u v r)))/\qv (addR (mulR' a (subR (1,1) (byR u v r))) (mulR' b (byR u v r)))=qv a*(1 - qv (byR u v r))+qv b*qv (byR u v r):=λ{a b} la d=>by
  have x1:Low (mulR' a (subR (1,1) (byR u v r))):=Yi (zW (XU la.pos p.pos));have o:Low (mulR' b (byR u v r)):=Yi (zW (XU d.pos c.pos));refine⟨Yi (zW (XU x1.pos o.pos)),?_⟩;rw[Z0i x1 o,M3 la p,M3 d c,s]
 have len:(crR u v r).length=n:=by unfold crR;rw[JW,YB,YB];omega
 refine⟨λx hx=>?_,len,λk hk=>?_⟩
 ·obtain⟨i,hi⟩:=XQ hx;unfold crR at hi;rw[GI,YI,YI] at hi;have hk:i<n:=by
   by_cases z:i<n
   ·exact z
   rw[GJ J0] at hi;cases hi
  rw[XL (show i<u.length by omega),XL (show i<v.length by omega)] at hi
  cases hi;exact (el (e _ (XR _)) (h _ (XR _))).1
 have hu:k<u.length:=J0
 have j:k<v.length:=J0
 have e1:(crR u v r).getD k (0,1)=addR (mulR' u[k] (subR (1,1) (byR u v r))) (mulR' v[k] (byR u v r)):=by
  unfold crR;rw[XC,GI,YI,YI,XL hu,XL j];rfl
 have e2:qr u k=qv u[k]:=by unfold qr;simp[List.getD,hu]
 have e3:qr v k=qv v[k]:=by unfold qr;simp[List.getD,j]
 unfold qr crs;rw[e1,(el (e _ (XR hu)) (h _ (XR j))).2];have q:qv (u.getD k (0,1))=qv u[k]:=e2;have t:qv (v.getD k (0,1))=qv v[k]:=e3;have m:qv (byR u v r)=dq n (qr u) (qr r) / (dq n (qr u) (qr r) - dq n (qr v) (qr r)):=qb;show _=qr u k+dq n (qr u) (qr r) / (dq n (qr u) (qr r) - dq n (qr v) (qr r))*(qr v k - qr u k);rw[e2,e3,<-m];grind
theorem Xf {α:Type}[DecidableEq α]:∀ {L M:List α},L.Nodup->(∀ x∈L,x∈M)->L.length<=M.length
 | [],_,_,_=>JK _
 | x::L,M,nd,h=>by
  obtain⟨n1,n2⟩:=GF.mp nd;have hx:=h x YV;have:=Xf (L:=L) (M:=M.erase x) n2 λy c=>(List.mem_erase_of_ne (a:=y) (b:=x) (λz=>by rw[z] at c;exact n1 c)).mpr (h y (YL _ c));rw[Y16 hx] at this;have:0<M.length:=List.length_pos_of_mem hx;simp only [XT];omega
def Z2k {α:Type}[DecidableEq α]{L:List α}{u v:α}(nd:L.Nodup)(hu:u∈L)(a:v∈L)(ne:u≠v):L.length=2 ↔ ∀ w∈L,w=u \/ w=v:=by
 have b:2<=L.length:=Xf (L:=[u,v]) (by simp[ne]) λx hx=>by
  rcases YT.mp hx with rfl | hx
  ·exact hu
  rw[XD.mp hx];exact a
 constructor
 ·intro h w hw;apply YE;intro n;have:3<=L.length:=Xf (L:=[w,u,v]) (by
   simp only [GF,YT,JP,Y1X];exact⟨⟨λz=>n (.inl z),λz=>n (.inr z),λz=>z⟩,⟨ne,λz=>z⟩,λz=>z,Y0J⟩) λx hx=>by
   rcases YT.mp hx with rfl | hx
   ·exact hw
   rcases YT.mp hx with rfl | hx
   ·exact hu
   rw[XD.mp hx];exact a
  omega
 intro h;have:L.length<=[u,v].length:=Xf nd λx hx=>by
  rcases h x hx with rfl | rfl
  ·exact YV
  exact YL _ YV
 have e:[u,v].length=2:=rfl;omega
structure CorR (n:Nat)(ess:UB)(c:Nat->Pt)(fss:UB):Prop where
 nd:fss.Nodup
 len:∀ f∈fss,f.length=n
 low:∀ f∈fss,Lows f
 cors:Cors n ess.length c (fss.map qr)
 el:∀ e∈ess,Lows e/\e.length=n
 ed:∀ k,k<ess.length->∀ x:Pt,dq n x (c k)=0 ↔ dq n x (qr (ess.getD k []))=0
section
variable {n:Nat}{ess fss:UB}{c:Nat->Pt}{u v r:UA}
def CorR.tou (C:CorR n ess c fss)(hu:u∈fss){k:Nat}:k∈touR ess u ↔ k<ess.length/\dq n (qr u) (c k)=0:=by
 unfold touR;rw[XE,XI,GC];refine and_congr_right λhk=>?_;have b:ess.getD k []∈ess:=by
  have:ess.getD k []=ess[k]:=by simp[List.getD,hk]
  rw[this];exact XR hk
 obtain⟨d,a⟩:=C.el _ b;rw[Z4h (C.low u hu) d (C.len u hu) a,C.ed k hk]
def CorR.near (C:CorR n ess c fss)(hu:u∈fss)(d:v∈fss)(ne:u≠v):nearR fss (touR ess) u v=true ↔ Near n ess.length c (fss.map qr) (qr u) (qr v):=by
 have be:∀ w∈fss,(((touR ess u).filter λk=>decide (k∈touR ess v)).all λk=>decide (k∈touR ess w))=true ↔ ∀ k,k<ess.length->dq n (qr u) (c k)=0->dq n (qr v) (c k)=0->dq n (qr w) (c k)=0:=λw hw=>by
  rw[qj];constructor
  ·intro h k hk z1 z2;have:=h k (XE.mpr ⟨(C.tou hu).mpr ⟨hk,z1⟩,XA ((C.tou d).mpr ⟨hk,z2⟩)⟩);exact ((C.tou hw).mp (XO this)).2
  intro h k hk;obtain⟨a,b⟩:=XE.mp hk;obtain⟨k1,k2⟩:=(C.tou hu).mp a;obtain⟨_,g⟩:=(C.tou d).mp (XO b);exact XA ((C.tou hw).mpr ⟨k1,h k k1 k2 g⟩)
 unfold nearR;rw[GC];have i:u∈fss.filter λw=>((touR ess u).filter λk=>decide (k∈touR ess v)).all λk=>decide (k∈touR ess w):=XE.mpr ⟨hu,(be u hu).mpr λ_ _ z _=>z⟩;have l:v∈fss.filter λw=>((touR ess u).filter λk=>decide (k∈touR ess v)).all λk=>decide (k∈touR ess w):=XE.mpr ⟨d,(be v d).mpr λ_ _ _ z=>z⟩;rw[Z2k (C.nd.sublist zL) i l ne];constructor
 ·intro h w hw e;obtain⟨f,hf,rfl⟩:=YN.mp hw;rcases h f (XE.mpr ⟨hf,(be f hf).mpr e⟩) with rfl | rfl
  ·exact .inl λ_ _=>rfl
  exact .inr λ_ _=>rfl
 intro h w hw;obtain⟨hf,j⟩:=XE.mp hw;rcases h (qr w) (YN.mpr ⟨w,hf,rfl⟩) ((be w hf).mp j) with z | z
 ·exact .inl (Qh (C.low w hf) (C.low u hu) (C.len w hf) (C.len u hu) z)
 exact .inr (Qh (C.low w hf) (C.low v d) (C.len w hf) (C.len v d) z)
theorem CorR.cut (B:Bnds n ess.length c)(C:CorR n ess c fss)(w:Lows r)(hr:r.length=n)(hc:∀ x:Pt,dq n x (c ess.length)=dq n x (qr r)):CorR n (ess++[r]) c (cutC fss ess r):=by
 have neg:∀ f∈fss,(mn f r).1<0 ↔ dq n (qr f) (c ess.length)<0:=λf hf=>by
  rw[hc,<-Sz (C.low f hf) w (C.len f hf) hr];have:=Vq (Xj (C.low f hf) w).pos;constructor
  ·intro z;have:¬ 0<=qv (mn f r):=λy=>by have:=this.mpr y;omega
   grind
  intro z;have:¬ 0<=(mn f r).1:=λy=>by have:=this.mp y;grind
  omega
 have pos:∀ f∈fss,0<(mn f r).1 ↔ 0<dq n (qr f) (c ess.length):=λf hf=>by
  rw[hc,<-Sz (C.low f hf) w (C.len f hf) hr];exact M1 (Xj (C.low f hf) w).pos
 have m:∀ f,f∈outR fss r ↔ f∈fss/\0<(mn f r).1:=λf=>by unfold outR;rw[XE,GC]
 have A:∀ f,f∈inR fss r ↔ f∈fss/\(mn f r).1<0:=λf=>by unfold inR;rw[XE,GC]
 have mk:∀ f,f∈(fss.filter λf=>!decide (f∈outR fss r)) ↔ f∈fss/\¬ 0<(mn f r).1:=λf=>by
  rw[XE];refine and_congr_right λhf=>?_;rw[Bool.not_eq_true',Y1b,m];exact⟨λz y=>z ⟨hf,y⟩,λz y=>z y.2⟩
 have mem:∀ x,x∈cutC fss ess r ↔ (x∈fss/\¬ 0<(mn x r).1) \/ ∃ one,(one∈fss/\(mn one r).1<0)/\∃ o,((o∈fss/\0<(mn o r).1)/\nearR fss (touR ess) one o=true)/\crR one o r=x:=λx=>by
  unfold cutC;rw[XN,mk,jg];refine or_congr_right ?_;constructor
  ·rintro ⟨one,h1,h2⟩;obtain⟨o,h3,rfl⟩:=YN.mp h2;obtain⟨h4,G⟩:=XE.mp h3;exact⟨one,(A one).mp h1,o,⟨(m o).mp h4,G⟩,rfl⟩
  rintro ⟨one,h1,o,⟨h2,h3⟩,rfl⟩;exact⟨one,(A one).mpr h1,YN.mpr ⟨o,XE.mpr ⟨(m o).mpr h2,h3⟩,rfl⟩⟩
 have ne:∀ {a b:UA},(mn a r).1<0->0<(mn b r).1->a≠b:=λh1 h2 z=>by rw[z] at h1;omega
 have d:∀ {one o:UA},one∈fss->(mn one r).1<0->o∈fss->0<(mn o r).1->Lows (crR one o r)/\(crR one o r).length=n/\∀ k,k<n->qr (crR one o r) k=crs n (c ess.length) (qr one) (qr o) k:=λ{one o} h1 h2 h3 h4=>by
  obtain⟨a1,a2,a3⟩:=Z52 (C.low _ h1) (C.low _ h3) w (C.len _ h1) (C.len _ h3) hr h2 h4;refine⟨a1,a2,λk hk=>?_⟩;rw[a3 k hk];unfold crs;rw[hc,hc]
 have j:∀ {f:UA},f∈fss->qr f∈fss.map qr:=λh=>YN.mpr ⟨_,h,rfl⟩;have le:(ess++[r]).length=ess.length+1:=ZJ
 refine⟨?_,λx hx=>?_,λx hx=>?_,?_,λe D=>?_,λk hk x=>?_⟩
 ·unfold cutC;refine Y0V.mpr ⟨C.nd.sublist zL,?_,?_⟩
  ·rw[XX,List.pairwise_flatMap];constructor
   ·intro one h1;rw[GV];obtain⟨f1,n1⟩:=(A one).mp h1;have t:((outR fss r).filter λo=>nearR fss (touR ess) one o).Nodup:=(C.nd.sublist zL).sublist zL;refine (XX.mp t).imp_of_mem λ{a b} ha H q e=>?_;obtain⟨O,M⟩:=XE.mp ha;obtain⟨fa,L⟩:=(m a).mp O;obtain⟨l,Q⟩:=(m b).mp (XE.mp H).1;have:=C.cors.apart (j f1) (j fa) (j f1) (j l) ((neg _ f1).mp n1) ((pos _ fa).mp L) ((neg _ f1).mp n1) ((pos _ l).mp Q) ((C.near f1 fa (ne n1 L)).mp M) λi hi=>by
     rw[<-(d f1 n1 fa L).2.2 i hi,<-(d f1 n1 l Q).2.2 i hi,e]
    exact q (Qh (C.low a fa) (C.low b l) (C.len a fa) (C.len b l) λi hi=>(this.2 i hi).symm)
   have t:(inR fss r).Nodup:=C.nd.sublist zL;refine (XX.mp t).imp_of_mem λ{a b} ha H q x hx y I e=>?_;obtain⟨fa,F⟩:=(A a).mp ha;obtain⟨l,P⟩:=(A b).mp H;obtain⟨o,ho,rfl⟩:=YN.mp hx;obtain⟨o',J,rfl⟩:=YN.mp I;obtain⟨o1,o2⟩:=XE.mp ho;obtain⟨p,po⟩:=(m o).mp o1;obtain⟨s,E⟩:=(m o').mp (XE.mp J).1;have:=C.cors.apart (j fa) (j p) (j l) (j s) ((neg _ fa).mp F) ((pos _ p).mp po) ((neg _ l).mp P) ((pos _ s).mp E) ((C.near fa p (ne F po)).mp o2) λi hi=>by
    rw[<-(d fa F p po).2.2 i hi,<-(d l P s E).2.2 i hi,e]
   exact q (Qh (C.low a fa) (C.low b l) (C.len a fa) (C.len b l) λi hi=>(this.1 i hi).symm)
  intro x hx y I e;obtain⟨S,_⟩:=(mk x).mp hx;obtain⟨one,h1,h2⟩:=jg.mp I;obtain⟨o,h3,rfl⟩:=YN.mp h2;obtain⟨f1,n1⟩:=(A one).mp h1;obtain⟨p,po⟩:=(m o).mp (XE.mp h3).1;exact C.cors.fresh (j f1) (j p) ((neg _ f1).mp n1) ((pos _ p).mp po) (j S) λi hi=>by rw[e];exact (d f1 n1 p po).2.2 i hi
 ·rcases (mem x).mp hx with ⟨h,_⟩ | ⟨one,⟨h1,h2⟩,o,⟨⟨h3,h4⟩,_⟩,rfl⟩
  ·exact C.len x h
  exact (d h1 h2 h3 h4).2.1
 ·rcases (mem x).mp hx with ⟨h,_⟩ | ⟨one,⟨h1,h2⟩,o,⟨⟨h3,h4⟩,_⟩,rfl⟩
  ·exact C.low x h
  exact (d h1 h2 h3 h4).1
 ·rw[le];refine⟨λx hx=>?_,λx X=>?_⟩
  ·obtain⟨f,hf,rfl⟩:=YN.mp hx;rcases (mem f).mp hf with ⟨h,z⟩ | ⟨one,⟨h1,h2⟩,o,⟨⟨h3,h4⟩,G⟩,rfl⟩
   ·refine C.cors.kept (j h) ?_;have:¬ 0<dq n (qr f) (c ess.length):=λy=>z ((pos f h).mpr y);grind
   exact (C.cors.cross B (j h1) (j h3) ((neg _ h1).mp h2) ((pos _ h3).mp h4) ((C.near h1 h3 (ne h2 h4)).mp G)).congr λk hk=>((d h1 h2 h3 h4).2.2 k hk).symm
  rcases C.cors.new B X with ⟨v,N,e,z⟩ | ⟨u,hu,v,N,R,U,T,e⟩
  ·obtain⟨f,hf,rfl⟩:=YN.mp N;exact⟨qr f,YN.mpr ⟨f,(mem f).mpr (.inl ⟨hf,λy=>by have:=(pos f hf).mp y;grind⟩),rfl⟩,e⟩
  obtain⟨f,hf,rfl⟩:=YN.mp hu;obtain⟨g,hg,rfl⟩:=YN.mp N;have n1:=(neg f hf).mpr R;have K:=(pos g hg).mpr U;refine⟨qr (crR f g r),YN.mpr ⟨_,(mem _).mpr (.inr ⟨f,⟨hf,n1⟩,g,⟨⟨hg,K⟩,(C.near hf hg (ne n1 K)).mpr T⟩,rfl⟩),rfl⟩,λi hi=>?_⟩;rw[(d hf n1 hg K).2.2 i hi];exact e i hi
 ·rcases XN.mp D with D | D
  ·exact C.el e D
  rw[XD.mp D];exact⟨w,hr⟩
 rw[le] at hk;by_cases z:k<ess.length
 ·have e1:(ess++[r]).getD k []=ess.getD k []:=by rw[XC,JO z,<-XC]
  rw[e1];exact C.ed k z x
 have e2:k=ess.length:=J0
 subst e2;have e1:(ess++[r]).getD ess.length []=r:=by rw[XC,JM (YJ _)];simp
 rw[e1,hc]
end
theorem Wu (f:Pt){k:Nat}:∀ {n:Nat},k<n->sQ n (λi=>if i=k then f i else 0)=f k
 | 0,h=>absurd h J0
 | n+1,h=>by
  show sQ n (λi=>if i=k then f i else 0)+(if n=k then f n else 0)=f k;by_cases e:n=k
  ·subst e;rw[YH rfl,Wc λi hi=>YF J0];grind
  rw[YF e,Wu f (n:=n) J0];grind
noncomputable def uP (n w:Nat):List Rat:=papR n (some λk=>decide (k=w))
noncomputable def paps (n:Nat):List (List Rat):=(List.range n).map (uP n)
def Sm {n w k:Nat}(h:k<n):qr (uP n w) k=if k=w then 1 else 0:=by
 unfold uP;rw[M7 h];show (if decide (k=w)=true then _ else _)=_;by_cases e:k=w
 ·rw[YH e,YH (XA e)]
 rw[YF e,XF e,YF YO]
def Kg {n w:Nat}(x:Pt)(h:w<n):dq n x (qr (uP n w))=x w:=by
 unfold dq;rw[<-Wu x h];exact Zm λk hk=>by
  rw[Sm hk];by_cases e:k=w
  ·rw[YH e,YH e];grind
  rw[YF e,YF e];grind
theorem Lv {n:Nat}{c:Nat->Pt}(g:∀ k,k<n->∀ x:Pt,dq n x (c k)=-x k):CorR n (paps n) c (paps n):=by
 have lp:(paps n).length=n:=by unfold paps;simp
 have mem:∀ f,f∈paps n ↔ ∃ w,w<n/\uP n w=f:=λf=>by
  unfold paps;rw[YN];exact⟨λ⟨w,h,e⟩=>⟨w,XI.mp h,e⟩,λ⟨w,h,e⟩=>⟨w,XI.mpr h,e⟩⟩
 refine⟨?_,λf hf=>?_,λf hf=>?_,?_,λf hf=>?_,λk hk x=>?_⟩
 ·unfold paps;rw[XX,GV];refine (XX.mp Y1c).imp_of_mem λ{a b} ha u l e=>l ?_;have h:=Sm (w:=a) (XI.mp ha);rw[e,Sm (XI.mp ha),YH rfl] at h;by_cases z:a=b
  ·exact z
  rw[YF z] at h;grind
 ·obtain⟨w,_,rfl⟩:=(mem f).mp hf;exact Wi _ _
 ·obtain⟨w,_,rfl⟩:=(mem f).mp hf;exact Wm _ _
 ·rw[lp];refine⟨λv p=>?_,λx X=>?_⟩
  ·obtain⟨f,hf,rfl⟩:=YN.mp p;obtain⟨w,hw,rfl⟩:=(mem f).mp hf;refine⟨⟨λk hk=>?_,?_⟩,λd t o i hi=>?_⟩
   ·rw[g k hk,Sm hk];split <;> grind
   ·have:=Wu (λ_=>(1:QQ)) hw;rw[<-this];exact Zm λk hk=>Sm hk
   have z:∀ k,k<n->k≠w->d k=0:=λk hk ne=>by
    have:=o k hk (by rw[g k hk,Sm hk,YF ne];grind);rw[g k hk] at this;grind
   by_cases e:i=w
   ·subst e;have h2:sQ n (λk=>if k=i then d k else 0)=sQ n d:=Zm λk hk=>by
     by_cases e:k=i
     ·rw[YH e]
     rw[YF e,z k hk e]
    rw[Wu d hi,t] at h2;exact h2
   exact z i hi e
  have ex:∃ w,w<n/\x w≠0:=YE λq=>by
   have:sQ n x=0:=Wc λk hk=>YE λy=>q ⟨k,hk,y⟩;have:=X.inn.one;grind
  obtain⟨w,hw,m⟩:=ex;have z:∀ j,j<n->j≠w->x j=0:=λj hj ne=>YE λr=>by
   have h:=X.st (λi=>(if i=w then 1 else 0)+(if i=j then -1 else 0)) (by
    have a:=Xy (λi=>if i=w then (1:QQ) else 0) (λi=>if i=j then (-1:QQ) else 0) n;rw[a,Wu (λ_=>(1:QQ)) hw,Wu (λ_=>(-1:QQ)) hj];grind) (λk hk e=>by
    rw[g k hk] at e ⊢;have k1:k≠w:=λy=>m (by rw[<-y];grind);have k2:k≠j:=λy=>r (by rw[<-y];grind);simp only [YF k1,YF k2];grind) w hw
   simp only [YH,YF (JC ne)] at h;grind
  have s:x w=1:=by
   have:=Wu x hw;rw[<-this,<-X.inn.one];exact Zm λk hk=>by
    by_cases e:k=w
    ·rw[YH e]
    rw[YF e,z k hk e]
  refine⟨qr (uP n w),YN.mpr ⟨_,(mem _).mpr ⟨w,hw,rfl⟩,rfl⟩,λi hi=>?_⟩;rw[Sm hi];by_cases e:i=w
  ·rw[YH e,e,s]
  rw[YF e,z i hi e]
 ·obtain⟨w,_,rfl⟩:=(mem f).mp hf;exact⟨Wm _ _,Wi _ _⟩
 rw[lp] at hk;have e:(paps n).getD k []=uP n k:=by
  unfold paps;rw[XC,YI,qq hk];rfl
 rw[e,Kg x hk,g k hk];constructor
 ·intro y;grind
 intro y;rw[y];grind
section
variable {n:Nat}{ess fss:UB}{c:Nat->Pt}{f:UA}
noncomputable abbrev edP (ess:UB)(k:Nat):Pt:=qr (ess.getD k [])
theorem CorR.stuck (C:CorR n ess c fss)(hf:f∈fss):Stuck n ess.length (edP ess) (qr f)/\sQ n (qr f)=1:=by
 have X:=C.cors.vx (qr f) (YN.mpr ⟨f,hf,rfl⟩);refine⟨λd a b=>X.st d a λk hk z=>?_,X.inn.one⟩;exact (C.ed k hk d).mpr (b k hk ((C.ed k hk _).mp z))
theorem Z7o {N:Nat}{e:UA}(h:RepL N D Ws e){k:Nat}(hk:k<e.length):∃ W:Int,Bd N W/\qr e k*(D:QQ)=W:=by
 have hw:k<Ws.length:=by rw[h.len];exact hk
 obtain⟨e1,b,l⟩:=h.at_ k Ws[k] e[k] (by simp[hw]) (by simp[hk]);refine⟨Ws[k],b,?_⟩;have e2:qr e k=qv e[k]:=by unfold qr;simp[List.getD,hk]
 rw[e2];unfold qv;have b1:=Xv l.pos;have e3:((e[k].1:Int):QQ)*(D:QQ)=((Ws[k]:Int):QQ)*((e[k].2:Int):QQ):=by rw[<-_root_.Rat.intCast_mul,<-_root_.Rat.intCast_mul,e1]
 grind
theorem Z0b {N:Nat}{S:Int}{C:TY}(c:Lows f)(hl:f.length=n)(hS:S≠0)(a:Bd N S)(bC:∀ k,k<n->Bd N (C k))(h:∀ k,k<n->qr f k*(S:QQ)=C k):RowN N n f:=by
 have key:∀ (S:Int) (C:TY),0<S->Bd N S->(∀ k,k<n->Bd N (C k))->(∀ k,k<n->qr f k*(S:QQ)=C k)->RowN N n f:=λS C d a bC h=>by
  obtain⟨Ws,p⟩:=RepL.each d a (rs:=f) λr hr=>by
   obtain⟨k,b⟩:=XQ hr;have hk:k<f.length:=(YG.mp b).1;have e2:qr f k=qv r:=by unfold qr;rw[XC,b];rfl
   have l:=c r hr;refine⟨C k,?_,bC k J0,l⟩;have e:=h k J0;rw[e2] at e;unfold qv at e;have b1:=Xv l.pos;have e3:((r.1:Int):QQ)*(S:QQ)=((C k:Int):QQ)*((r.2:Int):QQ):=ZQ
   rw[<-_root_.Rat.intCast_mul,<-_root_.Rat.intCast_mul] at e3;exact _root_.Rat.intCast_inj.mp e3
  exact⟨hl,S,Ws,p⟩
 by_cases z:0<S
 ·exact key S C z a bC h
 refine key (-S) (λk=>-C k) J0 a.neg (λk hk=>(bC k hk).neg) λk hk=>?_;rw[_root_.Rat.intCast_neg,_root_.Rat.intCast_neg,<-h k hk];grind
def Z75 {P:List (Nat × Nat)}(nd:fss.Nodup)(R:List Rat->Nat × Nat->Prop)(l:∀ f∈fss,∃ p∈P,R f p)(inj:∀ f∈fss,∀ g∈fss,∀ p,R f p->R g p->f=g):fss.length<=P.length:=by
 have c:∀ f:List Rat,∃ p:Nat × Nat,f∈fss->p∈P/\R f p:=λf=>by
  by_cases h:f∈fss
  ·obtain⟨p,h1,h2⟩:=l f h;exact⟨p,λ_=>⟨h1,h2⟩⟩
  exact⟨(0,0),λz=>absurd z h⟩
 have d:=λf=>Y0d (c f);have i:(fss.map λf=>Classical.choose (c f)).Nodup:=by
  rw[XX,GV];refine (XX.mp nd).imp_of_mem λ{a b} ha k j e=>j ?_;have h1:=(d a ha).2;have h2:=(d b k).2;rw[<-e] at h2;exact inj a ha b k _ h1 h2
 have:=Xf i (M:=P) λx hx=>by
  obtain⟨f,hf,rfl⟩:=YN.mp hx;exact (d f hf).1
 simpa using this
end
section
variable {n m:Nat}{c:Nat->Pt}{x:Pt}
def Z4z (t:QQ)(d e:Pt):dq n (λk=>t*d k) e=t*dq n d e:=by
 unfold dq;rw[<-Ye];exact Zm λk _=>ZQ
def Z77 (x y e:Pt):dq n (λk=>x k+y k) e=dq n x e+dq n y e:=by
 unfold dq;rw[<-Xy];exact Zm λk _=>ZQ
def Z29 (a:Nat->QQ)(e:Nat->Pt)(f:Pt)(q:Nat):dq n (λi=>sQ q λk=>a k*e k i) f=sQ q λk=>a k*dq n (e k) f:=by
 unfold dq;have h:∀ i,i<n->(sQ q λk=>a k*e k i)*f i=sQ q λk=>f i*(a k*e k i):=λi _=>by rw[Ye];grind
 rw[Zm h,Nw];refine Zm λk _=>?_;rw[<-Ye];exact Zm λi _=>ZQ
structure Frm (n m:Nat)(c:Nat->Pt)(x:Pt)(q L:Nat)(b:TX)(e r:Nat->Pt):Prop where
 len:q+L+1=n
 bt:∀ k,k<q->b k<m/\dq n x (c (b k))=0
 e0:∀ k,k<q->sQ n (e k)=0
 r0:∀ j,j<L->sQ n (r j)=0
 ee:∀ k,k<q->∀ k',k'<q->dq n (e k) (c (b k'))=if k=k' then 1 else 0
 re:∀ j,j<L->∀ k,k<q->dq n (r j) (c (b k))=0
 rr:∀ j,j<L->∀ j',j'<L->r j j'=if j=j' then 1 else 0
 span:∀ d:Pt,sQ n d=0->∀ i,i<n->d i=sQ q (λk=>dq n d (c (b k))*e k i)+sQ L (λj=>d j*r j i)
def Frm.zero {L:Nat}(h:L+1=n):Frm n m c x 0 L (λ_=>0) (λ_ _=>0) (λj i=>(if i=j then 1 else 0)+if i=L then -1 else 0):=by
 refine⟨J0,λk hk=>absurd hk J0,λk hk=>absurd hk J0,λj hj=>?_,λk hk=>absurd hk J0,λj hj k hk=>absurd hk J0,λj hj j' b=>?_,λd a i hi=>?_⟩
 ·rw[Xy,Wu (λ_=>1) (show j<n by omega),Wu (λ_=>-1) (show L<n by omega)];grind
 ·show (if j'=j then (1:QQ) else 0)+(if j'=L then -1 else 0)=_;rw[YF (show ¬ j'=L by omega)];by_cases z:j=j'
  ·rw[YH z,YH z.symm];grind
  rw[YF z,YF λy=>z y.symm];grind
 show d i=0+sQ L λj=>d j*((if i=j then 1 else 0)+if i=L then -1 else 0);by_cases z:i=L
 ·subst z;have h1:sQ i (λj=>d j*((if i=j then 1 else 0)+if i=i then -1 else 0))=sQ i λj=>(-1)*d j:=Zm λj hj=>by
   rw[YF (show ¬ i=j by omega),YH rfl];grind
  rw[h1,Ye];subst h;have:sQ i d+d i=0:=a;grind
 have h1:sQ L (λj=>d j*((if i=j then 1 else 0)+if i=L then -1 else 0))=sQ L λj=>if j=i then d j else 0:=Zm λj hj=>by
  rw[YF z];by_cases y:i=j
  ·rw[YH y,YH y.symm];grind
  rw[YF y,YF λu=>y u.symm];grind
 rw[h1,Wu d (show i<L by omega)];grind
def Frm.step {q L:Nat}{b:TX}{e r:Nat->Pt}(F:Frm n m c x q (L+1) b e r)(st:Stuck n m c x):∃ b e r,Frm n m c x (q+1) L b e r:=by
 have C:=F.len;have v:r L L=1:=by have:=F.rr L J0 L J0;rwa [YH rfl] at this
 obtain⟨f,o,p,w⟩:∃ k,k<m/\dq n x (c k)=0/\dq n (r L) (c k)≠0:=by
  refine YE λno=>?_;have:=st (r L) (F.r0 L J0) (λk hk z=>YE λy=>no ⟨k,hk,z,y⟩) L J0;rw[v] at this;grind
 obtain⟨s,hs⟩:∃ s:QQ,s*dq n (r L) (c f)=1:=⟨1 / dq n (r L) (c f),ZQ⟩;have a:∀ k,k<q->¬ k=q:=λk hk=>J0
 have cs:∀ {k},k<q+1->k<q \/ k=q:=λh=>J0
 refine⟨λk=>if k=q then f else b k,λk=>if k=q then (λi=>s*r L i) else λi=>e k i+(-(dq n (e k) (c f))*s)*r L i,λj i=>r j i+(-(dq n (r j) (c f))*s)*r L i,⟨J0,λk hk=>?_,λk hk=>?_,λj hj=>?_,λk hk k' l=>?_,λj hj k hk=>?_,λj hj j' t=>?_,λd u i hi=>?_⟩⟩
 ·rcases cs hk with h | rfl
  ·rw[YF (a k h)];exact F.bt k h
  rw[YH rfl];exact⟨o,p⟩
 ·rcases cs hk with h | rfl
  ·rw[YF (a k h),Vg,F.e0 k h,F.r0 L J0];grind
  rw[YH rfl,Ye,F.r0 L J0];grind
 ·rw[Vg,F.r0 j J0,F.r0 L J0];grind
 ·rcases cs hk with h | rfl
  ·rw[YF (a k h),Yy];rcases cs l with h' | rfl
   ·rw[YF (a k' h'),F.ee k h k' h',F.re L J0 k' h'];grind
   rw[YH rfl,YF (a k h)];grind
  rw[YH rfl,Z4z];rcases cs l with h' | rfl
  ·rw[YF (a k' h'),F.re L J0 k' h',YF λy=>a k' h' y.symm];grind
  rw[YH rfl,YH rfl];exact hs
 ·rw[Yy];rcases cs hk with h | rfl
  ·rw[YF (a k h),F.re j J0 k h,F.re L J0 k h];grind
  rw[YH rfl];grind
 ·show r j j'+_*r L j'=_;rw[F.rr j J0 j' J0,F.rr L J0 j' J0,YF (show ¬ L=j' by omega)];grind
 have g:=F.span d u;have key:dq n d (c f)=sQ q (λk=>dq n d (c (b k))*dq n (e k) (c f))+(sQ L (λj=>d j*dq n (r j) (c f))+d L*dq n (r L) (c f)):=by
  rw[Yk g,Z77,Z29,Z29];rfl
 have o1:=g i hi;have o2:sQ (L+1) (λj=>d j*r j i)=sQ L (λj=>d j*r j i)+d L*r L i:=rfl;rw[o2] at o1;have n1:sQ (q+1) (λk=>dq n d (c (if k=q then f else b k))*(if k=q then (λi=>s*r L i) else λi=>e k i+(-(dq n (e k) (c f))*s)*r L i) i)=(sQ q (λk=>dq n d (c (b k))*e k i)+(-(s*r L i))*sQ q (λk=>dq n d (c (b k))*dq n (e k) (c f)))+dq n d (c f)*(s*r L i):=by
  show sQ q _+_=_;dsimp only;rw[<-Ye,<-Xy,YH rfl,YH rfl]
  congr 1
  exact Zm λk hk=>by rw[YF (a k hk),YF (a k hk)];grind
 have n2:sQ L (λj=>d j*(r j i+(-(dq n (r j) (c f))*s)*r L i))=sQ L (λj=>d j*r j i)+(-(s*r L i))*sQ L (λj=>d j*dq n (r j) (c f)):=by
  rw[<-Ye,<-Xy];exact Zm λj hj=>ZQ
 rw[n1,n2,key,o1];generalize sQ q (λk=>dq n d (c (b k))*e k i)=A;generalize sQ L (λj=>d j*r j i)=B;generalize sQ q (λk=>dq n d (c (b k))*dq n (e k) (c f))=A';generalize sQ L (λj=>d j*dq n (r j) (c f))=B';grind
theorem Frm.full (st:Stuck n m c x):∀ {L q:Nat} {b:TX} {e r:Nat->Pt},Frm n m c x q L b e r->∃ b e r,Frm n m c x (n - 1) 0 b e r
 | 0,q,b,e,r,F=>by
  have:=F.len;have:q=n - 1:=J0
  subst this;exact⟨b,e,r,F⟩
 | L+1,q,b,e,r,F=>by
  obtain⟨d,e',r',a⟩:=F.step st;exact Frm.full st a
structure Fix (n m:Nat)(c:Nat->Pt)(x:Pt)(b:TX)(e:Nat->Pt):Prop where
 bt:∀ k,k<n - 1->b k<m/\dq n x (c (b k))=0
 e0:∀ k,k<n - 1->sQ n (e k)=0
 ee:∀ k,k<n - 1->∀ k',k'<n - 1->dq n (e k) (c (b k'))=if k=k' then 1 else 0
 span:∀ d:Pt,sQ n d=0->∀ i,i<n->d i=sQ (n - 1) (λk=>dq n d (c (b k))*e k i)
def Stuck.fix (st:Stuck n m c x)(h:1<=n):∃ b e,Fix n m c x b e:=by
 obtain⟨b,e,r,F⟩:=Frm.full st (Frm.zero (m:=m) (c:=c) (x:=x) (L:=n - 1) J0);refine⟨b,e,F.bt,F.e0,F.ee,λd a i hi=>?_⟩;rw[F.span d a i hi];show _+0=_;grind
def Fix.inj {b:TX}{e:Nat->Pt}(F:Fix n m c x b e){k k':Nat}(h:k<n - 1)(h':k'<n - 1)(ne:k≠k'):b k≠b k':=λy=>by
 have a:=F.ee k h k h;have z:=F.ee k h k' h';rw[YH rfl,y] at a;rw[YF ne] at z;grind
def Nn (n:Nat)(d:Pt):Prop:=(∀ i,i<n->d i=0) \/ ∃ i,i<n/\(∀ j,j<i->d j=0)/\0<d i
theorem Qp (d:Pt):∀ n,Nn n d \/ Nn n λk=>-d k
 | 0=>.inl (.inl λi h=>absurd h J0)
 | n+1=>by
  have up:∀ d:Pt,Nn n d->(∃ i,i<n/\d i≠0)->Nn (n+1) d:=λd h ⟨i,hi,ne⟩=>by
   rcases h with h | ⟨j,hj,a,p⟩
   ·exact absurd (h i hi) ne
   exact .inr ⟨j,J0,a,p⟩
  by_cases z:∃ i,i<n/\d i≠0
  ·obtain⟨i,hi,ne⟩:=z;rcases Qp d n with h | h
   ·exact .inl (up d h ⟨i,hi,ne⟩)
   exact .inr (up _ h ⟨i,hi,by (try dsimp only);grind⟩)
  have b:∀ i,i<n->d i=0:=λi hi=>YE λy=>z ⟨i,hi,y⟩;by_cases p:0<d n
  ·exact .inl (.inr ⟨n,J0,b,p⟩)
  by_cases c:d n<0
  ·exact .inr (.inr ⟨n,J0,λj hj=>by (try dsimp only);rw[b j hj];grind,by (try dsimp only);grind⟩)
  refine .inl (.inl λi hi=>?_);by_cases y:i=n
  ·subst y;grind
  exact b i J0
def Nn.add {d d':Pt}(h:Nn n d)(h':Nn n d'):Nn n λk=>d k+d' k:=by
 rcases h with h | ⟨i,hi,a,p⟩
 ·rcases h' with h' | ⟨j,hj,b,c⟩
  ·exact .inl λi hi=>by (try dsimp only);rw[h i hi,h' i hi];grind
  exact .inr ⟨j,hj,λk hk=>by (try dsimp only);rw[h k J0,b k hk];grind,by (try dsimp only);rw[h j hj];grind⟩
 rcases h' with h' | ⟨j,hj,b,c⟩
 ·exact .inr ⟨i,hi,λk hk=>by (try dsimp only);rw[h' k J0,a k hk];grind,by (try dsimp only);rw[h' i hi];grind⟩
 by_cases e:i<j
 ·exact .inr ⟨i,hi,λk hk=>by (try dsimp only);rw[a k hk,b k J0];grind,by (try dsimp only);rw[b i e];grind⟩
 by_cases f:j<i
 ·exact .inr ⟨j,hj,λk hk=>by (try dsimp only);rw[a k J0,b k hk];grind,by (try dsimp only);rw[a j f];grind⟩
 have:i=j:=J0
 subst this;exact .inr ⟨i,hi,λk hk=>by (try dsimp only);rw[a k hk,b k hk];grind,by (try dsimp only);grind⟩
def Nn.smul {d:Pt}{t:QQ}(h:Nn n d)(b:0<=t):Nn n λk=>t*d k:=by
 by_cases z:t=0
 ·exact .inl λi hi=>by (try dsimp only);rw[z];grind
 rcases h with h | ⟨i,hi,a,p⟩
 ·exact .inl λi hi=>by (try dsimp only);rw[h i hi];grind
 exact .inr ⟨i,hi,λk hk=>by (try dsimp only);rw[a k hk];grind,_root_.Rat.mul_pos (by (try dsimp only);grind) p⟩
theorem Nn.sum {f:Nat->Pt}:∀ {q:Nat},(∀ k,k<q->Nn n (f k))->Nn n λi=>sQ q λk=>f k i
 | 0,_=>.inl λ_ _=>rfl
 | q+1,h=>(Nn.sum λk hk=>h k J0).add (h q J0)
def Nn.congr {d d':Pt}(h:Nn n d)(e:∀ i,i<n->d i=d' i):Nn n d':=by
 rcases h with h | ⟨i,hi,a,p⟩
 ·exact .inl λi hi=>by (try dsimp only);rw[<-e i hi];exact h i hi
 exact .inr ⟨i,hi,λk hk=>by (try dsimp only);rw[<-e k J0];exact a k hk,by (try dsimp only);rw[<-e i hi];exact p⟩
def Nn.anti {x y:Pt}(h:Nn n λk=>x k - y k)(h':Nn n λk=>y k - x k):∀ i,i<n->x i=y i:=by
 rcases h with h | ⟨i,hi,a,p⟩
 ·exact λi hi=>by have:=h i hi;grind
 exfalso;rcases h' with h' | ⟨j,hj,d,e⟩
 ·have:=h' i hi;grind
 by_cases b:i<j
 ·have:=d i b;grind
 by_cases c:j<i
 ·have:=a j c;grind
 have:i=j:=J0
 subst this;grind
structure MaxA (n m:Nat)(c:Nat->Pt)(x:Pt)(i j:Nat):Prop where
 hi:dq n x (c i)=0
 hj:dq n x (c j)=0
 top:∀ y,InP n m c y->dq n y (c i)=0->dq n y (c j)=0->Nn n λk=>x k - y k
structure MinA (n m:Nat)(c:Nat->Pt)(x:Pt)(i:Nat):Prop where
 hi:dq n x (c i)=0
 bot:∀ y,InP n m c y->dq n y (c i)=0->Nn n λk=>y k - x k
def MaxA.swap (h:MaxA n m c x i j):MaxA n m c x j i:=⟨h.hj,h.hi,λy I a b=>h.top y I b a⟩
def Fix.diff {b:TX}{e:Nat->Pt}(F:Fix n m c x b e)(X:InP n m c x){y:Pt}(I:InP n m c y):∀ i,i<n->y i - x i=sQ (n - 1) λk=>dq n y (c (b k))*e k i:=λi hi=>by
 have:=F.span (λk=>y k - x k) (by rw[Uu,I.one,X.one];grind) i hi;rw[this];exact Zm λk hk=>by rw[Pk,(F.bt k hk).2];grind
def Fix.max {b:TX}{e:Nat->Pt}(F:Fix n m c x b e)(X:InP n m c x){s t:Nat}(hs:s<n - 1)(d:t<n - 1)(h:∀ k,k<n - 1->k≠s->k≠t->Nn n (e k)):MaxA n m c x (b s) (b t):=by
 refine⟨(F.bt s hs).2,(F.bt t d).2,λy I a g=>?_⟩;have D:=F.diff X I;refine Nn.congr (Nn.sum (f:=λk i=>(-dq n y (c (b k)))*e k i) (q:=n - 1) λk hk=>?_) λi hi=>?_
 ·by_cases e1:k=s
  ·subst e1;exact .inl λi hi=>by show -dq n y (c (b k))*e k i=0;rw[a];grind
  by_cases e2:k=t
  ·subst e2;exact .inl λi hi=>by show -dq n y (c (b k))*e k i=0;rw[g];grind
  exact (h k hk e1 e2).smul (by have:=I.le _ (F.bt k hk).1;grind)
 show sQ (n - 1) (λk=>-dq n y (c (b k))*e k i)=x i - y i;have h1:sQ (n - 1) (λk=>-dq n y (c (b k))*e k i)=(-1)*sQ (n - 1) λk=>dq n y (c (b k))*e k i:=by
  rw[<-Ye];exact Zm λk _=>ZQ
 rw[h1,<-D i hi];grind
def Fix.min {b:TX}{e:Nat->Pt}(F:Fix n m c x b e)(X:InP n m c x){s:Nat}(hs:s<n - 1)(h:∀ k,k<n - 1->k≠s->Nn n λi=>-e k i):MinA n m c x (b s):=by
 refine⟨(F.bt s hs).2,λy I a=>?_⟩;have D:=F.diff X I;refine Nn.congr (Nn.sum (f:=λk i=>(-dq n y (c (b k))) * -e k i) (q:=n - 1) λk hk=>?_) λi hi=>?_
 ·by_cases e1:k=s
  ·subst e1;exact .inl λi hi=>by show -dq n y (c (b k)) * -e k i=0;rw[a];grind
  exact (h k hk e1).smul (by have:=I.le _ (F.bt k hk).1;grind)
 show sQ (n - 1) (λk=>-dq n y (c (b k)) * -e k i)=y i - x i;rw[D i hi];exact Zm λk _=>ZQ
def Cod (n m:Nat)(c:Nat->Pt)(x:Pt)(p:Nat × Nat):Prop:=(p.1=p.2/\MinA n m c x p.1) \/ (p.2<p.1/\MaxA n m c x p.1 p.2)
def Cod.inj {y:Pt}{p:Nat × Nat}(X:InP n m c x)(Y:InP n m c y)(h:Cod n m c x p)(h':Cod n m c y p):∀ i,i<n->x i=y i:=by
 rcases h with ⟨e,h⟩ | ⟨e,h⟩
 ·rcases h' with ⟨_,h'⟩ | ⟨e',_⟩
  ·exact (h'.bot x X h.hi).anti (h.bot y Y h'.hi)
  omega
 rcases h' with ⟨e',_⟩ | ⟨_,h'⟩
 ·omega
 exact (h.top y Y h'.hi h'.hj).anti (h'.top x X h.hi h.hj)
noncomputable def prs (m:Nat):List (Nat × Nat):=(List.range m).flatMap λi=>(List.range (i+1)).map λj=>(i,j)
def Tc {m:Nat}(h1:i<m)(h2:j<=i):(i,j)∈prs m:=jg.mpr ⟨i,XI.mpr h1,YN.mpr ⟨j,XI.mpr J0,rfl⟩⟩
def MaxA.cod (h:MaxA n m c x i j)(ne:i≠j)(hi:i<m)(hj:j<m):∃ p∈prs m,Cod n m c x p:=by
 by_cases a:j<i
 ·exact⟨(i,j),Tc hi J0,.inr ⟨a,h⟩⟩
 exact⟨(j,i),Tc hj J0,.inr ⟨(by show i<j;omega),h.swap⟩⟩
def MinA.cod (h:MinA n m c x i)(hi:i<m):∃ p∈prs m,Cod n m c x p:=⟨(i,i),Tc hi J0,.inl ⟨rfl,h⟩⟩
theorem Z7h {q:Nat}{P N:Nat->Prop}(h:∀ k,P k \/ N k)(h1:1<=q)(h4:q<=4):(∃ s t,s<q/\t<q/\s≠t/\∀ k,k<q->k≠s->k≠t->P k) \/ ∃ s,s<q/\∀ k,k<q->k≠s->N k:=by
 by_cases a:q=1
 ·exact .inr ⟨0,J0,λk hk ne=>absurd hk J0⟩
 by_cases b:q=2
 ·exact .inl ⟨0,1,J0,J0,J0,λk hk n1 n2=>absurd hk J0⟩
 by_cases d:q=3
 ·subst d;rcases h 0 with h0 | h0
  ·refine .inl ⟨1,2,J0,J0,J0,λk hk n1 n2=>?_⟩;have:k=0:=J0
   subst this;exact h0
  rcases h 1 with h1 | h1
  ·refine .inl ⟨0,2,J0,J0,J0,λk hk n1 n2=>?_⟩;have:k=1:=J0
   subst this;exact h1
  refine .inr ⟨2,J0,λk hk ne=>?_⟩;have:k=0 \/ k=1:=J0
  rcases this with rfl | rfl <;> assumption
 have e:q=4:=J0
 subst e;have c:∀ s t u v:Nat,s<4->t<4->s≠t->(∀ k,k<4->k≠s->k≠t->k=u \/ k=v)->P u->P v->(∃ s t,s<4/\t<4/\s≠t/\∀ k,k<4->k≠s->k≠t->P k):=λs t u v hs i ne g l pv=>⟨s,t,hs,i,ne,λk hk n1 n2=>by
  rcases g k hk n1 n2 with rfl | rfl <;> assumption⟩
 have f:∀ s u v w:Nat,s<4->(∀ k,k<4->k≠s->k=u \/ k=v \/ k=w)->N u->N v->N w->∃ s,s<4/\∀ k,k<4->k≠s->N k:=λs u v w hs g m n j=>⟨s,hs,λk hk n1=>by
  rcases g k hk n1 with rfl | rfl | rfl <;> assumption⟩
 rcases h 0 with h0 | h0 <;> rcases h 1 with h1 | h1 <;> rcases h 2 with h2 | h2 <;> rcases h 3 with h3 | h3 <;> first
  | exact .inl (c 2 3 0 1 J0 J0 J0 J0 h0 h1)
  | exact .inl (c 1 3 0 2 J0 J0 J0 J0 h0 h2)
  | exact .inl (c 1 2 0 3 J0 J0 J0 J0 h0 h3)
  | exact .inl (c 0 3 1 2 J0 J0 J0 J0 h1 h2)
  | exact .inl (c 0 2 1 3 J0 J0 J0 J0 h1 h3)
  | exact .inl (c 0 1 2 3 J0 J0 J0 J0 h2 h3)
  | exact .inr (f 0 1 2 3 J0 J0 h1 h2 h3)
  | exact .inr (f 1 0 2 3 J0 J0 h0 h2 h3)
  | exact .inr (f 2 0 1 3 J0 J0 h0 h1 h3)
  | exact .inr (f 3 0 1 2 J0 J0 h0 h1 h2)
theorem Vx.cod (v:Vx n m c x)(h2:2<=n)(f:n<=5):∃ p∈prs m,Cod n m c x p:=by
 obtain⟨b,e,F⟩:=v.st.fix J0;rcases Z7h (q:=n - 1) (P:=λk=>Nn n (e k)) (N:=λk=>Nn n λi=>-e k i) (λk=>Qp (e k) n) J0 J0 with ⟨s,t,hs,a,ne,d⟩ | ⟨s,hs,d⟩
 ·exact (F.max v.inn hs a d).cod (F.inj hs a ne) (F.bt s hs).1 (F.bt t a).1
 exact (F.min v.inn hs d).cod (F.bt s hs).1
end
section
variable {n:Nat}{ess fss:UB}{c:Nat->Pt}{f:UA}
def Go:∀ m,m<=11->(prs m).length<=m*(m+1) / 2:=by decide
theorem CorR.vx (C:CorR n ess c fss)(hf:f∈fss):Vx n ess.length c (qr f):=C.cors.vx _ (YN.mpr ⟨f,hf,rfl⟩)
def Z24 {P:List (Nat × Nat)}{gss:UB}(C:CorR n ess c fss)(nd:gss.Nodup)(sub:∀ f∈gss,f∈fss)(h:∀ f∈gss,∃ p∈P,Cod n ess.length c (qr f) p):gss.length<=P.length :=
 Z75 nd (λf p=>Cod n ess.length c (qr f) p) h λf hf g hg p a b=>Qh (C.low f (sub f hf)) (C.low g (sub g hg)) (C.len f (sub f hf)) (C.len g (sub g hg)) (Cod.inj (C.vx (sub f hf)).inn (C.vx (sub g hg)).inn a b)
def CorR.few10 (C:CorR n ess c fss)(h2:2<=n)(a:n<=5)(hm:ess.length<=10):fss.length<=55:=by
 have:=Z24 C C.nd (λ_ h=>h) λf hf=>(C.vx hf).cod h2 a;have:=Go ess.length J0;have:ess.length*(ess.length+1)<=10*11:=zO hm J0;omega
theorem Ke:∀ {gss:UB},gss≠[]->∃ w∈gss,∀ f∈gss,Nn n λk=>qr w k - qr f k
 | [g],_=>⟨g,YV,λf hf=>by rw[XD.mp hf];exact .inl λi _=>ZQ⟩
 | g::g'::gs,_=>by
  obtain⟨w,hw,a⟩:=Ke (gss:=g'::gs) (List.cons_ne_nil _ _);rcases Qp (λk=>qr w k - qr g k) n with h | h
  ·refine⟨w,YL _ hw,λf hf=>?_⟩;rcases YT.mp hf with rfl | hf
   ·exact h
   exact a f hf
  refine⟨g,YV,λf hf=>?_⟩;rcases YT.mp hf with rfl | hf
  ·exact .inl λi _=>ZQ
  exact (h.add (a f hf)).congr λi _=>ZQ
def D0 {a b c d m:Nat}(h1:a<m)(h2:b<m)(h3:c<m)(h4:d<m)(n1:a≠b)(n2:a≠c)(i:a≠d)(g:b≠c)(h:b≠d)(k:c≠d):6<=((prs m).filter λp=>decide (p.2<p.1/\p.1∈[a,b,c,d]/\p.2∈[a,b,c,d])).length:=by
 refine Xf (L:=[(Nat.max a b,Nat.min a b),(Nat.max a c,Nat.min a c),(Nat.max a d,Nat.min a d),(Nat.max b c,Nat.min b c),(Nat.max b d,Nat.min b d),(Nat.max c d,Nat.min c d)]) ?_ λp hp=>?_
 ·simp only [GF,YT,JP,Prod.mk.injEq,Nat.max_def,Nat.min_def,jc,not_false_eq_true,Y0J,and_true];refine⟨?_,?_,?_,?_,?_⟩ <;> (repeat' split) <;> omega
 have key:∀ x y:Nat,x∈[a,b,c,d]->y∈[a,b,c,d]->x≠y->x<m->y<m->(Nat.max x y,Nat.min x y)∈(prs m).filter λp=>decide (p.2<p.1/\p.1∈[a,b,c,d]/\p.2∈[a,b,c,d]):=λx y hx e ne l j=>by
  refine XE.mpr ?_;by_cases f:x<y
  ·rw[show Nat.max x y=y from Nat.max_eq_right J0,show Nat.min x y=x from Nat.min_eq_left J0];exact⟨Tc j J0,XA ⟨f,e,hx⟩⟩
  rw[show Nat.max x y=x from Nat.max_eq_left J0,show Nat.min x y=y from Nat.min_eq_right J0];exact⟨Tc l J0,XA ⟨by show y<x;omega,hx,e⟩⟩
 simp only [YT,JP,jc] at hp;rcases hp with rfl | rfl | rfl | rfl | rfl | rfl
 ·exact key a b ZJ ZJ n1 h1 h2
 ·exact key a c ZJ ZJ n2 h1 h3
 ·exact key a d ZJ ZJ i h1 h4
 ·exact key b c ZJ ZJ g h2 h3
 ·exact key b d ZJ ZJ h h2 h4
 exact key c d ZJ ZJ k h3 h4
theorem CorR.few11 (C:CorR 5 ess c fss)(hm:ess.length<=11):fss.length<=61:=by
 by_cases nl:fss=[]
 ·rw[nl];exact JK _
 obtain⟨w,hw,top⟩:=Ke (n:=5) nl;have W:=C.vx hw;obtain⟨b,e,F⟩:=W.st.fix J0;have q:∀ k,k<4->k<5 - 1:=λk h=>J0
 have B:=λk (h:k<4)=>F.bt k (q k h);have six:=D0 (B 0 J0).1 (B 1 J0).1 (B 2 J0).1 (B 3 J0).1 (F.inj (q 0 J0) (q 1 J0) J0) (F.inj (q 0 J0) (q 2 J0) J0) (F.inj (q 0 J0) (q 3 J0) J0) (F.inj (q 1 J0) (q 2 J0) J0) (F.inj (q 1 J0) (q 3 J0) J0) (F.inj (q 2 J0) (q 3 J0) J0);have met:∀ i,i∈[b 0,b 1,b 2,b 3]->dq 5 (qr w) (c i)=0:=λi hi=>by
  simp only [YT,JP,jc] at hi;rcases hi with rfl | rfl | rfl | rfl
  ·exact (B 0 J0).2
  ·exact (B 1 J0).2
  ·exact (B 2 J0).2
  exact (B 3 J0).2
 have rest:=Z24 (P:=(prs ess.length).filter λp=>!decide (p.2<p.1/\p.1∈[b 0,b 1,b 2,b 3]/\p.2∈[b 0,b 1,b 2,b 3])) (gss:=fss.erase w) C (C.nd.erase w) (λf hf=>Y1q hf) λf hf=>by
  have a:=Y1q hf;obtain⟨p,hp,co⟩:=(C.vx a).cod J0 J0;refine⟨p,XE.mpr ⟨hp,?_⟩,co⟩;rw[Bool.not_eq_true',Y1b];rintro ⟨j,g,d⟩;rcases co with ⟨e1,_⟩ | ⟨_,co⟩
  ·omega
  have:=(co.top _ W.inn (met _ g) (met _ d)).anti (top f a);have eq:=Qh (C.low f a) (C.low w hw) (C.len f a) (C.len w hw) this;rw[eq] at hf;exact (List.Nodup.not_mem_erase C.nd) hf
 have sp:((prs ess.length).filter λp=>decide (p.2<p.1/\p.1∈[b 0,b 1,b 2,b 3]/\p.2∈[b 0,b 1,b 2,b 3])).length+((prs ess.length).filter λp=>!decide (p.2<p.1/\p.1∈[b 0,b 1,b 2,b 3]/\p.2∈[b 0,b 1,b 2,b 3])).length=(prs ess.length).length:=by
  induction prs ess.length with
  | nil=>rfl
  | cons x l m =>
   rw[JL,JL]
   cases h:decide (x.2<x.1/\x.1∈[b 0,b 1,b 2,b 3]/\x.2∈[b 0,b 1,b 2,b 3]) <;> simp only [h,zX,Bool.not_false,Y0y,qV,XT,XW] <;> omega
 have:=Go ess.length J0;have:ess.length*(ess.length+1)<=11*12:=zO hm J0;rw[Y16 hw] at rest;omega
end
theorem Ln (y:Nat->QQ):∀ n:Nat,∃ (D:Int) (Y:TY),D≠0/\∀ k,k<n->y k*(D:QQ)=Y k
 | 0=>⟨1,λ_=>0,J1,λk h=>absurd h J0⟩
 | n+1=>by
  obtain⟨D,Y,b,h⟩:=Ln y n;have a:((y n).den:Int)≠0:=by have:=(y n).den_nz;omega
  have e:y n*(((y n).den:Int):QQ)=((y n).num:QQ):=by
   have z:(((y n).den:Int):QQ)≠0:=λz=>a (_root_.Rat.intCast_inj.mp (by rw[z];rfl));have h:=_root_.Rat.num_divInt_den (y n);rw[_root_.Rat.divInt_eq_div] at h;grind
  refine⟨D*((y n).den:Int),λk=>if k=n then (y n).num*D else Y k*((y n).den:Int),Y1n b a,λk hk=>?_⟩;dsimp only;by_cases z:k=n
  ·subst z;rw[YH rfl,_root_.Rat.intCast_mul,_root_.Rat.intCast_mul,<-e];grind
  rw[YF z,_root_.Rat.intCast_mul,_root_.Rat.intCast_mul,<-h k J0];grind
theorem Z06 {t M:Nat}(A:Nat):∀ {n:Nat},t<n->_v.sN n (λk=>if k=t then A else M)=A+(n - 1)*M
 | 0,h=>absurd h J0
 | n+1,h=>by
  show _v.sN n (λk=>if k=t then A else M)+(if n=t then A else M)=A+n*M;by_cases e:n=t
  ·rw[YH e];have:_v.sN n (λk=>if k=t then A else M)=n*M:=by
    have c:_v.sN n (λk=>if k=t then A else M)=_v.sN n λ_=>M:=_v.sN_congr λk hk=>YF J0;rw[c];clear c h e
    induction n with
    | zero=>rw[Nat.zero_mul];rfl
    | succ n a =>
     show _v.sN n (λ_=>M)+M=_;rw[a,Y02]
   omega
  rw[YF e,Z06 A (n:=n) J0];obtain⟨q,rfl⟩:∃ q,n=q+1:=⟨n - 1,J0⟩;rw[Y1P,Y02];omega
section
variable {q m N:Nat}{c:Nat->Pt}{x:Pt}{b:TX}{e:Nat->Pt}
def Fj {n:Nat}(h:i<n)(f:Pt):dq n (λk=>if k=i then 1 else 0) f=f i:=by
 unfold dq;rw[<-Wu f h];exact Zm λk _=>by split <;> grind
def Fix.unit (F:Fix (q+1) m c x b e)(s1:sQ (q+1) x=1){i j:Nat}(hi:i<q+1)(hj:j<q+1):(if j=i then (1:QQ) else 0)=sQ q (λk=>c (b k) i*e k j)+x j:=by
 have:=F.span (λk=>(if k=i then 1 else 0) - x k) (by rw[Uu,Wu (λ_=>1) hi,s1];grind) j hj;have e2:sQ (q+1 - 1) (λk=>dq (q+1) (λk=>(if k=i then 1 else 0) - x k) (c (b k))*e k j)=sQ q λk=>c (b k) i*e k j:=Zm λk hk=>by
  rw[Pk,Fj hi,(F.bt k hk).2];grind
 rw[e2] at this;grind
theorem Fix.cramer (F:Fix (q+1) m c x b e)(h8:q+1<=8)(s1:sQ (q+1) x=1)(hw:∀ k,k<q->∃ (D:Int) (W:TY),D≠0/\∀ i,i<q+1->c (b k) i*(D:QQ)=W i/\Bd N (W i)) :
  ∃ (S:Int) (C:TY),S≠0/\Bd (4+q*(N+3)) S/\(∀ j,j<q+1->Bd (4+q*(N+3)) (C j))/\∀ j,j<q+1->x j*(S:QQ)=C j:=by
 have J:∀ k,∃ p:Int × (Nat->Int),k<q->p.1≠0/\∀ i,i<q+1->c (b k) i*(p.1:QQ)=p.2 i/\Bd N (p.2 i):=λk=>by
  by_cases h:k<q
  ·obtain⟨D,W,h1,h2⟩:=hw k h;exact⟨(D,W),λ_=>⟨h1,h2⟩⟩
  exact⟨(0,λ_=>0),λz=>absurd z h⟩
 obtain⟨p,P⟩:∃ p:Nat->Int × (Nat->Int),∀ k,k<q->(p k).1≠0/\∀ i,i<q+1->c (b k) i*((p k).1:QQ)=(p k).2 i/\Bd N ((p k).2 i):=⟨λk=>Classical.choose (J k),λk=>Y0d (J k)⟩;have P:∀ k,k<q->(p k).1≠0/\∀ i,i<q+1->c (b k) i*((p k).1:QQ)=(p k).2 i/\Bd N ((p k).2 i):=P;obtain⟨v,X⟩:∃ v:_v.Mat,∀ k,v k=if k<q then (p k).2 else λ_=>1:=⟨_,λ_=>rfl⟩
 have v1:∀ k,k<q->v k=(p k).2:=λk hk=>by rw[X,YH hk]
 have v2:v q=λ_=>1:=by rw[X,YF J0]
 have K:∀ j,j<q+1->∃ (D:Int) (Y:TY),D≠0/\(Y q:QQ)=x j*(D:QQ)/\∀ i,i<q+1->_v.sm (q+1) (λk=>Y k*v k i)=D*_v.idm j i:=λj hj=>by
  obtain⟨D,Y,O,h⟩:=Ln (λk=>if k<q then e k j / ((p k).1:QQ) else x j) (q+1);have hq:=h q J0;rw[YF J0] at hq;refine⟨D,Y,O,hq.symm,λi hi=>?_⟩;have u:=F.unit s1 hi hj;apply _root_.Rat.intCast_inj.mp;rw[Ks];show sQ q (λk=>((Y k*v k i:Int):QQ))+((Y q*v q i:Int):QQ)=_;rw[v2,_root_.Rat.intCast_mul,<-hq];have e1:sQ q (λk=>((Y k*v k i:Int):QQ))=sQ q λk=>(D:QQ)*(c (b k) i*e k j):=Zm λk hk=>by
   have I:=h k J0;rw[YH hk] at I;obtain⟨p0,pw⟩:=P k hk;have:=(pw i hi).1;have a0:((p k).1:QQ)≠0:=λz=>p0 (_root_.Rat.intCast_inj.mp (by rw[z];rfl));rw[_root_.Rat.intCast_mul,v1 k hk,<-this,<-I];grind
  rw[e1,Ye];have e3:((D*_v.idm j i:Int):QQ)=(D:QQ)*if j=i then 1 else 0:=by
   rw[_root_.Rat.intCast_mul];unfold _v.idm;split <;> rfl
  rw[e3,u];show _+x j*(D:QQ)*((1:Int):QQ)=_;have:((1:Int):QQ)=1:=rfl;grind
 have s:∀ (w:_v.Mat) (t:Nat),t<q+1->∀ (j:Nat) (D:Int) (Y:TY),(∀ i,i<q+1->_v.sm (q+1) (λk=>Y k*v k i)=D*_v.idm j i)->D*_v.det (q+1) (_v.put w t (_v.idm j))=_v.sm (q+1) λk=>Y k*_v.det (q+1) (_v.put w t (v k)):=λw t U j D Y h=>by
  rw[<-_v.det_sum U Y v (q+1),<-_v.det_smul U];refine _v.det_congr λk r hk hr=>?_;unfold _v.put;split
  ·exact (h r hr).symm
  rfl
 have H:∀ t,t<=q+1->∃ κ:Nat->Nat,(∀ i,i<t->κ i<q+1)/\_v.det (q+1) (λi=>if i<t then v (κ i) else _v.idm i)≠0:=λt=>by
  induction t with
  | zero =>
   intro _;refine⟨λ_=>0,λi h=>absurd h J0,?_⟩;have:_v.det (q+1) (λi=>if i<0 then v 0 else _v.idm i)=1:=by
    rw[<-_v.det_id (q+1)];exact _v.det_congr λk r _ _=>by rw[YF J0]
   rw[this]
   decide
  | succ t ih =>
   intro U;obtain⟨κ,l,hd⟩:=ih J0;obtain⟨D,Y,O,_,h⟩:=K t J0;have E:=s (λi=>if i<t then v (κ i) else _v.idm i) t J0 t D Y h;have e1:_v.put (λi=>if i<t then v (κ i) else _v.idm i) t (_v.idm t)=λi=>if i<t then v (κ i) else _v.idm i:=by
    funext i
    unfold _v.put;by_cases z:i=t
    ·rw[YH z,z,YF J0]
    rw[YF z]
   rw[e1] at E;obtain⟨k,hk,nk⟩:∃ k,k<q+1/\_v.det (q+1) (_v.put (λi=>if i<t then v (κ i) else _v.idm i) t (v k))≠0:=by
    refine YE λno=>Y1n O hd ?_;rw[E];refine _v.sm_zero λk hk=>?_;have:_v.det (q+1) (_v.put (λi=>if i<t then v (κ i) else _v.idm i) t (v k))=0:=YE λy=>no ⟨k,hk,y⟩;rw[this,GR]
   refine⟨λi=>if i=t then k else κ i,λi hi=>?_,?_⟩
   ·dsimp only;split
    ·exact hk
    exact l i J0
   have e2:(λi=>if i<t+1 then v (if i=t then k else κ i) else _v.idm i)=_v.put (λi=>if i<t then v (κ i) else _v.idm i) t (v k):=by
    funext i
    unfold _v.put;dsimp only;by_cases z:i=t
    ·rw[YH z,YH J0,YH z]
    rw[YF z,YF z];by_cases y:i<t
    ·rw[YH y,YH J0]
    rw[YF y,YF J0]
   rw[e2];exact nk
 obtain⟨κ,l,hd⟩:=H (q+1) (YJ _);have e0:_v.det (q+1) (λi=>if i<q+1 then v (κ i) else _v.idm i)=_v.det (q+1) λi=>v (κ i):=_v.det_congr λk r hk _=>by rw[YH hk]
 rw[e0] at hd;have inj:∀ i,i<q+1->∀ j,j<q+1->κ i=κ j->i=j:=λi hi j hj z=>YE λne=>hd (_v.det_same hi hj ne (by show v (κ i)=v (κ j);rw[z]));have G:∀ j,j<q+1->∃ i,i<q+1/\κ i=j:=λj hj=>by
  refine YE λno=>?_;have:=Xf (L:=j::(List.range (q+1)).map κ) (M:=List.range (q+1)) (by
   refine GF.mpr ⟨λh=>?_,?_⟩
   ·obtain⟨i,hi,z⟩:=YN.mp h;exact no ⟨i,XI.mp hi,z⟩
   ·rw[XX,GV];refine (XX.mp Y1c).imp_of_mem λ{a b} ha hb V z=>V (inj a (XI.mp ha) b (XI.mp hb) z)) λy T=>by
   rcases YT.mp T with rfl | T
   ·exact XI.mpr hj
   obtain⟨i,hi,rfl⟩:=YN.mp T;exact XI.mpr (l i (XI.mp hi))
  simp only [XT,YB,ql] at this;omega
 obtain⟨d,o,g⟩:=G q J0;have nrm:∀ (w:_v.Mat),(∀ i,i<q+1->i≠d->w i=v (κ i))->_v.sN (q+1) (λr=>(w d r).natAbs)<=8->Bd (4+q*(N+3)) (_v.det (q+1) w):=λw h1 h2=>by
  have:=_v.det_w (m:=q+1) (v:=w) (w:=λk=>2 ^ (if k=d then 3 else N+3)) λk hk=>by
   by_cases z:k=d
   ·rw[YH z,z];exact h2
   rw[YF z,h1 k hk z];have hq:κ k<q:=by
    have:=l k hk;by_cases y:κ k=q
    ·exact absurd (inj k hk d o (y.trans g.symm)) z
    omega
   rw[v1 _ hq];have:=_v.sN_const (n:=q+1) (f:=λr=>((p (κ k)).2 r).natAbs) (M:=2 ^ N) λr hr=>JH ((P _ hq).2 r hr).2;refine YR this ?_;rw[Y0R,zU];exact zn _ (by show q+1<=2 ^ 3;omega)
  rw[_v.pN_pow,Z06 3 o,Y1P] at this;show _<2 ^ (4+q*(N+3));exact JD this (Y1w J1 J0)
 refine⟨_v.det (q+1) λi=>v (κ i),λj=>_v.det (q+1) (_v.put (λi=>v (κ i)) d (_v.idm j)),hd,nrm _ (λi _ _=>rfl) ?_,λj hj=>nrm _ (λi _ z=>_v.put_ne z) ?_,λj hj=>?_⟩
 ·rw[g,v2];have:=_v.sN_const (n:=q+1) (f:=λ_=>(1:Int).natAbs) (M:=1) λr hr=>J1
  exact YR this J0
 ·rw[_v.put_eq];exact YR _v.sN_unit J1
 obtain⟨D,Y,O,hY,h⟩:=K j hj;have E:=s (λi=>v (κ i)) d o j D Y h;rw[_v.sm_one (k:=q) J0 λk hk ne=>by
  obtain⟨i,hi,Z⟩:=G k hk;have it:i≠d:=λz=>ne (by rw[<-Z,z,g]);rw[_v.det_same hi o it (by rw[_v.put_eq,_v.put_ne it,Z]),GR]] at E
 have e5:_v.put (λi=>v (κ i)) d (v q)=λi=>v (κ i):=by
  rw[<-g];exact _v.put_self (λi=>v (κ i)) d
 rw[e5] at E;have Q:(D:QQ)≠0:=λz=>O (_root_.Rat.intCast_inj.mp (by rw[z];rfl));have R:(D:QQ)*((_v.det (q+1) (_v.put (λi=>v (κ i)) d (_v.idm j)):Int):QQ)=(Y q:QQ)*((_v.det (q+1) (λi=>v (κ i)):Int):QQ):=by
  rw[<-_root_.Rat.intCast_mul,<-_root_.Rat.intCast_mul,E]
 rw[hY] at R;generalize ((_v.det (q+1) (_v.put (λi=>v (κ i)) d (_v.idm j)):Int):QQ)=A at *
 generalize ((_v.det (q+1) (λi=>v (κ i)):Int):QQ)=B at *
 have:(D:QQ)*(A - x j*B)=0:=ZQ
 rcases _root_.Rat.mul_eq_zero.mp this with z | z
 ·exact absurd z Q
 grind
end
section
variable {n N:Nat}{ess fss:UB}{c:Nat->Pt}{f:UA}
theorem CorR.small8 (C:CorR n ess c fss)(h1:1<=n)(r:n<=8)(m:∀ e∈ess,RowN N n e)(hf:f∈fss):RowN (4+(n - 1)*(N+3)) n f:=by
 obtain⟨q,rfl⟩:∃ q,n=q+1:=⟨n - 1,J0⟩;obtain⟨st,s1⟩:=C.stuck hf;obtain⟨b,e,F⟩:=st.fix J0;obtain⟨S,W,o,j,g,h⟩:=F.cramer (N:=N) r s1 λk hk=>by
  have a:=(F.bt k hk).1;have hm:ess.getD (b k) []∈ess:=by
   have:ess.getD (b k) []=ess[b k]:=by simp[List.getD,a]
   rw[this];exact XR a
  obtain⟨l,D,Ws,R⟩:=m _ hm;have R':∀ i,∃ W:Int,i<q+1->qr (ess.getD (b k) []) i*(D:QQ)=W/\Bd N W:=λi=>by
   by_cases z:i<q+1
   ·obtain⟨W,d,p⟩:=Z7o R (k:=i) J0;exact⟨W,λ_=>⟨p,d⟩⟩
   exact⟨0,λy=>absurd y z⟩
  exact⟨D,λi=>Classical.choose (R' i),by have:=R.pos;omega,λi hi=>Y0d (R' i) hi⟩
 exact Z0b (C.low f hf) (C.len f hf) o j g h
end
open PySem.Spec PyProof.Rows
noncomputable def bndC (n:Nat)(gs:UB)(k:Nat):Pt:=if k<n then λi=>if i=k then -1 else 0 else qr (gs.getD (k - n) [])
def U3 {n:Nat}{gs:UB}{k:Nat}(hk:k<n)(x:Pt):dq n x (bndC n gs k)=-x k:=by
 unfold bndC dq;rw[YH hk];have:=Wu (λi=>-x i) hk;rw[<-this];exact Zm λi _=>by
  by_cases e:i=k
  ·rw[YH e,YH e];grind
  rw[YF e,YF e];grind
def La {n m:Nat}{gs:UB}(h:n<=m):Bnds n m (bndC n gs):=⟨h,λi hi x=>U3 hi x⟩
def uP_row {n w:Nat}:RowN 1 n (uP n w):=by
 refine Z0b (S:=1) (C:=λk=>if k=w then 1 else 0) (Wm _ _) (Wi _ _) J1 (by show (1:Int).natAbs<2 ^ 1;decide) (λk _=>?_) λk hk=>?_
 ·show Bd 1 (if k=w then 1 else 0);split
  ·show (1:Int).natAbs<2 ^ 1;decide
  show (0:Int).natAbs<2 ^ 1;decide
 rw[Sm hk];show _=((if k=w then (1:Int) else 0:Int):QQ);split
 ·show (1:QQ)*((1:Int):QQ)=((1:Int):QQ);grind
 show (0:QQ)*((1:Int):QQ)=((0:Int):QQ);grind
theorem RowN.mono {m n c:Nat}{r:UA}(h:RowN m c r)(k:m<=n):RowN n c r:=by
 obtain⟨l,D,Ws,R⟩:=h;exact⟨l,D,Ws,R.mono k⟩
theorem CorR.perm {n:Nat}{ess fss gss:UB}{c:Nat->Pt}(C:CorR n ess c fss)(p:gss.Perm fss):CorR n ess c gss :=
 ⟨p.nodup_iff.mpr C.nd,λf hf=>C.len f (p.mem_iff.mp hf),λf hf=>C.low f (p.mem_iff.mp hf),⟨λv a=>C.cors.vx v ((p.map qr).mem_iff.mp a),λx X=>by
  obtain⟨v,a,e⟩:=C.cors.all x X;exact⟨v,(p.map qr).mem_iff.mpr a,e⟩⟩,C.el,C.ed⟩
section
variable {P:TU}
theorem Z26:∀ {n i:Nat},i<n->evI n (λk=>decide (k=i))=[(i:Int)]
 | 0,_,h=>absurd h J0
 | n+1,i,h=>by
  have z:∀ m,m<=i->(List.range m).filter (λk=>decide (k=i))=[]:=λm hm=>by
   rw[List.filter_eq_nil_iff];intro k hk;have:=XI.mp hk;simp;omega
  unfold evI;rw[GG,JV,XH];by_cases e:i=n
  ·subst e;rw[z i (YJ _)];simp
  have:=Z26 (n:=n) (i:=i) J0;unfold evI at this;rw[this];have e2:¬ n=i:=λy=>e y.symm;simp[e2]
def Srt (rss:UB):Prop:=rss.Pairwise λa b=>cntR rss a<=cntR rss b
def Tl {r1 r2:UB}(p:r1.Perm r2){a:UA}:cntR r1 a=cntR r2 a:=by
 unfold cntR;rw[(p.filter _).length_eq]
inductive spCorners (K:TR) (T:Addr) (vs:TZ) (H:Hp) (Q:VK) (_z3:XK):Prop
 | mk (l:Addr) (n N M:Nat) (os:UD) (zz0:vs=[.int (n:Int),.ref l]) (zz1:2<=n/\n<=5) (zz2:OffsAt K H l n os) (zz3:os.length<=100) (zz4:M<=200000) (zz5:∀ o∈os,GoodO M o) (zz6:(gainsP os os.length).length<=6) (zz7:∀ g∈gainsP os os.length,RowN N n g) (zz8:1<=N) (zz9:N<=4000) (zz10:Tab1 H T)
  (zz11:∀ (d:Addr) (H':Hp) (rss:UB),H d=none->SameX T H H'->Tab1 H' T->RowsAt K H' d rss->CorR n (paps n++gainsP os os.length) (bndC n (gainsP os os.length)) rss->Srt rss->Q (.ref d) H')
theorem Dw {Tb:Addr}(D:Def K mg "corners" jE VM)(T0:Blt mg)(eY:Has P w K mg base 3 "paper_of" UX (spPaper K))(fS:Has P w K mg base 5 "gains" VD (spGainsP K))(gX:Has P w K mg base 6 "cut_off" VL (spCutOff K) true)(gR:Has P w K mg base 6 "rising" ["rows"] (spRising K Tb)) :
  Has P w K mg base 7 "corners" VM (spCorners K Tb) true:=by
 refine D.h9 (N:=["count","offers","papers","found","edges","row"]) fsc λH Q hr h nd=>?_;obtain⟨l,n,N,M,os,rfl,hn,hO,hz,hM,hG,b1,I,a6,hN,hT,k⟩:=h;have T:=T0;have a1:(["world","count"]:List Str).Nodup:=ZZ
 refine⟨_,(Z9 (Xa (i:=2) (ox:=none) (N:=["world","count"]) (k:=1) (fv:=[0]) nd rfl xj rfl (Yf rfl T.range (Z0 (pv 0) Z8))
  (λ_ _ _ _ _=>Zi (i:=0) a1 rfl xj) (λ_ _ _ _ _=>Y8) (λ_ _ _ _ _=>(Zf eY hr (Z0 (pv 1) (Z0 (Yx (Z0 (pv 0) Z8)) Z8)))) Zv)
  (Z9 (Zj (i:=3) nd rfl (Or.inl rfl) (pv 2))
  (Z9 (Zj (i:=4) nd rfl (Or.inl rfl) (pv 2))
  (Z9 (Yw XS rfl (Yn (Zf fS hr (Z0 (pv 1) Z8))) (Zi (i:=5) nd rfl xj)
   (Z9 (Zj (i:=3) nd rfl (Or.inl rfl) (Ry gX (hr.mono J1) rfl (Z0 (pv 3) (Z0 (pv 4) (Z0 (pv 5) Z8)))))
   (Zb (Zj (i:=4) nd rfl (Or.inl rfl) (Zl Z0y (pv 4) (Xe (Z0 (pv 5) Z8)))))))
  (Zb (Zh (Zf gR hr (Z0 (pv 3) Z8)))))))),?_⟩
 obtain⟨n2,n5⟩:=hn;obtain⟨a9,b0⟩:=hT.tbl;have S:4+(n - 1)*(N+3)<=20000:=by
  have:(n - 1)*(N+3)<=4*4003:=zO J0 J0;omega
 have e:N<=4+(n - 1)*(N+3):=by
  have:1*(N+3)<=(n - 1)*(N+3):=zO J0 (YJ _);omega
 refine Ya (Yr ?_);refine⟨_,rfl,(n:Int),rfl,J0,J0,λd hd=>?_⟩;have et:(n:Int).toNat=n:=J0
 rw[et];refine⟨n,λi ys H'=>Same H H'/\∃ bs:List Addr,ys=bs.map V.ref/\Paired (RowAt K H') bs ((List.range i).map (uP n)),Zz J0,⟨Same.new hd,[],rfl,.nil⟩,?_,?_⟩
 ·rintro i ys H1 hi ⟨S1,bs,rfl,P1⟩ s;refine⟨hi,?_⟩;rintro x R ⟨rfl,rfl⟩;refine Yh ?_;refine⟨_,rfl,_,rfl,sz1,λp hp=>?_⟩;have j:Same R (upd R p (.tup [.int (0+(i:Int))])):=Same.new hp;have e0:(0+(i:Int))=((i:Nat):Int):=J0
  have t3:SqT K (upd R p (.tup [.int (0+(i:Int))])) p [V.int ((i:Nat):Int)]:=by rw[e0];exact SqT.of Zc
  refine⟨n,.ref p,some λk=>decide (k=i),rfl,⟨p,rfl,by rw[Z26 hi];exact t3⟩,J0,J0,λc4 H4 E r4=>?_⟩;have G:=E _ _ (j _ _ s);have E5:Ext H4 (upd H4 d (.lst (bs.map V.ref++[V.ref c4]))):=Ext.upd G;refine⟨G,Yj (S1.trans (j.trans E)) hd,bs++[c4],ZJ,?_⟩;rw[GG,XH];exact Paired.appP (Y0 P1 ((Ext.same (j.trans E)).trans E5)) (.cons (r4.ext E5) .nil)
 rintro ys H1 ⟨S1,bs,rfl,P1⟩ s;refine⟨YJ _,?_⟩;obtain⟨ov,oq,op⟩:=hO;refine Y2 ?_;dsimp only;refine Ya (Yr ⟨_,rfl,Y2 ?_⟩);dsimp only;refine Ya (Yr ⟨_,rfl,Y2 ?_⟩);dsimp only;refine Ya ⟨_,rfl,l,n,M,os,rfl,⟨ov,S1 _ _ oq,Wk op (Ext.same S1)⟩,hz,J0,hM,hG,λdg H2 fg S2 hR=>?_⟩;obtain⟨as,qg,Pg⟩:=hR;generalize gainsP os os.length=gs at *
 have lg:=XB Pg;have O:(paps n).length=n:=by unfold paps;simp
 have v:=S1.trans S2;have eN:∀ i e',e'∈paps n++gs.take i->RowN N n e':=λi e' t=>by
  rcases XN.mp t with t | t
  ·unfold paps at t;obtain⟨w0,_,rfl⟩:=YN.mp t;exact uP_row.mono a6
  exact I e' (Y1u t)
 refine⟨dg,rfl,⟨_,SqL.of qg⟩,?_⟩;refine Wp (K:=K) (xs:=as.map V.ref) (λi σ H'=>Same H2 H'/\∃ (A le:Addr) (B u:TJ) (fss:UB) (x:Option V),σ=[some (.int (n:Int)),some (.ref l),some (.ref d),some (.ref A),some (.ref le),x]/\H' A=some (.lst (B.map V.ref))/\Paired (RowAt K H') B fss/\H' le=some (.lst (u.map V.ref))/\Paired (RowAt K H') u (paps n++gs.take i)/\CorR n (paps n++gs.take i) (bndC n gs) fss)
  ⟨Same.refl _,d,d,bs,bs,paps n,none,rfl,S2 _ _ s,Y0 P1 (Ext.same S2),S2 _ _ s,by rw[Y1v,GN];exact Y0 P1 (Ext.same S2),by rw[Y1v,GN];exact Lv (c:=bndC n gs) λk hk x=>U3 hk x⟩ (λi σ H' _ h=>SqL.of (h.1 _ _ qg)) ?_ ?_
 ·rintro i x σ R hx ⟨j,A,le,B,u,fss,x0,rfl,X,Pf,qe,W,C⟩;have hi:i<as.length:=by have:=(YG.mp hx).1;simpa using this
  have ea:as[i]?=some as[i]:=by simp[hi]
  have F:gs[i]?=some (gs[i]'J0):=ZJ
  have J:gs.getD i []=gs[i]'J0:=by simp[List.getD,show i<gs.length by omega]
  generalize as[i]=a at ea;generalize (gs[i]'J0)=g at F J;rw[YI,ea] at hx
  cases hx;have mg':=YD F;have ra:=(Paired.getB Pg ea F).ext (Ext.same j);have m:(paps n++gs.take i).length=n+i:=by rw[YY,O,JY];omega
  have L:=C.few10 n2 n5 (by rw[m];omega);have rg:=I g mg';have a3:Lows g:=by obtain⟨_,D1,W1,Y⟩:=rg;exact λr hr=>(Y.good r hr).low
  have C':CorR n ((paps n++gs.take i)++[g]) (bndC n gs) (cutC fss (paps n++gs.take i) g):=C.cut (by rw[m];exact La J0) a3 rg.1 λx=>by
   rw[m];unfold bndC;rw[YF J0,zQ,J]
  refine Y2 ?_;refine Ya (Yr ?_);refine⟨_,rfl,_,rfl,_,rfl,A,le,a,B,u,fss,paps n++gs.take i,g,4+(n - 1)*(N+3),n,rfl,X,Pf,qe,W,ra,J0,S,λf hf=>C.small8 J0 J0 (eN i) hf,λf hf=>(eN i f hf).mono e,rg.mono e,C.nd,J0,J0,λd4 H4 E a7=>?_⟩;obtain⟨a4,q4,P4⟩:=a7;refine Y2 ?_;dsimp only;refine Yr ?_;refine⟨_,rfl,_,rfl,sz1,λp hp=>?_⟩;have U:=Same.new (o:=.lst [V.ref a]) hp;have a8:=XB W;refine⟨le,p,u.map V.ref,[.ref a],rfl,rfl,U _ _ (E _ _ qe),Zc,YR (show _<=1000 by rw[YB];simp only [XT,jp];omega) J1,λq hq=>?_⟩;have S6:=Same.new (o:=.lst (u.map V.ref++[V.ref a])) hq;have y:=E.trans (U.trans S6);refine Y2 ⟨j.trans y,d4,q,a4,u++[a],_,_,rfl,S6 _ _ (U _ _ q4),Y0 P4 (Ext.same (U.trans S6)),by rw[Zc,XH];rfl,?_,?_⟩
  ·rw[Yo F,<-zZ];exact Paired.appP (Y0 W (Ext.same y)) (.cons (ra.ext (Ext.same y)) .nil)
  rw[Yo F,<-zZ];exact C'
 rintro σ R ⟨j,A,le,B,u,fss,x0,rfl,X,Pf,qe,W,C⟩;rw[YB,lg,JQ] at C;have m:(paps n++gs).length=n+gs.length:=by rw[YY,O]
 have L:fss.length<64:=by
  by_cases z:n=5
  ·subst z;have:=C.few11 J0;omega
  have:=C.few10 n2 n5 J0;omega
 have a2:∀ e'∈paps n++gs,RowN N n e':=λe' t=>eN gs.length e' (by rw[JQ];exact t);refine⟨_,rfl,A,B,fss,n,4+(n - 1)*(N+3),rfl,X,Pf,L,C.len,J0,λr hr=>?_,J0,hT.same (v.trans j),λd' H' as' rss' a5 SX Z q' P' pm a0=>?_⟩
 ·obtain⟨_,D1,W1,Y⟩:=C.small8 J0 J0 a2 hr;exact Y.good
 exact k d' H' rss' ((v.trans j).free a5) ((SameX.of (v.trans j)).trans SX) Z ⟨as',q',P'⟩ (C.perm pm) (a0.imp λ{a b} h=>by rw[Tl pm,Tl pm];exact h)
end
section
variable {X:Cx}
theorem Z0x (hu:X.A.units+64<cLine)(hK:X.K=K:=by rfl):OpR X (compareOp .Eq) (rAlike K true):=by
 subst hK;intro pins s σ H x y v u Q I g i h;obtain⟨n,a,b,xs,ys,rfl,rfl,hn,h,p,q⟩:=h
 cases g
 cases i;have lp:=XB p;rcases h with ⟨h1,h2⟩ | ⟨h1,h2⟩
 ·obtain⟨i1,r1,d,_⟩:=I.list h1;obtain⟨i2,r2,c,_⟩:=I.list h2;have k:=r1.length;have f:=r2.length;refine Y19 (A:=X.A) (e:=λ_=>true) d.isList c.isList (by simp;omega) J0 (λj h1 h2=>Rk I (by show X.A.units+1+n<cLine;omega) p r1 r2 j h1 h2) _ _ _ _ ?_;rw[U4];exact⟨.bl true,H,I,rfl,q⟩
 obtain⟨i1,r1,d,_⟩:=I.tuple h1;obtain⟨i2,r2,c,_⟩:=I.tuple h2;have k:=r1.length;have f:=r2.length;refine Y04 (A:=X.A) (e:=λ_=>true) d c J0 (λj h1 h2=>Rk I (by show X.A.units+1+n<cLine;omega) p r1 r2 j h1 h2) _ _ _ _ ?_;have e:(i1.toArray.size == i2.toArray.size)=true:=by simp;omega
 rw[U4,e];exact⟨.bl true,H,I,rfl,q⟩
end
section
variable {P:TU}
inductive spIsRow (K:TR) (vs:TZ) (H:Hp) (Q:VK) (_z3:XK):Prop
 | mk (a:Addr) (c n:Nat) (rs:UA) (zz0:vs=[.ref a,.int (c:Int)]) (zz1:RowAt K H a rs) (zz2:rs.length=c) (zz3:(∀ r∈rs,Good n r)) (zz4:n<=400000) (zz5:∀ H',Same H H'->Q (.bl true) H')
theorem Z42 (D:Def K mg "_law_is_row" j3 VN)(T:Blt mg)(l:Has P w K mg base 3 "_law_is_ratio" UJ (spIsRt K)):Has P w K mg base 4 "_law_is_row" VN (spIsRow K):=by
 refine D.h9 (N:=["_law_found","_law_count","_law_one"]) fsc λH Q hr h nd=>?_;obtain⟨a,c,n,rs,rfl,⟨xs,d,e⟩,p,g,hn,k⟩:=h;refine⟨_,(Z9 (Y9 (PW.pt (Uc (Xz (Yp (Zt Tm rfl T.isinstance JR (Z0 (pv 0) (Z0 (Qk T.tuple XV) Z8))))) (Vr (Zo Qo (Zt Zq rfl T.len GL (Z0 (pv 0) Z8)) (pv 1) (Zp _)))))
   (Zb (Zh W7))
   Zw)
  (Z9 (Yw XS rfl (Vs (pv 0)) (Zi (i:=2) nd rfl xj)
   (Zb (Y9 (Xz (Yp (Zf l hr (Z0 (pv 2) Z8))))
    (Zb (Zh W7))
    Zw)))
  (Zb (Zh W7)))),?_⟩
 have lx:=e.len;refine⟨_,rfl,_,_,_,_,rfl,d,U1,_,rfl,Xc ?_⟩;refine⟨_,rfl,a,_,rfl,.inr d,_,rfl,rfl,_,rfl,F9 (by rw[show xs.length=c by omega]) ?_⟩;refine⟨_,rfl,a,rfl,⟨_,d⟩,Mu (K:=K) (a:=a) (xs:=xs) (λi σ H'=>Same H H'/\∃ (x:Option V),σ=[some (.ref a),some (.int (c:Int)),x]) ⟨Same.refl _,none,rfl⟩ (λi σ H' _ h=>Zx h.1 d) ?_ ?_⟩
 ·rintro i x σ H2 f ⟨S2,x1,rfl⟩;obtain⟨r,o,b,rfl,m⟩:=(e.ext (Ext.same S2)).back f;refine⟨_,rfl,b,r,n,rfl,m,g r (YD o),hn,λq j=>⟨_,rfl,Xc ?_⟩⟩;exact⟨S2.trans j,_,rfl⟩
 rintro σ H2 ⟨S2,x1,rfl⟩;exact k _ S2
noncomputable def fitB (gs:UB)(f:UA):Bool:=(f.all λx=>!decide (x.1<0)) && (gs.all λg=>!decide (0<(mn f g).1)) && decide (sumR f=(1,1))
inductive spFitsN (K:TR) (vs:TZ) (H:Hp) (Q:VK) (_z3:XK):Prop
 | mk (a l:Addr) (c N n:Nat) (us:UA) (rss:UB) (zz0:vs=[.ref a,.ref l]) (zz1:RowAt K H a us) (zz2:RowsAt K H l rss) (zz3:RowN N c us) (zz4:∀ g∈rss,RowN n c g) (zz5:n+N+10<=200000) (zz6:c<=100) (zz7:∀ (H':Hp),Same H H'->Q (.bl (fitB rss us)) H')
theorem Z45 (D:Def K mg "_law_fits" kL VO)(T:Blt mg)(eP:Z7 P w K mg base)(Y:Z5 P w K mg base):Has P w K mg base 5 "_law_fits" VO (spFitsN K):=by
 refine D.h9 (N:=["_law_weights_here","_law_rows","_law_some","_law_one","_law_row_here"]) fsc λH Q hr h nd=>?_;obtain⟨a,l,c,N,n,us,rss,rfl,hA,⟨q,hl,R⟩,⟨lu,U,Us,rU⟩,I,hN,hc,k⟩:=h;obtain⟨xs,o,t⟩:=hA;have hU:=zB (Fe hr);refine⟨_,(Z9 (Zj (i:=2) nd rfl (Or.inl rfl) (Yx (Z0 Za (Z0 Za Z8))))
  (Z9 (Yw XS rfl (Vs (pv 0)) (Zi (i:=3) nd rfl xj)
   (Z9 (Y9 (Zo Ud (Zg Yq (pv 3) Za) Za (Zp _))
    (Zb (Zh W7))
    Zw)
   (Zb (Zj (i:=2) nd rfl (Or.inl rfl) (Zf eP hr (Z0 (pv 2) (Z0 (pv 3) Z8)))))))
  (Z9 (Yw XS rfl (Yn (pv 1)) (Zi (i:=4) nd rfl xj)
   (Zb (Y9 (Zo Sx (Zg Yq (Zf Y hr (Z0 (pv 0) (Z0 (pv 4) Z8))) Za) Za (Zp _))
    (Zb (Zh W7))
    Zw)))
  (Zb (Zh (Yu (Jd (K:=K) hU) (pv 2) (Yx (Z0 Za (Z0 Za Z8))) (Zp _))))))),?_⟩
 have lp:=XB R;have lx:=t.len;refine⟨sz2,λp hp=>?_⟩;have M:Same H (upd H p (.tup [.int 0,.int 1])):=Same.new hp;refine⟨_,rfl,a,rfl,⟨_,Zx M o⟩,Mu (K:=K) (a:=a) (xs:=xs) (λi σ H'=>Same H H'/\(∀ x∈us.take i,¬ x.1<0)/\∃ (p:Addr) (x:Option V),σ=[some (.ref a),some (.ref l),some (.ref p),x,none]/\SqT K H' p [.int (sumR (us.take i)).1,.int (sumR (us.take i)).2]) ⟨M,λx hx=>by simp at hx,p,none,rfl,SqT.of Zc⟩ (λi σ H' _ h=>Zx h.1 o) ?_ ?_⟩
 ·rintro i x σ H2 d ⟨S2,nn,A,x1,rfl,f⟩;obtain⟨r,m,b,rfl,O⟩:=(t.ext (Ext.same S2)).back d;have hm:=YD m;have g:=rU.good r hm;refine⟨_,rfl,b,_,_,rfl,rfl,O,_,_,rfl,rfl,_,rfl,?_⟩;by_cases e0:r.1<0
  ·rw[XA e0];have E:fitB rss us=false:=by
    unfold fitB;have:(us.all λx=>!decide (x.1<0))=false:=by
     rw[Y0W];exact⟨r,hm,by simp[e0]⟩
    rw[this];rfl
   rw[E] at k;exact V0 (k _ S2)
  rw[XF e0];refine Xc ?_;have gs:=(rU.take i).sumGood (k:=10) (by rw[JY];omega);replace gs:Good (N+10) (sumR (us.take i)):=gs;refine⟨_,rfl,_,rfl,A,b,_,r,N+10,rfl,f,O,gs,g.mono J0,J0,λB C f3 j e3=>?_⟩;refine⟨S2.trans j,λx hx=>?_,B,_,rfl,?_⟩
  ·rw[Yo m] at hx;rcases XN.mp hx with hx | hx
   ·exact nn x hx
   rw[XD.mp hx];exact e0
  rw[Pz m];exact SqT.of e3
 rintro σ H2 ⟨S2,nn,A,x1,rfl,f⟩;rw[YZ J0] at f nn;have f1:(us.all λx=>!decide (x.1<0))=true:=by
  rw[qj];exact λx hx=>by simp;have:=nn x hx;omega
 refine⟨_,rfl,l,rfl,⟨_,SqL.of (S2 _ _ hl)⟩,Wp (K:=K) (a:=l) (xs:=q.map V.ref) (λi σ H'=>Same H2 H'/\(∀ g∈rss.take i,¬ 0<(mn us g).1)/\∃ (x:Option V),σ=[some (.ref a),some (.ref l),some (.ref A),x1,x]) ⟨Same.refl _,λg hg=>by simp at hg,none,rfl⟩ (λi σ H' _ h=>SqL.of (h.1 _ _ (S2 _ _ hl))) ?_ ?_⟩
 ·rintro i x σ C d ⟨j,e,Z,rfl⟩;rw[YI] at d
  cases ea:q[i]? with
  | none=>rw[ea] at d;cases d
  | some ar =>
   rw[ea] at d
   cases d;have X:i<q.length:=(YG.mp ea).1;have J:i<rss.length:=J0
   have m:rss[i]?=some rss[i]:=by simp[J]
   generalize rss[i]=g at m;have s:=S2.trans j;obtain⟨zs,G,L⟩:=(Paired.getB R ea m).same s;have hm:=YD m;obtain⟨lr,D2,Zs,rz⟩:=I _ hm;refine⟨_,rfl,_,rfl,a,ar,xs,zs,us,g,N,n,U,D2,Us,Zs,rfl,.inr (Zx s o),t.ext (Ext.same s),.inr G,L,J0,J0,rU,rz,J0,λW H4 v S=>?_⟩;refine⟨W,_,_,rfl,rfl,S,_,_,rfl,rfl,_,rfl,?_⟩;refine Xu (λh=>?_) (λh=>?_)
   ·have h':0<(mn us g).1:=XO h;have E:fitB rss us=false:=by
     unfold fitB;have:(rss.all λg=>!decide (0<(mn us g).1))=false:=by
      rw[Y0W];exact⟨g,hm,by simp[h']⟩
     rw[this,Bool.and_false];rfl
    rw[E] at k;exact k _ ((S2.trans j).trans v)
   refine⟨j.trans v,λy u=>?_,_,rfl⟩;rw[Yo m] at u;rcases XN.mp u with u | u
   ·exact e y u
   rw[XD.mp u];exact λz=>h (XA z)
 rintro σ C ⟨j,e,Z,rfl⟩;rw[YB,lp,JQ] at e;have f2:(rss.all λg=>!decide (0<(mn us g).1))=true:=by
  rw[qj];exact λx hx=>by simp;have:=e x hx;omega
 refine⟨_,rfl,sz2,λB F=>?_⟩;have v:Same C (upd C B (.tup [.int 1,.int 1])):=Same.new F;refine⟨A,B,[_,_],[1,1],rfl,rfl,Zx (j.trans v) f,SqT.of Zc,?_⟩;have e1:decide ([(sumR us).1,(sumR us).2]=[1,1])=fitB rss us:=by
  unfold fitB;rw[f1,f2,Bool.true_and,Bool.true_and,zP];constructor
  ·intro z;injection z with z1 z2
   injection z2 with z2 _
   exact Y1U z1 z2
  intro z;rw[z]
 rw[e1];exact k _ ((S2.trans j).trans v)
inductive spMadeWhole (K:TR) (vs:TZ) (H:Hp) (Q:VK) (_z3:XK):Prop
 | mk (a:Addr) (xs:TZ) (rs:UA) (n:Nat) (D:Int) (Ws:TV) (zz0:vs=[.ref a]) (zz1:(SqL K H a xs \/ SqT K H a xs)) (zz2:Rs K H rs xs) (zz3:RepL n D Ws rs) (zz4:n<=200000) (zz5:rs.length<=1000) (zz6:∀ (d:Addr) (H':Hp),H d=none->Same H H'->Q (.ref d) H')
theorem Ly (D:Def K mg "made_whole" iT ["multiples"])(e:Z3 P w K mg base)(g:Has P w K mg base 1 "whole_by" UY (spWholeBy K)):Has P w K mg base 3 "made_whole" ["multiples"] (spMadeWhole K):=by
 refine D.h9 (N:=["multiples"]) fsc λH Q hr h nd=>?_;obtain⟨a,xs,rs,n,D,Ws,rfl,c,b,rep,hn,hl,k⟩:=h;refine⟨_,(Zb (Zh (Zf g hr (Z0 (pv 0) (Z0 (Zf e hr (Z0 (pv 0) Z8)) Z8))))),?_⟩;refine⟨_,rfl,_,rfl,a,xs,rs,n,D,Ws,rfl,c,b,rep,hn,?_⟩;exact⟨a,lcmB rs,xs,rs,n,rfl,c,b,rep.good,rep.least.bD,rep.least.pos,hn,hl,λd H' f S _=>k d H' f S⟩
inductive spJudgedC (K:TR) (vs:TZ) (H:Hp) (Q:VK) (_z3:XK):Prop
 | mk (l:Addr) (c:Nat) (os:UD) (zz0:vs=[.int (c:Int),.ref l]) (zz1:OffsAt K H l c os) (zz2:os.length<=100) (zz3:∀ o∈os,GoodO 90 o) (zz4:∀ rs∈gainsP os os.length,RowN 91 c rs) (zz5:(gainsP os os.length).length<=30) (zz6:1<=c) (zz7:c<=100)
  (zz8:∀ (t q:Addr) (H':Hp),Same H H'->SqT K H' t [.str "beaten",.ref q]->(∀ W,¬ WtsQ c (gainsP os os.length) W)->Q (.ref t) H') (zz9:∀ (t q:Addr) (H':Hp),Same H H'->SqT K H' t [.str "fair",.ref q]->(∃ W,WtsQ c (gainsP os os.length) W)->Q (.ref t) H')
theorem Ds (D:Def K mg "judged" jP VM)(g9:Has P w K mg base 5 "solve" VB (spSolve K))(fS:Has P w K mg base 5 "gains" VD (spGainsP K))(X:Has P w K mg base 3 "made_whole" ["multiples"] (spMadeWhole K))(eM:Con K mg "NOUGHT" (0,1)):Has P w K mg base 6 "judged" VM (spJudgedC K):=by
 refine D.h9 (N:=["count","offers","found"]) fsc λH Q hr h nd=>?_;obtain⟨l,c,os,rfl,hO,J,n,u,E,U,hc,kB,kF⟩:=h;obtain⟨a,f,e⟩:=eM;refine⟨_,(Z9 (Zj (i:=2) nd rfl (Or.inl rfl) (Zf g9 hr (Z0 (pv 0) (Z0 (Zf fS hr (Z0 (pv 1) Z8)) (Z0 Xo (Z0 (Zl Gv (Yx (Z0 (Xb (v:=.ref a) rfl f rfl) Z8)) (pv 0)) Z8))))))
  (Z9 (Y9 (Zo Xp (Zg X9 (pv 2) Za) Vk (Zp _))
   (Zb (Zh (Yx (Z0 Vk (Z0 (Zf X hr (Z0 (Zg X9 (pv 2) Za) Z8)) Z8)))))
   Zw)
  (Zb (Zh (Yx (Z0 Vk (Z0 (Zg X9 (pv 2) Za) Z8))))))),?_⟩
 have rep:∀ rs∈gainsP os os.length,rs.length=c/\∃ D Ws,RepL 91 D Ws rs:=λrs h=>u rs h;have g:∀ rs∈gainsP os os.length,RowR c rs:=λrs hr=>⟨(rep rs hr).1,(rep rs hr).2.elim λD z=>z.elim λZ r=>⟨91,D,Z,r⟩⟩;have S:bitsOf 91 c (gainsP os os.length).length<=4000:=by
  unfold bitsOf;have:=zn (91+5) (Nat.min_le_right c ((gainsP os os.length).length+2));omega
 refine⟨_,rfl,_,rfl,l,c,90,os,rfl,hO,J,J0,J1,n,λd H1 fd S1 F=>?_⟩;refine⟨sz1,λt ht=>⟨_,rfl,t,c,[.ref a],rfl,rfl,SqT.of Zc,J0,ZJ,by simp;omega,λp H3 S3 B=>?_⟩⟩;have S2:Same H1 (upd H1 t (.tup [.ref a])):=Same.new ht;have et:(c:Int).toNat=c:=J0
 have ef:(List.replicate (c:Int).toNat [V.ref a]).flatten=List.replicate c (V.ref a):=by rw[et];simp
 rw[ef] at B;have k:=S2.trans S3;have R3:RowAt K H3 p (List.replicate c (0,1)):=⟨_,B,Rs.rep ⟨a,rfl,e _⟩ c⟩;obtain⟨M,hd,hP⟩:=F;have A:=S1.trans k;have R:=Fv c (show 1<=91 by decide);have s:RowR c (List.replicate c ((0,1):Rat)):=⟨ZJ,_,_,_,R⟩;refine⟨d,p,.non,c,91,gainsP os os.length,none,List.replicate c (0,1),rfl,⟨M,k _ _ hd,Y0 hP (Ext.same k)⟩,rfl,R3,ZJ,rep,⟨_,_,R⟩,J1,J1,J0,J0,J0,J0,λTb q y xs H4 Y G nt hq C x=>?_,λTb q y va lo xs H4 Y G mt hq C iv rl x=>?_⟩
 ·refine⟨_,rfl,y,_,_,_,rfl,rfl,x,Zk (j:=0) rfl,rfl,_,rfl,V0 ?_⟩;have I:=nt.inv;have bd:=Bf rep ⟨_,_,R.cut none⟩ J1 (show (gainsP os os.length).length+2<=32 by omega) I;have mr:=Z1l (b:=1) rep I.pos (TabOk.of I) bd (show (gainsP os os.length).length<(gainsP os os.length).length+2 by omega) J1 (Pq 1 J1 J1);refine⟨_,rfl,y,_,_,_,rfl,rfl,x,Zk (j:=1) rfl,q,xs,_,_,_,_,rfl,.inl (SqL.of hq),C,mr,J0,by rw[Z1m];omega,λT H5 a0 S5=>?_⟩;refine⟨sz2,λO m=>?_⟩;have L:=Same.new (o:=.tup [.str "beaten",.ref T]) m;exact kB O T _ (((A.trans G).trans S5).trans L) (SqT.of Zc) λW w=>nt.noloadsq g w
 refine⟨_,rfl,y,_,_,_,rfl,rfl,x,Zk (j:=0) rfl,rfl,_,rfl,Xc ?_⟩;refine⟨_,rfl,y,_,_,_,rfl,rfl,x,Zk (j:=2) rfl,sz2,λO m=>?_⟩;have L:=Same.new (o:=.tup [.str "fair",.ref lo]) m;obtain⟨W,w,_⟩:=(mt.conq g s).hit;exact kF O lo _ ((A.trans G).trans L) (SqT.of Zc) ⟨W,w.toQ g⟩
end
end _b
namespace _b
open PySem _L
def Sf {α:Type}{l:List α}{k:Nat}{d:α}(h:k<l.length):l.getD k d∈l:=by
 have:l.getD k d=l[k]:=by simp[List.getD,h]
 rw[this];exact XR h
def Z5g {r s:Rat}(hr:0<r.2)(hs:0<s.2):r.1*s.2<s.1*r.2 ↔ qv r<qv s:=by
 have e1:=Qd hr;have e2:=Qd hs;have p:=_root_.Rat.mul_pos (Wy hr) (Wy hs);have b:((r.1*s.2:Int):QQ)=qv r*((r.2:QQ)*(s.2:QQ)):=by rw[_root_.Rat.intCast_mul,<-e1];grind
 have a:((s.1*r.2:Int):QQ)=qv s*((r.2:QQ)*(s.2:QQ)):=by rw[_root_.Rat.intCast_mul,<-e2];grind
 rw[<-_root_.Rat.intCast_lt_intCast,b,a];constructor
 ·intro h;by_cases z:qv r<qv s
  ·exact z
  have:=_root_.Rat.mul_nonneg (show 0<=qv r - qv s by grind) (_root_.Rat.le_of_lt p);grind
 intro h;have:=_root_.Rat.mul_pos (show 0<qv s - qv r by grind) p;grind
theorem Np:∀ a:List Rat,aheadR a a=false
 | []=>rfl
 | r::a=>by
  unfold aheadR;rw[YH rfl];exact Np a
def Wt {r s:Rat}{a b:UA}(c:Low r)(ls:Low s):aheadR (r::a) (s::b)=true ↔ qv r<qv s \/ (r=s/\aheadR a b=true):=by
 show (if r=s then aheadR a b else decide (r.1*s.2<s.1*r.2))=true ↔ _;by_cases e:r=s
 ·rw[YH e];constructor
  ·intro h;exact .inr ⟨e,h⟩
  rintro (h | h)
  ·rw[e] at h;grind
  exact h.2
 rw[YF e,GC,Z5g c.pos ls.pos];constructor
 ·intro h;exact .inl h
 rintro (h | h)
 ·exact h
 exact absurd h.1 e
theorem Rl:∀ {a b c:UA},Lows a->Lows b->Lows c->aheadR a b=true->aheadR b c=true->aheadR a c=true
 | [],_,_,_,_,_,h,_=>by unfold aheadR at h;cases h
 | _::_,[],_,_,_,_,h,_=>by unfold aheadR at h;cases h
 | _::_,_::_,[],_,_,_,_,h=>by unfold aheadR at h;cases h
 | r::a,s::b,t::c,la,lb,lc,h1,h2=>by
  have e:=la r YV;have ls:=lb s YV;have d:=lc t YV;rw[Wt e ls] at h1;rw[Wt ls d] at h2;rw[Wt e d];rcases h1 with h1 | ⟨e1,h1⟩
  ·rcases h2 with h2 | ⟨e2,h2⟩
   ·exact .inl ZQ
   exact .inl (by rw[<-e2];exact h1)
  rcases h2 with h2 | ⟨e2,h2⟩
  ·exact .inl (by rw[e1];exact h2)
  exact .inr ⟨e1.trans e2,Rl (λx hx=>la x (YL _ hx)) (λx hx=>lb x (YL _ hx)) (λx hx=>lc x (YL _ hx)) h1 h2⟩
theorem U5:∀ {a b:UA},Lows a->Lows b->a.length=b.length->a≠b->aheadR a b=true \/ aheadR b a=true
 | [],[],_,_,_,h=>absurd rfl h
 | [],_::_,_,_,h,_=>by simp at h
 | _::_,[],_,_,h,_=>by simp at h
 | r::a,s::b,la,lb,hl,ne=>by
  have c:=la r YV;have ls:=lb s YV;rw[Wt c ls,Wt ls c];by_cases e:r=s
  ·have hl:a.length+1=b.length+1:=hl;rcases U5 (a:=a) (b:=b) (λx hx=>la x (YL _ hx)) (λx hx=>lb x (YL _ hx)) J0 (λz=>ne (by rw[e,z])) with h | h
   ·exact .inl (.inr ⟨e,h⟩)
   exact .inr (.inr ⟨e.symm,h⟩)
  by_cases h1:qv r<qv s
  ·exact .inl (.inl h1)
  by_cases h2:qv s<qv r
  ·exact .inr (.inl h2)
  exact absurd (Tv c ls ZQ) e
theorem Fi {α:Type}{p q:α->Bool}:∀ {l:List α},(∀ x∈l,p x=true->q x=true)->(∃ x∈l,q x=true/\p x=false)->(l.filter p).length<(l.filter q).length
 | [],_,⟨x,h,_⟩=>by cases h
 | y::l,h,⟨x,hx,h1,h2⟩=>by
  have hl:∀ x∈l,p x=true->q x=true:=λx hx=>h x (YL _ hx);have le:(l.filter p).length<=(l.filter q).length:=by
   clear hx h1 h2 h
   induction l with
   | nil=>exact YJ _
   | cons z l a =>
    have:=a λx hx=>hl x (YL _ hx);have hz:=hl z YV;rw[JL,JL]
    cases e:p z with
    | true=>rw[hz e];simp only [Y0y,XT];omega
    | false =>
     cases q z <;> simp <;> omega
  rw[JL,JL];rcases YT.mp hx with rfl | hx
  ·rw[h1,h2];simp only [Y0y,XT,XW,qV];omega
  have b:=Fi hl ⟨x,hx,h1,h2⟩
  cases e:p y with
  | true=>rw[h y YV e];simp only [Y0y,XT];omega
  | false=>cases q y <;> simp <;> omega
section
variable {n:Nat}{ess r1 r2:UB}{c:Nat->Pt}
theorem CorR.cnt (C:CorR n ess c r1){a b:UA}(ha:a∈r1)(d:b∈r1)(h:aheadR a b=true):cntR r1 a<cntR r1 b:=by
 unfold cntR;have:=Fi (p:=λo=>aheadR o a) (q:=λo=>aheadR o b) (l:=r1) (λo ho z=>Rl (C.low o ho) (C.low a ha) (C.low b d) z h) ⟨a,ha,h,Np a⟩;omega
theorem CorR.unique (d:CorR n ess c r1)(j:CorR n ess c r2)(s1:Srt r1)(s2:Srt r2):r1=r2:=by
 have sub:∀ {r1 r2:UB},CorR n ess c r1->CorR n ess c r2->∀ f∈r1,f∈r2:=λ{r1 r2} d j f hf=>by
  obtain⟨v,l,e⟩:=j.cors.all _ (d.vx hf);obtain⟨g,hg,rfl⟩:=YN.mp l;have:=Qh (j.low g hg) (d.low f hf) (j.len g hg) (d.len f hf) e;rw[<-this];exact hg
 have pm:r1.Perm r2:=(List.perm_ext_iff_of_nodup d.nd j.nd).mpr λf=>⟨sub d j f,sub j d f⟩;have k:r2.Pairwise λa b=>cntR r1 a<=cntR r1 b:=s2.imp λ{a b} h=>by rw[Tl pm,Tl pm];exact h
 refine List.Perm.eq_of_pairwise (le:=λa b=>cntR r1 a<=cntR r1 b) (λa b ha m h1 h2=>?_) s1 k pm;refine YE λne=>?_;have i:=sub j d b m;rcases U5 (d.low a ha) (d.low b i) (by rw[d.len a ha,d.len b i]) ne with h | h
 ·have:=d.cnt ha i h;omega
 have:=d.cnt i ha h;omega
end
section
variable {n:Nat}{gs:UB}{f:UA}
def Fh (a:Lows f)(hl:f.length=n)(hg:∀ g∈gs,Lows g/\g.length=n):fitB gs f=true ↔ InP n (n+gs.length) (bndC n gs) (qr f):=by
 unfold fitB;rw[zc,zc,qj,qj,GC];have s1:sumR f=(1,1) ↔ sQ n (qr f)=1:=by
  rw[<-hl,<-Z0g a];exact⟨λz=>by rw[z];exact Dh,λz=>Tv (Gc a) K4 (by rw[z,Dh])⟩
 have at_:∀ k,k<n->∃ x,x∈f/\qr f k=qv x:=λk hk=>⟨f[k]'J0,XR _,by unfold qr;simp[List.getD,show k<f.length by omega]⟩;have d:∀ j,dq n (qr f) (bndC n gs (n+j))=dq n (qr f) (qr (gs.getD j [])):=λj=>by
  unfold bndC;rw[YF J0,zQ]
 constructor
 ·rintro ⟨⟨h1,h2⟩,h3⟩;refine⟨λk hk=>?_,s1.mp h3⟩;by_cases z:k<n
  ·rw[U3 z];obtain⟨x,hx,e⟩:=at_ k z;have:=h1 x hx;have nx:¬ x.1<0:=by simpa using this
   have:=(Vq (a x hx).pos).mp J0;rw[e];grind
  obtain⟨j,rfl⟩:∃ j,k=n+j:=⟨k - n,J0⟩;have hj:j<gs.length:=J0
  have e:gs.getD j []=gs[j]:=by simp[List.getD,hj]
  rw[d,e];have mg:=XR hj;have:=h2 _ mg;have i:¬ 0<(mn f gs[j]).1:=by simpa using this
  rw[<-Sz a (hg _ mg).1 hl (hg _ mg).2];exact (Ub (Xj a (hg _ mg).1).pos).mp J0
 intro I;refine⟨⟨λx hx=>?_,λg mg=>?_⟩,s1.mpr I.one⟩
 ·obtain⟨k,c⟩:=XQ hx;have hk:k<f.length:=(YG.mp c).1;have h:=I.le k J0;rw[U3 J0] at h;have e:qr f k=qv x:=by unfold qr;rw[XC,c];rfl
  rw[e] at h;have:=(Vq (a x hx).pos).mpr ZQ;simp;omega
 obtain⟨j,b⟩:=XQ mg;have hj:j<gs.length:=(YG.mp b).1;have h:=I.le (n+j) J0;have e:gs.getD j []=g:=by rw[XC,b];rfl
 rw[d,e,<-Sz a (hg _ mg).1 hl (hg _ mg).2] at h;have:=(Ub (Xj a (hg _ mg).1).pos).mpr h;simp;omega
end
def Ji {D:Ends}{σ:_L.St}(h:D.nx σ H):tNext D σ H:=h
section
variable {P:TU}
inductive spUnderL (K:TR) (vs:TZ) (H:Hp) (Q:VK) (_z3:XK):Prop
 | mk (a b:Addr) (r s:Rat) (n:Nat) (zz0:vs=[.ref a,.ref b]) (zz1:SqT K H a [.int r.1,.int r.2]) (zz2:SqT K H b [.int s.1,.int s.2]) (zz3:Good n r) (zz4:Good n s) (zz5:n<=200000) (zz6:Q (.bl (decide (r.1*s.2<s.1*r.2))) H)
theorem Z10 (D:Def K mg "_law_under" jL UI):Has P w K mg base 1 "_law_under" UI (spUnderL K):=by
 refine D.h9 (N:=UI) fsc λH Q hr h nd=>?_;obtain⟨a,b,r,s,n,rfl,ha,c,d,gs,hn,k⟩:=h;refine⟨_,(Zb (Zh (Yu Ud (Zl Zu (Zg Yq (pv 0) Za) (Zg Ym (pv 1) Za)) (Zl Zu (Zg Yq (pv 1) Za) (Zg Ym (pv 0) Za)) (Zp _)))),?_⟩;exact⟨_,rfl,_,_,_,rfl,rfl,ha,_,rfl,_,_,_,rfl,rfl,c,_,_,rfl,rfl,d.b1.mulOk gs.b2 J0 J0,_,rfl,_,_,_,rfl,rfl,c,_,rfl,_,_,_,rfl,rfl,ha,_,_,rfl,rfl,gs.b1.mulOk d.b2 J0 J0,_,_,rfl,rfl,k⟩
inductive spSorted (K:TR) (vs:TZ) (H:Hp) (Q:VK) (_z3:XK):Prop
 | mk (a b:Addr) (rs ss:UA) (c n:Nat) (zz0:vs=[.ref a,.ref b]) (zz1:RowAt K H a rs) (zz2:RowAt K H b ss) (zz3:rs.length=c) (zz4:ss.length=c) (zz5:c<=100) (zz6:∀ r∈rs,Good n r) (zz7:∀ r∈ss,Good n r) (zz8:n<=200000) (zz9:aheadR rs ss=true) (zz10:Q (.bl true) H)
theorem Z11 (D:Def K mg "_law_sorted" jG UI)(T:Blt mg)(g:Has P w K mg base 1 "_law_under" UI (spUnderL K)):Has P w K mg base 2 "_law_sorted" UI (spSorted K):=by
 refine D.h9 (N:=["_law_one","_law_other","_law_k"]) fsc λH Q hr h nd=>?_;obtain⟨a,b,rs,ss,c,n,rfl,ha,t,B,z,hc,q,p,hn,v,k⟩:=h;refine⟨_,(Z9 (Yw XS rfl (Yf rfl T.range (Z0 (Zt Zq rfl T.len GL (Z0 (pv 0) Z8)) Z8)) (Zi (i:=2) nd rfl xj)
   (Z9 (Y9 (Yp (Zf g hr (Z0 (Zg X9 (pv 0) (pv 2)) (Z0 (Zg X9 (pv 1) (pv 2)) Z8))))
    (Zb (Zh W7))
    Zw)
   (Zb (Y9 (Yp (Zf g hr (Z0 (Zg X9 (pv 1) (pv 2)) (Z0 (Zg X9 (pv 0) (pv 2)) Z8))))
    (Zb (Zh W7))
    Zw))))
  (Zb (Zh W7))),?_⟩
 obtain⟨xs,qa,j⟩:=ha;obtain⟨ys,qb,s⟩:=t;have lx:=j.len;refine Ya ?_;refine⟨_,rfl,a,xs,rfl,.inr qa,(xs.length:Int),rfl,J0,J0,?_⟩;have u:(xs.length:Int).toNat=c:=J0
 rw[u];refine Xq (lo:=0) (n:=c) (λi σ H'=>H'=H/\(∃ x,σ=[some (.ref a),some (.ref b),x])/\aheadR (rs.drop i) (ss.drop i)=true) ⟨rfl,⟨none,rfl⟩,v⟩ ?_ ?_
 ·rintro i σ H1 hi ⟨rfl,⟨x0,rfl⟩,d⟩;have e0:(0+(i:Int))=((i:Nat):Int):=J0
  rw[e0];have f:rs[i]?=some (rs[i]'J0):=ZJ
  have es:ss[i]?=some (ss[i]'J0):=ZJ
  rw[Ps f es] at d;have o:=q _ (YD f);have gs:=p _ (YD es);obtain⟨A,e1,b1,rfl,m⟩:=j.at f;obtain⟨y,e2,b2,rfl,l⟩:=s.at es;generalize (rs[i]'J0)=r at *
  generalize (ss[i]'J0)=s' at *
  refine Y2 ?_;dsimp only;refine Ya ?_;refine⟨_,rfl,_,rfl,a,xs,_,_,rfl,rfl,qa,Zk e1,_,rfl,_,rfl,b,ys,_,_,rfl,rfl,qb,Zk e2,b1,b2,r,s',n,rfl,m,l,o,gs,hn,_,rfl,?_⟩;by_cases e:r=s'
  ·rw[YH e] at d;subst e;rw[XF (show ¬ r.1*r.2<r.1*r.2 by omega)];refine Xc (Ji ?_);dsimp only;refine⟨_,rfl,_,rfl,b,ys,_,_,rfl,rfl,qb,Zk e2,_,rfl,_,rfl,a,xs,_,_,rfl,rfl,qa,Zk e1,b2,b1,r,r,n,rfl,l,m,gs,o,hn,_,rfl,?_⟩;rw[XF (show ¬ r.1*r.2<r.1*r.2 by omega)];exact Xc ⟨rfl,⟨_,rfl⟩,d⟩
  rw[YF e] at d;rw[d];exact V0 k
 rintro σ H1 ⟨rfl,⟨x0,rfl⟩,d⟩;rw[Y08 J0,Y08 J0] at d
 cases d
inductive spWithin (K:TR) (vs:TZ) (H:Hp) (Q:VK) (_z3:XK):Prop
 | mk (a l:Addr) (as:TJ) (ws:UA) (rss:UB) (c n:Nat) (zz0:vs=[.ref a,.ref l]) (zz1:RowAt K H a ws) (zz2:H l=some (.lst (as.map V.ref))) (zz3:Paired (RowAt K H) as rss) (zz4:ws.length=c) (zz5:c<=100) (zz6:rss.length<=100) (zz7:∀ r∈ws,Good n r) (zz8:∀ f∈rss,f.length=c/\∀ r∈f,Good n r) (zz9:n<=200000) (zz10:∀ k,k<c->∃ f∈rss,qr ws k<=qr f k) (zz11:∀ H',Same H H'->Q (.bl true) H')
theorem Z0z (D:Def K mg "_law_within" jF VP)(T:Blt mg)(u:mg "all"=none)(eQ:Has P w K mg base 1 "_law_under" UI (spUnderL K)):Has P w K mg base 2 "_law_within" VP (spWithin K):=by
 refine D.h9 (N:=["_law_weights_here","_law_told","_law_k"]) fsc λH Q hr h nd=>?_;obtain⟨a,l,as,ws,rss,c,n,rfl,ha,hl,hp,lw,hc,a0,M,E,hn,Z,k⟩:=h;have v:(["_law_corner","_law_weights_here","_law_k"]:List Str).Nodup:=ZZ
 refine⟨_,(Z9 (Yw XS rfl (Yf rfl T.range (Z0 (Zt Zq rfl T.len GL (Z0 (pv 0) Z8)) Z8)) (Zi (i:=2) nd rfl (Or.inr rfl))
   (Zb (Y9 (Yp (Zt (Nj (K:=K) (by rfl)) rfl u Y1p (Z0 (Yd (ox:=none) (N:=["_law_corner","_law_weights_here","_law_k"]) (k:=1) (fv:=[0,2]) rfl (Yn (pv 1))
  (λ_ _ _ _ _=>Zi (i:=0) v rfl xj) (λ_ _ _ _ _=>Y8) (λ_ _ _ _ _=>(Zf eQ hr (Z0 (Zg (F4 (K:=K)) (pv 0) (pv 2)) (Z0 (Zg (F4 (K:=K)) (pv 1) (pv 2)) Z8)))) Zv) Z8)))
    (Zb (Zh W7))
    Zw)))
  (Zb (Zh W7))),?_⟩
 obtain⟨xs,qa,C⟩:=ha;have lx:=C.len;have lp:=XB hp;refine Ya ?_;refine⟨_,rfl,a,xs,rfl,.inr qa,(xs.length:Int),rfl,J0,J0,?_⟩;have R:(xs.length:Int).toNat=c:=J0
 rw[R];refine Xq (lo:=0) (n:=c) (λi σ H'=>Same H H'/\∃ x,σ=[some (.ref a),some (.ref l),x]) ⟨Same.refl _,none,rfl⟩ ?_ ?_
 ·rintro i σ H1 hi ⟨S1,x0,rfl⟩;have e0:(0+(i:Int))=((i:Nat):Int):=J0
  rw[e0];have F:ws[i]?=some (ws[i]'J0):=ZJ
  have A:qr ws i=qv (ws[i]'J0):=by unfold qr;simp[List.getD,show i<ws.length by omega]
  have o:=M _ (YD F);generalize (ws[i]'J0)=r at *
  refine Y2 ?_;dsimp only;refine⟨_,rfl,l,rfl,⟨_,SqL.of (S1 _ _ hl)⟩,λd hd=>?_⟩;refine⟨as.length,λj ys H'=>Same H1 H'/\ys=((rss.take j).map λf=>decide ((f.getD i (0,1)).1*r.2<r.1*(f.getD i (0,1)).2)).map V.bl,Zz J0,⟨Same.new hd,rfl⟩,?_,?_⟩
  ·rintro j ys H2 hj ⟨S2,rfl⟩ m;have e:=S1.trans S2;have ea:as[j]?=some as[j]:=by simp[hj]
   have p:rss[j]?=some (rss[j]'J0):=ZJ
   generalize as[j]=b at ea;generalize (rss[j]'J0)=g at p;have ex:(as.map V.ref)[j]?=some (V.ref b):=by rw[YI,ea];rfl
   refine⟨⟨_,V.ref b,SqL.of (e _ _ hl),ex⟩,?_⟩;rintro x H3 ⟨rfl,L⟩;have e':=L _ (SqL.of (e _ _ hl));rw[ex] at e'
   cases e';obtain⟨U,y⟩:=E g (YD p);have I:g[i]?=some (g[i]'J0):=ZJ
   have s:g.getD i (0,1)=g[i]'J0:=by simp[List.getD,show i<g.length by omega]
   have B:=y _ (YD I);obtain⟨zs,Y,J⟩:=(Paired.getB hp ea p).ext (Ext.same e);obtain⟨v1,e1,b1,rfl,X⟩:=J.at I;obtain⟨v2,e2,b2,rfl,W⟩:=(C.ext (Ext.same e)).at F;generalize (g[i]'J0)=S at *
   refine Yh ?_;refine⟨_,rfl,_,rfl,b,zs,_,_,rfl,rfl,Y,Zk e1,_,rfl,_,rfl,a,xs,_,_,rfl,rfl,Zx e qa,Zk e2,b1,b2,S,r,n,rfl,X,W,B,o,hn,m,Yj S2 hd,?_⟩;rw[Yo p,XH,XH];show _=_++[V.bl (decide ((g.getD i (0,1)).1*r.2<r.1*(g.getD i (0,1)).2))];rw[s]
  rintro ys H2 ⟨S2,rfl⟩ m;rw[lp,JQ] at m;refine⟨⟨_,SqL.of ((S1.trans S2) _ _ hl),ZJ⟩,?_⟩;refine⟨d,_,rfl,SqL.of m,_,rfl,?_⟩;have t:(rss.map λf=>decide ((f.getD i (0,1)).1*r.2<r.1*(f.getD i (0,1)).2)).all id=false:=by
   obtain⟨q,G,le⟩:=Z i hi;rw[Y0W];refine⟨_,YN.mpr ⟨q,G,rfl⟩,?_⟩;obtain⟨U,y⟩:=E q G;have gi:=y _ (Sf (l:=q) (d:=(0,1)) (k:=i) J0);rw[A] at le;have O:qv r<=qv (q.getD i (0,1)):=le;intro z;have:=(Z5g gi.pos o.pos).mp (XO z);grind
  rw[t];exact Xc ⟨S1.trans S2,_,rfl⟩
 rintro σ H1 ⟨S1,x0,rfl⟩;exact k H1 S1
end
def Z4e {p q:Int}(h:q≠0):nrm (-p) (-q)=nrm p q:=by
 have b:Low (nrm (-p) (-q)):=Yi J0;have a:Low (nrm p q):=Yi h;have f:=Xt (-p) (-q);have c:=Xt p q;refine Tv b a ?_;have b1:=Xv b.pos;have b2:=Xv a.pos;have hq:(q:QQ)≠0:=λz=>h (_root_.Rat.intCast_inj.mp (show ((q:Int):QQ)=((0:Int):QQ) by rw[z];rfl));have e1:((nT (-p) (-q):Int):QQ)*((-q:Int):QQ)=((-p:Int):QQ)*((nB (-p) (-q):Int):QQ):=by rw[<-_root_.Rat.intCast_mul,<-_root_.Rat.intCast_mul,f]
 have e2:((nT p q:Int):QQ)*((q:Int):QQ)=((p:Int):QQ)*((nB p q:Int):QQ):=by rw[<-_root_.Rat.intCast_mul,<-_root_.Rat.intCast_mul,c]
 rw[_root_.Rat.intCast_neg,_root_.Rat.intCast_neg] at e1;have d:((nB (-p) (-q):Int):QQ)≠0:=b1;have e:((nB p q:Int):QQ)≠0:=b2;show ((nT (-p) (-q):Int):QQ) / ((nB (-p) (-q):Int):QQ)=((nT p q:Int):QQ) / ((nB p q:Int):QQ);grind
section
variable {P:TU}
theorem Dq (D:Def K mg "_law_parted" iW UI)(f:Z1 P w K mg base):Has P w K mg base 3 "_law_parted" UI (spPart0 K):=by
 refine D.h9 (N:=["_law_one","_law_other","_law_top","_law_bottom"]) fsc λH Q hr h nd=>?_;obtain⟨a,b,r,s,n,rfl,g,hB,d,gs,hn,hs,k⟩:=h;refine⟨_,(Z9 (Zj (i:=2) nd rfl (Or.inl rfl) (Zl Zu (Zg Yq (pv 0) Za) (Zg Ym (pv 1) Za)))
  (Z9 (Zj (i:=3) nd rfl (Or.inl rfl) (Zl Zu (Zg Ym (pv 0) Za) (Zg Yq (pv 1) Za)))
  (Z9 (Y9 (Zo Ud (pv 3) Za (Zp _))
   (Zb (Zh (Zf f hr (Z0 (V9 Xx (pv 2)) (Z0 (V9 Xx (pv 3)) Z8)))))
   Zw)
  (Zb (Zh (Zf f hr (Z0 (pv 2) (Z0 (pv 3) Z8)))))))),?_⟩
 have q0:=Q0 d.pos hs;refine⟨_,rfl,_,_,_,rfl,rfl,g,_,rfl,_,_,_,rfl,rfl,hB,_,_,rfl,rfl,d.b1.mulOk gs.b2 J0 J0,?_⟩;refine⟨_,rfl,_,_,_,rfl,rfl,g,_,rfl,_,_,_,rfl,rfl,hB,_,_,rfl,rfl,d.b2.mulOk gs.b1 J0 J0,?_⟩;refine⟨_,rfl,_,_,rfl,rfl,_,rfl,?_⟩;refine Xu (λh=>?_) (λh=>?_)
 ·have h':=XO h;refine⟨_,rfl,_,rfl,_,rfl,_,rfl,_,_,rfl,J0,by rw[Int.natAbs_neg];exact W4 d.b2 gs.b1 hn,λc H' f1 S1 e1=>k c H' f1 S1 ?_⟩;have e:=Z4e (p:=r.1*s.2) q0;have e2:nT (-(r.1*s.2)) (-(r.2*s.1))=(parR r s).1:=congrArg Prod.fst e;have e3:nB (-(r.1*s.2)) (-(r.2*s.1))=(parR r s).2:=congrArg Prod.snd e;rw[<-e2,<-e3];exact e1
 have h':¬ r.2*s.1<0:=λz=>h (XA z);exact⟨_,rfl,_,rfl,_,_,rfl,J0,W4 d.b2 gs.b1 hn,k⟩
end
section
variable {n:Nat}
def Ech (n:Nat):List (Pt × Nat)->Prop
 | []=>True
 | q::t=>q.2<n/\q.1 q.2≠0/\(∀ u∈t,u.1 q.2=0)/\Ech n t
theorem Ech.snoc {p:Pt}{s:Nat}:∀ {L:List (Pt × Nat)},Ech n L->(∀ q∈L,p q.2=0)->s<n->p s≠0->Ech n (L++[(p,s)])
 | [],_,_,hs,hp=>⟨hs,hp,(λq hq=>by cases hq),trivial⟩
 | q0::t,⟨h1,h2,h3,h4⟩,hz,hs,hp=>⟨h1,h2,λu hu=>by
   rcases XN.mp hu with hu | hu
   ·exact h3 u hu
   rw[XD.mp hu];exact hz _ YV,Ech.snoc h4 (λq hq=>hz q (YL _ hq)) hs hp⟩
def Ech.at {L:List (Pt × Nat)}(h:Ech n L):∀ q∈L,q.2<n/\q.1 q.2≠0:=by
 induction L with
 | nil=>intro q hq;cases hq
 | cons q0 t a =>
  obtain⟨h1,h2,h3,h4⟩:=h;intro q hq;rcases YT.mp hq with rfl | hq
  ·exact⟨h1,h2⟩
  exact a h4 q hq
def Ech.nd {L:List (Pt × Nat)}(h:Ech n L):(L.map (·.2)).Nodup:=by
 induction L with
 | nil=>exact Y0J
 | cons q0 t c =>
  obtain⟨h1,h2,h3,h4⟩:=h;refine GF.mpr ⟨λhm=>?_,c h4⟩;obtain⟨u,hu,e⟩:=YN.mp hm;have a:=h3 u hu;have b:=(h4.at u hu).2;rw[e] at b;exact b a
def Z2a {s:Nat}(hs:s<n)(d p:Pt)(v:QQ):dq n (λk=>if k=s then v else d k) p=dq n d p+(v - d s)*p s:=by
 have e:∀ k,k<n->(if k=s then v else d k)=d k+(v - d s)*(if k=s then 1 else 0):=λk _=>by
  split
  ·next h=>rw[h];grind
  grind
 rw[Yk e,Yy,Fj hs]
theorem Ech.ext:∀ {L:List (Pt × Nat)},Ech n L->∀ a:Pt,∃ d:Pt,(∀ q∈L,dq n d q.1=0)/\∀ k,(∀ q∈L,k≠q.2)->d k=a k
 | [],_,a=>⟨a,(λq hq=>by cases hq),λk _=>rfl⟩
 | q0::t,⟨h1,h2,h3,h4⟩,a=>by
  obtain⟨d,z,e⟩:=Ech.ext h4 a;refine⟨λk=>if k=q0.2 then d q0.2 - dq n d q0.1 / q0.1 q0.2 else d k,λq hq=>?_,λk hk=>?_⟩
  ·rw[Z2a h1];rcases YT.mp hq with rfl | hq
   ·grind
   rw[h3 q hq,z q hq];grind
  dsimp only;rw[YF (hk q0 YV)];exact e k λq hq=>hk q (YL _ hq)
theorem Ech.zero:∀ {L:List (Pt × Nat)},Ech n L->∀ d:Pt,(∀ q∈L,dq n d q.1=0)->(∀ k,k<n->(∀ q∈L,k≠q.2)->d k=0)->∀ k,k<n->d k=0
 | [],_,d,_,h=>λk hk=>h k hk λq hq=>by cases hq
 | q0::t,⟨h1,h2,h3,h4⟩,d,z,h=>by
  have d':=Ech.zero h4 (λk=>if k=q0.2 then 0 else d k) (λq hq=>by
   rw[Z2a h1,h3 q hq,z q (YL _ hq)];grind) λk hk ne=>by
   by_cases e:k=q0.2
   ·rw[YH e]
   rw[YF e];exact h k hk λq hq=>by
    rcases YT.mp hq with rfl | hq
    ·exact e
    exact ne q hq
  have a:∀ k,k<n->k≠q0.2->d k=0:=λk hk ne=>by
   have:=d' k hk
   rwa [YF ne] at this
  have e:dq n d q0.1=d q0.2*q0.1 q0.2:=by
   unfold dq;rw[<-Wu (λk=>d k*q0.1 k) h1];exact Zm λk hk=>by
    by_cases y:k=q0.2
    ·rw[YH y]
    rw[YF y,a k hk y];grind
  rw[z q0 YV] at e;have e0:d q0.2=0:=by
   rcases _root_.Rat.mul_eq_zero.mp e.symm with y | y
   ·exact y
   exact absurd y h2
  intro k hk;by_cases y:k=q0.2
  ·rw[y];exact e0
  exact a k hk y
theorem Ech.rank {L:List (Pt × Nat)}{x:Pt}(E:Ech n L)(o:∃ i,i<n/\x i≠0)(ort:∀ q∈L,dq n x q.1=0)(ker:∀ d:Pt,(∀ q∈L,dq n d q.1=0)->∃ t:QQ,∀ k,k<n->d k=t*x k):L.length+1=n:=by
 have sp:∀ k,k∈L.map (·.2)->k<n:=λk hk=>by
  obtain⟨q,hq,rfl⟩:=YN.mp hk;exact (E.at q hq).1
 have j:(L.map (·.2)).length=L.length:=YB _;have h:∀ k,k ∉ L.map (·.2)->∀ q∈L,k≠q.2:=λk hk q hq e=>hk (YN.mpr ⟨q,hq,e.symm⟩);have le:L.length<=n:=by
  have:=Xf (M:=List.range n) E.nd λk hk=>XI.mpr (sp k hk);rw[j,ql] at this;exact this
 have z:L.length≠n:=λe=>by
  obtain⟨i,hi,ne⟩:=o;refine ne (E.zero x ort (λk hk p=>?_) i hi);exfalso;have:=Xf (L:=k::L.map (·.2)) (M:=List.range n) (GF.mpr ⟨λhm=>by
   obtain⟨q,hq,y⟩:=YN.mp hm;exact p q hq y.symm,E.nd⟩) λy g=>by
    rcases YT.mp g with rfl | g
    ·exact XI.mpr hk
    exact XI.mpr (sp y g)
  rw[XT,j,ql] at this;omega
 refine YE λno=>?_;have free:∀ M:List Nat,M.length<n->∃ k,k<n/\k ∉ M:=λM v=>by
  refine YE λq=>?_;have:=Xf (L:=List.range n) (M:=M) Y1c λk hk=>YE λy=>q ⟨k,XI.mp hk,y⟩;rw[ql] at this;omega
 obtain⟨a,ha,r⟩:=free (L.map (·.2)) J0;obtain⟨b,l,m⟩:=free (a::L.map (·.2)) (by rw[XT];omega);have f:b≠a:=λy=>m (by rw[y];exact YV);have c:b ∉ L.map (·.2):=λy=>m (YL _ y);obtain⟨d1,z1,e1⟩:=E.ext λk=>if k=a then 1 else 0
 obtain⟨s,z2,e2⟩:=E.ext λk=>if k=b then 1 else 0
 obtain⟨u,h1⟩:=ker d1 z1;obtain⟨w,h2⟩:=ker s z2;have a1:=e1 a (h a r);have b1:=e1 b (h b c);have b2:=e2 b (h b c);rw[YH rfl,h1 a ha] at a1;rw[YF f,h1 b l] at b1;rw[YH rfl,h2 b l] at b2;rcases _root_.Rat.mul_eq_zero.mp b1 with y | y
 ·rw[y] at a1;grind
 rw[y] at b2;grind
structure Gs (n:Nat)(x:Pt)(L:List (Pt × Nat))(R:List Pt):Prop where
 ech:Ech n L
 zer:∀ r∈R,∀ q∈L,r q.2=0
 ort:∀ q∈L,dq n x q.1=0
 orr:∀ r∈R,dq n x r=0
 ker:∀ d:Pt,(∀ q∈L,dq n d q.1=0)->(∀ r∈R,dq n d r=0)->∃ t:QQ,∀ k,k<n->d k=t*x k
variable {x p:Pt}{L:List (Pt × Nat)}{R:List Pt}
def L0 (d r:Pt):dq n d r=dq n r d:=Zm λk _=>by grind
def Gs.skip (G:Gs n x L (R++[p]))(h:∀ k,k<n->p k=0):Gs n x L R:=by
 refine⟨G.ech,λr hr=>G.zer r (XG _ hr),G.ort,λr hr=>G.orr r (XG _ hr),λd h1 h2=>G.ker d h1 λr hr=>?_⟩;rcases XN.mp hr with hr | hr
 ·exact h2 r hr
 rw[XD.mp hr];exact Wc λk hk=>by rw[h k hk];grind
structure Clr (n:Nat)(p:Pt)(s:Nat)(r r':Pt):Prop where
 at_:∀ k,k<n->r' k=r k - r s / p s*p k
def Gs.step {s:Nat}{R':List Pt}(G:Gs n x L (R++[p]))(hs:s<n)(hp:p s≠0)(j:∀ r∈R,∃ r'∈R',Clr n p s r r')(h:∀ r'∈R',∃ r∈R,Clr n p s r r'):Gs n x (L++[(p,s)]) R':=by
 have i:p∈R++[p]:=YW _ (XD.mpr rfl);have g:=G.zer p i;have op:=G.orr p i;have dc:∀ (d:Pt) {r r':Pt},Clr n p s r r'->dq n d r'=dq n d r - r s / p s*dq n d p:=λd {r r'} c=>by
  have e:∀ k,k<n->r' k=r k + -(r s / p s)*p k:=λk hk=>by rw[c.at_ k hk];grind
  rw[L0 d r',Yk e,Yy,L0 r d,L0 p d];grind
 refine⟨G.ech.snoc g hs hp,λr' b q hq=>?_,λq hq=>?_,λr' b=>?_,λd h1 h2=>?_⟩
 ·obtain⟨r,hr,c⟩:=h r' b;rcases XN.mp hq with hq | hq
  ·rw[c.at_ _ (G.ech.at q hq).1,G.zer r (XG _ hr) q hq,g q hq];grind
  rw[XD.mp hq];show r' s=0;rw[c.at_ s hs];grind
 ·rcases XN.mp hq with hq | hq
  ·exact G.ort q hq
  rw[XD.mp hq];exact op
 ·obtain⟨r,hr,c⟩:=h r' b;rw[dc x c,G.orr r (XG _ hr),op];grind
 have dp:=h1 (p,s) (YW _ (XD.mpr rfl));refine G.ker d (λq hq=>h1 q (XG _ hq)) λr hr=>?_;rcases XN.mp hr with hr | hr
 ·obtain⟨r',b,c⟩:=j r hr;have a:=dc d c;have f:dq n d p=0:=dp;rw[h2 r' b,f] at a;grind
 rw[XD.mp hr];exact dp
def Gs.done (G:Gs n x L [])(a:∃ i,i<n/\x i≠0):L.length+1=n:=G.ech.rank a G.ort λd h=>G.ker d h λr hr=>by cases hr
end
noncomputable def clrR (n:Nat)(p u:UA)(s:Nat):List Rat:=if (u.getD s (0,1)).1=0 then u else (List.range n).map λk=>subR (u.getD k (0,1)) (mulR' (parR (u.getD s (0,1)) (p.getD s (0,1))) (p.getD k (0,1)))
def Tq {r:Rat}(h:Low r):r.1=0 ↔ qv r=0:=by
 constructor
 ·intro z;unfold qv;rw[z];grind
 intro z;have a:=(Vq h.pos).mpr (by rw[z];grind);have b:=(Ub h.pos).mpr (by rw[z];grind);omega
noncomputable def gb:Nat->Nat
 | 0=>100
 | q+1=>4*gb q+4
def gb4:∀ q,q<=4->gb q<=26000:=by decide
theorem Z2g {n g s:Nat}{p u:UA}(hp:p.length=n)(hu:u.length=n)(i:∀ r∈p,Good g r)(h:∀ r∈u,Good g r)(hs:s<n)(ne:(p.getD s (0,1)).1≠0) :
  (clrR n p u s).length=n/\(∀ r∈clrR n p u s,Good (4*g+4) r)/\Clr n (qr p) s (qr u) (qr (clrR n p u s)):=by
 have f:=h _ (Sf (l:=u) (d:=(0,1)) (k:=s) J0);have c:=i _ (Sf (l:=p) (d:=(0,1)) (k:=s) J0);unfold clrR;by_cases z:(u.getD s (0,1)).1=0
 ·rw[YH z];refine⟨hu,λr hr=>(h r hr).mono J0,⟨λk hk=>?_⟩⟩;have:qr u s=0:=by
   show qv (u.getD s (0,1))=0;unfold qv;rw[z];grind
  rw[this];grind
 rw[YF z];refine⟨ZJ,λr hr=>?_,⟨λk hk=>?_⟩⟩
 ·obtain⟨k,hk,rfl⟩:=YN.mp hr;have hk:=XI.mp hk;have a:=h _ (Sf (l:=u) (d:=(0,1)) (k:=k) J0);have b:=i _ (Sf (l:=p) (d:=(0,1)) (k:=k) J0);exact (Tr a (U7 (Ql f c ne) b)).mono J0
 have e:((List.range n).map λk=>subR (u.getD k (0,1)) (mulR' (parR (u.getD s (0,1)) (p.getD s (0,1))) (p.getD k (0,1)))).getD k (0,1)=subR (u.getD k (0,1)) (mulR' (parR (u.getD s (0,1)) (p.getD s (0,1))) (p.getD k (0,1))):=by
  rw[XC,YI,qq hk];rfl
 have a:=(h _ (Sf (l:=u) (d:=(0,1)) (k:=k) J0)).low;have b:=(i _ (Sf (l:=p) (d:=(0,1)) (k:=k) J0)).low;obtain⟨lp,m⟩:=Z0h f.low c.low ne;have j:Low (mulR' (parR (u.getD s (0,1)) (p.getD s (0,1))) (p.getD k (0,1))):=Yi (zW (XU lp.pos b.pos));show qv (((List.range n).map λk=>subR (u.getD k (0,1)) (mulR' (parR (u.getD s (0,1)) (p.getD s (0,1))) (p.getD k (0,1)))).getD k (0,1))=_;rw[e,Qe a j,M3 lp b,m];rfl
theorem Su {α β:Type}{R:α->β->Prop}{x:α}{y:β}:∀ {xs:List α} {ys:List β},xs.length=ys.length->Paired R (xs++[x]) (ys++[y])->Paired R xs ys/\R x y
 | [],[],_,.cons r _=>⟨.nil,r⟩
 | _::xs,_::ys,h,.cons r t=>by
  obtain⟨a,b⟩:=Su (xs:=xs) (ys:=ys) (by simpa using h) t;exact⟨.cons r a,b⟩
 | [],_::_,h,_=>by simp at h
 | _::_,[],h,_=>by simp at h
theorem Sw {α β:Type}{R:α->β->Prop}{x:α}{y:β}:∀ {xs:List α} {ys:List β} {i:Nat},Paired R xs ys->R x y->Paired R (xs.set i x) (ys.set i y)
 | [],[],_,.nil,_=>.nil
 | _::_,_::_,0,.cons _ t,r=>.cons r t
 | _::_,_::_,i+1,.cons q t,r=>.cons q (Sw (i:=i) t r)
theorem Nt {α:Type}:∀ {l:List α},0<l.length->∃ a b,l=a++[b]
 | [],h=>by simp at h
 | [x],_=>⟨[],x,rfl⟩
 | x::y::t,_=>by
  obtain⟨a,b,e⟩:=Nt (l:=y::t) ZJ;exact⟨x::a,b,by rw[e];rfl⟩
section
def LsR (K:TR)(H:Hp)(b:Addr)(u:UA):Prop:=∃ xs,H b=some (.lst xs)/\Rs K H u xs
theorem LsR.keep {b:Addr}{u:UA}(h:LsR K H b u)(e:Ext H H')(k:∀ o,H b=some o->H' b=some o):LsR K H' b u:=by
 obtain⟨xs,q,r⟩:=h;exact⟨xs,k _ q,r.ext e⟩
def Qs {bs:TJ}{uss:UB}(h:Paired (LsR K H) bs uss)(S:Same H H'):Paired (LsR K H') bs uss:=Paired.mapP h λ_ _ q=>q.keep (Ext.same S) λo e=>S _ _ e
def Mm {H H':Hp}{bs:TJ}{uss:UB}{d:Addr}(h:Paired (LsR K H) bs uss)(e:Ext H H')(S:SameX d H H')(nd:∀ b∈bs,b≠d):Paired (LsR K H') bs uss:=by
 induction h with
 | nil=>exact .nil
 | cons q t a=>exact .cons (q.keep e λo z=>S _ _ z (nd _ YV)) (a λb c=>nd b (YL _ c))
theorem Gx {H H':Hp}{d:Addr}{v:UA}(e:Ext H H')(S:SameX d H H')(hd:LsR K H' d v):∀ {bs:TJ} {uss:UB} {i:Nat},Paired (LsR K H) bs uss->bs.Nodup->bs[i]?=some d->Paired (LsR K H') bs (uss.set i v)
 | [],_,i,_,_,h=>by simp at h
 | b::bs,u::uss,0,.cons q t,nd,h=>by
  simp at h;subst h;have a:=GF.mp nd;exact .cons hd (Mm t e S λc hc z=>a.1 (z ▸ hc))
 | b::bs,u::uss,i+1,.cons q t,nd,h=>by
  have a:=GF.mp nd;have h':bs[i]?=some d:=by simpa using h
  have ne:b≠d:=λz=>a.1 (z ▸ YD h');exact .cons (q.keep e λo z=>S _ _ z ne) (Gx e S hd t a.2 h')
end
theorem Pi {d:Addr}(h:H d=some (.lst ys))(S:SameX d H H'):Ext H H' :=
 ⟨λb xs e=>S b _ e (by rintro rfl;rw[h] at e;cases e),λb o u e=>S b _ e (by rintro rfl;rw[h] at e;cases e)⟩
def SeqR (K:TR)(H:Hp)(v:V)(r:UA):Prop:=∃ b xs,v=.ref b/\(SqL K H b xs \/ SqT K H b xs)/\Rs K H r xs
section
variable {P:TU}
inductive spRank (K:TR) (vs:TZ) (H:Hp) (Q:VK) (_z3:XK):Prop
 | mk (l:Addr) (ys:TZ) (rss:UB) (n:Nat) (x:Pt) (zz0:vs=[.ref l]) (zz1:H l=some (.lst ys)) (zz2:Paired (SeqR K H) ys rss) (zz3:rss.length<=100) (zz4:1<=n/\n<=5) (zz5:∀ f∈rss,f.length=n/\∀ r∈f,Good 100 r) (zz6:Gs n x [] (rss.map qr)) (zz7:∃ i,i<n/\x i≠0) (zz8:∀ H',Same H H'->Q (.int ((n - 1:Nat):Int)) H')
theorem Z6k (D:Def K mg "_law_rank" kD ["_law_rows"])(T:Blt mg)(eS:Has P w K mg base 3 "_law_parted" UI (spPart0 K))(eH:Z6 P w K mg base)(eW:Has P w K mg base 3 "_law_times" UI (spTwo K mulR')):Has P w K mg base 4 "_law_rank" ["_law_rows"] (spRank K):=by
 refine D.h9 (N:=["_law_rows","_law_rest","_law_rank_here","_law_row_here","_law_spots","_law_spot","_law_other","_law_by","_law_k"]) fsc λH Q hr h nd=>?_;obtain⟨l,ys,rss,n,x,rfl,hl,hp,hz,⟨n1,n5⟩,hg,G,xz,k⟩:=h;have g4:(["_law_row_here"]:TF).Nodup:=ZZ
 have h0:(["_law_k","_law_row_here"]:List Str).Nodup:=ZZ
 refine⟨_,(Z9 (Xa (i:=1) (ox:=none) (N:=["_law_row_here"]) (k:=1) (fv:=[]) nd rfl xj rfl (Yn (pv 0))
  (λ_ _ _ _ _=>Zi (i:=0) g4 rfl xj) (λ_ _ _ _ _=>Y8) (λ_ _ _ _ _=>(Y7 (Px (K:=K)) rfl T.list JU (Z0 (pv 0) Z8))) Zv)
  (Z9 (Zj (i:=2) nd rfl (Or.inl rfl) Za)
  (Z9 (T4 XS (Zo Sx (Zt Zq rfl T.len GL (Z0 (pv 1) Z8)) Za (Zp _))
   (Z9 (Zj (i:=3) nd rfl (Or.inr rfl) (Z0r XJ PySem.F.slot_list_pop PySem.F.type_list_pop Z6w (pv 1)))
   (Z9 (Xa (i:=4) (ox:=none) (N:=["_law_k","_law_row_here"]) (k:=1) (fv:=[3]) nd rfl xj rfl (Yf rfl T.range (Z0 (Zt Zq rfl T.len GL (Z0 (pv 3) Z8)) Z8))
  (λ_ _ _ _ _=>Zi (i:=0) h0 rfl xj) (λ_ _ _ _ _=>Xs (Zo Qo (Zg (Z1u (K:=K)) (Zg (Z5n (K:=K)) (pv 1) (pv 0)) Za) Za (Zp _))) (λ_ _ _ _ _=>(pv 0)) Zv)
   (Zb (Y9 (Zo Sx (Zt Zq rfl T.len GL (Z0 (pv 4) Z8)) Za (Zp _))
    (Z9 (Zj (i:=2) nd rfl (Or.inl rfl) (Zl X6 (pv 2) Za))
    (Z9 (Zj (i:=5) nd rfl (Or.inl rfl) (Zg Zy (pv 4) Za))
    (Zb (Yw XS rfl (Yn (pv 1)) (Zi (i:=6) nd rfl xj)
     (Zb (Y9 (Zo Qo (Zg Yq (Zg Zy (pv 6) (pv 5)) Za) Za (Zp _))
      (Z9 (Zj (i:=7) nd rfl (Or.inl rfl) (Zf eS hr (Z0 (Zg Zy (pv 6) (pv 5)) (Z0 (Zg Zy (pv 3) (pv 5)) Z8))))
      (Zb (Yw XS rfl (Yf rfl T.range (Z0 (Zt Zq rfl T.len GL (Z0 (pv 3) Z8)) Z8)) (Zi (i:=8) nd rfl xj)
       (Zb (Uj (Zf eH hr (Z0 (Zg Zy (pv 6) (pv 8)) (Z0 (Zf eW hr (Z0 (pv 7) (Z0 (Zg Zy (pv 3) (pv 8)) Z8))) Z8))) (Tw (pv 6) (pv 8) V6))))))
      Zw))))))
    Zw)))))
  (Zb (Zh (pv 2)))))),?_⟩
 have lp:=XB hp;refine Ya (Yr ?_);refine⟨_,rfl,l,rfl,⟨_,SqL.of hl⟩,λd hd=>?_⟩;refine⟨ys.length,λi zs H2=>Same H H2/\∃ bs:List Addr,zs=bs.map V.ref/\Paired (LsR K H2) bs (rss.take i)/\bs.Nodup/\∀ b∈bs,H b=none/\b≠d,Zz J0,⟨Same.new hd,[],rfl,by simpa using Paired.nil,Y0J,λb X=>by cases X⟩,?_,?_⟩
 ·rintro i zs H2 hi ⟨S2,bs,rfl,P2,S,a4⟩ a7;have c2:=S2 _ _ hl;have ey:ys[i]?=some ys[i]:=by simp[hi]
  have ez:rss[i]?=some (rss[i]'J0):=ZJ
  generalize ys[i]=y at ey;generalize (rss[i]'J0)=u at ez;refine⟨⟨_,y,SqL.of c2,ey⟩,?_⟩;rintro x' J ⟨rfl,fx⟩;have e':=fx _ (SqL.of c2);rw[ey] at e'
  cases e';obtain⟨b0,xs,rfl,hq,hR⟩:=Paired.getB hp ey ez;refine Yh ?_;refine⟨_,rfl,b0,xs,rfl,hq.elim (λz=>.inl (Xr S2 z)) (λz=>.inr (Zx S2 z)),λl3 Y=>?_⟩;have N3:=Same.new (o:=.lst xs) Y;have q3:(upd J l3 (.lst xs)) l3=some (.lst xs):=Zc;generalize upd J l3 (.lst xs)=H4 at *
  have c9:=N3 _ _ a7;have c4:l3≠d:=λz=>by rw[z,a7] at Y;cases Y
  have E5:Ext H4 (upd H4 d (.lst (bs.map V.ref++[V.ref l3]))):=Ext.upd c9;have X5:SameX d H4 (upd H4 d (.lst (bs.map V.ref++[V.ref l3]))):=SameX.upd _ _ _;refine⟨c9,Yj (S2.trans N3) hd,bs++[l3],ZJ,?_,?_,?_⟩
  ·rw[Yo ez];refine Paired.appP (Mm (Qs P2 N3) E5 X5 λb X=>(a4 b X).2) (.cons ⟨xs,X5 _ _ q3 c4,hR.ext ((Ext.same (S2.trans N3)).trans E5)⟩ .nil)
  ·rw[Y0V];refine⟨S,ZJ,λb X c hc z=>?_⟩;rw[XD.mp hc] at z;obtain⟨j,ej⟩:=XQ X;have j0:=XB P2;have hj:j<bs.length:=(YG.mp ej).1;obtain⟨a6,qx,_⟩:=Paired.getB P2 ej (show (rss.take i)[j]?=some ((rss.take i)[j]'J0) from XL J0);rw[z,Y] at qx
   cases qx
  intro b X;rcases XN.mp X with X | X
  ·exact a4 b X
  rw[XD.mp X];exact⟨S2.free Y,c4⟩
 rintro zs H2 ⟨S2,bs,rfl,P2,S,a4⟩ a7;rw[lp,JQ] at P2;refine⟨⟨_,SqL.of (S2 _ _ hl),ZJ⟩,?_⟩;refine Y2 ?_;dsimp only;refine Ya (Yr ?_);refine Y2 ?_;dsimp only;refine Ya ?_;refine Q8 (λσ H'=>Same H H'/\∃ (cs:TJ) (uss:UB) (L:List (Pt × Nat)) (x3 x4 x5 x6 x7 x8:Option V),σ=[some (.ref l),some (.ref d),some (.int (L.length:Int)),x3,x4,x5,x6,x7,x8]/\H' d=some (.lst (cs.map V.ref))/\Paired (LsR K H') cs uss/\cs.Nodup/\(∀ b∈cs,H b=none/\b≠d)/\Gs n x L (uss.map qr)/\∀ u∈uss,u.length=n/\∀ r∈u,Good (gb L.length) r)
  (λσ H'=>match H' d with | some (.lst xs)=>xs.length | _=>0) ⟨S2,bs,rss,[],none,none,none,none,none,none,rfl,a7,P2,S,a4,G,hg⟩ ?_ ?_
 ·rintro σ J ⟨S3,cs,uss,L,x3,x4,x5,x6,x7,x8,rfl,qd,P3,f4,R,G3,g3⟩;have lc:=XB P3;refine⟨_,rfl,d,_,rfl,.inl (SqL.of qd),_,_,rfl,rfl,_,rfl,?_⟩;rw[YB];by_cases z0:0<cs.length
  ·rw[XA (show (0:Int)<(cs.length:Int) by omega)];refine V0 ?_;obtain⟨m,b,rfl⟩:=Nt z0;obtain⟨s,u,rfl⟩:=Nt (l:=uss) J0;have c6:m.length=s.length:=by simpa using lc
   obtain⟨P0,ub⟩:=Su c6 P3;obtain⟨b3,_,f1⟩:=Y0V.mp f4;have nb:∀ c∈m,c≠b:=λc hc z=>f1 c hc b (XD.mpr rfl) z;obtain⟨fb,f9⟩:=R b (YW _ (XD.mpr rfl));obtain⟨lu,gu⟩:=g3 u (YW _ (XD.mpr rfl));have g0:∀ v∈s,v.length=n/\∀ r∈v,Good (gb L.length) r:=λv I=>g3 v (XG _ I);rw[XH] at G3 qd;have eG:([u].map qr)=[qr u]:=rfl;rw[eG] at G3;refine Ya (Yr ?_);refine⟨_,rfl,.inl ⟨rfl,_,SqL.of qd⟩,d,_,.ref b,rfl,rfl,qd,ZJ,?_⟩;have eD:(m.map V.ref++[b].map V.ref).dropLast=m.map V.ref:=ZJ
   rw[eD];have X4:SameX d J (upd J d (.lst (m.map V.ref))):=SameX.upd _ _ _;have E4:Ext J (upd J d (.lst (m.map V.ref))):=Ext.upd qd;have q4:(upd J d (.lst (m.map V.ref))) d=some (.lst (m.map V.ref)):=Zc;generalize upd J d (.lst (m.map V.ref))=H4 at *
   have S4:Same H H4:=λa o e=>X4 _ _ (S3 _ _ e) (Zd e hd);have P4:=Mm P0 E4 X4 λc hc=>(R c (XG _ hc)).2;obtain⟨xs,qb,Rb⟩:=ub.keep E4 λo e=>X4 _ _ e f9;have i5:=Rb.len;refine Y2 ?_;dsimp only;refine Ya (Yr ?_);refine⟨_,rfl,b,xs,rfl,.inl (SqL.of qb),(xs.length:Int),rfl,J0,J0,λds d7=>?_⟩;have et:(xs.length:Int).toNat=n:=J0
   rw[et];refine⟨n,λi zs H'=>Same H4 H'/\zs=natL ((List.range i).filter λk=>!decide ((u.getD k (0,1)).1=0)),Zz J0,⟨Same.new d7,rfl⟩,?_,?_⟩
   ·rintro i zs H5 hi ⟨S5,rfl⟩ a0;refine⟨hi,?_⟩;rintro x' H6 ⟨rfl,rfl⟩;have e1:(0+(i:Int))=((i:Nat):Int):=J0
    rw[e1];have eu:u[i]?=some (u[i]'J0):=ZJ
    have f6:u.getD i (0,1)=u[i]'J0:=by simp[List.getD,show i<u.length by omega]
    rw[<-f6] at eu;obtain⟨v1,h4,b1,rfl,q1⟩:=(Rb.ext (Ext.same S5)).at eu;refine Vy ?_;refine⟨_,rfl,_,rfl,b,xs,_,_,rfl,rfl,SqL.of (S5 _ _ qb),Zk h4,?_⟩;refine⟨b1,_,_,rfl,rfl,q1,rfl,_,rfl,?_⟩;show if (!decide (V.int (u.getD i (0,1)).1=V.int 0))=true then _ else _
    have ru:(List.range (i+1)).filter (λk=>!decide ((u.getD k (0,1)).1=0))=(List.range i).filter (λk=>!decide ((u.getD k (0,1)).1=0))++(if (!decide ((u.getD i (0,1)).1=0))=true then [i] else []):=by
     rw[GG,JV,JL,zm]
    by_cases z1:(u.getD i (0,1)).1=0
    ·have e2:(!decide (V.int (u.getD i (0,1)).1=V.int 0))=false:=by rw[z1];simp
     rw[e2];refine Xc ⟨a0,S5,?_⟩;rw[ru,XA z1];simp
    have e2:(!decide (V.int (u.getD i (0,1)).1=V.int 0))=true:=by
     have:¬ V.int (u.getD i (0,1)).1=V.int 0:=λy=>z1 (by injection y);rw[XF this];rfl
    rw[e2];refine V0 ⟨_,rfl,a0,Yj S5 d7,?_⟩;rw[ru,XF z1];unfold natL;rw[XH];rfl
   rintro zs H5 ⟨S5,rfl⟩ a0;refine⟨YJ _,?_⟩;have d5:=S4.trans S5;have P5:=Qs P4 S5;have q5:=S5 _ _ q4;have g8:=S5 _ _ qb;have f2:=Rb.ext (Ext.same S5);refine Y2 ?_;dsimp only;refine⟨_,rfl,ds,_,rfl,.inl (SqL.of a0),_,_,rfl,rfl,_,rfl,?_⟩;have mem:∀ k,k∈((List.range n).filter λk=>!decide ((u.getD k (0,1)).1=0)) ↔ k<n/\(u.getD k (0,1)).1≠0:=λk=>by
    rw[XE,XI];simp
   generalize ((List.range n).filter λk=>!decide ((u.getD k (0,1)).1=0))=sp at *
   have i0:(natL sp).length=sp.length:=by unfold natL;simp
   rw[i0];by_cases z2:0<sp.length
   ·rw[XA (show (0:Int)<(sp.length:Int) by omega)];refine V0 ?_;obtain⟨c3,E⟩:=(mem _).mp (XR z2);have e3:(natL sp)[0]?=some (V.int ((sp[0]:Nat):Int)):=by unfold natL;rw[YI,XL z2];rfl
    generalize sp[0]=g at *
    refine Ya (Yr ?_);refine⟨_,rfl,_,_,rfl,rfl,Y2 ?_⟩;dsimp only;refine Ya (Yr ?_);refine⟨_,rfl,ds,_,_,_,rfl,rfl,SqL.of a0,Zk (j:=0) e3,Y2 ?_⟩;dsimp only;have b5:=gu _ (Sf (l:=u) (d:=(0,1)) (k:=g) J0);have a5:=λv (I:v∈s)=>Z2g lu (g0 v I).1 gu (g0 v I).2 c3 E;have G5:Gs n x (L++[(qr u,g)]) ((s.map λv=>clrR n u v g).map qr):=by
     refine G3.step c3 (λy=>E ((Tq b5.low).mpr y)) (λr hr=>?_) λr hr=>?_
     ·obtain⟨v,I,rfl⟩:=YN.mp hr;exact⟨_,YN.mpr ⟨_,YN.mpr ⟨v,I,rfl⟩,rfl⟩,(a5 v I).2.2⟩
     obtain⟨v',f3,rfl⟩:=YN.mp hr;obtain⟨v,I,rfl⟩:=YN.mp f3;exact⟨_,YN.mpr ⟨v,I,rfl⟩,(a5 v I).2.2⟩
    have f8:L.length<=4:=by
     have:=Xf (M:=List.range n) G5.ech.nd λk hk=>by
      obtain⟨q,hq,rfl⟩:=YN.mp hk;exact XI.mpr (G5.ech.at q hq).1
     rw[YB,ql,YY] at this;simp only [XT,jp] at this;omega
    have i2:=gb4 _ f8;have gL:gb (L.length+1)=4*gb L.length+4:=rfl;refine⟨_,rfl,d,rfl,⟨_,SqL.of q5⟩,?_⟩;refine Wp (K:=K) (xs:=m.map V.ref) (λi σ H'=>Same H H'/\(∃ x6 x7 x8,σ=[some (.ref l),some (.ref d),some (.int ((L.length:Int)+1)),some (.ref b),some (.ref ds),some (.int (g:Int)),x6,x7,x8])/\H' d=some (.lst (m.map V.ref))/\LsR K H' b u/\∃ A,Paired (LsR K H') m A/\A.length=s.length/\∀ j,A[j]?=if j<i then (s[j]?).map (λv=>clrR n u v g) else s[j]?)
     ⟨d5,⟨_,_,_,rfl⟩,q5,⟨xs,g8,f2⟩,s,P5,rfl,λj=>by rw[YF J0]⟩ (λi σ H' _ h=>SqL.of h.2.2.1) ?_ ?_
    ·rintro i y σ H6 hy ⟨S6,⟨x6,x7,x8,rfl⟩,q6,⟨B,Z,W⟩,A,P6,b6,a3⟩;have hi:i<m.length:=by have:=(YG.mp hy).1;simpa using this
     have ea:m[i]?=some m[i]:=by simp[hi]
     have ez:s[i]?=some (s[i]'J0):=ZJ
     generalize m[i]=c' at ea;generalize (s[i]'J0)=v at ez;rw[YI,ea] at hy
     cases hy;have mc:=YD ea;have mv:=YD ez;have ev:A[i]?=some v:=by rw[a3 i,YF J0,ez]
     obtain⟨fc,d9⟩:=R c' (XG _ mc);have c5:=nb c' mc;obtain⟨lv,gv⟩:=g0 v mv;obtain⟨a6,qc,Rc⟩:=Paired.getB P6 ea ev;have i8:=Rc.len;have i9:=W.len;have e9:v[g]?=some (v.getD g (0,1)):=by rw[XL (show g<v.length by omega)];simp[List.getD,show g<v.length by omega]
     obtain⟨w1,d1,b1,rfl,q1⟩:=Rc.at e9;have d3:=gv _ (Sf (l:=v) (d:=(0,1)) (k:=g) J0);refine Y2 ?_;dsimp only;refine⟨_,rfl,_,rfl,c',a6,_,_,rfl,rfl,SqL.of qc,Zk d1,b1,_,_,rfl,rfl,q1,rfl,_,rfl,?_⟩;by_cases z3:(v.getD g (0,1)).1=0
     ·have e4:(!decide (V.int (v.getD g (0,1)).1=V.int 0))=false:=by rw[z3];simp
      rw[e4];refine Xc ⟨S6,⟨_,_,_,rfl⟩,q6,⟨B,Z,W⟩,A,P6,b6,λj=>?_⟩;rw[a3 j];by_cases C:j=i
      ·subst C;rw[YF J0,YH J0,ez];show some v=some (clrR n u v g);unfold clrR;rw[YH z3]
      by_cases e6:j<i
      ·rw[YH e6,YH J0]
      rw[YF e6,YF J0]
     have e4:(!decide (V.int (v.getD g (0,1)).1=V.int 0))=true:=by
      have:¬ V.int (v.getD g (0,1)).1=V.int 0:=λy=>z3 (by injection y);rw[XF this];rfl
     rw[e4];refine V0 ?_;have g2:u[g]?=some (u.getD g (0,1)):=by rw[XL (show g<u.length by omega)];simp[List.getD,show g<u.length by omega]
     obtain⟨w2,e8,b2,rfl,q2⟩:=W.at g2;refine Ya (Yr ?_);refine⟨_,rfl,_,rfl,c',a6,_,_,rfl,rfl,SqL.of qc,Zk d1,_,rfl,_,rfl,b,B,_,_,rfl,rfl,SqL.of Z,Zk e8,b1,b2,v.getD g (0,1),u.getD g (0,1),gb L.length,rfl,q1,q2,d3,b5,J0,E,λcb H7 f7 S7 q7=>?_⟩;have c8:=Ql d3 b5 E;refine Y2 ?_;dsimp only;refine⟨_,rfl,b,B,rfl,.inl (SqL.of (S7 _ _ Z)),(B.length:Int),rfl,J0,J0,?_⟩;have h8:(B.length:Int).toNat=n:=J0
     rw[h8];have c0:=S7 _ _ qc;refine Xq (lo:=0) (n:=n) (λkk σ H'=>SameX c' H7 H'/\(∃ b7,σ=[some (.ref l),some (.ref d),some (.int ((L.length:Int)+1)),some (.ref b),some (.ref ds),some (.int (g:Int)),some (.ref c'),some (.ref cb),b7])/\∃ (ws:UA) (t:TZ),H' c'=some (.lst t)/\Rs K H' ws t/\ws.length=n/\∀ j,ws[j]?=if j<kk then (clrR n u v g)[j]? else v[j]?)
      ⟨SameX.refl _ _,⟨_,rfl⟩,v,a6,c0,Rc.ext (Ext.same S7),lv,λj=>by rw[YF J0]⟩ ?_ ?_
     ·rintro kk σ H8 hk ⟨X8,⟨b7,rfl⟩,ws,t,q8,R8,d6,a8⟩;have e0:(0+(kk:Int))=((kk:Nat):Int):=J0
      rw[e0];have U:=Pi c0 X8;have g6:v[kk]?=some (v.getD kk (0,1)):=by rw[XL (show kk<v.length by omega)];simp[List.getD,show kk<v.length by omega]
      have f0:u[kk]?=some (u.getD kk (0,1)):=by rw[XL (show kk<u.length by omega)];simp[List.getD,show kk<u.length by omega]
      have h1:ws[kk]?=some (v.getD kk (0,1)):=by rw[a8 kk,YF J0,g6]
      obtain⟨w8,g9,b8,rfl,g1⟩:=R8.at h1;obtain⟨w9,g5,b9,rfl,h5⟩:=(W.ext ((Ext.same S7).trans U)).at f0;have e7:=gv _ (Sf (l:=v) (d:=(0,1)) (k:=kk) J0);have d8:=gu _ (Sf (l:=u) (d:=(0,1)) (k:=kk) J0);have d4:=X8 _ _ (S7 _ _ Z) λz=>c5 z.symm;have c7:SqT K H8 cb [.int (parR (v.getD g (0,1)) (u.getD g (0,1))).1,.int (parR (v.getD g (0,1)) (u.getD g (0,1))).2]:=U.sq (SqT.of q7);have i7:=R8.len;refine Y2 ?_;dsimp only;refine Yr ?_;refine⟨_,rfl,_,rfl,c',t,_,_,rfl,rfl,SqL.of q8,Zk g9,_,rfl,_,rfl,_,rfl,b,B,_,_,rfl,rfl,SqL.of d4,Zk g5,cb,b9,_,u.getD kk (0,1),gb L.length+gb L.length,rfl,c7,h5,c8,d8.mono J0,J0,λh7 i3 i1 c1 h2=>?_⟩;have g7:=U7 c8 d8;refine⟨b8,h7,v.getD kk (0,1),_,gb L.length+gb L.length+gb L.length,rfl,Zx c1 g1,SqT.of h2,e7.mono J0,g7,J0,λb4 d2 i4 h6 f5=>?_⟩;have O:=c1.trans h6;have a9:=O _ _ q8;refine⟨_,rfl,_,rfl,c',t,_,kk,rfl,rfl,a9,?_,?_⟩
      ·unfold ixN;rw[YH J0,YH J0];simp
      have d0:Ext d2 (upd d2 c' (.lst (t.set kk (V.ref b4)))):=Ext.upd a9;refine⟨λa o e na=>?_,⟨_,rfl⟩,ws.set kk (subR (v.getD kk (0,1)) (mulR' (parR (v.getD g (0,1)) (u.getD g (0,1))) (u.getD kk (0,1)))),t.set kk (V.ref b4),Zc,Sw (R8.ext ((Ext.same O).trans d0)) ⟨b4,rfl,d0.sq (SqT.of f5)⟩,by rw[qU];exact d6,λj=>?_⟩
      ·rw[Ze na];exact O _ _ (X8 _ _ e na)
      rw[List.getElem?_set];by_cases C:kk=j
      ·subst C;rw[YH rfl,YH J0,YH J0];unfold clrR;rw[YF z3,YI,qq hk];rfl
      rw[YF C,a8 j];by_cases e6:j<kk
      ·rw[YH e6,YH J0]
      rw[YF e6,YF J0]
     rintro σ H8 ⟨X8,⟨b7,rfl⟩,ws,t,q8,R8,d6,a8⟩;have U:=Pi c0 X8;have ew:ws=clrR n u v g:=jb λj=>by
      rw[a8 j];by_cases C:j<n
      ·rw[YH C]
      rw[YF C,GJ J0,GJ (by rw[(a5 v mv).1];omega)]
     subst ew;have h3:Same H H8:=λa o e=>X8 _ _ (S7 _ _ (S6 _ _ e)) (Zd e fc);refine⟨h3,⟨_,_,_,rfl⟩,X8 _ _ (S7 _ _ q6) (λz=>d9 z.symm),⟨B,X8 _ _ (S7 _ _ Z) (λz=>c5 z.symm),W.ext ((Ext.same S7).trans U)⟩,A.set i (clrR n u v g),Gx U X8 ⟨t,q8,R8⟩ (Qs P6 S7) b3 ea,by rw[qU];exact b6,λj=>?_⟩;rw[List.getElem?_set];by_cases C:i=j
     ·subst C;rw[YH rfl,YH J0,YH J0,ez];rfl
     rw[YF C,a3 j];by_cases e6:j<i
     ·rw[YH e6,YH J0]
     rw[YF e6,YF J0]
    rintro σ H6 ⟨S6,⟨x6,x7,x8,rfl⟩,q6,i6,A,P6,b6,a3⟩;have ev:A=s.map λv=>clrR n u v g:=jb λj=>by
     rw[a3 j,YI,YB,c6];by_cases C:j<s.length
     ·rw[YH C]
     rw[YF C,GJ J0];rfl
    subst ev;refine⟨⟨S6,m,_,L++[(qr u,g)],some (.ref b),some (.ref ds),some (.int (g:Int)),x6,x7,x8,?_,q6,P6,b3,λc hc=>R c (XG _ hc),G5,λw hw=>?_⟩,?_⟩
    ·rw[YY];simp
    ·obtain⟨v,I,rfl⟩:=YN.mp hw;obtain⟨a1,a2,_⟩:=a5 v I;rw[YY];exact⟨a1,a2⟩
    show (match H6 d with | some (.lst xs)=>xs.length | _=>0)<(match J d with | some (.lst xs)=>xs.length | _=>0);rw[q6,qd];simp
   rw[XF (show ¬ (0:Int)<(sp.length:Int) by omega)];refine Xc ?_;have e0:sp=[]:=Y1d.mp J0;refine⟨⟨d5,m,s,L,_,_,_,_,_,_,rfl,q5,P5,b3,λc hc=>R c (XG _ hc),G3.skip λk hk=>?_,g0⟩,?_⟩
   ·show qv (u.getD k (0,1))=0;have:(u.getD k (0,1)).1=0:=YE λy=>by
     have:=(mem k).mpr ⟨hk,y⟩;rw[e0] at this
     cases this
    unfold qv;rw[this];grind
   show (match H5 d with | some (.lst xs)=>xs.length | _=>0)<(match J d with | some (.lst xs)=>xs.length | _=>0);rw[q5,qd];simp
  rw[XF (show ¬ (0:Int)<(cs.length:Int) by omega)];refine Xc ?_;have e0:uss=[]:=Y1d.mp J0;subst e0;have:=G3.done xz;refine⟨_,rfl,?_⟩;have e1:L.length=n - 1:=J0
  rw[e1];exact k J S3
 exact λσ H Q Q' f ⟨v,e,p,ys,e1,e2,i,j,e3,e4,k,C,z⟩=>⟨v,e,p,ys,e1,e2,i,j,e3,e4,k,C,f _ _ z⟩
end
open PySem.Spec PyProof.Rows
def Ba (n k:Nat):uP n k=(List.range n).map λj=>((if j=k then 1 else 0,1):Rat):=by
 refine jb λi=>?_;unfold uP papR cutR;rw[jd,jt,YI];by_cases hi:i<n
 ·rw[YH hi,qq hi];show some (if decide (i=k)=true then ((1,1):Rat) else (0,1))=some ((if i=k then 1 else 0,1):Rat);by_cases e:i=k
  ·rw[XA e,YH rfl,YH e]
  rw[XF e,YF YO,YF e]
 rw[YF hi,GJ (by simpa using hi)];rfl
noncomputable def metR (n:Nat)(f:UA)(gs:UB):List (List Rat):=((List.range n).filter λk=>decide ((f.getD k (0,1)).1=0)).map (uP n)++gs.filter λg=>decide ((mn f g).1=0)
theorem Z2j {n:Nat}{f:UA}{gs fss:UB}(C:CorR n (paps n++gs) (bndC n gs) fss)(hf:f∈fss)(a:∀ g∈gs,Lows g/\g.length=n):Gs n (qr f) [] ((metR n f gs).map qr)/\∃ i,i<n/\qr f i≠0:=by
 have V:=C.vx hf;have c:=C.low f hf;have hl:=C.len f hf;have b:(paps n).length=n:=by unfold paps;simp
 have z0:∀ k,k<n->((f.getD k (0,1)).1=0 ↔ qr f k=0):=λk _=>Tq (Td c k);have h:∀ g∈gs,((mn f g).1=0 ↔ dq n (qr f) (qr g)=0):=λg hg=>by
  rw[<-Sz c (a g hg).1 hl (a g hg).2];exact Tq (Xj c (a g hg).1)
 refine⟨⟨trivial,(λr _ q hq=>by cases hq),(λq hq=>by cases hq),λr hr=>?_,λd _ h2=>⟨sQ n d,λk hk=>?_⟩⟩,?_⟩
 ·obtain⟨m,hm,rfl⟩:=YN.mp hr;unfold metR at hm;rcases XN.mp hm with hm | hm
  ·obtain⟨k,hk,rfl⟩:=YN.mp hm;obtain⟨h1,h2⟩:=XE.mp hk;rw[Kg _ (XI.mp h1)];exact (z0 k (XI.mp h1)).mp (XO h2)
  obtain⟨h1,h2⟩:=XE.mp hm;exact (h m h1).mp (XO h2)
 ·have key:=V.st (λk=>d k + -(sQ n d)*qr f k) (by rw[Vg,V.inn.one];grind) (λj hj z=>?_) k hk
  ·grind
  rw[Yy,z];rw[YY,b] at hj;by_cases y:j<n
  ·rw[U3 y] at z ⊢;have e:qr f j=0:=ZQ
   have m:uP n j∈metR n f gs:=XG _ (YN.mpr ⟨j,XE.mpr ⟨XI.mpr y,XA ((z0 j y).mpr e)⟩,rfl⟩);have:=h2 _ (YN.mpr ⟨_,m,rfl⟩);rw[Kg _ y] at this;rw[this];grind
  obtain⟨i,rfl⟩:∃ i,j=n+i:=⟨j - n,J0⟩;have hi:i<gs.length:=J0
  have eb:∀ x:Pt,dq n x (bndC n gs (n+i))=dq n x (qr (gs.getD i [])):=λx=>by
   unfold bndC;rw[YF J0,zQ]
  have mg:=Sf (l:=gs) (d:=[]) hi;rw[eb] at z ⊢;have m:gs.getD i []∈metR n f gs:=YW _ (XE.mpr ⟨mg,XA ((h _ mg).mpr z)⟩);have:=h2 _ (YN.mpr ⟨_,m,rfl⟩);rw[this];grind
 refine YE λno=>?_;have:sQ n (qr f)=0:=Wc λk hk=>YE λy=>no ⟨k,hk,y⟩;have:=V.inn.one;grind
def SeqD (d:Addr)(K:TR)(H:Hp)(v:V)(r:UA):Prop:=∃ b xs,v=.ref b/\((b≠d/\SqL K H b xs) \/ SqT K H b xs)/\Rs K H r xs
theorem SeqD.but {d:Addr}{r:UA}(h:SeqD d K H v r)(e:Ext H H')(S:SameX d H H'):SeqD d K H' v r:=by
 obtain⟨b,xs,rfl,hq,a⟩:=h;refine⟨b,xs,rfl,?_,a.ext e⟩;rcases hq with ⟨ne,hq⟩ | hq
 ·refine .inl ⟨ne,?_⟩;rcases hq with hq | hq
  ·refine .inl ?_;rcases hq with hq | ⟨o,hq⟩
   ·exact .inl (S _ _ hq ne)
   exact .inr ⟨o,S _ _ hq ne⟩
  exact .inr hq
 exact .inr (e.sq hq)
theorem SeqD.seq {d:Addr}{r:UA}(h:SeqD d K H v r):SeqR K H v r:=by
 obtain⟨b,xs,e,hq,a⟩:=h;exact⟨b,xs,e,hq.elim (λz=>.inl z.2) .inr,a⟩
def Uw {d:Addr}(h:Paired (SeqD d K H) ys rss)(e:Ext H H')(S:SameX d H H'):Paired (SeqD d K H') ys rss:=Paired.mapP h λ_ _ q=>q.but e S
section
variable {P:TU}
inductive spAlone (K:TR) (vs:TZ) (H:Hp) (Q:VK) (_z3:XK):Prop
 | mk (a l:Addr) (as:TJ) (f:UA) (gs:UB) (n:Nat) (zz0:vs=[.ref a,.ref l]) (zz1:RowAt K H a f) (zz2:H l=some (.lst (as.map V.ref))) (zz3:Paired (RowAt K H) as gs) (zz4:1<=n/\n<=5) (zz5:RowN 400 n f) (zz6:∀ g∈gs,RowN 91 n g) (zz7:gs.length<=50) (zz8:Gs n (qr f) [] ((metR n f gs).map qr)) (zz9:∃ i,i<n/\qr f i≠0) (zz10:∀ H',Same H H'->Q (.bl true) H')
theorem Z4a (D:Def K mg "_law_alone" j8 VQ)(T:Blt mg)(eK:Z5 P w K mg base)(gJ:Has P w K mg base 4 "_law_rank" ["_law_rows"] (spRank K)):Has P w K mg base 5 "_law_alone" VQ (spAlone K):=by
 refine D.h9 (N:=["_law_corner","_law_rows","_law_met","_law_k","_law_row_here"]) fsc λH Q hr h nd=>?_;obtain⟨a,l,as,f,gs,n,rfl,ha,hl,hp,⟨n1,n5⟩,hf,hg,a4,G,xz,k⟩:=h;have a0:(["_law_j","_law_k"]:List Str).Nodup:=ZZ
 refine⟨_,(Z9 (Zj (i:=2) nd rfl (Or.inl rfl) (Xe Z8))
  (Z9 (Yw XS rfl (Yf rfl T.range (Z0 (Zt Zq rfl T.len GL (Z0 (pv 0) Z8)) Z8)) (Zi (i:=3) nd rfl (Or.inr rfl))
   (Zb (Y9 (Zo Xp (Zg Yq (Zg X9 (pv 0) (pv 3)) Za) Za (Zp _))
    (Zb (Yz (W6 XJ JA JB Ys (pv 2) (Z0 (Yd (ox:=none) (N:=["_law_j","_law_k"]) (k:=1) (fv:=[3]) rfl (Yf rfl T.range (Z0 (Zt Zq rfl T.len GL (Z0 (pv 0) Z8)) Z8))
  (λ_ _ _ _ _=>Zi (i:=0) a0 rfl xj) (λ_ _ _ _ _=>Y8) (λ_ _ _ _ _=>(Yx (Z0 (Y7 Ni rfl T.int zY (Z0 (Yu Xp (pv 0) (pv 1) (Zp _)) Z8)) (Z0 Za Z8)))) Zv) Z8))))
    Zw)))
  (Z9 (Yw XS rfl (Yn (pv 1)) (Zi (i:=4) nd rfl xj)
   (Zb (Y9 (Zo Xp (Zg Yq (Zf eK hr (Z0 (pv 0) (Z0 (pv 4) Z8))) Za) Za (Zp _))
    (Zb (Yz (W6 XJ JA JB Ys (pv 2) (Z0 (pv 4) Z8))))
    Zw)))
  (Zb (Zh (Yu Xp (Zf gJ hr (Z0 (pv 2) Z8)) (Zl Wz (Zt Zq rfl T.len GL (Z0 (pv 0) Z8)) Za) (Zp _))))))),?_⟩
 obtain⟨xs,qa,X⟩:=ha;obtain⟨lf,Df,Wf,Rf⟩:=hf;have lx:=X.len;have lp:=XB hp;refine Ya (Yr (Z5m ?_));refine⟨sz0,λc x=>?_⟩;have N1:=Same.new (o:=.lst []) x;have q1:(upd H c (.lst [])) c=some (.lst []):=Zc;generalize upd H c (.lst [])=H1 at *
 refine Y2 ?_;dsimp only;refine Ya ?_;refine⟨_,rfl,a,xs,rfl,.inr (Zx N1 qa),(xs.length:Int),rfl,J0,J0,?_⟩;have et:(xs.length:Int).toNat=n:=J0
 rw[et];refine Xq (lo:=0) (n:=n) (λi σ H'=>Same H H'/\(∃ U,σ=[some (.ref a),some (.ref l),some (.ref c),U,none])/\∃ ys,H' c=some (.lst ys)/\ys.length<=i/\Paired (SeqD c K H') ys (((List.range i).filter λk=>decide ((f.getD k (0,1)).1=0)).map (uP n))) ⟨N1,⟨_,rfl⟩,[],q1,YJ _,by simpa using Paired.nil⟩ ?_ ?_
 ·rintro i σ H2 hi ⟨S2,⟨U,rfl⟩,ys,I,O,P2⟩;have e0:(0+(i:Int))=((i:Nat):Int):=J0
  rw[e0];have ef:f[i]?=some (f.getD i (0,1)):=by rw[XL (show i<f.length by omega)];simp[List.getD,show i<f.length by omega]
  obtain⟨v1,a3,b1,rfl,a1⟩:=(X.ext (Ext.same S2)).at ef;have ru:(List.range (i+1)).filter (λk=>decide ((f.getD k (0,1)).1=0))=(List.range i).filter (λk=>decide ((f.getD k (0,1)).1=0))++(if decide ((f.getD i (0,1)).1=0)=true then [i] else []):=by
   rw[GG,JV,JL,zm]
  refine Y2 ?_;dsimp only;refine⟨_,rfl,_,rfl,a,xs,_,_,rfl,rfl,Zx S2 qa,Zk a3,b1,_,_,rfl,rfl,a1,rfl,_,rfl,?_⟩;by_cases z:(f.getD i (0,1)).1=0
  ·have A:decide (V.int (f.getD i (0,1)).1=V.int 0)=true:=by rw[z];simp
   rw[A];refine V0 ?_;refine⟨_,rfl,.inl ⟨rfl,_,SqL.of I⟩,?_⟩;refine⟨_,rfl,a,xs,rfl,.inr (Zx S2 qa),(xs.length:Int),rfl,J0,J0,λL t=>?_⟩;rw[et];refine⟨n,λj zs H'=>Same H2 H'/\Rs K H' ((List.range j).map λj=>((if j=i then 1 else 0,1):Rat)) zs,Zz J0,⟨Same.new t,.nil⟩,?_,?_⟩
   ·rintro j zs s hj ⟨d,S⟩ B;refine⟨hj,?_⟩;rintro x' H5 ⟨rfl,rfl⟩;refine Yh ?_;refine⟨_,rfl,_,rfl,rfl,.inr ⟨_,rfl,sz2,λp a2=>?_⟩⟩;have e1:(if decide (V.int (0+(j:Int))=V.int (i:Int))=true then (1:Int) else 0)=if j=i then 1 else 0:=by
     by_cases e:j=i
     ·subst e;rw[XA (by rw[Y1i]),YH rfl,YH rfl]
     rw[XF (λz=>e (by injection z with z;omega)),YF YO,YF e]
    have S6:=Same.new (o:=.tup [V.int (if decide (V.int (0+(j:Int))=V.int (i:Int))=true then 1 else 0),V.int 1]) a2;have t6:SqT K (upd H5 p (.tup [V.int (if decide (V.int (0+(j:Int))=V.int (i:Int))=true then 1 else 0),V.int 1])) p [V.int (if j=i then 1 else 0),V.int 1]:=by
     rw[<-e1];exact SqT.of Zc
    have C:=S6 _ _ B;refine⟨C,Yj (d.trans S6) t,?_⟩;rw[GG,XH];exact (S.ext ((Ext.same S6).trans (Ext.upd C))).snoc ⟨p,rfl,(Ext.upd C).sq t6⟩
   rintro zs s ⟨d,S⟩ B;refine⟨YJ _,?_⟩;rw[<-Ba] at S;have W:=d _ _ I;have J:L≠c:=λz=>by rw[z,I] at t;cases t
   have F:Ext s (upd s c (.lst (ys++[V.ref L]))):=Ext.upd W;have E:SameX c s (upd s c (.lst (ys++[V.ref L]))):=SameX.upd _ _ _;refine⟨c,ys,_,rfl,rfl,W,JD (show ys.length<=1000 by omega) J1,?_⟩;refine⟨λa' o e=>?_,⟨_,rfl⟩,ys++[V.ref L],Zc,by rw[YY];simp;omega,?_⟩
   ·exact E _ _ (d _ _ (S2 _ _ e)) (Zd e x)
   rw[ru,XA z,YH rfl,XH];exact Paired.appP (Uw (Uw P2 (Ext.same d) (SameX.of d)) F E) (.cons ⟨L,zs,rfl,.inl ⟨J,SqL.of (E _ _ B J)⟩,S.ext F⟩ .nil)
  have A:decide (V.int (f.getD i (0,1)).1=V.int 0)=false:=XF λy=>z (by injection y);rw[A];refine Xc ⟨S2,⟨_,rfl⟩,ys,I,J0,?_⟩;rw[ru,XF z]
  simpa using P2
 rintro σ H2 ⟨S2,⟨U,rfl⟩,ys,I,O,P2⟩;dsimp only;refine Ya ?_;refine⟨_,rfl,l,rfl,⟨_,SqL.of (S2 _ _ hl)⟩,?_⟩;refine Wp (K:=K) (xs:=as.map V.ref) (λi σ H'=>Same H H'/\(∃ x4,σ=[some (.ref a),some (.ref l),some (.ref c),U,x4])/\∃ ys,H' c=some (.lst ys)/\ys.length<=n+i/\Paired (SeqD c K H') ys (((List.range n).filter λk=>decide ((f.getD k (0,1)).1=0)).map (uP n)++(gs.take i).filter λg=>decide ((mn f g).1=0)))
  ⟨S2,⟨_,rfl⟩,ys,I,J0,by simpa using P2⟩ (λi σ H' _ h=>SqL.of (h.1 _ _ hl)) ?_ ?_
 ·rintro i y σ H3 hy ⟨v,⟨x4,rfl⟩,ys,Z,O,M⟩;have hi:i<as.length:=by have:=(YG.mp hy).1;simpa using this
  have ea:as[i]?=some as[i]:=by simp[hi]
  have R:gs[i]?=some (gs[i]'J0):=ZJ
  generalize as[i]=b at ea;generalize (gs[i]'J0)=g at R;rw[YI,ea] at hy
  cases hy;obtain⟨lg,Dg,Wg,Rg⟩:=hg g (YD R);obtain⟨us,qu,Ru⟩:=(Paired.getB hp ea R).ext (Ext.same v);refine Y2 ?_;dsimp only;refine⟨_,rfl,_,rfl,a,b,xs,us,f,g,400,91,Df,Dg,Wf,Wg,rfl,.inr (Zx v qa),X.ext (Ext.same v),.inr qu,Ru,J0,J0,Rf,Rg,J0,λc4 s d W=>?_⟩;refine⟨c4,_,_,rfl,rfl,W,rfl,_,rfl,?_⟩;have fs:(gs.take (i+1)).filter (λg=>decide ((mn f g).1=0))=(gs.take i).filter (λg=>decide ((mn f g).1=0))++(if decide ((mn f g).1=0)=true then [g] else []):=by
   rw[Yo R,JV,JL,zm]
  have u:=d _ _ Z;have P4:=Uw M (Ext.same d) (SameX.of d);by_cases z:(mn f g).1=0
  ·have A:decide (V.int (sumR (List.zipWith mulR' f g)).1=V.int 0)=true:=by
    have:(sumR (List.zipWith mulR' f g)).1=0:=z;rw[this];simp
   rw[A];refine V0 ?_;have F:Ext s (upd s c (.lst (ys++[V.ref b]))):=Ext.upd u;have E:SameX c s (upd s c (.lst (ys++[V.ref b]))):=SameX.upd _ _ _;refine⟨_,rfl,.inl ⟨rfl,_,SqL.of u⟩,_,rfl,c,ys,_,rfl,rfl,u,JD (show ys.length<=1000 by omega) J1,?_⟩;refine⟨λa' o e=>E _ _ (d _ _ (v _ _ e)) (Zd e x),⟨_,rfl⟩,ys++[V.ref b],Zc,by rw[YY];simp;omega,?_⟩;rw[fs,XA z,YH rfl,<-zZ];exact Paired.appP (Uw P4 F E) (.cons ⟨b,us,rfl,.inr ((Ext.same d).trans F |>.sq qu),Ru.ext ((Ext.same d).trans F)⟩ .nil)
  have A:decide (V.int (sumR (List.zipWith mulR' f g)).1=V.int 0)=false:=XF λy=>z (by injection y);rw[A];refine Xc ⟨v.trans d,⟨_,rfl⟩,ys,u,J0,?_⟩;rw[fs,XF z]
  simpa using P4
 rintro σ H3 ⟨v,⟨x4,rfl⟩,ys,Z,O,M⟩;rw[YB,lp,JQ] at M;have lm:=XB M;rw[YB] at O;dsimp only;refine Z0c ?_;refine⟨_,rfl,c,ys,metR n f gs,n,qr f,rfl,Z,Paired.mapP M λ_ _ q=>q.seq,?_,⟨n1,n5⟩,λm hm=>?_,G,xz,λs d=>?_⟩
 ·unfold metR;omega
 ·unfold metR at hm;rcases XN.mp hm with hm | hm
  ·obtain⟨kk,_,rfl⟩:=YN.mp hm;obtain⟨l1,D1,W1,Y⟩:=uP_row (n:=n) (w:=kk);exact⟨l1,λr hr=>(Y.good r hr).mono J0⟩
  obtain⟨l1,D1,W1,Y⟩:=hg m (XE.mp hm).1;exact⟨l1,λr hr=>(Y.good r hr).mono J0⟩
 refine⟨_,rfl,a,xs,rfl,.inr (Zx (v.trans d) qa),_,_,rfl,rfl,?_⟩;refine⟨rfl,?_⟩;rw[show ((n - 1:Nat):Int)=(xs.length:Int) - 1 by omega,XA rfl];exact k s (v.trans d)
end
end _b
namespace _b
open PySem _L
def Rr {b:Addr}(S:Same H H1)(a:H b=none)(X:SameX b H1 H2):Same H H2:=λc o e=>X c o (S c o e) (Zd e a)
section
variable {P:TU}
inductive spCBook (K:TR) (vs:TZ) (H:Hp) (Q:VK) (_z3:XK):Prop
 | mk (a:Addr) (n:Nat) (ns:TV) (zz0:vs=[.ref a,.int (n:Int)]) (zz1:SqL K H a (ns.map V.int)) (zz2:1<=n) (zz3:n<=100) (zz4:∀ (p x l:Addr) (os:UD) (Ws:TV) (ws:UA) (H':Hp),Same H H'->SqT K H' p [.ref x,.ref l]->OffsAt K H' l n os->os.length<=3->(∀ o∈os,OffRep n o)->RowAt K H' x ws->WtsR n Ws ws->Q (.ref p) H')
def Gf:FnScope ["_law_script","_law_count","_law_weights_here","_law_head","_law_many","_law_loose","_law_offers","_law_k"] VR (defScope iR):=fsc
theorem Z49 (D:Def K mg "_law_corner_book" iR VR)(T:Blt mg)(W:Has P w K mg base 2 "_law_bag" UF (spBagA K))(eC:Z2 P w K mg base)(fJ:Has P w K mg base 3 "_law_weights" UN (spWeightsR K))(fX:Has P w K mg base 6 "_law_offer" VF (spOfferL K)):Has P w K mg base 7 "_law_corner_book" VR (spCBook K):=by
 refine D.has λf fd F=>F.ok Gf (λvs H Q E h=>?_) (λcdv A outer s H vs Q E hr h=>?_)
 ·obtain⟨a,n,ns,rfl,_⟩:=h;rfl
 obtain⟨a,n,ns,rfl,hS,M,hn,k⟩:=h;have sc:=Gf;refine⟨_,(Z9 (Zj (i:=2) sc.nd rfl (Or.inl rfl) (Zf fJ hr (Z0 (Zf W hr (Z0 (pv 0) (Z0 Za Z8))) (Z0 (pv 1) Z8))))
  (Z9 (Zj (i:=3) sc.nd rfl (Or.inl rfl) (Zf W hr (Z0 (pv 0) (Z0 Za Z8))))
  (Z9 (Zj (i:=4) sc.nd rfl (Or.inl rfl) (Zg Zy (Xe (Z0 Za (Z0 Za (Z0 Za (Z0 Za (Z0 Za (Z0 Za (Z0 Za (Z0 Za Z8))))))))) (Zf eC hr (Z0 (pv 3) (Z0 Za Z8)))))
  (Z9 (Zj (i:=5) sc.nd rfl (Or.inl rfl) (Zg Zy (Xe (Z0 Za (Z0 Za (Z0 Za Z8)))) (Zf eC hr (Z0 (pv 3) (Z0 Za Z8)))))
  (Z9 (Zj (i:=6) sc.nd rfl (Or.inl rfl) (Xe Z8))
  (Z9 (Yw XS rfl (Yf rfl T.range (Z0 (pv 4) Z8)) (Zi (i:=7) sc.nd rfl xj)
   (Zb (Yz (W6 XJ JA JB Ys (pv 6) (Z0 (Zf fX hr (Z0 (Zf W hr (Z0 (pv 0) (Z0 (Zl X6 Za (pv 7)) Z8))) (Z0 (pv 2) (Z0 (pv 5) Z8)))) Z8)))))
  (Zb (Zh (Yx (Z0 (pv 2) (Z0 (pv 6) Z8))))))))))),?_⟩
 refine Ya (Yr ?_);refine⟨_,rfl,a,2,ns,rfl,hS,J0,λb1 H1 f1 S1 B1=>?_⟩;refine⟨_,rfl,b1,n,101,rfl,B1,J0,M,hn,λO H2 Ws ws B2 X2 R2 W2=>?_⟩;have S2:=Rr S1 f1 X2;refine Y2 ?_;dsimp only;refine Ya (Yr ?_);refine⟨_,rfl,a,3,ns,rfl,Xr S2 hS,J0,λq H3 f3 S3 B3=>?_⟩;refine Y2 ?_;dsimp only;refine Ya (Yr ?_);refine⟨sz8,λL l=>?_⟩;have N4:=Same.new (o:=.lst [V.int 0,V.int 1,V.int 2,V.int 3,V.int 1,V.int 2,V.int 3,V.int 2]) l;have a7:(upd H3 L (.lst [V.int 0,V.int 1,V.int 2,V.int 3,V.int 1,V.int 2,V.int 3,V.int 2])) L=some (.lst [V.int 0,V.int 1,V.int 2,V.int 3,V.int 1,V.int 2,V.int 3,V.int 2]):=Zc;have B4:=B3.same N4;have a6:L≠q:=λz=>by obtain⟨u,v,e,_⟩:=B3;rw[z,e] at l;cases l
 generalize upd H3 L (.lst [V.int 0,V.int 1,V.int 2,V.int 3,V.int 1,V.int 2,V.int 3,V.int 2])=H4 at *
 have S4:=S2.trans (S3.trans N4);have C:H q=none:=S2.free f3;refine⟨_,rfl,q,8,101,rfl,B4,J0,J0,J1,λr H5 r0 r8 B5 X=>?_⟩;have S5:=Rr S4 C X;have q5:=X _ _ a7 a6;obtain⟨v5,e5,m5⟩:=G6 (xs:=[V.int 0,V.int 1,V.int 2,V.int 3,V.int 1,V.int 2,V.int 3,V.int 2]) (k:=r) r0 (by show r<8;omega);obtain⟨z5,rfl,b0,b4⟩:∃ z:Int,v5=.int z/\0<=z/\z<=3:=by
  simp only [YT,JP,jc] at m5;rcases m5 with h | h | h | h | h | h | h | h <;> exact⟨_,h,J1,J1⟩
 refine⟨L,_,r,_,rfl,rfl,SqL.of q5,e5,?_⟩;refine Y2 ?_;dsimp only;refine Ya (Yr ?_);refine⟨sz3,λN c=>?_⟩;have N6:=Same.new (o:=.lst [V.int 0,V.int 0,V.int 2]) c;have a5:(upd H5 N (.lst [V.int 0,V.int 0,V.int 2])) N=some (.lst [V.int 0,V.int 0,V.int 2]):=Zc;have B6:=B5.same N6;have Y:N≠q:=λz=>by obtain⟨u,v,e,_⟩:=B5;rw[z,e] at c;cases c
 generalize upd H5 N (.lst [V.int 0,V.int 0,V.int 2])=H6 at *
 have S6:=S5.trans N6;refine⟨_,rfl,q,3,102,rfl,B6,J0,J0,J1,λr7 H7 a8 b2 B7 X7=>?_⟩;have S7:=Rr S6 C X7;have q7:=X7 _ _ a5 Y;obtain⟨v7,e7,m7⟩:=G6 (xs:=[V.int 0,V.int 0,V.int 2]) (k:=r7) a8 (by show r7<3;omega);obtain⟨z7,rfl,U,a4⟩:∃ z:Int,v7=.int z/\0<=z/\z<=2:=by
  simp only [YT,JP,jc] at m7;rcases m7 with h | h | h <;> exact⟨_,h,J1,J1⟩
 refine⟨N,_,r7,_,rfl,rfl,SqL.of q7,e7,?_⟩;refine Y2 ?_;dsimp only;refine Ya (Yr ?_);refine⟨sz0,λd hd=>?_⟩;have N8:=Same.new (o:=.lst []) hd;have d8:(upd H7 d (.lst [])) d=some (.lst []):=Zc;have a2:H d=none:=S7.free hd;have Z:RowAt K (upd H7 d (.lst [])) O ws:=R2.ext (((Ext.same (S3.trans N4)).trans (Ext.bag X B4)).trans (((Ext.same N6).trans (Ext.bag X7 B6)).trans (Ext.new hd)));generalize upd H7 d (.lst [])=H8 at *
 refine Y2 ?_;dsimp only;have S8:=S7.trans N8;refine Ya ⟨_,rfl,z5,rfl,J0,J0,?_⟩;refine Xq (lo:=0) (n:=z5.toNat) (λi σ H'=>Same H H'/\RowAt K H' O ws/\(∃ (vs:TZ) (os:UD),H' d=some (.lst vs)/\Paired (λv o=>OffAt K H' n o v) vs os/\os.length=i/\∀ o∈os,OffRep n o)/\∃ x,σ=[some (.ref a),some (.int (n:Int)),some (.ref O),some (.ref q),some (.int z5),some (.int z7),some (.ref d),x]) ⟨S8,Z,⟨[],[],d8,.nil,rfl,λo ho=>by cases ho⟩,none,rfl⟩ ?_ ?_
 ·rintro i σ H9 hi ⟨J,S,⟨vs,os,y,R,l9,O9⟩,x9,rfl⟩;have e0:(0+(i:Int))=((i:Nat):Int):=J0
  rw[e0];have lv:=XB R;refine Y2 ?_;refine⟨_,rfl,.inl ⟨rfl,_,SqL.of y⟩,?_⟩;refine⟨_,rfl,_,rfl,_,_,rfl,rfl,a,4+i,ns,by show [V.ref a,V.int (4+(i:Int))]=_;rw[show (4+(i:Int))=((4+i:Nat):Int) by omega],Xr J hS,J0,λbi a9 t b B=>?_⟩;refine⟨_,rfl,_,rfl,bi,O,n,101,z7,Ws,ws,rfl,U,a4,B,J0,S.ext (Ext.same b),W2,M,hn,λv m o g a0 a3=>?_⟩;have a1:H bi=none:=J.free t;have nd:d≠bi:=Zd y t;have G:=g _ _ (b _ _ y) nd;have I:Ext H9 m:=(Ext.same b).trans (Ext.bag g B);have j:Ext m (upd m d (.lst (vs++[v]))):=Ext.upd G;refine⟨d,vs,v,rfl,rfl,G,JD (show vs.length<=1000 by omega) J1,Yj (Rr (J.trans b) a1 g) a2,S.ext (I.trans j),⟨vs++[v],os++[o],Zc,Paired.appP (Wk R (I.trans j)) (.cons (a0.ext j) .nil),by rw[YY,l9];rfl,λo' ho=>?_⟩,_,rfl⟩;rcases XN.mp ho with ho | ho
  ·exact O9 o' ho
  rw[XD.mp ho];exact a3
 rintro σ H9 ⟨J,S,⟨vs,os,y,R,l9,O9⟩,x9,rfl⟩;refine⟨_,rfl,_,rfl,sz2,λp hp=>?_⟩;exact k p O d os Ws ws _ (J.trans (Same.new hp)) (SqT.of Zc) ⟨vs,(Same.new hp) _ _ y,Wk R (Ext.new hp)⟩ J0 O9 (S.ext (Ext.new hp)) W2
end
open PySem.Spec PyProof.Rows
section
variable {X:Cx}
inductive rInsert0 (x:V) (vs:TZ) (H:Hp) (Q:VK):Prop
 | mk (l:Addr) (xs:TZ) (y:V) (zz0:x=.ref l) (zz1:vs=[.int 0,y]) (zz2:H l=some (.lst xs)) (zz3:xs.length<sizeLine) (zz4:Q .non (upd H l (.lst (y::xs))))
theorem C5:MtM X "list.insert" rInsert0:=by
 intro pins s σ H x vs v us Q I c rv h;obtain⟨l,xs,y,rfl,rfl,b,hz,q⟩:=h
 cases c;rcases rv with _ | ⟨ru,rv⟩
 obtain⟨u',rfl,a⟩:=Vals.one rv;obtain⟨t,rfl⟩:=ru;obtain⟨z,its,n,r,hl,e⟩:=I.lstM b;refine zH F.slot_list_insert ⟨_,e,rfl⟩ F.entry_list_insert (F.args_list_insert_3 _ _ _) (AutoSeq1.list_insert_list_int_val_1 l its.toArray n 0 t u' ZZ (by rw[YM];omega)) ⟨e,?_⟩;refine⟨.non,_,I.lset (its':=u'::its) b e ZJ (.cons a r) ?_,rfl,q⟩;rw[XT];omega
inductive rEqL0 (K:TR) (x:V) (y:V) (H:Hp) (Q:VK):Prop
 | mk (a b:Addr) (xs:TZ) (zz0:x=.ref a) (zz1:y=.ref b) (zz2:SqL K H a xs) (zz3:SqL K H b []) (zz4:Q (.bl xs.isEmpty) H)
theorem Z3l (hu:X.A.units+64<cLine)(hK:X.K=K:=by rfl):OpR X (compareOp .Eq) (rEqL0 K):=by
 subst hK;intro pins s σ H x y v u Q I i k h;obtain⟨a,b,xs,rfl,rfl,h1,h2,q⟩:=h
 cases i
 cases k;obtain⟨i1,r1,d,_⟩:=I.list h1;obtain⟨i2,r2,c,_⟩:=I.list h2;have f:=r1.length;have g:=r2.length
 cases xs with
 | nil =>
  refine Y19 (A:=X.A) (e:=λ_=>true) d.isList c.isList (by simp;omega) J0 (λj h1 _=>absurd h1 (by simp at f h1;omega)) _ _ _ _ ?_;rw[U4];exact⟨.bl true,H,I,rfl,q⟩
 | cons z xs =>
  refine SeqAt.RcAt.lists_lengths (A:=X.A) d.isList c.isList (by simp at f g ⊢;omega) J0 _ _ _ _ ?_;exact⟨.bl false,H,I,rfl,q⟩
end
def Z0s {n:Nat}(h2:2<=n)(a:n<=5):Srt (paps n).reverse:=by
 have:n=2 \/ n=3 \/ n=4 \/ n=5:=J0
 rcases this with rfl | rfl | rfl | rfl <;> (unfold Srt;decide +kernel)
def Z54 {n:Nat}(h2:2<=n)(a:n<=5)(C:CorR n (paps n++[]) (bndC n []) rss)(s:Srt rss):rss=(paps n).reverse:=by
 have D:CorR n (paps n++[]) (bndC n []) (paps n):=by
  rw[GN];exact Lv (c:=bndC n []) λk hk x=>U3 hk x
 exact C.unique (D.perm (List.reverse_perm _)) s (Z0s h2 a)
def CorR.next {n:Nat}{ess:UB}{c:Nat->Pt}(C:CorR n ess c rss)(s:Srt rss){k:Nat}{a b:UA}(ha:rss[k]?=some a)(d:rss[k+1]?=some b):aheadR a b=true:=by
 have e:=YD ha;have mb:=YD d;have ne:a≠b:=λz=>by
  obtain⟨h1,e1⟩:=YG.mp ha;obtain⟨h2,e2⟩:=YG.mp d;exact Y0O.mp C.nd k (k+1) h1 h2 J0 (by rw[e1,e2,z])
 rcases U5 (C.low a e) (C.low b mb) (by rw[C.len a e,C.len b mb]) ne with h | h
 ·exact h
 have f:=C.cnt mb e h;obtain⟨h1,e1⟩:=YG.mp ha;obtain⟨h2,e2⟩:=YG.mp d;have:=Y0O.mp s k (k+1) h1 h2 J0;rw[e1,e2] at this;omega
end _b
namespace _b
open PySem _L
theorem Bg:∀ (Ws:TV),sQ Ws.length (λk=>((Ws.getD k 0:Int):QQ))=((Ws.sum:Int):QQ)
 | []=>rfl
 | W::Ws=>by
  rw[XT,Qa,ji,_root_.Rat.intCast_add,<-Bg Ws];rfl
theorem WtsR.q {c:Nat}{ws:UA}(a:WtsR c Ws ws):Lows ws/\(∀ k,k<c->0<=qr ws k)/\sQ c (qr ws)=1:=by
 have g:Ws.length=c:=by rw[a.rep.len];exact a.len
 have wp:=a.pos;have q0:=Wy wp;have at_:∀ k,k<c->qr ws k*((Ws.sum:Int):QQ)=((Ws.getD k 0:Int):QQ):=λk hk=>by
  have f:k<ws.length:=by rw[a.len];exact hk
  have d:k<Ws.length:=J0
  obtain⟨e1,b,l⟩:=a.rep.at_ k Ws[k] ws[k] (by simp[d]) (by simp[f]);have e2:qr ws k=qv ws[k]:=by unfold qr;simp[List.getD,f]
  have i:Ws.getD k 0=Ws[k]:=by simp[List.getD,d]
  rw[e2,i];unfold qv;have b1:=Xv l.pos;have e3:((ws[k].1:Int):QQ)*((Ws.sum:Int):QQ)=((Ws[k]:Int):QQ)*((ws[k].2:Int):QQ):=by rw[<-_root_.Rat.intCast_mul,<-_root_.Rat.intCast_mul,e1]
  grind
 refine⟨λx hx=>(a.rep.good x hx).low,λk hk=>?_,?_⟩
 ·refine Z3d (b:=((Ws.sum:Int):QQ)) ?_ q0;rw[at_ k hk];exact _root_.Rat.intCast_nonneg.mpr (a.nn _ (by rw[show Ws.getD k 0=Ws[k]'J0 by simp[List.getD,show k<Ws.length by omega]];exact XR _))
 have h:((Ws.sum:Int):QQ)*sQ c (qr ws)=((Ws.sum:Int):QQ):=by
  have e:sQ c (λk=>((Ws.sum:Int):QQ)*qr ws k)=sQ c λk=>((Ws.getD k 0:Int):QQ):=Zm λk hk=>by rw[<-at_ k hk];grind
  have s:=Bg Ws;rw[g] at s;rw[<-Ye,e,s]
 have h2:((Ws.sum:Int):QQ)*(sQ c (qr ws) - 1)=0:=ZQ
 rcases _root_.Rat.mul_eq_zero.mp h2 with z | z
 ·exact absurd z ZQ
 grind
def Jw {n:Nat}(O:∀ o∈os,OffRep n o):∀ g∈gainsP os os.length,RowN 91 n g:=by
 rw[Uo];intro g hg;obtain⟨o,ho,hg⟩:=jg.mp hg;unfold gainsO at hg;obtain⟨b,a,rfl⟩:=YN.mp hg;have hp:∃ r,priceO o b=some r:=by
  unfold wordsO at a;rcases XN.mp a with a | a
  ·by_cases z:o.ask.isSome=true
   ·rw[YH z] at a;rw[XD.mp a];exact ze.mp z
   rw[YF z] at a;cases a
  by_cases z:o.bid.isSome=true
  ·rw[YH z] at a;rw[XD.mp a];exact ze.mp z
  rw[YF z] at a;cases a
 obtain⟨r,hr⟩:=hp;exact (O o ho).gain hr
def Cl {os:UD}:(gainsP os os.length).length<=2*os.length:=by
 rw[Uo]
 induction os with
 | nil=>simp
 | cons o os c =>
  rw[List.flatMap_cons,YY,XT];have:(gainsO o).length<=2:=by
   unfold gainsO wordsO;rw[YB,YY];have a:((if o.ask.isSome=true then [true] else []):List Bool).length<=1:=by split <;> simp
   have b:((if o.bid.isSome=true then [false] else []):List Bool).length<=1:=by split <;> simp
   omega
  omega
open PySem.Spec PyProof.Rows
theorem Mx {T:Addr}(a:∃ ps,H T=some (.tbl ps))(S:SameX T H H'):Ext H H':=by
 obtain⟨ps,h⟩:=a;exact⟨λb xs e=>S b _ e (by rintro rfl;rw[h] at e;cases e),λb o u e=>S b _ e (by rintro rfl;rw[h] at e;cases e)⟩
theorem LamAt.lst {H H':Hp}{P d:Addr}{lp:Pos}{q:Str}{ys:TZ}(t:LamAt H P lp q)(h:H d=some (.lst ys))(S:SameX d H H'):LamAt H' P lp q:=by
 cases t with
 | fresh e=>exact .fresh (S _ _ e (by rintro rfl;rw[h] at e;cases e))
 | made c e hc=>exact .made c (S _ _ e (by rintro rfl;rw[h] at e;cases e)) (S _ _ hc (by rintro rfl;rw[h] at hc;cases hc))
theorem Ll {K:TR}{H:Hp}:∀ {rs:UA} {xs ys:TZ},Rs K H rs xs->Rs K H rs ys->Paired (EqU K H 1) xs ys
 | _,_,_,.nil,.nil=>.nil
 | _,_,_,.cons ⟨a,ea,qa⟩ r,.cons ⟨b,eb,qb⟩ t=>.cons (.inr ⟨a,b,_,_,ea,eb,.inr ⟨qa,qb⟩,.cons ⟨rfl,rfl⟩ (.cons ⟨rfl,rfl⟩ .nil)⟩) (Ll r t)
theorem Uh {K:TR}{H:Hp}:∀ {rss:UB} {as bs:TJ},Paired (RowAt K H) as rss->Paired (RowAt K H) bs rss->Paired (EqU K H 2) (as.map V.ref) (bs.map V.ref)
 | _,_,_,.nil,.nil=>.nil
 | _,_,_,.cons ⟨xs,q,R⟩ r,.cons ⟨ys,q',R'⟩ t=>.cons (.inr ⟨_,_,xs,ys,rfl,rfl,.inr ⟨q,q'⟩,Ll R R'⟩) (Uh r t)
section
variable {n:Nat}{gs rss:UB}
def Vu {n:Nat}:(paps n).length=n:=by unfold paps;simp
theorem CorR.wts (C:CorR n (paps n++gs) (bndC n gs) rss):(∃ W,WtsQ n gs W) ↔ rss≠[]:=by
 have b:Bnds n (paps n++gs).length (bndC n gs):=La (by rw[YY,Vu];omega);have eb:∀ (x:Pt) i,dq n x (bndC n gs (n+i))=dq n x (qr (gs.getD i [])):=λx i=>by
  unfold bndC;rw[YF J0,zQ]
 constructor
 ·rintro ⟨W,a⟩ z;have I:InP n (paps n++gs).length (bndC n gs) (qr W):=⟨λk hk=>by
   by_cases y:k<n
   ·rw[U3 y];have:=a.nn k y;grind
   obtain⟨i,rfl⟩:∃ i,k=n+i:=⟨k - n,J0⟩;rw[eb];rw[YY,Vu] at hk;exact a.fit _ (Sf J0),a.lie⟩
  obtain⟨v,V,_⟩:=I.corner b (λ_=>0);obtain⟨u,hu,_⟩:=C.cors.all v V;rw[z] at hu
  cases hu
 intro ne;obtain⟨f,hf⟩:=List.exists_mem_of_ne_nil _ ne;have V:=(C.vx hf).inn;refine⟨f,C.len f hf,C.low f hf,λk hk=>?_,λg hg=>?_,V.one⟩
 ·have:=V.le k (by rw[YY,Vu];omega);rw[U3 hk] at this;grind
 obtain⟨i,hi,e⟩:=Y1C hg;have:=V.le (n+i) (by rw[YY,Vu];omega);rw[eb,show gs.getD i []=g by simp[List.getD,hi,e]] at this;exact this
theorem CorR.over (C:CorR n (paps n++gs) (bndC n gs) rss){ws:UA}(I:InP n (n+gs.length) (bndC n gs) (qr ws)){k:Nat}(hk:k<n):∃ f∈rss,qr ws k<=qr f k:=by
 have a:(paps n++gs).length=n+gs.length:=by rw[YY,Vu]
 rw[<-a] at I;have b:Bnds n (paps n++gs).length (bndC n gs):=La (by rw[a];omega);obtain⟨v,V,_,le⟩:=I.corner b (qr (uP n k));obtain⟨u,hu,e⟩:=C.cors.all v V;obtain⟨f,hf,rfl⟩:=YN.mp hu;rw[Kg _ hk,Kg _ hk,<-e k hk] at le;exact⟨f,hf,le⟩
end
def judC {vs:TZ}{Q:VK}{E:XK}{l:Addr}{c:Nat}(zz0:vs=[.int (c:Int),.ref l])(zz1:OffsAt K H l c os)(zz2:os.length<=100)(zz3:∀ o∈os,GoodO 90 o)(zz4:∀ rs∈gainsP os os.length,RowN 91 c rs)(zz5:(gainsP os os.length).length<=30)(zz6:1<=c)(zz7:c<=100)
  (key:∀ (t q:Addr) (z:Str) (H':Hp),Same H H'->SqT K H' t [.str z,.ref q]->((z="beaten"/\∀ W,¬ WtsQ c (gainsP os os.length) W) \/ (z="fair"/\∃ W,WtsQ c (gainsP os os.length) W))->Q (.ref t) H'):spJudgedC K vs H Q E :=
 ⟨l,c,os,zz0,zz1,zz2,zz3,zz4,zz5,zz6,zz7,λt q H' S a no=>key t q _ H' S a (.inl ⟨rfl,no⟩),λt q H' S a b=>key t q _ H' S a (.inr ⟨rfl,b⟩)⟩
section
variable {P:TU}
inductive spLaw (K:TR) (Tb:Addr) (vs:TZ) (H:Hp) (Q:VK) (_z3:XK):Prop
 | mk (a:Addr) (ns:TV) (zz0:vs=[.ref a]) (zz1:SqL K H a (ns.map V.int)) (zz2:H Tb=some (.tbl #[])) (zz3:∀ H',Q (.bl true) H')
def Z5c:FnScope ["_law_script","_law_count","_law_weights_here","_law_offers","_law_rows","_law_found","_law_k","_law_kept","_law_units"] ["_law_script"] (defScope kT):=fsc
theorem Z7x {f Tb:Addr}{fd:FuncData}(F:Fun K "law" "law" kT f fd)(T:Blt mg)(fC:Has P w K mg base 1 "_law_cell" UE (spCell K))(fB:Has P w K mg base 7 "_law_corner_book" VR (spCBook K))(fZ:Has P w K mg base 4 "_law_gains" ["_law_offers"] (spGainsP K))(fD:Has P w K mg base 7 "corners" VM (spCorners K Tb) true)(gW:Has P w K mg base 6 "judged" VM (spJudgedC K))(fY:Has P w K mg base 4 "_law_is_row" VN (spIsRow K))(fL:Has P w K mg base 5 "_law_fits" VO (spFitsN K))(gD:Has P w K mg base 5 "_law_alone" VQ (spAlone K))(fQ:Has P w K mg base 2 "_law_sorted" UI (spSorted K))(fP:Has P w K mg base 2 "_law_within" VP (spWithin K)) :
  FnOk P w K mg base CX0 8 f fd ["_law_script"] (spLaw K Tb) true:=by
 refine F.ok Z5c (λvs H Q E h=>?_) (λcdv A outer s H vs Q E hr h=>?_)
 ·obtain⟨a,ns,rfl,_⟩:=h;rfl
 obtain⟨a,ns,rfl,hS,hT,k⟩:=h;have sc:=Z5c;have G:=hr.units;have h8:(["_law_j","_law_k"]:List Str).Nodup:=ZZ
 refine⟨_,(Z9 (Zj (i:=1) sc.nd rfl (Or.inl rfl) (Zg Zy (Xe (Z0 Za (Z0 Za (Z0 Za (Z0 Za (Z0 Za (Z0 Za (Z0 Za (Z0 Za Z8))))))))) (Zl Wj (Zf fC hr (Z0 (pv 0) (Z0 Za Z8))) Za)))
  (Z9 (Uj (Zf fB hr (Z0 (pv 0) (Z0 (pv 1) Z8))) (W0 (n:=2) rfl (Y1 (Zi (i:=2) sc.nd rfl (Or.inl rfl)) (Y1 (Zi (i:=3) sc.nd rfl (Or.inl rfl)) Xg))))
  (Z9 (Zj (i:=4) sc.nd rfl (Or.inl rfl) (Zf fZ hr (Z0 (pv 3) Z8)))
  (Z9 (Zj (i:=5) sc.nd rfl (Or.inl rfl) (Ry fD (hr.mono J1) rfl (Z0 (pv 1) (Z0 (Y7 Xi rfl T.list JU (Z0 (pv 3) Z8)) Z8))))
  (Z9 (Y9 (PW.pt (Uc (Xz (Yp (Zt Wb rfl T.isinstance JR (Z0 (pv 5) (Z0 (Qk T.list JU) Z8))))) (Vr (Zo Qo (Yu (Z3l (K:=K) G) (pv 5) (Xe Z8) (Zp _)) (Yu Xp (Zg X9 (Zf gW hr (Z0 (pv 1) (Z0 (Y7 Xi rfl T.list JU (Z0 (pv 3) Z8)) Z8))) Za) Vk (Zp _)) (Zp _)))))
   (Zb (Zh W7))
   Zw)
  (Z9 (Yw XS rfl (Yf rfl T.range (Z0 (Zt Zq rfl T.len GL (Z0 (pv 5) Z8)) Z8)) (Zi (i:=6) sc.nd rfl (Or.inr rfl))
   (Z9 (Y9 (PW.pt (Uc (Xz (Yp (Zf fY hr (Z0 (Zg Zy (pv 5) (pv 6)) (Z0 (pv 1) Z8))))) (Uc (Xz (Yp (Zf fL hr (Z0 (Zg Zy (pv 5) (pv 6)) (Z0 (pv 4) Z8))))) (Vr (Xz (Yp (Zf gD hr (Z0 (Zg Zy (pv 5) (pv 6)) (Z0 (pv 4) Z8)))))))))
    (Zb (Zh W7))
    Zw)
   (Zb (Y9 (PW.pt (M9 (Zo Sx (pv 6) Za (Zp _)) (Rx (Xz (Yp (Zf fQ hr (Z0 (Zg Zy (pv 5) (Zl Wz (pv 6) Za)) (Z0 (Zg Zy (pv 5) (pv 6)) Z8))))))))
    (Zb (Zh W7))
    Zw))))
  (Z9 (Vj (Y9 (PW.pt (M9 (Yp (Zf fL hr (Z0 (pv 2) (Z0 (pv 4) Z8)))) (Rx (Xz (Yp (Zf fP hr (Z0 (pv 2) (Z0 (pv 5) Z8))))))))
   (Zb (Zh W7))
   Zw))
  (Z9 (Zj (i:=7) sc.nd rfl (Or.inl rfl) (Y7 Xi rfl T.list JU (Z0 (pv 5) Z8)))
  (Z9 (Yz (W6 XJ JA JB Ys (pv 5) (Z0 Xo Z8)))
  (Z9 (Yz (Z0r XJ PySem.F.slot_list_reverse PySem.F.type_list_reverse Jl (pv 5)))
  (Z9 (Zj (i:=8) sc.nd rfl (Or.inl rfl) (Xe Z8))
  (Z9 (Yw XS rfl (Yf rfl T.range (Z0 (pv 1) Z8)) (Zi (i:=6) sc.nd rfl (Or.inr rfl))
   (Zb (Yz (W6 XJ PySem.F.slot_list_insert PySem.F.type_list_insert C5 (pv 8) (Z0 Za (Z0 (Y7 Yc rfl T.tuple XV (Z0 (Yd (ox:=none) (N:=["_law_j","_law_k"]) (k:=1) (fv:=[6]) rfl (Yf rfl T.range (Z0 (pv 1) Z8))
  (λ_ _ _ _ _=>Zi (i:=0) h8 rfl xj) (λ_ _ _ _ _=>Y8) (λ_ _ _ _ _=>(Yx (Z0 (Y7 Ni rfl T.int zY (Z0 (Yu Xp (pv 0) (pv 1) (Zp _)) Z8)) (Z0 Za Z8)))) Zv) Z8)) Z8))))))
  (Zb (Zh (Jb (Yu (Z0x (K:=K) G) (Ry fD (hr.mono J1) rfl (Z0 (pv 1) (Z0 (Y7 Xi rfl T.list JU (Z0 (pv 3) Z8)) Z8))) (pv 7) (Zp _)) (Me (Yu (Z0x (K:=K) G) (Ry fD (hr.mono J1) rfl (Z0 (pv 1) (Z0 (Xe Z8) Z8))) (pv 8) (Zp _)))))))))))))))))),?_⟩
 refine Ya (Yr ?_);refine⟨sz8,λq1 g3=>?_⟩;have N1:=Same.new (o:=.lst [V.int 2,V.int 3,V.int 4,V.int 3,V.int 4,V.int 4,V.int 5,V.int 3]) g3;have d1:(upd H q1 (.lst [V.int 2,V.int 3,V.int 4,V.int 3,V.int 4,V.int 4,V.int 5,V.int 3])) q1=some (.lst [V.int 2,V.int 3,V.int 4,V.int 3,V.int 4,V.int 4,V.int 5,V.int 3]):=Zc;generalize upd H q1 (.lst [V.int 2,V.int 3,V.int 4,V.int 3,V.int 4,V.int 4,V.int 5,V.int 3])=H1 at *
 refine⟨_,rfl,a,0,ns,rfl,Xr N1 hS,J0,J0,λz=>?_⟩;refine⟨_,_,rfl,rfl,J1,?_⟩;obtain⟨v1,e1,m1⟩:=G6 (xs:=[V.int 2,V.int 3,V.int 4,V.int 3,V.int 4,V.int 4,V.int 5,V.int 3]) (k:=z % 8) J0 (by show z % 8<8;omega);obtain⟨n,rfl,n2,n5⟩:∃ n:Nat,v1=.int (n:Int)/\2<=n/\n<=5:=by
  simp only [YT,JP,jc] at m1;rcases m1 with h | h | h | h | h | h | h | h
  ·exact⟨2,h,J0,J0⟩
  ·exact⟨3,h,J0,J0⟩
  ·exact⟨4,h,J0,J0⟩
  ·exact⟨3,h,J0,J0⟩
  ·exact⟨4,h,J0,J0⟩
  ·exact⟨4,h,J0,J0⟩
  ·exact⟨5,h,J0,J0⟩
  exact⟨3,h,J0,J0⟩
 refine⟨q1,_,_,_,rfl,rfl,SqL.of d1,e1,?_⟩;clear e1 m1 d1;refine Y2 ?_;dsimp only;refine Ya (Yr ?_);refine⟨_,rfl,_,rfl,a,n,ns,rfl,Xr N1 hS,J0,J0,λp xw lo os Ws ws H2 S2 sp O2 l2 R2 Rw wt=>?_⟩;refine⟨_,_,rfl,sp,rfl,_,_,rfl,_,_,rfl,rfl,?_⟩;dsimp only;have c9:Tab1 H2 Tb:=.fresh (S2 _ _ (N1 _ _ hT));refine Ya (Yr ?_);refine⟨_,rfl,lo,n,90,os,rfl,O2,J0,J0,J0,λo ho=>(R2 o ho).good,λdg H3 fg S3 RG=>?_⟩;have gN:=Jw R2;have g6:(gainsP os os.length).length<=6:=YR Cl J0;obtain⟨ov,oq,oP⟩:=O2;refine Y2 ?_;dsimp only;refine Ya (Yr ?_);refine⟨_,rfl,_,rfl,lo,ov,rfl,.inl (SqL.of (S3 _ _ oq)),λl4 i1=>?_⟩;have N4:=Same.new (o:=.lst ov) i1;have q4:(upd H3 l4 (.lst ov)) l4=some (.lst ov):=Zc;generalize upd H3 l4 (.lst ov)=H4 at *
 have u:=S3.trans N4;refine⟨l4,n,91,90,os,rfl,⟨n2,n5⟩,⟨ov,q4,Wk oP (Ext.same u)⟩,J0,J0,λo ho=>(R2 o ho).good,g6,gN,J0,J0,c9.same u,λdt H5 rss i9 X5 T5 RT C d8=>?_⟩;have b7:=(c9.same u).tbl;have d9:=Mx b7 X5;have d2:∀ {b:Addr} {xs:TZ},H4 b=some (.lst xs)->b≠Tb:=λ{b xs} e z=>by
  obtain⟨ps,h⟩:=b7;rw[z,h] at e;cases e
 obtain⟨at_,qt,Pt⟩:=RT;obtain⟨ga,gq,gP⟩:=RG;have W:=XB Pt;have d0:=(Ext.same u).trans d9;have e3:=X5 _ _ (u _ _ oq) (d2 (u _ _ oq));have a5:=X5 _ _ (N4 _ _ gq) (d2 (N4 _ _ gq));have e2:=Wk oP d0;have b2:=Y0 gP ((Ext.same N4).trans d9);have c5:=Rw.ext d0;have b6:(paps n).length=n:=by unfold paps;simp
 have rB:∀ e'∈paps n++gainsP os os.length,RowN 91 n e':=λe' he=>by
  rcases XN.mp he with he | he
  ·unfold paps at he;obtain⟨w0,_,rfl⟩:=YN.mp he;exact uP_row.mono J0
  exact gN e' he
 have n4:(n - 1)*(91+3)<=4*94:=zO J0 J0;have hs:∀ g∈rss,RowN 380 n g:=λg hg=>(C.small8 J0 J0 rB hg).mono J0;have j5:rss.length<=61:=by
  by_cases z:n=5
  ·subst z;exact C.few11 (by rw[YY,b6];omega)
  have:=C.few10 n2 n5 (by rw[YY,b6];omega);omega
 have eL:(paps n++gainsP os os.length).length=n+(gainsP os os.length).length:=by rw[YY,b6]
 refine Y2 ?_;dsimp only;refine Ya ?_;refine⟨_,rfl,_,_,_,_,rfl,?ty,U1,_,rfl,?_⟩
 case ty=>exact TyOf.lst qt
 refine⟨_,rfl,sz0,λe6 h0=>?_⟩;have N6:=Same.new (o:=.lst []) h0;have q6:(upd H5 e6 (.lst [])) e6=some (.lst []):=Zc;generalize upd H5 e6 (.lst [])=H6 at *
 refine⟨dt,e6,_,rfl,rfl,SqL.of (N6 _ _ qt),SqL.of q6,?_⟩;refine⟨_,rfl,_,rfl,lo,ov,rfl,.inl (SqL.of (N6 _ _ e3)),λl7 f6=>?_⟩;have N7:=Same.new (o:=.lst ov) f6;have q7:(upd H6 l7 (.lst ov)) l7=some (.lst ov):=Zc;generalize upd H6 l7 (.lst ov)=H7 at *
 have c8:=N6.trans N7;refine judC rfl ⟨ov,q7,Wk e2 (Ext.same c8)⟩ J0 (λo ho=>(R2 o ho).good) gN J0 J0 J0 λt8 q8 z8 H8 S8 j2 hz=>?_;refine⟨t8,_,_,_,rfl,rfl,j2,Zk (j:=0) rfl,rfl,rfl,_,rfl,?_⟩;have b8:=c8.trans S8;have f8:decide (V.str z8=V.str (Str.ofString "beaten"))=(at_.map V.ref).isEmpty:=by
  rcases hz with ⟨rfl,no⟩ | ⟨rfl,ya⟩
  ·have z:rss=[]:=YE λne=>(C.wts.mpr ne).elim no;rw[z] at W;rw[zh W];exact XA rfl
  have ne:=C.wts.mp ya
  cases at_ with
  | nil=>exact absurd (zh W.symm) ne
  | cons _ _=>exact XF λz=>absurd z J1
 rw[f8];refine F9 rfl (Ji ?_);dsimp only;have gL:∀ g∈gainsP os os.length,Lows g/\g.length=n:=λg hg=>by
  obtain⟨l1,D1,W1,R1⟩:=gN g hg;exact⟨λr hr=>(R1.good r hr).low,l1⟩
 have d6:((at_.map V.ref).length:Int)=(rss.length:Int):=by rw[YB,W]
 refine Ya ⟨_,rfl,dt,_,rfl,.inl (SqL.of (b8 _ _ qt)),_,rfl,J0,J0,?_⟩;rw[d6,show ((rss.length:Int)).toNat=rss.length by omega];refine Xq (lo:=0) (n:=rss.length) (λi σ H'=>Same H5 H'/\∃ x,σ=[some (.ref a),some (.int (n:Int)),some (.ref xw),some (.ref lo),some (.ref dg),some (.ref dt),x,none,none]) ⟨b8,none,rfl⟩ ?_ ?_
 ·rintro i σ H9 hi ⟨S9,x9,rfl⟩;have e0:(0+(i:Int))=((i:Nat):Int):=J0
  rw[e0];have ea:at_[i]?=some (at_[i]'J0):=ZJ
  have ez:rss[i]?=some (rss[i]'J0):=ZJ
  generalize (at_[i]'J0)=ac at ea;generalize (rss[i]'J0)=R at ez;have mr:=YD ez;have rr:=(Paired.getB Pt ea ez).ext (Ext.same S9);obtain⟨lr,D1,W1,R1⟩:=hs R mr;have ex:(at_.map V.ref)[i]?=some (V.ref ac):=by rw[YI,ea];rfl
  have fit:fitB (gainsP os os.length) R=true:=(Fh (C.low R mr) (C.len R mr) gL).mpr (by rw[<-eL];exact (C.vx mr).inn);have al:=Z2j C mr gL;refine Y2 ?_;dsimp only;refine Ya ?_;refine⟨_,rfl,_,rfl,dt,_,_,_,rfl,rfl,SqL.of (S9 _ _ qt),Zk ex,_,rfl,ac,n,380,R,rfl,rr,lr,R1.good,J0,λS m=>⟨_,rfl,?_⟩⟩;have d:=S9.trans m;refine⟨_,rfl,_,rfl,dt,_,_,_,rfl,rfl,SqL.of (d _ _ qt),Zk ex,_,rfl,ac,dg,n,380,91,R,gainsP os os.length,rfl,rr.ext (Ext.same m),⟨ga,d _ _ a5,Y0 b2 (Ext.same d)⟩,hs R mr,gN,J0,J0,λt Z=>⟨_,rfl,?_⟩⟩;rw[fit];have c:=d.trans Z;refine⟨_,rfl,_,rfl,dt,_,_,_,rfl,rfl,SqL.of (c _ _ qt),Zk ex,_,rfl,ac,dg,ga,R,gainsP os os.length,n,rfl,rr.ext (Ext.same (m.trans Z)),c _ _ a5,Y0 b2 (Ext.same c),⟨J0,J0⟩,(hs R mr).mono J0,gN,J0,al.1,al.2,λb4 g9=>⟨_,rfl,?_⟩⟩;have l:=c.trans g9;refine Xc (Ji ?_);dsimp only;refine⟨_,rfl,_,_,rfl,rfl,_,rfl,?_⟩;by_cases z0:0<i
  ·rw[XA (show (0:Int)<(i:Int) by omega)];obtain⟨j,rfl⟩:∃ j,i=j+1:=⟨i - 1,J0⟩;have eb:at_[j]?=some (at_[j]'J0):=ZJ
   have ey:rss[j]?=some (rss[j]'J0):=ZJ
   generalize (at_[j]'J0)=ap at eb;generalize (rss[j]'J0)=fp at ey;obtain⟨lp,D2,W2,g4⟩:=hs fp (YD ey);have i2:(at_.map V.ref)[j]?=some (V.ref ap):=by rw[YI,eb];rfl
   have ej:((j+1:Nat):Int) - 1=((j:Nat):Int):=J0
   refine⟨_,rfl,_,rfl,_,_,rfl,rfl,?_⟩;rw[ej];refine⟨dt,_,_,_,rfl,rfl,SqL.of (l _ _ qt),Zk i2,_,rfl,_,rfl,dt,_,_,_,rfl,rfl,SqL.of (l _ _ qt),Zk ex,ap,ac,fp,R,n,380,rfl,(Paired.getB Pt eb ey).ext (Ext.same l),(Paired.getB Pt ea ez).ext (Ext.same l),lp,lr,J0,g4.good,R1.good,J0,C.next d8 ey ez,_,rfl,?_⟩;exact Xc ⟨l,_,rfl⟩
  rw[XF (show ¬ (0:Int)<(i:Int) by omega)];exact Xc ⟨l,_,rfl⟩
 rintro σ H9 ⟨S9,x9,rfl⟩;dsimp only;refine Ya ?_;refine⟨λσ H'=>(σ=[some (.ref a),some (.int (n:Int)),some (.ref xw),some (.ref lo),some (.ref dg),some (.ref dt),x9,none,none])/\Same H5 H',?_,?_⟩
 ·refine⟨_,rfl,_,rfl,xw,dg,n,10,91,ws,gainsP os os.length,rfl,c5.ext (Ext.same S9),⟨ga,S9 _ _ a5,Y0 b2 (Ext.same S9)⟩,⟨wt.len,_,_,wt.rep⟩,gN,J0,J0,λS m=>⟨_,rfl,?_⟩⟩;have d:=S9.trans m
  cases hf:fitB (gainsP os os.length) ws with
  | false=>exact Xc ⟨rfl,d⟩
  | true =>
   have wq:=wt.q;have I:=(Fh wq.1 wt.len gL).mp hf;refine⟨_,rfl,_,rfl,xw,dt,at_,ws,rss,n,380,rfl,c5.ext (Ext.same d),d _ _ qt,Y0 Pt (Ext.same d),wt.len,J0,J0,λr hr=>(wt.rep.good r hr).mono J0,λf hf=>?wg,J0,λk hk=>C.over I hk,λt Z=>⟨_,rfl,?_⟩⟩
   case wg =>
    obtain⟨l1,D1,W1,R1⟩:=hs f hf;exact⟨l1,R1.good⟩
   exact Xc ⟨rfl,d.trans Z⟩
 rintro σ S ⟨rfl,m⟩;dsimp only;refine Ya (Yr ?_);refine⟨_,rfl,dt,_,rfl,.inl (SqL.of (m _ _ qt)),λlk b5=>?_⟩;have g2:=Same.new (o:=.lst (at_.map V.ref)) b5;have g8:(upd S lk (.lst (at_.map V.ref))) lk=some (.lst (at_.map V.ref)):=Zc;generalize upd S lk (.lst (at_.map V.ref))=t at *
 have c:=m.trans g2;have f7:lk≠dt:=λz=>by rw[z,m _ _ qt] at b5;cases b5
 refine Y2 ?_;dsimp only;refine Ya ?_;refine⟨_,rfl,.inl ⟨rfl,_,SqL.of (c _ _ qt)⟩,?_⟩;have f4:(at_.map V.ref).length<1000:=by rw[YB];omega
 refine⟨dt,_,.non,rfl,rfl,c _ _ qt,YX f4 J1,?_⟩;have g1:SameX dt t (upd t dt (.lst (at_.map V.ref++[V.non]))):=SameX.upd _ _ _;have e9:(upd t dt (.lst (at_.map V.ref++[V.non]))) dt=some (.lst (at_.map V.ref++[V.non])):=Zc;generalize upd t dt (.lst (at_.map V.ref++[V.non]))=b4 at *
 dsimp only;refine Ya ?_;refine⟨_,rfl,.inl ⟨rfl,_,SqL.of e9⟩,?_⟩;refine⟨dt,_,rfl,rfl,e9,?_⟩;have Y:SameX dt t (upd b4 dt (.lst (at_.map V.ref++[V.non]).reverse)):=g1.trans (SameX.upd _ _ _);generalize upd b4 dt (.lst (at_.map V.ref++[V.non]).reverse)=O at *
 have h2:Ext t O:=Pi (c _ _ qt) Y;have i3:Tab1 O Tb:=(T5.same c).lst (c _ _ qt) Y;have g7:lo≠dt:=Zd (u _ _ oq) i9;dsimp only;refine Ya (Yr (Z5m ?_));refine⟨sz0,λdu d4=>?_⟩;have f3:=Same.new (o:=.lst []) d4;have g5:(upd O du (.lst [])) du=some (.lst []):=Zc;generalize upd O du (.lst [])=j6 at *
 refine Y2 ?_;dsimp only;refine Ya ?_;refine⟨_,rfl,(n:Int),rfl,J0,J0,?_⟩;have et:(n:Int).toNat=n:=J0
 rw[et];refine Xq (lo:=0) (n:=n) (λi σ H'=>Same O H'/\(∃ x,σ=[some (.ref a),some (.int (n:Int)),some (.ref xw),some (.ref lo),some (.ref dg),some (.ref dt),x,some (.ref lk),some (.ref du)])/\∃ bs:List Addr,H' du=some (.lst (bs.map V.ref))/\Paired (RowAt K H') bs ((List.range i).map (uP n)).reverse) ⟨f3,⟨_,rfl⟩,[],g5,.nil⟩ ?_ ?_
 ·rintro i σ L hi ⟨y,⟨i7,rfl⟩,bs,B,U⟩;have e0:(0+(i:Int))=((i:Nat):Int):=J0
  rw[e0];have h3:=XB U;rw[Y1y,YB,ql] at h3;refine Y2 ?_;dsimp only;refine⟨_,rfl,.inl ⟨rfl,_,SqL.of B⟩,?_⟩;refine⟨_,rfl,(n:Int),rfl,J0,J0,λd3 c2=>?_⟩;rw[et];refine⟨n,λj zs H'=>Same L H'/\Rs K H' ((List.range j).map λj=>((if j=i then 1 else 0,1):Rat)) zs,Zz J0,⟨Same.new c2,.nil⟩,?_,?_⟩
  ·rintro j zs H4 hj ⟨S4,R4⟩ b0;refine⟨hj,?_⟩;rintro x' H5 ⟨rfl,rfl⟩;refine Yh ?_;refine⟨_,rfl,_,rfl,rfl,.inr ⟨_,rfl,sz2,λp X=>?_⟩⟩;have e1:(if decide (V.int (0+(j:Int))=V.int (i:Int))=true then (1:Int) else 0)=if j=i then 1 else 0:=by
    by_cases e:j=i
    ·subst e;rw[XA (by rw[Y1i]),YH rfl,YH rfl]
    rw[XF (λz=>e (by injection z with z;omega)),YF YO,YF e]
   have S6:=Same.new (o:=.tup [V.int (if decide (V.int (0+(j:Int))=V.int (i:Int))=true then 1 else 0),V.int 1]) X;have t6:SqT K (upd H5 p (.tup [V.int (if decide (V.int (0+(j:Int))=V.int (i:Int))=true then 1 else 0),V.int 1])) p [V.int (if j=i then 1 else 0),V.int 1]:=by
    rw[<-e1];exact SqT.of Zc
   have b3:=S6 _ _ b0;refine⟨b3,Yj (S4.trans S6) c2,?_⟩;rw[GG,XH];exact (R4.ext ((Ext.same S6).trans (Ext.upd b3))).snoc ⟨p,rfl,(Ext.upd b3).sq t6⟩
  rintro zs H4 ⟨S4,R4⟩ b0;refine⟨YJ _,?_⟩;rw[<-Ba] at R4;have q4:=S4 _ _ B;refine⟨d3,zs,rfl,.inl ⟨SqL.of b0,λp5 X=>?_⟩⟩;have N5:=Same.new (o:=.tup zs) X;have t5:RowAt K (upd H4 p5 (.tup zs)) p5 (uP n i):=⟨zs,SqT.of Zc,R4.ext (Ext.new X)⟩;generalize upd H4 p5 (.tup zs)=c1 at *
  have q5:=N5 _ _ q4;refine⟨du,bs.map V.ref,.ref p5,rfl,rfl,q5,JD (show (bs.map V.ref).length<=1000 by rw[YB];omega) J1,?_⟩;have E6:Ext c1 (upd c1 du (.lst (V.ref p5::bs.map V.ref))):=Ext.upd q5;refine⟨Yj (y.trans (S4.trans N5)) d4,⟨_,rfl⟩,p5::bs,Zc,?_⟩;rw[GG,XH,List.reverse_append];exact .cons (t5.ext E6) (Y0 U ((Ext.same (S4.trans N5)).trans E6))
 rintro σ L ⟨y,⟨i7,rfl⟩,bs,B,U⟩;dsimp only;have a6:Ext H5 L:=(Ext.same c).trans (h2.trans (Ext.same y));have f0:=y _ _ (Y _ _ (c _ _ e3) g7);have a2:=y _ _ (Y _ _ g8 f7);have ou:=f3;refine Z0c ?_;refine⟨_,rfl,_,rfl,lo,ov,rfl,.inl (SqL.of f0),λa0 e5=>?_⟩;have v:=Same.new (o:=.lst ov) e5;have f9:(upd L a0 (.lst ov)) a0=some (.lst ov):=Zc;generalize upd L a0 (.lst ov)=f2 at *
 have c0:Tab1 f2 Tb:=i3.same (y.trans v);have J:=a6.trans (Ext.same v);refine⟨a0,n,91,90,os,rfl,⟨n2,n5⟩,⟨ov,f9,Wk e2 J⟩,J0,J0,λo ho=>(R2 o ho).good,g6,gN,J0,J0,c0,λi5 c7 h6 _ b1 i0 e7 i4 a8=>?_⟩;have er:=i4.unique C a8 d8;subst er;obtain⟨j3,j1,i8⟩:=e7;have a4:=c0.tbl;have d5:=Mx a4 b1;have D:∀ {b:Addr} {xs:TZ},f2 b=some (.lst xs)->b≠Tb:=λ{b xs} e z=>by
  obtain⟨ps,h⟩:=a4;rw[z,h] at e;cases e
 have b9:=b1 _ _ (v _ _ a2) (D (v _ _ a2));have e4:=b1 _ _ (v _ _ B) (D (v _ _ B));refine⟨_,rfl,2,i5,lk,_,_,rfl,rfl,J0,.inl ⟨SqL.of j1,SqL.of b9⟩,Uh i8 (Y0 Pt (J.trans d5)),?_⟩;refine⟨true,rfl,?_⟩;rw[YH rfl];refine⟨_,rfl,sz0,λa1 d7=>?_⟩;have a7:=Same.new (o:=.lst []) d7;have h5:(upd c7 a1 (.lst [])) a1=some (.lst []):=Zc;generalize upd c7 a1 (.lst [])=j0 at *
 have g0:gainsP [] ([]:UD).length=[]:=by rw[Uo];rfl
 have f1:Tab1 j0 Tb:=i0.same a7;refine⟨a1,n,91,90,[],rfl,⟨n2,n5⟩,⟨[],h5,.nil⟩,ZJ,J0,λo ho=>(by cases ho),by rw[g0];simp,λg hg=>(by rw[g0] at hg;cases hg),J0,J0,f1,λi6 h7 h9 _ c6 j4 c3 e8 a9=>?_⟩;rw[g0] at e8;have er:=Z54 n2 n5 e8 a9;subst er;obtain⟨j7,h4,h1⟩:=c3;have a3:=f1.tbl;have f5:=Mx a3 c6;have M:=a7 _ _ e4;have c4:=c6 _ _ M λz=>by
  obtain⟨ps,h⟩:=a3;rw[z,h] at M;cases M
 refine⟨_,rfl,2,i6,du,_,_,rfl,rfl,J0,.inl ⟨SqL.of h4,SqL.of c4⟩,Uh h1 (Y0 U ((Ext.same v).trans (d5.trans ((Ext.same a7).trans f5)))),?_⟩;exact k h7
end
def Z50 {x:Str}{sl:Array (Option Value)}{kV:Value}(X:K.In h)(G:h.Ns mainGlobals mg)
  (a:W.nsIn K mainGlobals x=some (some (.ref f))) (l:K.lookup f=some ⟨oc,od,.func (W.fnOf x x (defArgs st) (defBody st) (defScope st) .none kV dc pm an (.ref cc) ct),sl⟩) (c:W.codeIn K (.ref cc) x=true) (k:W.keepIn K (.ref f)=true)
  (b:∀ (kV doc pm:Value) (an:TQ) (cdv ct:Value) (us:TH),us.length=ps.length->bindArgs (W.fnOf x x (defArgs st) (defBody st) (defScope st) .none kV doc pm an cdv ct) ⟨us,[]⟩=pure (ps.zip us)):DefC K mg x st ps cc :=
 ⟨f,_,Up l c k,Y1R X G a,(Up l c k).binds b,rfl⟩
def Z4l {P:TU}{x:Str}{fa:Addr}{sl:Array (Option Value)}{kV:Value}{n:Nat}(X:K.In h)(G:h.Ns mainGlobals mg)(d:mg "law"=some (.ref fa))
  (a:W.nsIn K mainGlobals "law"=some (some (.ref f))) (l:K.lookup f=some ⟨oc,od,.func (W.fnOf "law" "law" (defArgs st) (defBody st) (defScope st) .none kV dc pm an cd ct),sl⟩) (c:W.codeIn K cd "law"=true) (k:W.keepIn K (.ref f)=true)
  (b:∀ (s:Shared) (v:Value),BindsTo s (W.fnOf "law" "law" (defArgs st) (defBody st) (defScope st) .none kV dc pm an cd ct) ⟨[v],[]⟩ [(x,v)])
  (ok:∀ (fd:FuncData) (base:Heap),K.In base->BltIn mg base->Fun K "law" "law" st fa fd->FnOk P w K mg base CX0 n fa fd [x] sp sr) :
  ∃ fd:FuncData,(∀ (s:Shared) (v:Value),BindsTo s fd ⟨[v],[]⟩ [(x,v)])/\∀ base:Heap,K.In base->base.Ns mainGlobals mg->BltIn mg base->FnOk P w K mg base CX0 n fa fd [x] sp sr:=by
 have e:=d.symm.trans (Y1R X G a)
 cases e;exact⟨_,b,λbase kb _ hB=>ok _ base kb hB (Up l c k)⟩
end _b
def _b.len0 {us:List PySem.Value}(h:us.length=0):us=[]:=zh h
def _b.len1 {us:List PySem.Value}(h:us.length=1):∃ a0,us=[a0]:=by
 cases us with
 | nil=>cases h
 | cons a0 t =>
  obtain rfl:=_b.len0 (Y09 h);exact⟨a0,rfl⟩
namespace PySem.W.Fast
def q:True:=⟨⟩
def tw11503787765208698330:=q
def te2159844670917287700:=q
def tw2159844670917287700:=q
def tw11480632230301792423:=q
def tw2664835647366564827:=q
def tw16035875943588984217:=q
def tw2562724535848651093:=q
def tw6843655543635146310:=q
def tw5915642246852037191:=q
def tw14418425790250411519:=q
def tw16120174639321246910:=q
def tw5234694001839611077:=q
def tw9771640237567891176:=q
def tw10352254197945049329:=q
def tw3187244751340977166:=q
def tw5983075397404845550:=q
def tw15170730251659586265:=q
def tw14933052066712707116:=q
def tw1503235153862983959:=q
def tw5525105409660098311:=q
def tw16743552585440051959:=q
def tw10450403873340360341:=q
def tw5525471764024772610:=q
def tw8976361544130288117:=q
def tw8747600020806716582:=q
def tw5574056863568931370:=q
def tw4656330307113831172:=q
def tw4587136439276948981:=q
def tw12919449289699904064:=q
def tw13071624568587190693:=q
def tw2129373701741040269:=q
def tw2241889469527600387:=q
def tw14342783570917100560:=q
def tw7639546351532969387:=q
def tw5844449080507062852:=q
def tw15869253119181803320:=q
def tw4437932064138836097:=q
def tw176000933384251052:=q
def tw367121666454316915:=q
def tw15848198217652140648:=q
def tw14861626828079038549:=q
def tw1264849621770616058:=q
def tw18194317763324679896:=q
def tw5883211635177341014:=q
def tw9246021120329809663:=q
def tw8770680311036592756:=q
def tw6305466826213062546:=q
def tw12369978577342271128:=q
def tw7002858368326115191:=q
def tw16742297651047494393:=q
def tw3666036108648107951:=q
def tw15333005274941086300:=q
def tw6865282356290250966:=q
def tw18437512265469187615:=q
def tw4816801766252752478:=q
def tw2854728215738988244:=q
def tw15315085753828092545:=q
def tw16938929575616720951:=q
def tw11216377528190416988:=q
def tw136346355948053941:=q
def tw15716902422845772174:=q
def tw2436451408085336476:=q
def tw3108314425310861782:=q
def tw10508887585280321193:=q
def tw14219944554389955728:=q
def tw10285152723277317953:=q
def tw8602918043614793271:=q
def tw17837308281033212431:=q
def tw671104251103356333:=q
def tw10429406584853571682:=q
def tw13916177123795581060:=q
def tw10645011214893868608:=q
def tw13712565573958097008:=q
def tw14615957136106810127:=q
def tw7788184056636446385:=q
def tw5591306871586257365:=q
def tw6031687357074267618:=q
def tw13935581713141941755:=q
def tw16207790269328547928:=q
def tw3690032107582823511:=q
def tw1636722768280920520:=q
def tw17192560053702878960:=q
def tw8120209326017711364:=q
def tw11189892134000880344:=q
def tw18372422752348444799:=q
def tw6646580593657207303:=q
def tw16075992582954120075:=q
def tw16077958231852845302:=q
def tw14488256059045320571:=q
def tw828300596528314389:=q
def tw16631048369042182431:=q
def tw16537012794477741304:=q
def tw5349185761629158089:=q
def tw4323465832170472542:=q
def tw9181299005980659890:=q
def tw8182584522418864268:=q
def tw9049225010369273454:=q
def tw33093309977170905:=q
def tw12969834816024796064:=q
def tw1374951405263070257:=q
def tw2629312231843759431:=q
def tw6744727776607149850:=q
def tw6015134125564781984:=q
def tw17321095528443801039:=q
def tw2011289543841706985:=q
def tw5452840449764997596:=q
def tw3799850728616819664:=q
def tw4343628267450729980:=q
def tw11121072952207037870:=q
def tw2954341216192221182:=q
def tw54736246981237459:=q
def tw17511507924765009124:=q
def tw11592909874415357328:=q
def tw15894441911465282122:=q
def tw5736030492391204637:=q
def tw3926173337947015862:=q
def tw18266446092748272077:=q
def tw17905008908940243431:=q
def tw15919057614655656993:=q
def tw8199028330469419232:=q
def tw3057159146796564310:=q
def tw7790458436640884952:=q
def tw15224750907857478577:=q
def tw17293032390687233140:=q
def tw11186485971571256662:=q
def tw15854987994265211462:=q
def tw12482781984481972960:=q
def tw12589391760878762035:=q
def tw483609670924899355:=q
def tw863762610543743641:=q
def tw14712651325147302958:=q
def tw12814764100583845520:=q
def tw9107677261880068218:=q
def tw13140938913334979922:=q
def tw3101848058672697853:=q
def tw12745163441557791497:=q
def tw1689662683750632971:=q
def tw16513907219259610700:=q
def tw2478537498478851434:=q
def tw2338258432628217195:=q
def tw13189295299270730662:=q
def tw9345574422506100757:=q
def tw17400461222273403345:=q
def tw9448316978572732321:=q
def tw4095900681356831876:=q
def tw1834918153067269045:=q
def tw10723211426625168750:=q
def tw14521580209768984994:=q
def tw10495759285801043050:=q
def tw14330983612260476742:=q
def tw18323718314748916673:=q
def tw6476533642810013892:=q
def tw13573304407741539176:=q
def tw14469189544296045577:=q
def tw10421815282063971754:=q
def tw179720607447474907:=q
def tw2685026573986708640:=q
def tw4570863225482860073:=q
def tw18412317470429905866:=q
def tw13331630388645739718:=q
def tw11531926136605583588:=q
def tw6996219433790169217:=q
def tw12446765905373198016:=q
def tw14793415384131205886:=q
def tw13048731999142671100:=q
def tw12527305461489112205:=q
def tw1347006583152045075:=q
def tw12606966587834258465:=q
def tw14528495773342264075:=q
def tw394177408578866984:=q
def tw1430037376245889445:=q
def tw8958176636302696176:=q
def tw10863509149916085380:=q
def tw10736909892061510575:=q
def tw13881712996234122282:=q
def tw5740210052079706527:=q
def tw9183217064711070303:=q
def tw8598478514188207093:=q
def tw3915315741519067337:=q
def tw7834445868404599865:=q
def tw9911717715164531347:=q
def tw16912576385239346833:=q
def tw8987195409314088768:=q
def tw4476489186050315170:=q
def tw5522522698439646279:=q
def tw14225724938609721347:=q
def tw6946578664711737487:=q
def tw9596626810606514820:=q
def tw2119825691701931173:=q
def tw10702328047613178361:=q
def tw3546463278310363455:=q
def tw9666909300845472526:=q
def tw4681049206693752660:=q
def tw7817686968842918102:=q
def tw11212918385230457841:=q
def tw8407405783275327055:=q
def tw13988805242259925064:=q
def tw1110470805311414613:=q
def tw7940524115391418164:=q
def tw9779320051297461131:=q
def tw6678797301529039962:=q
def tw17762557664861396467:=q
def tw1371073851719747477:=q
def tw14700137356319862679:=q
def tw17701305337872099148:=q
def tw15901660485335177248:=q
def tw5560535147128728689:=q
def tw1684956940597428704:=q
def tw14826537367327390410:=q
def tw10344727584673699375:=q
def tw8070458718579252640:=q
def tw12511652583919706679:=q
def tw1219427099035615355:=q
def tw17724647674739027475:=q
def tw6685768097647410889:=q
def tw250291309540047031:=q
def tw15302537507503463000:=q
def tw7764245412020911935:=q
def tw15623809983665281433:=q
def tw16635530139743782656:=q
def tw9945366966715252693:=q
def tw11830447793854624723:=q
def tw5410523270620406800:=q
def tw3627899242208805936:=q
def tw7905588728900544609:=q
def tw10286855879300803933:=q
def tw3066586738585676027:=q
def tw14023409867045638772:=q
def tw10633597392134920150:=q
def tw10310454173515187598:=q
def tw11490810881081704695:=q
def tw6657974633297787528:=q
def tw11232711718655857935:=q
def tw14619408691071003075:=q
def tw15502391376613324656:=q
def tw8942091378835761804:=q
def tw8327326954872933909:=q
def tw16514124809301040125:=q
def tw13187703919504687270:=q
def tw17545272119711917130:=q
def tw17376393759833645162:=q
def tw6695578579589062941:=q
def tw1475454725169690165:=q
def tw11321285703734984214:=q
def tw2837147967187601090:=q
def tw5111298977435104484:=q
def tw2681608339576870786:=q
def tw6237749243197751060:=q
def tw10602146541288043493:=q
def tw8893833961214601537:=q
def tw3791568290777705130:=q
def tw9379860467152363983:=q
def tw16839039482486206763:=q
def tw15800679956592402839:=q
def tw3780662799354181610:=q
def tw3939164164310582601:=q
def tw8685861213932571796:=q
def tw14922560887920245727:=q
def tw8890081750106570968:=q
def tw3520058398360750079:=q
def tw635049643133487331:=q
def tw16999707710045519753:=q
def tw1278458936597773529:=q
def tw7882382065990025364:=q
def tw18350180239902191502:=q
def tw7058058126952768209:=q
def tw16686309086462759600:=q
def tw10192992763850080656:=q
def tw11345514934990874847:=q
def tw843675055507474343:=q
def tw11224472359663386090:=q
def tw8372759509486889451:=q
def tw10003915769210500264:=q
def tw14000537848737300223:=q
def tw7713820476025355755:=q
def tw6368973878784415116:=q
def tw13342550608689129120:=q
def tw5579993536106779356:=q
def tw4479552578529848790:=q
def tw4926273104515517509:=q
def tw2838737704722542939:=q
def tw10375222930437856334:=q
def tw17161572070610998249:=q
def tw9746015348591550441:=q
def tw3712161914973979961:=q
def tw13150901382862038152:=q
def tw4791667993583841003:=q
def tw8268444962836434571:=q
def tw2693870365677509909:=q
def tw16907973637367913365:=q
def tw12376410465155201669:=q
def tw6568990513696514913:=q
def tw8748566769592871096:=q
def tw2906780604299587816:=q
def tw6121148229723119052:=q
def tw7879856577813518745:=q
def tw7810607949984405908:=q
def tw12942056032600116133:=q
def tw17315228611385368834:=q
def tw5434862742494449759:=q
def tw18225279676364115163:=q
def tw5466273092980690583:=q
def tw482096667648503471:=q
def tw12860179973014537716:=q
def tw1473306128301676073:=q
def tw11021114550100136609:=q
def tw15341272077275960916:=q
def tw9326812228760598601:=q
def tw10254875378457377301:=q
def tw9890774703843609766:=q
def tw16733939723728025313:=q
def tw1736738604648914705:=q
def tw7187914709279507921:=q
def tw16626359903631745448:=q
def tw5270671326035752458:=q
def tw116315866283296291:=q
def tw11925169471433182166:=q
def tw6513941541872142417:=q
def tw8724826286121263581:=q
def tw4109384364001066260:=q
def tw15007114180020572446:=q
def tw11781407188901933126:=q
def tw4765890897375505670:=q
def tw1212945210963044920:=q
def tw16078969847587835162:=q
def tw15188746523580584726:=q
def tw11669336065917122473:=q
def tw15648256509681582250:=q
def tw14524994893207336825:=q
def tw11032916810220958226:=q
def tw1042286104826216498:=q
def tw1441042891223008559:=q
def tw16728439778803142292:=q
def tw6155413116620456398:=q
def tw8962665641241385052:=q
def tw17136353700145396623:=q
def tw12143601841842154152:=q
def tw6615935845079176864:=q
def tw12476110499099309107:=q
def tw6249386668404165702:=q
def tw7266127632441795098:=q
def tw2576167665568874684:=q
def tw5079992877826813275:=q
def tw7578435239491003152:=q
def tw983102403849999962:=q
def tw1553131692100851208:=q
def tw2346669235631673048:=q
def tw11971450768696911171:=q
def tw10583038218980505879:=q
def tw3501923198964195343:=q
def tw838104942565995812:=q
def tw12374013462918576720:=q
def tw17576020309289098959:=q
def tw17051120130102871634:=q
def tw8830326689213054287:=q
def tw6797075694232797776:=q
def tw16412504969860872798:=q
def tw3157119450013421477:=q
def tw18310792236389089612:=q
def tw18295370546894456937:=q
def tw11425241573297437183:=q
def tw6265059137460996562:=q
def tw5710478231485990510:=q
def tw10523550375938831316:=q
def tw13896703623185919740:=q
def tw789080891342417629:=q
def tw2827095707039095503:=q
def tw16993631250909060665:=q
def tw5744612986540049290:=q
def tw15628055331501260209:=q
def tw5045516690856281012:=q
end PySem.W.Fast
noncomputable abbrev _b.pk:PySem.Program:=PySem.Challenge.rw_surebook_k41_corners_fit.prog
abbrev _b.DZ{K:PySem.W.Frag}{h:PySem.Heap}(X:K.In h):=_b.Def (_L.KOf X)
open PySem PySem.W PyProof.Rows _b
set_option maxRecDepth 100000 in
set_option maxHeartbeats 0 in
theorem PySem.Challenge.cw_surebook_k41_corners_fit_holds : PySem.Challenge.rw_surebook_k41_corners_fit.Holds := by
 w_on; o_law; k_head; (case hw=>w_witness2)
 k_fill
 refine B8 (l:=PySem.Challenge.rw_surebook_k41_corners_fit) (n:=63) (k:=8) (x:="_law_script") (T:=203) (CX:=λ_=>_L.CX0) (sp:=λw=>spLaw _ 203) (sr:=true) rfl (by decide) ?IQ rfl rfl ⟨λ_=>rfl,by decide,by decide⟩ (λw h Y=>⟨PySem.W.km_in_of Y,PySem.W.km_tabs_of Y 203 (YV ..)⟩) (λw=>?TK) (λw=>?CC) ?F (λw H a ns hl hO hS=>⟨a,ns,rfl,hS,hO.1,λ_=>rfl⟩) (λ_ _ _ _ _ z=>z)
 case IQ=>kernel_rfl
 case TK=>kernel_rfl
 case CC=>exact ⟨207,by kernel_rfl⟩
 case F =>
  intro w mg fa h KX G hmg;have T:Blt mg:=by
   refine'⟨XY KX G ?z0,XY KX G ?z1,XY KX G ?z2,XY KX G ?z3,XY KX G ?z4,XY KX G ?z5,XY KX G ?z6,XY KX G ?z7,XY KX G ?z8,XY KX G ?z9,XY KX G ?z10,XY KX G ?z11,XY KX G ?z12⟩
   case z0|z1|z2|z3|z4|z5|z6|z7|z8|z9|z10|z11|z12=>k_is
  have⟨n8,lL,pE,pY,qN,pZ,pU,pD,pT,lQ,nX,qA⟩:DZ KX mg "is_whole" jA ["value"]/\DZ KX mg "common_divisor" iM UG/\DZ KX mg "lowest" jJ UH/\DZ KX mg "ratio" jI UH/\DZ KX mg "plus" kE UG/\DZ KX mg "minus" j0 UG/\DZ KX mg "times" jU UG/\DZ KX mg "parted" i8 UG/\DZ KX mg "under" jT UG/\DZ KX mg "common_bottom" iO ["several"]/\DZ KX mg "whole_by" i5 UY/\DZ KX mg "added" j9 UG:=by
   dsimp only [_L.KOf,DZ];exact⟨Zn KX G,Zn KX G,Zn KX G,Zn KX G,Zn KX G,Zn KX G,Zn KX G,Zn KX G,Zn KX G,Zn KX G,Zn KX G,Zn KX G⟩
  have⟨mH,qO,p7,qT,nZ,qP,nW,pX,p8,oW,lM,oA⟩:DZ KX mg "multiplied" iP ["row","by"]/\DZ KX mg "mean" kG VG/\DZ KX mg "is_in" kJ UU/\DZ KX mg "cut" kU UV/\DZ KX mg "paper_of" i9 UX/\DZ KX mg "gain" kK ["offer","word"]/\DZ KX mg "words_of" i4 ["offer"]/\DZ KX mg "sides" jY VD/\DZ KX mg "gains" j4 VD/\DZ KX mg "touched" i7 VH/\DZ KX mg "are_neighbours" iN VJ/\DZ KX mg "crossing" i3 VI:=by
   dsimp only [_L.KOf,DZ];exact⟨Zn KX G,Zn KX G,Zn KX G,Zn KX G,Zn KX G,Zn KX G,Zn KX G,Zn KX G,Zn KX G,Zn KX G,Zn KX G,Zn KX G⟩
  have⟨oZ,n9,o0,lZ,oX,pG,nD,oY,mJ,nE,nY,p9⟩:DZ KX mg "cut_off" jR VL/\DZ KX mg "is_ahead" jC UG/\DZ KX mg "corners" jE VM/\DZ KX mg "first_table" iQ ["lines"]/\DZ KX mg "line_of" jK UK/\DZ KX mg "end_of" j7 UL/\DZ KX mg "number_at" iY UM/\DZ KX mg "helping" jD UK/\DZ KX mg "goes_ahead" iU UP/\DZ KX mg "going_out" iZ ["table","column"]/\DZ KX mg "replaced" iX UQ/\DZ KX mg "freed" j5 UR:=by
   dsimp only [_L.KOf,DZ];exact⟨Zn KX G,Zn KX G,Zn KX G,Zn KX G,Zn KX G,Zn KX G,Zn KX G,Zn KX G,Zn KX G,Zn KX G,Zn KX G,Zn KX G⟩
  have⟨nF,pH,mG,pV,lH,pW,mI,pF,nP,mK,oG,nG⟩:DZ KX mg "exchanged" iV UT/\DZ KX mg "driven" jQ UK/\DZ KX mg "whole_line" iS ["row","end"]/\DZ KX mg "start" jV UZ/\DZ KX mg "shown_multiples" iL VA/\DZ KX mg "solve" jW VB/\DZ KX mg "made_whole" iT ["multiples"]/\DZ KX mg "judged" jP VM/\DZ KX mg "_law_cell" kO UE/\DZ KX mg "_law_whole" jS UJ/\DZ KX mg "_law_bag" kW UF/\DZ KX mg "_law_take" kC ["_law_bag_here","_law_many"]:=by
   dsimp only [_L.KOf,DZ];exact⟨Zn KX G,Zn KX G,Zn KX G,Zn KX G,Zn KX G,Zn KX G,Zn KX G,Zn KX G,Zn KX G,Zn KX G,Zn KX G,Zn KX G⟩
  have⟨oE,nJ,mQ,mM,lR,mB,mL,lC,nM,oF,mR,nN⟩:DZ KX mg "_law_low" kR ["_law_top","_law_bottom"]/\DZ KX mg "_law_plus" j1 UI/\DZ KX mg "_law_minus" jN UI/\DZ KX mg "_law_times" jM UI/\DZ KX mg "_law_is_ratio" jB UJ/\DZ KX mg "_law_is_row" j3 VN/\DZ KX mg "_law_under" jL UI/\DZ KX mg "_law_parted" iW UI/\DZ KX mg "_law_mean" j2 VC/\DZ KX mg "_law_cut" kH UW/\DZ KX mg "_law_gains" jO ["_law_offers"]/\DZ KX mg "_law_fits" kL VO:=by
   dsimp only [_L.KOf,DZ];exact⟨Zn KX G,Zn KX G,Zn KX G,Zn KX G,Zn KX G,Zn KX G,Zn KX G,Zn KX G,Zn KX G,Zn KX G,Zn KX G,Zn KX G⟩
  have⟨mO,oB,lT,mS,oC,mP,lD,l8,l6,nI,mT⟩:DZ KX mg "_law_small" jX ["_law_bag_here"]/\DZ KX mg "_law_row" kP UN/\DZ KX mg "_law_weights" i6 UN/\DZ KX mg "_law_event" j6 UN/\DZ KX mg "_law_mid" kQ VE/\DZ KX mg "_law_offer" jZ VF/\DZ KX mg "_law_corner_book" iR VR/\DZ KX mg "_law_sorted" jG UI/\DZ KX mg "_law_within" jF VP/\DZ KX mg "_law_rank" kD ["_law_rows"]/\DZ KX mg "_law_alone" j8 VQ:=by
   dsimp only [_L.KOf,DZ];exact⟨Zn KX G,Zn KX G,Zn KX G,Zn KX G,Zn KX G,Zn KX G,Zn KX G,Zn KX G,Zn KX G,Zn KX G,Zn KX G⟩
  have lG:Con (_L.KOf KX) mg "NOUGHT" (0,1):=by
   dsimp only [_L.KOf,DZ];refine' Z2e KX G ?a ?l
   case a|l=>k_is
  have qK:Con (_L.KOf KX) mg "ONE" (1,1):=by
   dsimp only [_L.KOf,DZ];refine' Z2e KX G ?a ?l
   case a|l=>k_is
  have qS:ConI mg "ROW" 0:=by
   refine' Q4 KX G ?a
   (case a=>k_is)
  have qM:ConI mg "ASK" 1:=by
   refine' Q4 KX G ?a
   (case a=>k_is)
  have qL:ConI mg "BID" 2:=by
   refine' Q4 KX G ?a
   (case a=>k_is)
  have pR:ConI mg "EVENT" 3:=by
   refine' Q4 KX G ?a
   (case a=>k_is)
  have y_Table:TabHere (_L.KOf KX) mg:=by
   dsimp only [_L.KOf,DZ];refine' Z5u KX G ?xaC ?xa1 ?xi1 ?xl1 ?xc1 ?xk1 ?xpg ?xhd ?xpo ?xsa ?xmk ?xkc ?xnL ?xnO ?xnH ?xnB ?xnK
   case xaC|xa1|xi1|xl1|xc1|xk1|xpg|xhd|xpo|xsa|xmk|xkc|xnL|xnO|xnH|xnB|xnK=>k_is
  obtain ⟨C_T,f_T,fd_T,tc,mk_T,F_T,b_T⟩:=y_Table;have n_sorted:mg "sorted"=none:=by
   refine' XY KX G ?z
   (case z=>k_is)
  have n_all:mg "all"=none:=by
   refine' XY KX G ?z
   (case z=>k_is)
  have n_dict:mg "dict"=none:=by
   refine' XY KX G ?z
   (case z=>k_is)
  have y_rising:∃ cc,DefC (_L.KOf KX) mg "rising" jH ["rows"] cc/\PySem.W.codeHdIn (_L.KOf KX) cc 203=true:=by
   dsimp only [_L.KOf,DZ];refine' ⟨_,Z50 KX G ?a ?l ?c ?k (λ_ _ _ _ _ _ _ h=>by obtain⟨a0,rfl⟩:=len1 h;rfl),?t⟩
   case a|l|c|k=>k_is
   (case t=>kernel_rfl)
  obtain ⟨cc,dc_rising,hcc⟩:=y_rising;refine' Z4l (st:=kT) KX G hmg ?a ?l ?c ?k ?b ?ok
  case a|l|c|k=>k_is
  (case b=>exact λs v=>.of_eq rfl)
  case ok =>
   intro fd base kb hB F;have lP:=Z6t (P:=pk) (w:=w) (base:=base) nP T;have kX:=Z7w (P:=pk) (w:=w) (base:=base) oE T;have oR:=Z6u oG lP;have kZ:=Z6i (P:=pk) (w:=w) (base:=base) nG;have k7:=Z7y (P:=pk) (w:=w) (base:=base) lL T;have k9:=Z18 pE k7;have lA:=Z41 nJ kX;have k8:=Z1b mQ kX;have lK:=Z1a mM kX;have mZ:=Z3o (P:=pk) (w:=w) (base:=base) mK T;have lS:=Z6o lR T mZ kX;have k6:=Z16 lC kX;have oK:=Dt (P:=pk) (w:=w) (base:=base) n8 T;have mV:=Z15 pY oK k9;have lN:=Z19 (P:=pk) (w:=w) (base:=base) oX tc;have pO:=Z48 pG tc lN;have nQ:=Z3y nD tc lN;have pA:=Du oY T tc lN;have m4:=Z13 mO kZ kX;have oO:=Z6j oB T m4;have lX:=Je lT T kZ kX;have mY:=Z6q (P:=pk) (w:=w) (base:=base) mJ tc;have nR:=Z43 nE T tc mY;have lU:=Jf (P:=pk) (w:=w) (base:=base) nY T;have qI:=Z44 p9 T lU;have c_T:HasT _ w (_L.KOf KX) mg base C_T:=⟨f_T,fd_T,mk_T,Z3r (P:=pk) (w:=w) (base:=base) F_T tc,b_T⟩;have nS:=Z6s nF tc c_T qI lU;have mC:=Z46 lZ T tc c_T;have pP:=Z1e pH tc pA nS nR;have qH:=Z6p (P:=pk) (w:=w) (base:=base) p7;have pQ:=Z7z qT T qH lG;have lY:=Z6n (P:=pk) (w:=w) (base:=base) oF T;have lV:=Z3x nZ pQ qK;have kY:=Z1g lQ k7;have lE:=Do (P:=pk) (w:=w) (base:=base) nX;have mU:=Lx mG kY lE;have qC:=Z3s pV mU lV mC;have lI:=Z3v lH T tc nQ kY mV;have pI:=Z12 pW T tc pQ qC pP lI kY mV pO;have qD:=Z3t pI;have lB:=Z1c nM T lA lK;have m9:=Z47 mS T kZ;have oU:=Z3z pZ k9;have qR:=Z6r qP T oU pQ qS qM qL pR;have oH:=Z3n (P:=pk) (w:=w) (base:=base) nW qM qL;have qF:=Z3u pX T oH;have oV:=Z1d p8 qF qR;have qB:=Z3q pU k9;have mW:=Mi mH T qB;have oQ:=Z7v oC T lB lY k6;have m6:=Z17 mP T kZ m9 oO oQ kX lA k8;have m8:=Dv mR k8 lY;have oS:=Z3p (P:=pk) (w:=w) (base:=base) pT;have oM:=Z4b n9 T oS;have pJ:=Z14 dc_rising T n_sorted kb hcc hB oM;have oJ:=Z40 qO T kY lE mV;have o7:=Dp oW T oJ lG;have qQ:=Z6l qN k9;have qJ:=Z4c qA T qQ;have pK:=Z3w pD k9;have oN:=Jg oA oJ oU pK qJ mW qK;have lO:=Z6m (P:=pk) (w:=w) (base:=base) lM T n_all;have pB:=Z1f oZ n_dict o7 oS oJ lO oN lG;have pC:=Dw o0 T lV oV pB pJ;have mF:=Z42 mB T lS;have nV:=Z45 nN T lA lB;have mX:=Ly mI kY lE;have pM:=Ds pF qD oV mX lG;have lJ:=Z10 (P:=pk) (w:=w) (base:=base) mL;have mE:=Z11 l8 T lJ;have mD:=Z0z l6 T n_all lJ;have k6:=Dq lC kX;have nU:=Z6k nI T k6 k8 lK;have nC:=Z4a mT T lB nU;have lF:=Z49 lD T oR kZ lX m6;exact Z7x F T lP lF m8 pC pM mF nV nC mE mD
