import PyProof.Rows.All
import Wide.All
import OpenK.AllK
import Wide.FinOn
import Lean
import PyProof.EqAt
import PyProof.EqKinds
import PyProof.TupleCall
import PySem.Challenge.RW_surebook_k42_mixes
set_option Elab.async false
set_option linter.all false
set_option maxRecDepth 100000
set_option maxHeartbeats 3200000
abbrev TB:=PySem.Str->Option PySem.Value
abbrev TC:=PySem.Value->PySem.Shared->Prop
abbrev TD:=List (PySem.Addr × PySem.Obj)
abbrev TF:=List PySem.Str
abbrev TH:=List PySem.Value
abbrev TJ:=List PySem.Addr
abbrev TL:=List PySem.Expr
abbrev TM:=List PySem.Stmt
abbrev TN:=List PySem.Env
abbrev TQ:=Option PySem.Addr
abbrev TR:=PySem.W.Frag
abbrev TU:=PySem.Program
abbrev TV:=List Int
abbrev TW:=Option (Nat->Bool)
abbrev TX:=Nat->Nat
abbrev TY:=Nat->Int
abbrev UE:List PySem.Str:=["_law_script","_law_k"]
abbrev UF:List PySem.Str:=["_law_script","_law_at"]
abbrev UG:List PySem.Str:=["one","other"]
abbrev UH:List PySem.Str:=["top","bottom"]
abbrev UI:List PySem.Str:=["_law_one","_law_other"]
abbrev UJ:List PySem.Str:=["_law_found"]
abbrev UK:List PySem.Str:=["_law_bag_here","_law_count"]
abbrev UL:List PySem.Str:=["_law_k","_law_bag_here"]
abbrev UM:List PySem.Str:=["world","event"]
abbrev UN:List PySem.Str:=["row","event"]
abbrev UO:List PySem.Str:=["_law_row_here","_law_event_here"]
abbrev UP:List PySem.Str:=["count","event"]
abbrev UQ:List PySem.Str:=["several"]
abbrev UR:List PySem.Str:=["several","bottom"]
abbrev US:List PySem.Str:=["_law_weights_here","_law_row_here"]
abbrev UT:List PySem.Str:=["offers"]
abbrev UU:List PySem.Str:=["_law_weights_here","_law_row_here","_law_event_here"]
abbrev UV:List PySem.Str:=["_law_bag_here","_law_weights_here","_law_loose"]
abbrev UW:List PySem.Str:=["edges","corner"]
abbrev UX:List PySem.Str:=["row","by"]
abbrev UY:List PySem.Str:=["one","other","row"]
abbrev UZ:List PySem.Str:=["touching","one","other"]
abbrev VA:List PySem.Str:=["found","edges","row"]
abbrev VB:List PySem.Str:=["count","offers"]
abbrev VC:List PySem.Str:=["_law_found","_law_count"]
abbrev VD:List PySem.Str:=["_law_weights_here","_law_rows"]
abbrev VE:List PySem.Str:=["corner","loads","edges"]
abbrev VF:List PySem.Str:=["offers","weights"]
abbrev VG:List PySem.Str:=["multiple"]
abbrev VH:List PySem.Str:=["count","rows","multiples"]
abbrev VI:List PySem.Str:=["count","offers","weights"]
abbrev VJ:List PySem.Str:=["count","rows","mix"]
abbrev VL:List PySem.Str:=["_law_count","_law_rows","_law_mix"]
abbrev VM:List PySem.Str:=["_law_count","_law_offers","_law_weights_here","_law_told"]
abbrev VN:List PySem.Str:=["_law_script","_law_count"]
abbrev YA:=@PySem.wpAny_bind
abbrev YB:=@PySem.Heap.get?_push_of_some
abbrev YC:=@List.length_map
abbrev YD:=@List.mem_of_getElem?
abbrev YE:=@List.getElem?_map
abbrev YF:=@Nat.le_refl
abbrev YG:=@List.getD_eq_getElem?_getD
abbrev YH:=@List.getElem?_eq_some_iff
abbrev YI:=@PySem.wpAny_pure
abbrev YJ:=@List.mem_append_left
abbrev YK:=@List.mem_cons
abbrev YL:=@PySem.Heap.lt_size
abbrev YM:=@PySem.Heap.get?_push_size
abbrev YN:=@List.size_toArray
abbrev YO:=@Classical.byContradiction
abbrev YQ:=@List.mem_cons_of_mem
abbrev YR:=@Option.some.inj
abbrev YS:=@Bool.false_ne_true
abbrev YT:=@Nat.lt_of_lt_of_le
abbrev YU:=@List.mem_append_right
abbrev YV:=@List.take_of_length_le
abbrev YW:=@PySem.Paired.length
abbrev YX:=@List.length_append
abbrev YY:=@List.mem_cons_self
abbrev YZ:=@List.mem_map
abbrev XA:=@List.mem_singleton
abbrev XB:=@if_neg
abbrev XC:=@List.getElem?_eq_getElem
abbrev XD:=@Nat.le_trans
abbrev XE:=@Nat.ne_of_lt
abbrev XF:=@if_pos
abbrev XG:=@List.getElem_mem
abbrev XH:=@List.mem_append
abbrev XI:=@List.mem_filter
abbrev XJ:=@List.not_mem_nil
abbrev XL:=@List.getElem?_of_mem
abbrev XM:=@List.map_append
abbrev XN:=@Int.mul_pos
abbrev XO:=@PyProof.Rows.boot_tuple
abbrev XQ:=@decide_eq_true
abbrev XR:=@decide_eq_false
abbrev XS:=@List.length_cons
abbrev XT:=@Nat.le_add_right
abbrev XU:=@List.nodup_iff_pairwise_ne
abbrev XV:=@Bool.false_eq_true
abbrev XW:=@PySem.W.mg_none_of
abbrev XX:=@PySem.Heap.size_push
abbrev XY:=@List.lookup_cons
abbrev XZ:=@PySem.PassesOwn.never
abbrev JA:=@List.mem_range
abbrev JB:=@PyProof.Rows.boot_isinstance
abbrev JC:=@List.length_take
abbrev JD:=@PySem.Heap.SameBut.update
abbrev JE:=@PySem.wpAny_callSpecial?_slot
abbrev JF:=@List.take_length
abbrev JG:=@PySem.F.plainAttrs_list
abbrev JH:=@PySem.wpAny_field
abbrev JI:=@Nat.lt_irrefl
abbrev JJ:=@Nat.lt_of_le_of_lt
abbrev JK:=@List.getElem?_zipWith
abbrev JL:=@List.length_zipWith
abbrev JM:=@PySem.wpAny_call_entry
abbrev JN:=@PySem.wpAny_loadPart'
abbrev JO:=@Nat.zero_le
abbrev JP:=@PyProof.Rows.boot_list
abbrev JQ:=@Int.mul_assoc
abbrev JR:=@Classical.choose_spec
abbrev JS:=@Bool.eq_iff_iff
abbrev JT:=@List.getElem?_append_right
abbrev JU:=@PySem.wpAny_pyIter_list
abbrev JV:=@List.getElem?_append_left
abbrev JW:=@Nat.ne_of_gt
abbrev JX:=@Int.mul_comm
abbrev JY:=@decide_eq_true_iff
abbrev JZ:=@PySem.wpAny_seqItems
abbrev GA:=@or_false
abbrev GB:=@PySem.wpAny_holding
abbrev GC:=@PySem.F.slot_list_append
abbrev GD:=@PySem.F.type_list_append
abbrev GE:=@List.filter_cons
abbrev GF:=@beq_eq_false_iff_ne
abbrev GG:=@PyProof.Rows.callWith_type1
abbrev GH:=@of_decide_eq_true
abbrev GI:=@PySem.F.slot_tuple_iterator_next
abbrev GJ:=@Nat.lt_of_succ_lt
abbrev GK:=@List.take_add_one
abbrev GL:=@List.pairwise_map
abbrev GM:=@List.length_filter_le
abbrev GN:=@List.append_nil
abbrev GO:=@PySem.F.slot_dict_keyiterator_next
abbrev GP:=@Int.ne_of_gt
abbrev GQ:=@PySem.wpAny_pyIter_tuple
abbrev GR:=@List.all_eq_true
abbrev GS:=@List.mem_of_mem_take
abbrev GT:=@List.map_cons
abbrev GU:=@if_false
abbrev GV:=@List.getElem?_set_self
abbrev GW:=@PySem.wpAny_truthy_bool
abbrev GX:=@List.map_map
abbrev GY:=@Nat.mul_le_mul
abbrev GZ:=@PySem.mem_of_lookup
abbrev qd:=@List.getElem?_range
abbrev qh:=@Nat.mul_le_mul_left
abbrev qi:=@Ne.symm
abbrev qj:=@Array.getElem?_eq_getElem
abbrev qk:=@Int.eq_of_mul_eq_mul_left
abbrev ql:=@List.length_replicate
abbrev qm:=@List.getElem?_toArray
abbrev qo:=@Int.natAbs_dvd_natAbs
abbrev qq:=@PySem.wpAny_isInstance
abbrev qu:=@Bool.and_eq_true
abbrev qw:=@List.filter_append
abbrev qz:=@Option.isSome_iff_exists
abbrev qA:=@Int.natAbs_mul
abbrev qB:=@Nat.mul_le_mul_right
abbrev qC:=@PySem.wpAny_typeNameOfWhole_keyiter
abbrev qD:=@PySem.boot_len
abbrev qF:=@Int.toNat_natCast
abbrev qH:=@List.nodup_cons
abbrev qJ:=@Option.map_some
abbrev qK:=@beq_self_eq_true
abbrev qL:=@PySem.wpAny_mono
abbrev qM:=@PySem.wpAny_passesOwn
abbrev qN:=@PySem.SeqAt.EqAt.same
abbrev qP:=@List.range_succ
abbrev qQ:=@Nat.lt_succ_of_lt
abbrev qR:=@PySem.sizeLine_eq
abbrev qS:=@decide_eq_true_eq
abbrev qT:=@PySem.wpAny_attempt
abbrev qU:=@PySem.wpAny_rule
abbrev qV:=@PySem.wpAny_comprehension_free
abbrev qW:=@List.eq_of_mem_replicate
abbrev qX:=@PySem.wpAny_typeNameOf_keyiter
abbrev qY:=@Array.length_toList
abbrev qZ:=@List.replicate_succ
abbrev zc:=@List.filter_sublist
abbrev zd:=@PySem.wpAny_setField
abbrev ze:=@PySem.W.kia_one
abbrev zf:=@List.getElem?_replicate
abbrev zg:=@decide_eq_decide
abbrev zh:=@Nat.add_sub_cancel_left
abbrev zi:=@PySem.Obj.data_mapFields
abbrev zj:=@PySem.SeqAt.EqAt.int_int
abbrev zl:=@PySem.wpAny_setField_rec
abbrev zm:=@Array.forIn_toList
abbrev zn:=@PySem.F.args_tuple_iterator_next_1
abbrev zo:=@Bool.not_true
abbrev zp:=@PySem.Heap.get?_update_self
abbrev zq:=@List.getElem?_eq_none
abbrev zr:=@PySem.wpAny_newObj_type
abbrev zt:=@PySem.F.entry_tuple_iterator_next
abbrev zu:=@Nat.pow_le_pow_right
abbrev zv:=@Int.eq_of_mul_eq_mul_right
abbrev zw:=@Nat.le_succ
abbrev zx:=@if_true
abbrev zy:=@Nat.succ_mul
abbrev zz:=@List.ext_getElem
abbrev zA:=@List.mem_flatMap
abbrev zB:=@List.flatMap_append
abbrev zC:=@List.getElem?_take_of_lt
abbrev zD:=@List.sum_cons
abbrev zE:=@PySem.F.slot_list_getattribute
abbrev zF:=@PySem.wpAny_specialOf
abbrev zG:=@List.forIn_cons
abbrev zH:=@Int.emod_nonneg
abbrev zI:=@List.filter_nil
abbrev zJ:=@PySem.slot_listiter_next
abbrev zK:=@PySem.wpAny_Call_Name_kw
abbrev zL:=@PySem.call_meets
abbrev zM:=@beq_iff_eq
abbrev zN:=@Int.emod_lt_of_pos
abbrev zO:=@Nat.le_mul_of_pos_right
abbrev zP:=@decide_eq_false_iff_not
abbrev zQ:=@PySem.isSubtype_stop
abbrev zR:=@PyProof.Rows.subscriptTail_builtinR
abbrev zS:=@List.flatten_cons
abbrev zT:=@List.append_assoc
abbrev zU:=@Int.gcd_dvd_right
abbrev zV:=@PySem.wpAny_pyIter_enum
abbrev zW:=@PySem.SeqAt.RcAt.tuples
abbrev zX:=@PySem.F.slot_tuple_hash
abbrev zY:=@PyProof.Rows.boot_bool
abbrev zZ:=@List.length_range
abbrev ja:=@Nat.succ.inj
abbrev jb:=@PySem.Obj.isFreed_of_fields
abbrev jc:=@PySem.isSubtype_tuple_tuple
abbrev jd:=@PyProof.Rows.boot_int
abbrev je:=@PyProof.Rows.boot_sum
abbrev jf:=@Nat.not_lt
abbrev jg:=@PySem.wpAny_pyIter_zip
abbrev jh:=@PySem.F.slot_tuple_mul
abbrev ji:=@Int.mul_le_mul_of_nonneg_right
abbrev jk:=@PySem.wpAny_forIn_list
abbrev jl:=@PySem.F.args_dict_keyiterator_next_1
abbrev jm:=@PySem.wpAny_standAt
abbrev jn:=@List.any_cons
abbrev jo:=@List.getElem?_mapIdx
abbrev jp:=@List.eq_nil_of_length_eq_zero
abbrev jq:=@PySem.F.entry_dict_keyiterator_next
abbrev jr:=@PySem.wpAny_execs_nil
abbrev js:=@List.of_mem_zip
abbrev jt:=@PySem.F.slot_zip_next
abbrev ju:=@PySem.wpAny_ite_false
abbrev jv:=@PySem.F.slot_int_rmul
abbrev jw:=@PySem.F.slot_tuple_eq
abbrev jx:=@List.filterMap_cons
abbrev jy:=@Nat.le_of_lt
abbrev jz:=@Nat.add_comm
abbrev Y00:=@Nat.pow_succ
abbrev Y01:=@Int.gcd_comm
abbrev Y02:=@List.any_map
abbrev Y03:=@Nat.mul_comm
abbrev Y04:=@Int.gcd_pos_of_ne_zero_left
abbrev Y05:=@Int.zero_mul
abbrev Y06:=@Int.mul_lt_mul_of_pos_right
abbrev Y07:=@PySem.F.slot_range_iterator_next
abbrev Y08:=@PySem.Calls.Name_function_global
abbrev Y09:=@Array.getElem?_eq_some_iff
abbrev Y0a:=@List.forIn_nil
abbrev Y0b:=@PySem.wpAny_letOwnedTupleGo_enum
abbrev Y0c:=@PySem.SeqAt.EqAt.of_refs
abbrev Y0d:=@List.zip_cons_cons
abbrev Y0e:=@PySem.wpAny_tupleItemsOf
abbrev Y0f:=@Int.mul_right_comm
abbrev Y0g:=@Int.gcd_sub_mul_left_left
abbrev Y0h:=@PySem.wpAny_letOwnedTupleGo_zip
abbrev Y0i:=@PySem.wpAny_binaryOp_repeat_ref
abbrev Y0j:=@List.drop_eq_getElem_cons
abbrev Y0k:=@PySem.Obj.cls_mapFields
abbrev Y0l:=@PySem.wpAny_assign_Name
abbrev Y0m:=@PySem.Paired.snoc
abbrev Y0n:=@PySem.wpAny_dictEntries
abbrev Y0o:=@Bool.not_eq_true'
abbrev Y0p:=@Nat.mul_add
abbrev Y0q:=@List.all_cons
abbrev Y0r:=@PySem.AutoSeq1.sub_tuple_tuple
abbrev Y0s:=@PyProof.Rows.listUpdate_at
abbrev Y0t:=@Nat.add_assoc
abbrev Y0u:=@PySem.F.slot_list_extend
abbrev Y0v:=@PySem.F.type_list_extend
abbrev Y0w:=@List.length_erase_of_mem
abbrev Y0x:=@Bool.true_and
abbrev Y0y:=@Nat.le_of_not_lt
abbrev Y0z:=@Int.gcd_dvd_left
abbrev Y0A:=@List.filter_cons_of_pos
abbrev Y0B:=@List.filter_cons_of_neg
abbrev Y0C:=@Int.eq_ofNat_of_zero_le
abbrev Y0D:=@List.not_any_eq_all_not
abbrev Y0E:=@PySem.codeAny_mono
abbrev Y0F:=@PySem.typeIs_int
abbrev Y0G:=@Int.fmod_nonneg_of_pos
abbrev Y0H:=@List.range_succ_eq_map
abbrev Y0I:=@Array.getElem?_eq_none
abbrev Y0J:=@PySem.callType_new
abbrev Y0K:=@Int.mul_zero
abbrev Y0L:=@PySem.codeAny_builtin
abbrev Y0M:=@PySem.wpAny_dictEpoch
abbrev Y0N:=@Int.mul_ne_zero
abbrev Y0O:=@and_congr_right
abbrev Y0P:=@List.length_nil
abbrev Y0Q:=@PyProof.Rows.boot_abs
abbrev Y0R:=@List.mem_of_mem_erase
abbrev Y0S:=@PyProof.Rows.boot_any
abbrev Y0T:=@Int.one_mul
abbrev Y0U:=@List.getElem?_set_ne
abbrev Y0V:=@Bool.false_and
abbrev Y0W:=@Nat.pow_add
abbrev Y0X:=@Nat.log2_lt
abbrev Y0Y:=@not_or
abbrev Y0Z:=@List.take_zero
abbrev Y10:=@Prod.ext
abbrev Y11:=@Int.neg_mul
abbrev Y12:=@List.replicate_succ'
abbrev Y13:=@List.mem_iff_getElem
abbrev Y14:=@List.zipWith_append
abbrev Y15:=@Int.mul_fdiv_cancel
abbrev Y16:=@Nat.lt_two_pow_self
abbrev Y17:=@PySem.wpAny_onRaise
abbrev Y18:=@Int.dvd_trans
abbrev Y19:=@List.cons.inj
abbrev Y1a:=@Option.isSome_none
abbrev Y1b:=@List.mem_filterMap
abbrev Y1c:=@Nat.eq_zero_or_pos
abbrev Y1d:=@Int.fmod_lt_of_pos
abbrev Y1e:=@List.getElem?_drop
abbrev Y1f:=@List.getElem?_take
abbrev Y1g:=@Option.isSome_some
abbrev Y1h:=@Option.toList_some
abbrev Y1i:=@Nat.add_sub_cancel
abbrev Y1j:=@List.all_map
abbrev Y1k:=@Nat.mul_succ
abbrev Y1l:=@Nat.le_of_eq
abbrev Y1m:=@Int.mul_one
abbrev Y1n:=@Int.le_refl
abbrev Y1o:=@Nat.pow_pos
theorem Sb.sz0:0<=PySem.sizeLine:=by decide
theorem Sb.sz1:1<=PySem.sizeLine:=by decide
theorem Sb.sz2:2<=PySem.sizeLine:=by decide
theorem Sb.sz3:3<=PySem.sizeLine:=by decide
theorem Sb.sz4:4<=PySem.sizeLine:=by decide
theorem Sb.sz8:8<=PySem.sizeLine:=by decide
variable {A:PySem.Around}{B kk:Nat}{C T cc f it:PySem.Addr}{D:Int}{E:TC}{K:TR}{Ws Zs:TV}{an od:TQ}{ct oc pm u:PySem.Value}{elt iter tg:PySem.Expr}{es ifs:TL}{fd:PySem.FuncData}{h h':PySem.Heap}{mg:TB}{pins:TD}{prog:TU}{ps:TF}{qual:PySem.Str}{scope:PySem.Scope}{sr:Bool}{st:PySem.Stmt}{tp:PySem.Pos}{tt:TT}{w:PySem.World}{wi:TI}
namespace Sb
open PySem PySem.Spec PyProof.Rows
def NoCtx (o:Obj):Prop:=∃ vs,o.data=.fields vs/\vs[2]?=some .none
def Qt (A:Around)(h:Heap):Prop:=A.handled=none \/ ∃ a o,A.handled=some (.ref a)/\h.get? a=some o/\NoCtx o
def QtP (A:Around)(pn:TD):Prop:=A.handled=none \/ ∃ p∈pn,A.handled=some (.ref p.1)/\NoCtx p.2
theorem QtP.at {pn:TD}(q:QtP A pn)(k:∀ p∈pn,h.get? p.1=some p.2):Qt A h :=
 q.imp id λ⟨p,hp,e,n⟩=>⟨p.1,p.2,e,k p hp,n⟩
theorem Qt.keeps (q:Qt A h)(k:∀ b o,h.get? b=some o->NoCtx o->h'.get? b=some o):Qt A h':=q.imp id λ⟨a,o,e,g,n⟩=>⟨a,o,e,k a o g n,n⟩
theorem Qt.but {a:Addr}{o:Obj}{f:Obj->Obj}(q:Qt A h)(ha:h.get? a=some o)(n:¬ NoCtx o):Qt A (h.update a f) :=
 q.imp id λ⟨b,u,e,g,m⟩=>⟨b,u,e,(JD ..).extBut b u (λz=>n (by rw[z,ha] at g;cases g;exact m)) g,m⟩
theorem Q4:entryFor table "proto.unchain"=some Builtin.«proto.unchain»:=entryFor_of_tree (by kernel_rfl)
section
variable {prog:TU}{w:World}{A:Around}{E:TC}{s:Shared}
theorem Ln {α:Type}{e:Addr}{oe:Obj}{vs:Array Value}{Q:α->Shared->Prop}(hq:Qt A s.heap)(he:s.heap.get? e=some oe)(hd:oe.data=.fields vs)(hz:2<vs.size)(hn:∀ a,A.handled=some (.ref a)->a≠e)
  (h:∀ h':Heap,Heap.SameBut e s.heap h'->(∃ o',h'.get? e=some o'/\o'.cls=oe.cls)->E (.ref e) { s with heap:=h' }):wpAny (model prog w) A (raiseNew (.ref e):Sem α) Q E s:=by
 unfold raiseNew;refine YA (wpAny_handled ?_);rcases hq with hh | ⟨a,o,hh,ha,xs,hx,h2⟩
 ·rw[hh]
  first
   | exact wpAny_throw (h s.heap (Heap.SameBut.refl ..) ⟨_,he,rfl⟩)
   | exact YA (YI (wpAny_throw (h s.heap (Heap.SameBut.refl ..) ⟨_,he,rfl⟩)))
 have ne:=hn a hh;rw[hh];dsimp only;have nb:(Value.ref a != Value.ref e)=true:=by simpa using ne
 rw[XF nb];refine YA (GB (wpAny_runValue (Y0L Q4 ?_)));show wpAny _ _ (field (.ref a) 2 >>= _) _ _ s;refine YA (JH ha hx (x:=.none) h2 ?_);refine YI ?_;simp only [updateField];refine YA (YA (wpAny_load he ?_));rw[hd];show wpAny _ _ (if 2<vs.size then _ else _) _ _ _;rw[XF hz];refine wpAny_update he ?_;refine wpAny_throw (h _ (JD ..) ⟨_,zp _ he ?_,?_⟩)
 ·exact jb (zi hd _)
 exact Y0k ..
theorem Ur {α:Type}{Q:α->Shared->Prop}(hq:Qt A s.heap)
  (h:∀ (h':Heap) (e:Addr),(∀ b o,s.heap.get? b=some o->h'.get? b=some o)->(∃ o,h'.get? e=some o/\o.cls=.type "StopIteration")->E (.ref e) { s with heap:=h' }) :
  wpAny (model prog w) A (newExc (.type "StopIteration") [] >>= λe=>(raiseNew e:Sem α)) Q E s:=by
 refine YA ?_;simp only [newExc,newTuple];refine YA (zr ?_ (by size_fits));refine YA (m:=firstArgMember _ _) (wpAny_of_eq (a:=Value.none) (by first | rfl | (simp only [firstArgMember];rfl)) ?_);refine zr ?_ (by size_fits);have sz:∀ (o:Obj),(s.heap.push o).objs.size=s.heap.objs.size+1:=λo=>XX ..;refine Ln (hq.keeps λb o hb _=>YB _ (YB _ hb)) (YM _ rfl) rfl (by simp[ownMembersOf]) (λa ha z=>?_) λh' sb ho=>?_
 ·rcases hq with q | ⟨b,o,q,hb,_⟩
  ·rw[q] at ha;cases ha
  rw[q] at ha
  cases ha;have:=YL hb;rw[z,sz] at this;exact JI _ (GJ this)
 refine h h' _ (λb o hb=>?_) ho;refine sb.extBut b o (λz=>?_) (YB _ (YB _ hb));have:=YL hb;rw[z,sz] at this;exact JI _ (GJ this)
theorem Ri {l:Addr}{i:Nat}{items}{Q:Option Value->Shared->Prop}(hq:Qt A s.heap)
  (hit:s.heap.IsListIter it l i) (hl:s.heap.IsList l items) (hx:items[i]?=none)
  (hQ:∀ h',Heap.ExtBut it s.heap h'->Q none { s with heap:=h' }):wpAny (model prog w) A (pyNext (.ref it)) Q E s:=by
 obtain⟨o,ho,hc,hd⟩:=id hit;obtain⟨ol,hol,_,nl,hdl⟩:=hl;unfold pyNext;refine YA (qT (JE (name:=Str.ofString "__next__") hit.typeIs zJ
  (JM zJ hit.typeIs entry_listiter_next ?_ (args_listiter_next _))))
 show wpAny _ _ (field (.ref it) 0 >>= _) _ _ s;refine YA (JH ho hd (x:=.ref l) rfl ?_);show wpAny _ _ (if (Value.ref l == Value.none)=true then _ else _) _ _ s;rw[XB (show ¬ ((Value.ref l == Value.none)=true) from YS)];show wpAny _ _ (field (.ref it) 1 >>= _) _ _ s;refine YA (JH ho hd (x:=.int i 0) rfl ?_);show wpAny _ _ (seqItems? (.ref l) >>= _) _ _ s;refine YA (JZ hol hdl ?_);simp only [qF,hx];refine YA (qU (YA (zd ho hd (by simp) ?_)));refine Ur (hq:=(hq.but ho λn=>?_)) λh' e k he=>?_
 ·obtain⟨vs,e1,e2⟩:=n;rw[hd] at e1
  cases e1;simp at e2
 obtain⟨oe,h1,h2⟩:=he;refine YA (qq (T:="StopIteration") (b:=true) ⟨_,h1,h2⟩ zQ ?_);exact YI (hQ _ λb o hb e=>k b o ((JD ..).extBut b o hb e))
theorem Th {t:Addr}{i:Nat}{items}{Q:Option Value->Shared->Prop}(hq:Qt A s.heap)
  (hit:s.heap.IsTupleIter it t i) (ht:s.heap.IsTuple t items) (hx:items[i]?=none)
  (hQ:∀ h',Heap.ExtBut it s.heap h'->Q none { s with heap:=h' }):wpAny (model prog w) A (pyNext (.ref it)) Q E s:=by
 obtain⟨o,ho,hc,hd⟩:=id hit;obtain⟨ol,hol,_,nl,hdl⟩:=ht;unfold pyNext;refine YA (qT (JE (name:=Str.ofString "__next__") hit.typeIs GI
  (JM GI hit.typeIs zt ?_ (zn _))))
 show wpAny _ _ (field (.ref it) 0 >>= _) _ _ s;refine YA (JH ho hd (x:=.ref t) rfl ?_);show wpAny _ _ (if (Value.ref t == Value.none)=true then _ else _) _ _ s;rw[XB (show ¬ ((Value.ref t == Value.none)=true) from YS)];show wpAny _ _ (field (.ref it) 1 >>= _) _ _ s;refine YA (JH ho hd (x:=.int i 0) rfl ?_);show wpAny _ _ (seqItems? (.ref t) >>= _) _ _ s;refine YA (JZ hol hdl ?_);simp only [qF,hx];refine YA (qU (YA (zd ho hd (by simp) ?_)));refine Ur (hq:=(hq.but ho λn=>?_)) λh' e k he=>?_
 ·obtain⟨vs,e1,e2⟩:=n;rw[hd] at e1
  cases e1;simp at e2
 obtain⟨oe,h1,h2⟩:=he;refine YA (qq (T:="StopIteration") (b:=true) ⟨_,h1,h2⟩ zQ ?_);exact YI (hQ _ λb o hb e=>k b o ((JD ..).extBut b o hb e))
theorem Nz {x left step:Int}{Q:Option Value->Shared->Prop}(hq:Qt A s.heap)(hit:IsRangeIter s.heap it x left step)(hleft:left<=0)
  (hQ:∀ h',Heap.ExtBut it s.heap h'->Q none { s with heap:=h' }):wpAny (model prog w) A (pyNext (.ref it)) Q E s:=by
 have hT:s.TypeIs (.ref it) "range_iterator":=⟨_,hit,rfl⟩;unfold pyNext;refine YA (qT (JE (name:=Str.ofString "__next__") hT Y07
  (JM Y07 hT F.entry_range_iterator_next ?_ (F.args_range_iterator_next_1 _))))
 show wpAny _ _ (field (.ref it) 0 >>= _) _ _ s;refine YA (JH hit rfl (x:=rawInt x) rfl ?_);show wpAny _ _ (field (.ref it) 1 >>= _) _ _ s;refine YA (JH hit rfl (x:=rawInt left) rfl ?_);show wpAny _ _ (field (.ref it) 2 >>= _) _ _ s;refine YA (JH hit rfl (x:=rawInt step) rfl ?_);show wpAny _ _ (if left<=0 then _ else _) _ _ s;rw[XF hleft];refine YA (qU ?_);refine YA ?_;refine Ur (hq:=hq) λh' e k he=>?_;obtain⟨oe,h1,h2⟩:=he;refine YA (qq (T:="StopIteration") (b:=true) ⟨_,h1,h2⟩ zQ ?_);exact YI (hQ _ λb o hb e=>k b o e)
theorem Q2 {t:Addr}{items:Array Value}{Q:List Value->Shared->Prop}(hq:Qt A s.heap)(ht:IsTup s.heap t items)
  (hQ:∀ h',Heap.ExtBut s.heap.objs.size s.heap h'->Q items.toList { s with heap:=h' }):wpAny (model prog w) A (unpackItems (.ref t) items.size none) Q E s:=by
 have hlt:t≠s.heap.objs.size:=by obtain⟨o,ho,_⟩:=ht;exact XE (YL ho)
 unfold unpackItems;refine YA ?_;unfold notIterableAtAll;refine YA (zF ht.typeIs slot_tuple_iter.lookup ?_);refine YI ?_;simp only [XV,GU];refine YA (GB (iter_tuple ht ?_));refine YA (GB (draw_tuple hlt items.size 0 _ _ ⟨_,YM _ rfl,rfl,rfl⟩ (ht.push _) (by omega) λh₁ hit₁ hs₁=>?_));have hall:List.take items.size (List.drop 0 items.toList)=items.toList:=by
  rw[List.drop_zero];exact YV (by simp)
 rw[hall];rw[XB (by simp)];have ht₁:IsTup h₁ t items:=(ht.push _).extBut hs₁.extBut hlt;have kp:∀ b o,s.heap.get? b=some o->h₁.get? b=some o:=λb o e=>hs₁.extBut b o (λz=>by have:=YL e;rw[z] at this;exact JI _ this) (YB _ e);refine YA (GB (Th (hq.keeps λb o e _=>kp b o e) hit₁ ht₁ (by simp) λh₂ he₂=>?_));simp only [Y1a,XV,GU];refine YI (hQ h₂ λb o hb e=>he₂ b o hb (kp b o e))
theorem Q1 {env:Env}{elts:TL}{x1}{pos:Pos}{t:Addr}{items:Array Value}{Q:Unit->Shared->Prop}(hq:Qt A s.heap)(ht:IsTup s.heap t items)
  (hn:(assignEach elts env).length=items.size) (hstar:(assignEach elts env).findIdx? (·.1)=none)
  (h:∀ h',Heap.ExtBut s.heap.objs.size s.heap h'->wpAny (model prog w) A (assignInOrder ((assignEach elts env).map (·.2)) items.toList) Q E { s with heap:=h' }) :
  wpAny (model prog w) A (assign (.Tuple elts x1 pos) env (.ref t)) Q E s:=by
 rw[assign_Tuple];refine YA (jm ?_);unfold unpack;rw[hn,hstar];exact YA (GB (Q2 hq ht h))
end
theorem Walks.listQ {qs:TD}(hq:QtP A qs)(I ax:Addr)(hne:ax≠I)(hqs:∀ p∈qs,p.1≠I)(items:Array Value) :
  Walks prog w A I (I::ax::qs.map Prod.fst) [I] items.size (λi v=>items[i]?=some v) (λi h=>h.IsListIter I ax i/\h.IsList ax items/\∀ p∈qs,h.get? p.1=some p.2) where
 sub:=λb hb=>by simp at hb;simp[hb]
 frame:=λ_ _ _ st hk=>⟨st.1.at λo e=>hk I (by simp) o e,st.2.1.at λo e=>hk ax (by simp) o e,λp hp=>hk p.1 (by simp;exact .inr (.inr ⟨p.2,hp⟩)) p.2 (st.2.2 p hp)⟩
 item:=λi s Q E hi st hQ=>by
  refine wpAny_pyNext_list_item st.1 st.2.1 (x:=items[i]) (by simp[hi]) λh' hit' hs'=>?_;exact hQ _ h' s.toks (by simp[hi]) ⟨hit',st.2.1.extBut hs'.extBut hne,λp hp=>hs'.extBut p.1 p.2 (hqs p hp) (st.2.2 p hp)⟩ λb o hb e=>hs'.extBut b o (λh=>hb (by simp[h])) e
 done:=λs Q E st hQ=>Ri (hq.at st.2.2) st.1 st.2.1 (by simp) λh' he'=>hQ h' s.toks λb o hb e=>he' b o (λh=>hb (by simp[h])) e
 self:=λ_ _ _ _ st hQ=>wpAny_pyIter_listiter st.1 hQ
theorem Lm {prog:TU}{w:World}{A:Around}{I:Addr}{a c:Int}{n:Nat}(i:Nat)(s:Shared)(Q:Option Value->Shared->Prop)(E:TC)(hi:i<n)(st:IsRangeIter s.heap I (a+(i:Nat)*c) ((n:Int) - (i:Nat)) c)
  (hQ:∀ v h' tk,(∃ t,v=Value.int (a+i*c) t)->IsRangeIter h' I (a+((i+1:Nat):Int)*c) ((n:Int) - ((i+1:Nat):Int)) c->(∀ b o,b ∉ [I]->s.heap.get? b=some o->h'.get? b=some o)->Q (some v) { s with heap:=h',toks:=tk }) :
  wpAny (model prog w) A (pyNext (.ref I)) Q E s:=by
 refine wpAny_pyNext_range_item st (by omega) λh' hit' hs'=>?_;refine hQ _ h' _ ⟨_,rfl⟩ ?_ λb o hb e=>hs'.extBut b o (λh=>hb (by simp[h])) e;have e1:a+((i+1:Nat):Int)*c=a+(i:Int)*c+c:=by push_cast;rw[Int.add_mul,Y0T,Int.add_assoc]
 have e2:(n:Int) - ((i+1:Nat):Int)=(n:Int) - (i:Int) - 1:=by push_cast;omega
 rw[e1,e2];exact hit'
def QtE (A:Around)(h:Heap)(H:Addr->Option α)(fs:TJ):Prop:=A.handled=none \/ ∃ a o,A.handled=some (.ref a)/\h.get? a=some o/\NoCtx o/\H a=none/\a ∉ fs/\∀ v,o.data≠.cell v
def qpin (A:Around)(h:Heap):List (Addr × Obj):=match A.handled with
 | some (.ref a)=>match h.get? a with
  | some o=>[(a,o)]
  | none=>[]
 | _=>[]
theorem QtE.pin {H:Addr->Option α}{fs:TJ}(q:QtE A h H fs):QtP A (qpin A h):=by
 rcases q with q | ⟨a,o,e,g,n,_⟩
 ·exact .inl q
 refine .inr ⟨(a,o),?_,e,n⟩;unfold qpin;rw[e];dsimp only;rw[g];simp
theorem QtE.mem {H:Addr->Option α}{fs:TJ}(q:QtE A h H fs)(p:Addr × Obj)(hp:p∈qpin A h):h.get? p.1=some p.2/\H p.1=none/\p.1 ∉ fs/\∀ v,p.2.data≠.cell v:=by
 rcases q with q | ⟨a,o,e,g,n,h1,h2,h3⟩
 ·unfold qpin at hp;rw[q] at hp
  cases hp
 unfold qpin at hp;rw[e] at hp;dsimp only at hp;rw[g] at hp;obtain rfl:p=(a,o):=by simpa using hp
 exact⟨g,h1,h2,h3⟩
section
variable {prog:TU}{w:World}{A:Around}{E:TC}{s:Shared}
theorem U6 {l:Addr}{i:Nat}{items}{Q:TC}(hq:Qt A s.heap)
  (hit:s.heap.IsListIter it l i) (hl:s.heap.IsList l items) (hx:items[i]?=none)
  (hE:∀ h' e,Heap.ExtBut it s.heap h'->(∃ o,h'.get? e=some o/\o.cls=.type "StopIteration")->E (.ref e) { s with heap:=h' }) :
  wpAny (model prog w) A (Builtin.SmallTypes.nextOf (.ref it)) Q E s:=by
 obtain⟨o,ho,hc,hd⟩:=id hit;obtain⟨ol,hol,_,nl,hdl⟩:=hl;unfold Builtin.SmallTypes.nextOf;refine YA (JE (name:=Str.ofString "__next__") hit.typeIs zJ
  (JM zJ hit.typeIs entry_listiter_next ?_ (args_listiter_next _)))
 show wpAny _ _ (field (.ref it) 0 >>= _) _ _ s;refine YA (JH ho hd (x:=.ref l) rfl ?_);show wpAny _ _ (if (Value.ref l == Value.none)=true then _ else _) _ _ s;rw[XB (show ¬ ((Value.ref l == Value.none)=true) from YS)];show wpAny _ _ (field (.ref it) 1 >>= _) _ _ s;refine YA (JH ho hd (x:=.int i 0) rfl ?_);show wpAny _ _ (seqItems? (.ref l) >>= _) _ _ s;refine YA (JZ hol hdl ?_);simp only [qF,hx];refine YA (qU (YA (zd ho hd (by simp) ?_)));refine Ur (hq:=(hq.but ho λn=>?_)) λh' e k he=>?_
 ·obtain⟨vs,e1,e2⟩:=n;rw[hd] at e1
  cases e1;simp at e2
 exact hE _ _ (λb o hb e=>k b o ((JD ..).extBut b o hb e)) he
end
theorem Draws.listQ {qs:TD}(hq:QtP A qs)(it l:Addr)(hne:l≠it)(hqs:∀ p∈qs,p.1≠it)(items:Array Value) :
  Draws prog w A it (it::l::qs.map Prod.fst) items.size (λi v=>items[i]?=some v) (λi h=>h.IsListIter it l i/\h.IsList l items/\∀ p∈qs,h.get? p.1=some p.2) where
 live:=λ_ _ st=>let ⟨o,ho,_⟩:=st.1;⟨o,ho⟩
 frame:=λ_ _ _ st hk=>⟨st.1.at λo e=>hk it (by simp) o e,st.2.1.at λo e=>hk l (by simp) o e,λp hp=>hk p.1 (by simp;exact .inr (.inr ⟨p.2,hp⟩)) p.2 (st.2.2 p hp)⟩
 item:=λi s Q E hi st hQ=>by
  refine wpAny_nextOf_list_item st.1 st.2.1 (x:=items[i]) (by simp[hi]) λh' hit' hs'=>?_;exact hQ _ h' s.toks (by simp[hi]) ⟨hit',st.2.1.extBut hs'.extBut hne,λp hp=>hs'.extBut p.1 p.2 (hqs p hp) (st.2.2 p hp)⟩ hs'
 done:=λs Q E st hE=>U6 (hq.at st.2.2) st.1 st.2.1 (by simp) hE
section
variable {prog:TU}{w:World}{A:Around}{E:TC}{s:Shared}{l:Addr}{xs:Array (Int × Tok)}{qs:TD}
theorem Z42 {Q:TC}(hp:∀ p∈qs,s.heap.get? p.1=some p.2)(hl:s.heap.IsList l (intItems xs))
  (h:∀ s₂:Shared,s₂={ s with heap:=s.heap.push { cls:=.type "list_iterator",data:=.fields #[.ref l,.int 0 0] } } →
   (s₂.heap.IsListIter s.heap.objs.size l 0/\s₂.heap.IsList l (intItems xs)/\∀ p∈qs,s₂.heap.get? p.1=some p.2)->(∀ b∈s.heap.objs.size::l::qs.map Prod.fst,b<s₂.heap.objs.size)->l≠s.heap.objs.size->(∀ p∈qs,p.1≠s.heap.objs.size)->Q (.ref s.heap.objs.size) s₂) :
  wpAny (model prog w) A (pyIter (.ref l)) Q E s:=by
 refine iter_intList hl λs₂ e st hb hne=>h s₂ e ⟨st.1,st.2,λp q=>?_⟩ (λb m=>?_) hne λp q=>XE (YL (hp p q))
 ·rw[e];exact YB _ (hp p q)
 rcases YK.mp m with m | m
 ·exact hb b (by simp[m])
 rcases YK.mp m with m | m
 ·exact hb b (by simp[m])
 obtain⟨p,q,rfl⟩:=YZ.mp m;rw[e];show _<(s.heap.push _).objs.size;rw[XX];exact qQ (YL (hp p q))
theorem Z4c {Q:TC}(hq:QtP A qs)(hp:∀ p∈qs,s.heap.get? p.1=some p.2)(hl:s.heap.IsList l (intItems xs))
  (h:∀ h' tk t',(∀ b o,s.heap.get? b=some o->h'.get? b=some o)->Q (.int (preSum (numAt xs) xs.size) t') { s with heap:=h',toks:=tk }) :
  wpAny (model prog w) A (call (.builtin "sum") [.ref l]) Q E s:=by
 refine call_sum_walkG (Z42 hp hl λs₂ e st hfp hlI hqI=>?_);subst e;refine⟨_,_,_,_,_,_,numAt xs,rfl,Walks.listQ (A:=A.in1) hq _ l hlI hqI (intItems xs),st,hfp,(λ_ _=>intItems_at),λh' tk t' hk=>?_⟩;have:=h h' tk t' (old_kept hk)
 simpa [intItems] using this
end
section
variable {prog:TU}{w:World}{A:Around}{s:Shared}
end
section
variable {prog:TU}{w:World}{A:Around}{E:TC}{s:Shared}
end
end Sb
namespace L2
open PySem PySem.Spec PyProof.Rows
abbrev Key:=Sum Int Str
def keyIs:Key->Value->Bool
 | .inl k,v=>Value.isInt k v
 | .inr x,v=>Value.isStrOf x v
def keyH (w:World):Key->Int
 | .inl k=>hashInt k
 | .inr x=>hashStr w x
theorem Yl:∀ {k:Key} {v:Value},keyIs k v=true->(∃ i t,k=Sum.inl i/\v=Value.int i t) \/ (∃ x t,k=Sum.inr x/\v=Value.str x t)
 | .inl i,v,h=>by
  obtain⟨t,e⟩:=Value.isInt_shape (k:=i) (v:=v) h;exact .inl ⟨i,t,rfl,e⟩
 | .inr x,v,h=>by
  obtain⟨t,e⟩:=Value.isStrOf_shape (x:=x) (v:=v) h;exact .inr ⟨x,t,rfl,e⟩
theorem Z3y (a b:Int):decide ((Sum.inl a:Key)=Sum.inl b)=(a == b):=by
 by_cases e:a=b
 ·subst e;simp
 have h:¬ (Sum.inl a:Key)=Sum.inl b:=λq=>e (Sum.inl.inj q);rw[XR h];exact (GF.mpr e).symm
theorem Z3v (a b:Str):decide ((Sum.inr a:Key)=Sum.inr b)=decide (a=b):=by
 by_cases e:a=b
 ·subst e;simp
 have h:¬ (Sum.inr a:Key)=Sum.inr b:=λq=>e (Sum.inr.inj q);rw[XR h,XR e]
theorem Z3x (a:Int)(b:Str):decide ((Sum.inl a:Key)=Sum.inr b)=false:=XR (λq=>nomatch q)
theorem Z3w (a:Str)(b:Int):decide ((Sum.inr a:Key)=Sum.inl b)=false:=XR (λq=>nomatch q)
def mixKind (prog:TU)(w:World):PySem.KeyKind prog w Key where
 is:=keyIs
 hash:=keyH w
 inj:=λv a b ha hb=>by
  rcases Yl ha with ⟨i,t,rfl,rfl⟩ | ⟨x,t,rfl,rfl⟩
  ·rcases Yl hb with ⟨j,u,rfl,e⟩ | ⟨y,u,rfl,e⟩
   ·injection e with e1 _;rw[e1]
   exact nomatch e
  rcases Yl hb with ⟨j,u,rfl,e⟩ | ⟨y,u,rfl,e⟩
  ·exact nomatch e
  injection e with e1 _;rw[e1]
 byValue:=λk v h=>by
  rcases Yl h with ⟨i,t,rfl,rfl⟩ | ⟨x,t,rfl,rfl⟩ <;> rfl
 pyHash:=λhv h=>by
  rcases Yl hv with ⟨i,t,rfl,rfl⟩ | ⟨x,t,rfl,rfl⟩
  ·exact wpAny_pyHash_int h
  exact wpAny_pyHash_str h
 eqBool:=λhu hv h=>by
  rcases Yl hu with ⟨i,t,rfl,rfl⟩ | ⟨x,t,rfl,rfl⟩
  ·rcases Yl hv with ⟨j,u,rfl,rfl⟩ | ⟨y,u,rfl,rfl⟩
   ·rw[Z3y] at h;exact wpAny_eqBool_int h
   rw[Z3x] at h;exact SeqAt.EqAt.int_str i t y u _ _ _ _ h
  rcases Yl hv with ⟨j,u,rfl,rfl⟩ | ⟨y,u,rfl,rfl⟩
  ·rw[Z3w] at h;exact SeqAt.EqAt.str_int x t j u _ _ _ _ h
  rw[Z3v] at h;exact wpAny_eqBool_str h
 «strs»:=λk x t v h=>by
  rcases Yl h with ⟨i,u,rfl,e⟩ | ⟨y,u,rfl,e⟩
  ·exact nomatch e
  injection e with e1 _
  subst e1
  cases v <;> rfl
end L2
namespace L2
open PySem PySem.Spec PyProof.Rows
inductive V where
 | non | bl (b:Bool) | int (i:Int) | str (x:Str) | byt (b:Array UInt8) | flt (b:UInt64) | ref (a:Addr) | ty (n:String)
 deriving DecidableEq
abbrev _root_.UA:=Option V
abbrev _root_.TZ:=List V
def RelV:V->Value->Prop
 | .non,u=>u=Value.none
 | .bl b,u=>u=Value.bool b
 | .int i,u=>∃ t,u=Value.int i t
 | .str x,u=>∃ t,u=Value.str x t
 | .byt b,u=>∃ t,u=Value.bytes b t
 | .flt b,u=>∃ t,u=Value.float b t
 | .ref a,u=>u=Value.ref a
 | .ty n,u=>u=Value.type n
abbrev Vals:List V->List Value->Prop:=Paired RelV
theorem Vals.length {xs:TZ}{us:TH}(r:Vals xs us):xs.length=us.length:=YW r
theorem Vals.get:∀ {xs:TZ} {us:TH} {i:Nat} {x:V},Vals xs us->xs[i]?=some x->∃ u,us[i]?=some u/\RelV x u
 | _,_,_,_,.nil,e=>by simp at e
 | _,_,0,_,.cons r _,e=>by simp at e;subst e;exact⟨_,rfl,r⟩
 | _,_,i+1,x,.cons _ t,e=>by
  obtain⟨u,h1,h2⟩:=Vals.get (i:=i) (x:=x) t (by simpa using e);exact⟨u,by simpa using h1,h2⟩
theorem Vals.set {x:V}{u:Value}(r:RelV x u):∀ {xs:TZ} {us:TH} (i:Nat),Vals xs us->Vals (xs.set i x) (us.set i u)
 | _,_,_,.nil=>.nil
 | _,_,0,.cons _ t=>.cons r t
 | _,_,i+1,.cons q t=>.cons q (Vals.set r i t)
theorem Vals.append:∀ {xs ys:TZ} {us ws:TH},Vals xs us->Vals ys ws->Vals (xs++ys) (us++ws)
 | _,_,_,_,.nil,s=>s
 | _,_,_,_,.cons r t,s=>.cons r (Vals.append t s)
theorem Vals.take:∀ {xs:TZ} {us:TH} (n:Nat),Vals xs us->Vals (xs.take n) (us.take n)
 | _,_,0,_=>.nil
 | _,_,_+1,.nil=>.nil
 | _,_,n+1,.cons r t=>.cons r (Vals.take n t)
theorem Vals.drop:∀ {xs:TZ} {us:TH} (n:Nat),Vals xs us->Vals (xs.drop n) (us.drop n)
 | _,_,0,r=>r
 | _,_,_+1,.nil=>.nil
 | _,_,n+1,.cons _ t=>Vals.drop n t
def RelO:Option V->Option Value->Prop
 | some v,some u=>RelV v u
 | none,none=>True
 | _,_=>False
def KV {κ:Type}:List (κ × V)->List (κ × Value)->Prop:=Paired λ(p:κ × V) (q:κ × Value)=>p.1=q.1/\RelV p.2 q.2
def kV:Key->V
 | .inl i=>.int i
 | .inr x=>.str x
inductive HO where
 | lst (xs:TZ)
 | tup (xs:TZ)
 | dK (kvs:List (Key × V)) | dT (kvs:List (List Key × V))
 | set (S:Int->Bool) (n:Nat)
 | ins (C dx:Addr) (fs:List (Str × V))
 | own (x:Addr)
 | xd (fs:List (Str × V))
 | met (f x:Addr)
 | rng (lo hi:Int)
 | frz (o:Obj) (u:HO)
 | tbl (ps:Array Value)
 | ext (φ:Heap->Prop)
abbrev Hp:=Addr->Option HO
def upd (H:Hp)(a:Addr)(o:HO):Hp:=λb=>if b=a then some o else H b
theorem Zb {H:Hp}{a:Addr}{o:HO}:upd H a o a=some o:=by unfold upd;rw[XF rfl]
theorem Ze {H:Hp}{a b:Addr}{o:HO}(h:b≠a):upd H a o b=H b:=by unfold upd;rw[XB h]
theorem Z2n {H:Hp}{a b:Addr}{o u:HO}(h:H a=some o)(h':H b=some u)(d:o≠u):a≠b:=by
 intro e;subst e;rw[h] at h';exact d (YR h')
theorem Zd {H:Hp}{a b:Addr}{o:HO}(h:H a=some o)(h':H b=none):a≠b:=by
 intro e;subst e;rw[h] at h';cases h'
section
variable (P:TU)(w:World)
def ObjOk (H:Hp)(h:Heap)(a:Addr):HO->Prop
 | .lst xs=>xs.length<=sizeLine/\∃ (its:TH) (n:Nat),Vals xs its/\h.get? a=some { cls:=.type "list",data:=.seq its.toArray n }
 | .tup xs=>xs.length<=sizeLine/\∃ its:List Value,Vals xs its/\IsTup h a its.toArray
 | .dK kvs=>kvs.length<=sizeLine/\(a == sysModules)=false/\∃ vs,KV kvs vs/\h.DictOf (mixKind P w) a vs
 | .dT kvs=>kvs.length<=sizeLine/\(a == sysModules)=false/\∃ xs:List (List Key × Addr × Value),
   Paired (λ(p:List Key × V) (q:List Key × Addr × Value)=>p.1=q.1/\H q.2.1=some (.tup (p.1.map kV))/\RelV p.2 q.2.2) kvs xs ∧
   ∃ o es ep,h.get? a=some o/\o.ExactDict/\o.data=.dict es ep/\es.toList=xs.map (entryOfKey (tupleKind (mixKind P w)))/\(xs.map (·.1)).Nodup
 | .set S n=>h.SetOf (intKind P w) a S n
 | .ins C dx fs=>H dx=some (.own a)/\fs.length<=1000/\dx≠a/\h.get? a=some (W.instObj C dx) ∧
   ∃ mA,h.Ns1 dx mA/\(∀ f,RelO (fs.lookup f) (mA f))/\PySem.Within mA (fs.map (·.1))
 | .own _=>∃ o,h.get? a=some o
 | .xd fs=>∃ mA,h.Ns1 a mA/\∀ f,RelO (fs.lookup f) (mA f)
 | .rng lo hi=>∃ t u v,h.get? a=some { cls:=.type "range",data:=.fields #[.int lo t,.int hi u,.int 1 v] }
 | .frz o u=>h.get? a=some o/\ObjOk H h a u
 | .tbl ps=>h.get? a=some { cls:=.none,data:=.fields ps }
 | .met f x=>h.get? a=some (W.methodObj (.ref f) (.ref x))
 | .ext φ=>φ h/\(∃ o,h.get? a=some o)/\∀ h1 h2:Heap,φ h1->(∀ o,h1.get? a=some o->h2.get? a=some o)->φ h2
def HOk (H:Hp)(h:Heap):Prop:=∀ a o,H a=some o->ObjOk P w H h a o
end
section
variable {P:TU}{w:World}{H H':Hp}{h h':Heap}{a:Addr}{o:HO}
theorem ObjOk.lt (x:ObjOk P w H h a o):a<h.objs.size:=by
 cases o with
 | lst xs=>obtain⟨_,_,_,_,e⟩:=x;exact YL e
 | tup xs=>obtain⟨_,_,_,p⟩:=x;exact p.lt
 | dK kvs=>obtain⟨_,_,_,_,o,_,_,e,_⟩:=x;exact YL e
 | dT kvs=>obtain⟨_,_,_,_,o,_,_,e,_⟩:=x;exact YL e
 | set S n=>obtain⟨o,_,_,_,e,_⟩:=x;exact YL e
 | ins C dx fs=>obtain⟨_,_,_,e,_⟩:=x;exact YL e
 | own y=>obtain⟨_,e⟩:=x;exact YL e
 | xd fs=>obtain⟨_,⟨_,_,_,e,_⟩,_⟩:=x;exact YL e
 | rng lo hi=>obtain⟨_,_,_,e⟩:=x;exact YL e
 | frz ob u=>obtain⟨e,_⟩:=x;exact YL e
 | tbl ps=>exact YL (show h.get? a=some _ from x)
 | met f y=>exact YL (show h.get? a=some _ from x)
 | ext φ=>obtain⟨_,⟨_,e⟩,_⟩:=x;exact YL e
theorem Paired.mapP {α β:Type}{F G:α->β->Prop}:∀ {l₁:List α} {l₂:List β},Paired F l₁ l₂->(∀ a b,F a b->G a b)->Paired G l₁ l₂
 | _,_,.nil,_=>.nil
 | _,_,.cons r t,f=>.cons (f _ _ r) (Paired.mapP t f)
theorem ObjOk.stay (x:ObjOk P w H h a o)(k:∀ b u,(b=a \/ H b=some (.own a))->h.get? b=some u->h'.get? b=some u)
  (ho:∀ b,H b=some (.own a)->H' b=some (.own a)) (ht:∀ b xs,H b=some (.tup xs)->H' b=some (.tup xs)):ObjOk P w H' h' a o:=by
 induction o with
 | lst xs=>obtain⟨z,its,n,r,e⟩:=x;exact⟨z,its,n,r,k _ _ (.inl rfl) e⟩
 | tup xs=>obtain⟨z,its,r,ob,e,c⟩:=x;exact⟨z,its,r,ob,k _ _ (.inl rfl) e,c⟩
 | dK kvs=>obtain⟨z,y,vs,r,ob,es,ep,e,c⟩:=x;exact⟨z,y,vs,r,ob,es,ep,k _ _ (.inl rfl) e,c⟩
 | dT kvs =>
  obtain⟨z,y,xs,r,ob,es,ep,e,c⟩:=x;exact⟨z,y,xs,Paired.mapP r λp q z=>⟨z.1,ht _ _ z.2.1,z.2.2⟩,ob,es,ep,k _ _ (.inl rfl) e,c⟩
 | set S n=>obtain⟨ob,es,ep,t,e,c⟩:=x;exact⟨ob,es,ep,t,k _ _ (.inl rfl) e,c⟩
 | ins C dx fs =>
  obtain⟨d,z,ne,e,mA,⟨od,es,ep,e2,c⟩,r⟩:=x;exact⟨ho _ d,z,ne,k _ _ (.inl rfl) e,mA,⟨od,es,ep,k _ _ (.inr d) e2,c⟩,r⟩
 | own y=>obtain⟨ob,e⟩:=x;exact⟨ob,k _ _ (.inl rfl) e⟩
 | xd fs=>obtain⟨mA,⟨od,es,ep,e,c⟩,r⟩:=x;exact⟨mA,⟨od,es,ep,k _ _ (.inl rfl) e,c⟩,r⟩
 | rng lo hi=>obtain⟨t,u,v,e⟩:=x;exact⟨t,u,v,k _ _ (.inl rfl) e⟩
 | frz ob u ih=>obtain⟨e,q⟩:=x;exact⟨k _ _ (.inl rfl) e,ih q⟩
 | tbl ps =>
  have e:h.get? a=some { cls:=.none,data:=.fields ps }:=x;show h'.get? a=some { cls:=.none,data:=.fields ps };exact k a _ (.inl rfl) e
 | met f y =>
  have e:h.get? a=some (W.methodObj (.ref f) (.ref y)):=x;show h'.get? a=some (W.methodObj (.ref f) (.ref y));exact k a _ (.inl rfl) e
 | ext φ=>obtain⟨p,⟨o,e⟩,st⟩:=x;exact⟨st _ _ p λo q=>k _ _ (.inl rfl) q,⟨o,k _ _ (.inl rfl) e⟩,st⟩
theorem HOk.lt (x:HOk P w H h)(e:H a=some o):a<h.objs.size:=(x a o e).lt
theorem HOk.fresh (x:HOk P w H h)(e:h.objs.size<=a):H a=none:=by
 cases q:H a with
 | none=>rfl
 | some u=>exact absurd (YT (x.lt q) e) (JI _)
theorem HOk.kept (x:HOk P w H h)(k:∀ b u,h.get? b=some u->h'.get? b=some u):HOk P w H h':=λa o e =>
 (x a o e).stay (λb u _ q=>k b u q) (λ_ q=>q) λ_ _ q=>q
theorem HOk.laid (x:HOk P w H h)(k:∀ b u,h.get? b=some u->h'.get? b=some u)(hp:h.objs.size<=a)(new:ObjOk P w (upd H a o) h' a o):HOk P w (upd H a o) h':=λb u e=>by
 have hn:=x.fresh hp;by_cases hb:b=a
 ·subst hb;rw[Zb] at e;cases e;exact new
 rw[Ze hb] at e;exact (x b u e).stay (λc v _ q=>k c v q) (λc q=>by rw[Ze (Zd q hn)];exact q) λc xs q=>by rw[Ze (Zd q hn)];exact q
end
def Rd (H:Hp)(a:Addr)(u:HO):Prop:=H a=some u \/ ∃ o,H a=some (.frz o u)
theorem Rd.ok {P:TU}{H:Hp}{a:Addr}{u:HO}(r:Rd H a u)(x:HOk P w H h):ObjOk P w H h a u:=by
 rcases r with r | ⟨o,r⟩
 ·exact x a u r
 obtain⟨_,q⟩:=x a _ r;exact q
def Mut:Option HO->Prop
 | some (.lst _)=>True
 | some (.dK _)=>True
 | some (.dT _)=>True
 | some (.set _ _)=>True
 | some (.ins _ _ _)=>True
 | some (.ext _)=>True
 | _=>False
section
variable {P:TU}{w:World}{H:Hp}{h h':Heap}{x e:Addr}{o':HO}
theorem HOk.write (ok:HOk P w H h)(mu:Mut (H x))(he:e=x \/ H e=some (.own x))(k:∀ b u,b≠e->h.get? b=some u->h'.get? b=some u)(heo:∃ u,h'.get? e=some u)
  (new:ObjOk P w (upd H x o') h' x o'):HOk P w (upd H x o') h':=λb u q=>by
 have nown:∀ c y,H c=some (.own y)->c≠x:=λc y r z=>by subst z;rw[r] at mu;exact mu
 have ntup:∀ c xs,H c=some (.tup xs)->c≠x:=λc xs r z=>by subst z;rw[r] at mu;exact mu
 by_cases hb:b=x
 ·subst hb;rw[Zb] at q;cases q;exact new
 rw[Ze hb] at q;by_cases hbe:b=e
 ·have q':H b=some (.own x):=by
   rcases he with z | z
   ·exact absurd (hbe.trans z) hb
   rw[hbe];exact z
  rw[q] at q';cases q';obtain⟨v,hv⟩:=heo;exact⟨v,by rw[hbe];exact hv⟩
 refine (ok b u q).stay (λc v hc r=>k c v ?_ r) (λc r=>by rw[Ze (nown c b r)];exact r) λc xs r=>by rw[Ze (ntup c xs r)];exact r
 rcases hc with rfl | hc
 ·exact hbe
 rintro rfl;rcases he with z | z
 ·exact nown c b hc z
 rw[hc] at z;cases z;exact hb rfl
end
structure Un (fs ex:TJ)(H H':Hp)(h h':Heap):Prop where
 keep:∀ b o,h.get? b=some o->H b=none->b ∉ fs->b ∉ ex->h'.get? b=some o
 slot:∀ b o,h.get? b=some o->H b=none->b∈fs->b ∉ ex->∃ sl,h'.get? b=some { o with slots:=sl }
 free:∀ b o,h.get? b=some o->H b=none->b ∉ ex->H' b=none
 there:∀ b o,h.get? b=some o->b ∉ ex->∃ o',h'.get? b=some o'
 tups:∀ b xs,H b=some (.tup xs)->H' b=some (.tup xs)
 frzs:∀ b o u,H b=some (.frz o u)->H' b=some (.frz o u)
 tbls:∀ b ps,H b=some (.tbl ps)->∃ more,H' b=some (.tbl (ps++more))
section
variable {fs fs' ex ex':TJ}{H H1 H2:Hp}{h h1 h2 h':Heap}{a x e:Addr}{o:HO}
theorem Un.any (u:Un fs ex H H1 h h1){b:Addr}{ob:Obj}(q:h.get? b=some ob)(n:H b=none)(hx:b ∉ ex):∃ sl,h1.get? b=some { ob with slots:=sl }:=by
 by_cases hb:b∈fs
 ·exact u.slot b ob q n hb hx
 exact⟨ob.slots,u.keep b ob q n hb hx⟩
theorem Un.kept (k:∀ b u,h.get? b=some u->h'.get? b=some u):Un fs ex H H h h' :=
 ⟨λb ob q _ _ _=>k b ob q,λb ob q _ _ _=>⟨ob.slots,k b ob q⟩,λ_ _ _ n _=>n,λb ob q _=>⟨ob,k b ob q⟩,λ_ _ q=>q,λ_ _ _ q=>q,λ_ ps q=>⟨#[],by rw[q];simp⟩⟩
theorem Un.refl:Un fs ex H H h h:=Un.kept λ_ _ q=>q
theorem Un.laid (k:∀ b u,h.get? b=some u->h'.get? b=some u)(hp:h.objs.size<=a)(hn:H a=none):Un fs ex H (upd H a o) h h' where
 keep:=λb u q _ _ _=>k b u q
 slot:=λb u q _ _ _=>⟨u.slots,k b u q⟩
 free:=λb u q n _=>by rw[Ze (XE (YT (YL q) hp))];exact n
 there:=λb u q _=>⟨u,k b u q⟩
 tups:=λb xs q=>by rw[Ze (Zd q hn)];exact q
 frzs:=λb u xs q=>by rw[Ze (Zd q hn)];exact q
 tbls:=λb ps q=>⟨#[],by rw[Ze (Zd q hn),q];simp⟩
theorem Un.write (mu:Mut (H x))(he:e=x \/ H e=some (.own x))(k:∀ b u,b≠e->h.get? b=some u->h'.get? b=some u)(heo:∃ u,h'.get? e=some u):Un fs ex H (upd H x o) h h':=by
 have hx:∀ b,H b=none->b≠x:=λb n z=>by subst z;rw[n] at mu;exact mu
 have hb:∀ b,H b=none->b≠e:=λb n z=>by
  subst z;rcases he with r | r
  ·exact hx b n r
  rw[n] at r;cases r
 have hm:∀ b u,H b=some u->¬ Mut (some u)->b≠x:=λb u q nm z=>by subst z;rw[q] at mu;exact nm mu
 refine⟨λb u q n _ _=>k b u (hb b n) q,λb u q n _ _=>⟨u.slots,k b u (hb b n) q⟩,λb u q n _=>by rw[Ze (hx b n)];exact n,λb u q _=>?_,
  λb xs q=>by rw[Ze (hm b _ q λz=>z)];exact q,λb u xs q=>by rw[Ze (hm b _ q λz=>z)];exact q,λb ps q=>⟨#[],by rw[Ze (hm b _ q λz=>z),q];simp⟩⟩
 by_cases hbe:b=e
 ·subst hbe;exact heo
 exact⟨u,k b u hbe q⟩
end
def trk (h:Heap)(H:Hp):List Addr:=(List.range h.objs.size).filter λa=>(H a).isSome
def hidT (h:Heap)(H:Hp):Heap:=W.hideAll h (trk h H)
theorem F3 (h:Heap)(H:Hp):(hidT h H).objs.size=h.objs.size:=W.hideAll_size _ _
theorem Bo {H:Hp}{b:Addr}{o:Obj}(e:h.get? b=some o)(n:H b=none):(hidT h H).get? b=some o :=
 W.hideAll_get _ e λhm=>by
  have q:(H b).isSome=true:=(XI.mp hm).2;rw[n] at q;simp at q
theorem Z1t {h:Heap}{H:Hp}{b:Addr}{o:Obj}(e:(hidT h H).get? b=some o):h.get? b=some o/\H b=none:=by
 have e':h.get? b=some o:=W.of_hideAll (trk h H) e;refine⟨e',?_⟩
 cases q:H b with
 | none=>rfl
 | some x =>
  have hm:b∈trk h H:=XI.mpr ⟨JA.mpr (YL e'),by simp[q]⟩;have z:(hidT h H).get? b=none:=W.hideAll_none (trk h H) hm;rw[z] at e;cases e
def allNews (g h:Heap)(L:Addr):List (Addr × Obj):=(List.range h.objs.size).filterMap λa=>if a=L \/ (g.get? a).isSome=true then none else (h.get? a).map λo=>(a,o)
def rest (g h:Heap)(L d:Addr):List (Addr × Obj):=(allNews g h L).filter λp=>decide (p.1≠d)
end L2
variable {H H' H1 H2:L2.Hp}{o:L2.HO}{v:L2.V}{xs ys:TZ}
namespace Sb
open PySem PySem.Spec PyProof.Rows
def Seen (P:TU)(l:TN):Prop:=P.given.tree=none/\∃ e r,l=e::r/\e.scope.isGenerator=false/\e.scope.isCoroutine=false/\e.builtins=builtinsNs/\e.globals=mainGlobals
end Sb
namespace L2
open PySem PySem.Spec PyProof.Rows
structure Mod (K:TR)(mg:TB)(base:Heap):Prop where
 kin:K.In base
 glob:base.Ns mainGlobals mg
 blt:∃ mb,base.Ns builtinsNs mb/\∀ x:Str,x≠"__name__"->mb x=bootBuiltins x
 nolimit:base.NoLimit
 seer:base.NoSeer
structure Cx where
 prog:Program
 w:World
 K:W.Frag
 mg:Str->Option Value
 base:Heap
 A:Around
 N:List Str
 s₀:Shared
 H₀:Hp
 env:Env
 outer:List Env
 stack:List Env
 ex:List Addr
 fn:Str->Bool
 calm:Bool
 pn:List (Addr × Obj)
 xe:Value->Shared->Prop
def frs (l:TN):List Addr:=l.filterMap (·.frame)
abbrev Cx.fs (X:Cx):List Addr:=frs X.outer
def Vis (sc:Scope)(x:Str):Prop:=sc.names.lookup x=some .local \/ sc.names.lookup x=some .cell \/ sc.names.lookup x=some .free
def Loc (sc:Scope)(x:Str):Prop:=sc.names.lookup x=some .local \/ sc.names.lookup x=some .cell
def Look (env:Env)(h:Heap)(m:TB)(x:Str)(u:Value):Prop :=
 (env.kindOf x=some .local/\m x=some u) \/ ((env.kindOf x=some .cell \/ env.kindOf x=some .free)/\∃ c,env.cells.lookup x=some c/\h.IsCell c (some u))
structure Cx.Ok (X:Cx):Prop where
 mod:Mod X.K X.mg X.base
 kind:X.env.scope.kind=.function
 glob:X.env.globals=mainGlobals
 blt:X.env.builtins=builtinsNs
 above:X.s₀.heap.objs.size<=X.env.locals
 inj:∀ x y c,X.env.cells.lookup x=some c->X.env.cells.lookup y=some c->x=y
 has:∀ x,(X.env.kindOf x=some .cell \/ X.env.kindOf x=some .free)->∃ c,X.env.cells.lookup x=some c
 cab:∀ x c,X.fn x=true->X.env.cells.lookup x=some c->X.s₀.heap.objs.size<=c
 hd:X.calm=true->Sb.QtP X.A X.pn
 frames:X.A.frames=some X.stack
 stk:X.stack=X.outer \/ (X.stack=X.env::X.outer/\X.env.frame=some X.env.locals)
 exf:∀ b∈X.ex,b≠X.env.locals/\∀ x c,X.env.cells.lookup x=some c->c≠b
 bs:∀ b o,X.base.get? b=some o->X.s₀.heap.get? b=some o/\X.H₀ b=none
 bsz:X.base.objs.size<=X.s₀.heap.objs.size
 noex:∀ b o,X.base.get? b=some o->b ∉ X.ex
 exfs:∀ b∈X.ex,b ∉ X.fs
 funs:X.s₀.heap.FunFrames X.base X.outer
 frf:∀ b∈X.fs,X.H₀ b=none
 seen:Sb.Seen X.prog X.stack
 dpt:X.A.depth+100<recursionLimit
structure Inv (X:Cx)(pins:TD)(σ:List (Option V))(H:Hp)(s:Shared):Prop where
 ok:X.Ok
 os:s.os=X.s₀.os
 bare:AllBare s.gens
 base:Un X.fs X.ex X.H₀ H X.s₀.heap s.heap
 loc:∃ m,s.heap.Ns X.env.locals m/\∀ (i:Nat) (x:Str) (v:V),X.N[i]?=some x->σ[i]?=some (some v)->Vis X.env.scope x->∃ u,RelV v u/\Look X.env s.heap m x u
 cell:∀ x c,X.env.cells.lookup x=some c->∃ v,s.heap.IsCell c v
 free:H X.env.locals=none
 freeC:∀ x c,X.env.cells.lookup x=some c->H c=none
 pin:∀ p∈X.pn++pins,s.heap.get? p.1=some p.2/\H p.1=none/\p.1≠X.env.locals/\p.1 ∉ X.fs/\∀ v,p.2.data≠.cell v
 hok:HOk X.prog X.w H s.heap
 len:σ.length=X.N.length
theorem Inv.qt {X:Cx}{σ:List (Option V)}{s:Shared}(I:Inv X pins σ H s)(hc:X.calm=true):Sb.Qt X.A s.heap:=(I.ok.hd hc).at λp hp=>(I.pin p (YJ _ hp)).1
section
variable {X:Cx}{pins:TD}{σ:List (Option V)}{H H':Hp}{s:Shared}{h':Heap}
theorem Cx.Ok.nofr (ok:X.Ok){b:Addr}{o:Obj}(e:X.base.get? b=some o):b ∉ X.fs:=λhb=>by
 have:=(ok.funs.mem hb).1;rw[e] at this;cases this
theorem Inv.bs (I:Inv X pins σ H s):∀ b o,X.base.get? b=some o->s.heap.get? b=some o/\H b=none:=λb o e =>
 ⟨I.base.keep b o (I.ok.bs b o e).1 (I.ok.bs b o e).2 (I.ok.nofr e) (I.ok.noex b o e),I.base.free b o (I.ok.bs b o e).1 (I.ok.bs b o e).2 (I.ok.noex b o e)⟩
theorem Inv.bk (I:Inv X pins σ H s):∀ b o,X.base.get? b=some o->s.heap.get? b=some o:=λb o e=>(I.bs b o e).1
theorem Inv.mod (I:Inv X pins σ H s):Mod X.K X.mg X.base:=I.ok.mod
theorem Inv.kIn (I:Inv X pins σ H s):X.K.In s.heap:=I.ok.mod.kin.keeps I.bk
theorem Inv.nolimit (I:Inv X pins σ H s):s.heap.NoLimit:=I.ok.mod.nolimit.keeps I.bk
theorem Inv.pylong (I:Inv X pins σ H s):PySem.PylongRoom (model X.prog X.w) X.A s:=by
 obtain⟨ht,e,l,hs,h1,h2,h3,h4⟩:=I.ok.seen;exact PySem.PylongRoom.of I.nolimit I.ok.dpt (PySem.SeerAt.of (I.ok.mod.seer.keeps I.bk) ht (by rw[I.ok.frames,hs]) h1 h2 h3 h4)
theorem Inv.lt (I:Inv X pins σ H s):X.env.locals<s.heap.objs.size:=let ⟨_,hn,_⟩:=I.loc;hn.lt
theorem Inv.sz (I:Inv X pins σ H s):X.s₀.heap.objs.size<=s.heap.objs.size:=XD I.ok.above (jy I.lt)
theorem Inv.nofs (I:Inv X pins σ H s){a:Addr}(h:s.heap.objs.size<=a):a ∉ X.fs:=λhb=>by
 obtain⟨_,o,ho,_⟩:=I.ok.funs.mem hb;exact absurd (YT (YL ho) (XD I.sz h)) (JI _)
theorem Inv.cne (I:Inv X pins σ H s):∀ x c,X.env.cells.lookup x=some c->c≠X.env.locals:=λx c e z=>by
 obtain⟨v,o,ho,hd⟩:=I.cell x c e;obtain⟨m,⟨o',es,ep,ho',hd',_⟩,_⟩:=I.loc;rw[z,ho'] at ho;cases ho;rw[hd'] at hd;cases hd
theorem Inv.funs (I:Inv X pins σ H s):s.heap.FunFrames X.base X.outer:=by
 have all:∀ (l:TN),(∀ b∈frs l,b∈X.fs)->X.s₀.heap.FunFrames X.base l->s.heap.FunFrames X.base l:=by
  intro l
  induction l with
  | nil=>intro _ _;trivial
  | cons env r ih =>
   intro hs hl;obtain⟨hk,⟨L,o,hf,hn,ho,hd⟩,hr⟩:=hl;have hL:L∈X.fs:=hs L (by unfold frs;rw[jx,hf];exact YY);obtain⟨sl,e⟩:=I.base.slot L o ho (I.ok.frf L hL) hL λz=>I.ok.exfs L z hL;exact⟨hk,⟨L,_,hf,hn,e,hd⟩,ih (λb hb=>hs b (by unfold frs;rw[jx,hf];exact YQ _ hb)) hr⟩
 exact all X.outer (λ_ hb=>hb) I.ok.funs
theorem Inv.stack (I:Inv X pins σ H s):s.heap.FunFrames X.base X.stack:=by
 rcases I.ok.stk with e | ⟨e,hf⟩
 ·rw[e];exact I.funs
 rw[e];obtain⟨m,hn,_⟩:=I.loc;refine .cons (by rw[I.ok.kind];decide) hf hn ?_ I.funs;exact Heap.get?_none_of_le (XD I.ok.bsz I.ok.above)
theorem Inv.stkSub (I:Inv X pins σ H s):∀ b∈frs X.stack,b∈X.env.locals::X.fs:=λb hb=>by
 rcases I.ok.stk with e | ⟨e,hf⟩
 ·rw[e] at hb;exact YQ _ hb
 rw[e] at hb;unfold frs at hb;rw[jx,hf] at hb;exact hb
theorem Inv.stkFree (I:Inv X pins σ H s):∀ b∈frs X.stack,H b=none:=λb hb=>by
 rcases YK.mp (I.stkSub b hb) with e | hb
 ·rw[e];exact I.free
 obtain⟨_,o,ho,_⟩:=I.ok.funs.mem hb;exact I.base.free b o ho (I.ok.frf b hb) λz=>I.ok.exfs b z hb
theorem Inv.step {g':Array GenState}{t':Nat}{d':Drawn}{ch:TJ}(I:Inv X pins σ H s)
  (hch:∀ b∈ch,(b∈X.ex \/ X.s₀.heap.objs.size<=b)/\b≠X.env.locals/\(∀ x c,X.env.cells.lookup x=some c->c≠b)/\∀ p∈X.pn++pins,p.1≠b)
  (keep:∀ b o,b≠X.env.locals->b ∉ X.fs->b ∉ ch->s.heap.get? b=some o->H b=none->h'.get? b=some o)
  (slot:∀ b o,b≠X.env.locals->b∈X.fs->b ∉ ch->s.heap.get? b=some o->H b=none->∃ sl,h'.get? b=some { o with slots:=sl }) (free:∀ b o,b ∉ ch->s.heap.get? b=some o->H b=none->H' b=none)
  (there:∀ b o,b ∉ ch->s.heap.get? b=some o->∃ o',h'.get? b=some o')
  (tups:∀ b xs,H b=some (.tup xs)->H' b=some (.tup xs)) (frzs:∀ b o u,H b=some (.frz o u)->H' b=some (.frz o u)) (tbls:∀ b ps,H b=some (.tbl ps)->∃ more,H' b=some (.tbl (ps++more)))
  (ns:∀ m,s.heap.Ns X.env.locals m->h'.Ns X.env.locals m) (hok:HOk X.prog X.w H' h') (hg:AllBare g') :
  Inv X pins σ H' { s with heap:=h',gens:=g',drawn:=d',toks:=t' }:=by
 have neL:∀ b o,X.s₀.heap.get? b=some o->b≠X.env.locals:=λb o e=>XE (YT (YL e) I.ok.above);have neC:∀ b o,X.s₀.heap.get? b=some o->b ∉ X.ex->b ∉ ch:=λb o e hx hb=>by
  rcases (hch b hb).1 with z | z
  ·exact hx z
  exact absurd (YT (YL e) z) (JI _)
 have cellK:∀ x c,X.env.cells.lookup x=some c->∀ v,s.heap.IsCell c v->h'.IsCell c v:=λx c e v ⟨o,ho,hd⟩=>by
  have nch:c ∉ ch:=λz=>(hch c z).2.2.1 x c e rfl;by_cases hc:c∈X.fs
  ·obtain⟨sl,q⟩:=slot c o (I.cne x c e) hc nch ho (I.freeC x c e);exact⟨_,q,hd⟩
  exact⟨o,keep c o (I.cne x c e) hc nch ho (I.freeC x c e),hd⟩
 refine⟨I.ok,I.os,hg,⟨λb o e n hb hx=>?_,λb o e n hb hx=>?_,λb o e n hx=>?_,λb o e hx=>?_,λb xs e=>tups b xs (I.base.tups b xs e),λb o xs e=>frzs b o xs (I.base.frzs b o xs e),λb ps e=>?_⟩,?_,λx c e=>?_,?_,λx c e=>?_,λp hp=>?_,hok,I.len⟩
 ·exact keep b o (neL b o e) hb (neC b o e hx) (I.base.keep b o e n hb hx) (I.base.free b o e n hx)
 ·obtain⟨sl,e1⟩:=I.base.slot b o e n hb hx;obtain⟨sl',e2⟩:=slot b _ (neL b o e) hb (neC b o e hx) e1 (I.base.free b o e n hx);exact⟨sl',e2⟩
 ·obtain⟨o',e1⟩:=I.base.there b o e hx;exact free b o' (neC b o e hx) e1 (I.base.free b o e n hx)
 ·obtain⟨o',e1⟩:=I.base.there b o e hx;exact there b o' (neC b o e hx) e1
 ·obtain⟨m1,e1⟩:=I.base.tbls b ps e;obtain⟨m2,e2⟩:=tbls b _ e1;exact⟨m1++m2,by rw[e2,Array.append_assoc]⟩
 ·obtain⟨m,hn,hl⟩:=I.loc;refine⟨m,ns m hn,λi x v e1 e2 e3=>?_⟩;obtain⟨u,r,l⟩:=hl i x v e1 e2 e3;refine⟨u,r,?_⟩;rcases l with l | ⟨k,c,e,z⟩
  ·exact .inl l
  exact .inr ⟨k,c,e,cellK x c e _ z⟩
 ·obtain⟨v,z⟩:=I.cell x c e;exact⟨v,cellK x c e v z⟩
 ·obtain⟨m,⟨o,_,_,ho,_⟩,_⟩:=I.loc;exact free _ o (λz=>(hch _ z).2.1 rfl) ho I.free
 ·obtain⟨v,o,ho,hd⟩:=I.cell x c e;exact free c o (λz=>(hch c z).2.2.1 x c e rfl) ho (I.freeC x c e)
 obtain⟨e,n,ne,nf,d⟩:=I.pin p hp;have nch:p.1 ∉ ch:=λz=>(hch p.1 z).2.2.2 p hp rfl;exact⟨keep p.1 p.2 ne nf nch e n,free p.1 p.2 nch e n,ne,nf,d⟩
theorem Inv.un {t':Nat}(I:Inv X pins σ H s)(u:Un X.fs [] H H' s.heap h')(hok:HOk X.prog X.w H' h'):Inv X pins σ H' { s with heap:=h',toks:=t' }:=by
 obtain⟨m,⟨o,es,ep,ho,r⟩,_⟩:=id I.loc;obtain⟨sl,hL⟩:=u.any ho I.free (by simp);exact I.step (g':=s.gens) (d':=s.drawn) (ch:=[]) (λ_ z=>nomatch z) (λb o _ hb _ e n=>u.keep b o e n hb (by simp)) (λb o _ hb _ e n=>u.slot b o e n hb (by simp)) (λb o _ e n=>u.free b o e n (by simp)) (λb o _ e=>u.there b o e (by simp)) u.tups u.frzs u.tbls (λm' hm=>by
  obtain⟨o',es',ep',ho',r'⟩:=hm;rw[ho] at ho';cases ho';exact⟨_,es',ep',hL,r'⟩) hok I.bare
theorem Inv.call {g':Array GenState}{t':Nat}{d':Drawn}{ch:TJ}(I:Inv X pins σ H s)(u:Un (frs X.stack) ch H H' s.heap h')(hok:HOk X.prog X.w H' h')(hg:AllBare g')
  (hch:∀ b∈ch,(b∈X.ex \/ X.s₀.heap.objs.size<=b)/\b≠X.env.locals/\(∀ x c,X.env.cells.lookup x=some c->c≠b)/\∀ p∈X.pn++pins,p.1≠b) :
  Inv X pins σ H' { s with heap:=h',gens:=g',drawn:=d',toks:=t' }:=by
 obtain⟨m,⟨o,es,ep,ho,r⟩,_⟩:=id I.loc;obtain⟨sl,hL⟩:=u.any ho I.free λz=>(hch _ z).2.1 rfl;exact I.step (ch:=ch) hch (λb o hL hb hc e n=>u.keep b o e n (λz=>(YK.mp (I.stkSub b z)).elim hL hb) hc) (λb o _ _ hc e n=>u.any e n hc) (λb o hc e n=>u.free b o e n hc) (λb o hc e=>u.there b o e hc) u.tups u.frzs u.tbls (λm' hm=>by
  obtain⟨o',es',ep',ho',r'⟩:=hm;rw[ho] at ho';cases ho';exact⟨_,es',ep',hL,r'⟩) hok hg
theorem Inv.turned {t':Nat}(I:Inv X pins σ H s)(k:∀ b o,b≠it->s.heap.get? b=some o->h'.get? b=some o)(hn:H it=none)(hL:it≠X.env.locals)
  (h1:it∈X.ex \/ X.s₀.heap.objs.size<=it) (h2:∀ x c,X.env.cells.lookup x=some c->c≠it) (h3:∀ p∈X.pn++pins,p.1≠it):Inv X pins σ H { s with heap:=h',toks:=t' }:=by
 have nit:∀ b u,H b=some u->b≠it:=λb u e z=>by rw[z,hn] at e;cases e
 refine I.step (g':=s.gens) (d':=s.drawn) (ch:=[it]) (λb hb=>?_) (λb o _ _ hc e _=>k b o (λz=>hc (by simp[z])) e) (λb o _ _ hc e _=>⟨o.slots,k b o (λz=>hc (by simp[z])) e⟩) (λ_ _ _ _ n=>n)
  (λb o hc e=>⟨o,k b o (λz=>hc (by simp[z])) e⟩) (λ_ _ e=>e) (λ_ _ _ e=>e) (λb ps e=>⟨#[],by rw[e];simp⟩) (λm hm=>?_) (λb u e=>?_) I.bare
 ·have e:b=it:=by simpa using hb
  subst e;exact⟨h1,hL,h2,h3⟩
 ·obtain⟨o,es,ep,ho,r⟩:=hm;exact⟨o,es,ep,k _ o (qi hL) ho,r⟩
 refine (I.hok b u e).stay (λc v hc q=>k c v ?_ q) (λ_ q=>q) λ_ _ q=>q;rcases hc with z | z
 ·rw[z];exact nit b u e
 exact nit c _ z
theorem Inv.tok (I:Inv X pins σ H s)(t:Nat):Inv X pins σ H { s with toks:=t }:=I.un (h':=s.heap) (t':=t) Un.refl I.hok
theorem Inv.kept {t':Nat}(I:Inv X pins σ H s)(k:∀ b u,s.heap.get? b=some u->h'.get? b=some u):Inv X pins σ H { s with heap:=h',toks:=t' }:=I.un (Un.kept k) (I.hok.kept k)
theorem Inv.laid {a:Addr}{o:HO}{t':Nat}(I:Inv X pins σ H s)(k:∀ b u,s.heap.get? b=some u->h'.get? b=some u)(hp:s.heap.objs.size<=a)(new:ObjOk X.prog X.w (upd H a o) h' a o) :
  Inv X pins σ (upd H a o) { s with heap:=h',toks:=t' }:=I.un (Un.laid k hp (I.hok.fresh hp)) (I.hok.laid k hp new)
theorem Inv.write {x e:Addr}{o:HO}{t':Nat}(I:Inv X pins σ H s)(mu:Mut (H x))(he:e=x \/ H e=some (.own x))(k:∀ b u,b≠e->s.heap.get? b=some u->h'.get? b=some u)(heo:∃ u,h'.get? e=some u)
  (new:ObjOk X.prog X.w (upd H x o) h' x o):Inv X pins σ (upd H x o) { s with heap:=h',toks:=t' }:=I.un (Un.write mu he k heo) (I.hok.write mu he k heo new)
theorem Inv.weak {σ':List (Option V)}(I:Inv X pins σ H s)(hl:σ'.length=σ.length)(w:∀ (i:Nat) v,σ'[i]?=some (some v)->σ[i]?=some (some v)):Inv X pins σ' H s :=
 ⟨I.ok,I.os,I.bare,I.base,let ⟨m,hn,hl'⟩:=I.loc;⟨m,hn,λi x v e1 e2 e3=>hl' i x v e1 (w i v e2) e3⟩,I.cell,I.free,I.freeC,I.pin,I.hok,hl.trans I.len⟩
theorem Inv.pins_of {pins':TD}(I:Inv X pins σ H s)(h:∀ p∈pins',s.heap.get? p.1=some p.2/\H p.1=none/\p.1≠X.env.locals/\p.1 ∉ X.fs/\∀ v,p.2.data≠.cell v):Inv X pins' σ H s :=
 ⟨I.ok,I.os,I.bare,I.base,I.loc,I.cell,I.free,I.freeC,λp hp=>(XH.mp hp).elim (λz=>I.pin p (YJ _ z)) (h p),I.hok,I.len⟩
theorem Mf {N:TF}(hN:N.Nodup){i j:Nat}{x:Str}(a:N[i]?=some x)(b:N[j]?=some x):i=j:=by
 obtain⟨h1,e1⟩:=YH.mp a;obtain⟨h2,e2⟩:=YH.mp b;exact (List.getElem_inj hN).mp (e1.trans e2.symm)
theorem Uq {M:Model}{A:Around}{E:TC}{i:Nat}{x:Str}{Q:Unit->Shared->Prop}(I:Inv X pins σ H s)(hN:X.N.Nodup)(hi:X.N[i]?=some x)(hx:Loc X.env.scope x)(r:RelV v u)
  (h:∀ s',Inv X pins (σ.set i (some v)) H s'->(∃ a,Heap.SameBut a s.heap s'.heap/\(a=X.env.locals \/ X.env.cells.lookup x=some a))->Q () s') (hf:X.fn x=true \/ X.env.scope.names.lookup x=some .local:=by first | exact .inl rfl | exact .inr rfl | assumption):wpAny M A (storeName X.env x u) Q E s:=by
 obtain⟨m,hn,hl⟩:=id I.loc;have hcls:(X.env.scope.kind == .class || (X.env.scope.kind == .module && X.env.locals != X.env.globals))=false:=by rw[I.ok.kind];rfl
 have hiσ:i<σ.length:=by rw[I.len];exact (YH.mp hi).1
 have cne:=I.cne;have tracked:∀ {a:Addr} {h':Heap},(∃ o,s.heap.get? a=some o/\H a=none)->Heap.SameBut a s.heap h'->HOk X.prog X.w H h':=λ{a h'} ha hs b ob e=>by
  obtain⟨_,_,hfree⟩:=ha;refine (I.hok b ob e).stay (λc w' hc q=>(hs.2 c ?_).trans q) (λ_ q=>q) λ_ _ q=>q;rintro rfl;rcases hc with rfl | hc
  ·rw[hfree] at e;cases e
  rw[hfree] at hc;cases hc
 rcases hx with hk | hk
 ·refine wpAny_storeName_local hk hn (λh' hn' hs=>?_) hcls;obtain⟨oL,_,_,hoL,_⟩:=id hn;refine h _ ⟨I.ok,I.os,I.bare,⟨λb o e n hb hx=>?_,λb o e n hb hx=>?_,I.base.free,λb o e hx=>?_,I.base.tups,I.base.frzs,I.base.tbls⟩,⟨_,hn',λj y v' e1 e2 e3=>?_⟩,λy c e=>?_,I.free,I.freeC,λp hp=>?_,tracked ⟨oL,hoL,I.free⟩ hs,by simpa using I.len⟩ ⟨_,hs,.inl rfl⟩
  ·exact (hs.2 b (XE (YT (YL e) I.ok.above))).trans (I.base.keep b o e n hb hx)
  ·obtain⟨sl,e1⟩:=I.base.slot b o e n hb hx;exact⟨sl,(hs.2 b (XE (YT (YL e) I.ok.above))).trans e1⟩
  ·obtain⟨o',e1⟩:=I.base.there b o e hx;exact⟨o',(hs.2 b (XE (YT (YL e) I.ok.above))).trans e1⟩
  ·by_cases hj:j=i
   ·subst hj;rw[hi] at e1;cases e1;rw[GV hiσ] at e2
    cases e2;exact⟨u,r,.inl ⟨hk,by simp⟩⟩
   rw[Y0U (qi hj)] at e2;obtain⟨u',r',q⟩:=hl j y v' e1 e2 e3;refine⟨u',r',?_⟩;rcases q with ⟨k,e⟩ | ⟨k,c,e,z⟩
   ·refine .inl ⟨k,?_⟩;have:y≠x:=λe=>hj (Mf hN e1 (e ▸ hi));simp[this,e]
   exact .inr ⟨k,c,e,z.sameBut hs (cne y c e)⟩
  ·obtain⟨w',z⟩:=I.cell y c e;exact⟨w',z.sameBut hs (cne y c e)⟩
  obtain⟨e,n,ne,nf,d⟩:=I.pin p hp;exact⟨(hs.2 p.1 ne).trans e,n,ne,nf,d⟩
 have hfn:X.fn x=true:=by
  rcases hf with z | z
  ·exact z
  rw[z] at hk;cases hk
 obtain⟨c,hc⟩:=I.ok.has x (.inl hk);obtain⟨w',z⟩:=I.cell x c hc;refine wpAny_storeName_cell I.ok.kind hk hc z (λh' hc' hs=>?_);obtain⟨oc,hoc,hocd⟩:=id z;refine h { s with heap:=h' } ⟨I.ok,I.os,I.bare,⟨λb o e n hb hx=>?_,λb o e n hb hx=>?_,I.base.free,λb o e hx=>?_,I.base.tups,I.base.frzs,I.base.tbls⟩,⟨m,hn.sameBut hs (qi (cne x c hc)),λj y v' e1 e2 e3=>?_⟩,λy c' e=>?_,I.free,I.freeC,λp hp=>?_,tracked ⟨oc,hoc,I.freeC x c hc⟩ hs,by simpa using I.len⟩ ⟨c,hs,.inr hc⟩
 ·exact (hs.2 b (XE (YT (YL e) (I.ok.cab x c hfn hc)))).trans (I.base.keep b o e n hb hx)
 ·obtain⟨sl,e1⟩:=I.base.slot b o e n hb hx;exact⟨sl,(hs.2 b (XE (YT (YL e) (I.ok.cab x c hfn hc)))).trans e1⟩
 ·obtain⟨o',e1⟩:=I.base.there b o e hx;exact⟨o',(hs.2 b (XE (YT (YL e) (I.ok.cab x c hfn hc)))).trans e1⟩
 ·by_cases hj:j=i
  ·subst hj;rw[hi] at e1;cases e1;rw[GV hiσ] at e2
   cases e2;exact⟨u,r,.inr ⟨.inl hk,c,hc,hc'⟩⟩
  rw[Y0U (qi hj)] at e2;obtain⟨u',r',q⟩:=hl j y v' e1 e2 e3;refine⟨u',r',?_⟩;rcases q with q | ⟨k,c',e,z'⟩
  ·exact .inl q
  refine .inr ⟨k,c',e,z'.sameBut hs ?_⟩;rintro rfl;exact hj (Mf hN e1 (I.ok.inj _ _ _ e hc ▸ hi))
 ·by_cases hcc:c'=c
  ·subst hcc;exact⟨_,hc'⟩
  obtain⟨w2,z2⟩:=I.cell y c' e;exact⟨w2,z2.sameBut hs hcc⟩
 obtain⟨e,n,ne,nf,d⟩:=I.pin p hp;refine⟨(hs.2 p.1 ?_).trans e,n,ne,nf,d⟩;intro q;rw[q,hoc] at e;have q':oc=p.2:=YR e;exact d w' (by rw[<-q'];exact hocd)
theorem Nr {M:Model}{A:Around}{E:TC}{i:Nat}{x:Str}{Q:Unit->Shared->Prop}(I:Inv X pins σ H s)(hN:X.N.Nodup)(hi:X.N[i]?=some x)(hx:Loc X.env.scope x)(r:RelV v u)
  (h:∀ s',Inv X pins (σ.set i (some v)) H s'->Q () s') (hf:X.fn x=true \/ X.env.scope.names.lookup x=some .local:=by first | exact .inl rfl | exact .inr rfl | assumption):wpAny M A (storeName X.env x u) Q E s :=
 Uq I hN hi hx r (λs' I' _=>h s' I') hf
theorem Inv.call' {s':Shared}{ch:TJ}(I:Inv X pins σ H s)(ho:s'.os=s.os)(u:Un (frs X.stack) ch H H' s.heap s'.heap)(hok:HOk X.prog X.w H' s'.heap)(hg:AllBare s'.gens)
  (hch:∀ b∈ch,(b∈X.ex \/ X.s₀.heap.objs.size<=b)/\b≠X.env.locals/\(∀ x c,X.env.cells.lookup x=some c->c≠b)/\∀ p∈X.pn++pins,p.1≠b):Inv X pins σ H' s':=by
 obtain⟨h',g',d',t',o'⟩:=s';have e:o'=s.os:=ho;subst e;exact I.call (g':=g') (t':=t') (d':=d') u hok hg hch
end
abbrev XK:=Value->Option Addr->Hp->Prop
abbrev St:=List (Option V)
abbrev VK:=V->Hp->Prop
abbrev TE:=St->Hp->VK->Prop
abbrev TT:=St->Hp->(Bool->Hp->Prop)->Prop
abbrev TA:=St->Hp->(List V->Hp->Prop)->Prop
structure Ends where
 nx:St->Hp->Prop
 rt:VK
 bk:St->Hp->Prop:=λ_ _=>False
 ct:St->Hp->Prop:=λ_ _=>False
abbrev TS:=Ends->St->Hp->Prop
def EP (X:Cx)(pins:TD)(σ:St)(Q:VK)(u:Value)(s':Shared):Prop:=∃ v H',Inv X pins σ H' s'/\RelV v u/\Q v H'
def TP (X:Cx)(pins:TD)(σ:St)(Q:Bool->Hp->Prop)(b:Bool)(s':Shared):Prop:=∃ H',Inv X pins σ H' s'/\Q b H'
def AP (X:Cx)(pins:TD)(σ:St)(Q:List V->Hp->Prop)(us:TH)(s':Shared):Prop:=∃ vs H',Inv X pins σ H' s'/\Vals vs us/\Q vs H'
def SP (X:Cx)(pins:TD)(D:Ends)(f:Flow)(s':Shared):Prop :=
 match f with
 | .next=>∃ σ' H',Inv X pins σ' H' s'/\D.nx σ' H'
 | .brk=>∃ σ' H',Inv X pins σ' H' s'/\D.bk σ' H'
 | .cont=>∃ σ' H',Inv X pins σ' H' s'/\D.ct σ' H'
 | .ret u=>∃ v σ' H',Inv X pins σ' H' s'/\RelV v u/\D.rt v H'
def PE (X:Cx)(e:Expr)(t:TE):Prop :=
 ∀ (pins:TD) (s:Shared) (σ:St) (H:Hp) (Q:VK),Inv X pins σ H s->t σ H Q->wpAny (model X.prog X.w) X.A (eval e X.env) (EP X pins σ Q) X.xe s
def PT (X:Cx)(e:Expr)(t:TT):Prop :=
 ∀ (pins:TD) (s:Shared) (σ:St) (H:Hp) (Q:Bool->Hp->Prop),Inv X pins σ H s->t σ H Q->wpAny (model X.prog X.w) X.A (isTrue e X.env (eval e X.env)) (TP X pins σ Q) X.xe s
def PW (X:Cx)(e:Expr)(t:TT):Prop :=
 ∀ (whole:Sem Value) (pins:TD) (s:Shared) (σ:St) (H:Hp) (Q:Bool->Hp->Prop),Inv X pins σ H s->t σ H Q->wpAny (model X.prog X.w) X.A (isTrue e X.env whole) (TP X pins σ Q) X.xe s
theorem PW.pt {X:Cx}{e:Expr}{t:TT}(h:PW X e t):PT X e t:=h _
def PA (X:Cx)(es:TL)(t:TA):Prop :=
 ∀ (pos:Pos) (pins:TD) (s:Shared) (σ:St) (H:Hp) (Q:List V->Hp->Prop),Inv X pins σ H s->t σ H Q->wpAny (model X.prog X.w) X.A (spliced (backTo pos (starEach es X.env))) (AP X pins σ Q) X.xe s
def PS (X:Cx)(st:Stmt)(t:TS):Prop :=
 ∀ (pins:TD) (s:Shared) (σ:St) (H:Hp) (D:Ends),Inv X pins σ H s->t D σ H->wpAny (model X.prog X.w) X.A (exec st X.env) (SP X pins D) X.xe s
def PSs (X:Cx)(st:TM)(t:TS):Prop :=
 ∀ (pins:TD) (s:Shared) (σ:St) (H:Hp) (D:Ends),Inv X pins σ H s->t D σ H->wpAny (model X.prog X.w) X.A (execs st X.env) (SP X pins D) X.xe s
theorem thn {α:Type}{t:Sem α}{Q Q':α->Shared->Prop}{M:Model}{s:Shared}(h:wpAny M A t Q E s)(hQ:∀ a s,Q a s->Q' a s):wpAny M A t Q' E s:=qL h hQ λ_ _ x=>x
end L2
variable {X:L2.Cx}{ta:L2.TA}{tb:L2.TS}{te tl:L2.TE}{σ:L2.St}
namespace L2
open PySem PySem.Spec PyProof.Rows
section
variable {X:Cx}
inductive tVar (i:Nat) (σ:L2.St) (H:Hp) (Q:VK):Prop
 | i (v:_) (_:σ[i]?=some (some v)) (_:Q v H)
def tC (v:V):TE:=λ_ H Q=>Q v H
theorem Z3e {i:Nat}{x:Str}{pos:Pos}(hN:X.N[i]?=some x)(hv:Vis X.env.scope x)(hd:(x == ("__debug__":Str))=false:=by decide)(hcd:(x == ("__classdict__":Str))=false:=by decide):PE X (.Name x pos) (tVar i):=by
 intro pins s σ H Q I h;obtain⟨v,e,h⟩:=h;obtain⟨m,hn,hl⟩:=I.loc;obtain⟨u,r,l⟩:=hl i x v hN e hv;have fin:EP X pins σ Q u s:=⟨v,H,I,r,h⟩;rcases l with ⟨hk,hm⟩ | ⟨hk,c,hc,hcell⟩
 ·exact wpAny_Name (wpAny_loadName_local I.ok.kind hk hn hm fin) hd
 rcases hk with hk | hk
 ·exact wpAny_Name (wpAny_loadName_cell I.ok.kind hk hc hcell fin) hd
 exact wpAny_Name (wpAny_loadName_free I.ok.kind hk hc hcell fin hcd) hd
theorem Z8 {i j pos}:PE X (.Constant (.int i) j pos) (tC (.int i)):=λ_ _ _ H _ I h=>wpAny_Constant_int ⟨.int i,H,I.tok _,⟨_,rfl⟩,h⟩
theorem Xu {b j pos}:PE X (.Constant (.bool b) j pos) (tC (.bl b)):=λ_ _ _ H _ I h=>Constant_bool ⟨.bl b,H,I,rfl,h⟩
theorem Xp {j pos}:PE X (.Constant .none j pos) (tC .non):=λ_ _ _ H _ I h=>Constant_none ⟨.non,H,I,rfl,h⟩
theorem Ls {x j pos}:PE X (.Constant (.str x) j pos) (tC (.str x)):=λ_ _ _ H _ I h=>Calls.Constant_str ⟨.str x,H,I.tok _,⟨_,rfl⟩,h⟩
def Gl (X:Cx)(x:Str):Prop:=X.env.kindOf x=some .globalImplicit
theorem J8 {E:TC}{s:Shared}{x:Str}{pos:Pos}{Q:TC}(I:Inv X pins σ H s)(hg:Gl X x)(hm:X.mg x=some u)(h:Q u s)
  (hd:(x == ("__debug__":Str))=false:=by decide):wpAny (model X.prog X.w) X.A (eval (.Name x pos) X.env) Q E s :=
 Y08 I.ok.kind hg (Calls.loadGlobal_global (by rw[I.ok.glob];exact I.mod.glob.keeps I.bk) hm h) hd
theorem Wq {E:TC}{s:Shared}{x:Str}{pos:Pos}{Q:TC}(I:Inv X pins σ H s)(hg:Gl X x)(hm:X.mg x=none)(hv:bootBuiltins x=some u)(h:Q u s)
  (hn:x≠"__name__":=by decide) (hd:(x == ("__debug__":Str))=false:=by decide):wpAny (model X.prog X.w) X.A (eval (.Name x pos) X.env) Q E s:=by
 obtain⟨mb,h1,h2⟩:=I.mod.blt;exact Y08 I.ok.kind hg (Calls.loadGlobal_builtin (by rw[I.ok.glob];exact I.mod.glob.keeps I.bk) hm (by rw[I.ok.blt];exact h1.keeps I.bk) ((h2 x hn).trans hv) h) hd
theorem Yf {x:Str}{pos:Pos}(hg:Gl X x)(hm:X.mg x=some u)(r:RelV v u)(hd:(x == ("__debug__":Str))=false:=by decide):PE X (.Name x pos) (tC v) :=
 λ_ _ _ H _ I h=>J8 I hg hm ⟨v,H,I,r,h⟩ hd
theorem Z12 {x:Str}{pos:Pos}(hg:Gl X x)(hm:X.mg x=none)(hv:bootBuiltins x=some u)(r:RelV v u)(hn:x≠"__name__":=by decide)(hd:(x == ("__debug__":Str))=false:=by decide):PE X (.Name x pos) (tC v) :=
 λ_ _ _ H _ I h=>Wq I hg hm hv ⟨v,H,I,r,h⟩ hn hd
variable {a b:Expr}{ta tb:TE}{pos:Pos}
inductive tB_i (Q:(Bool->Hp->Prop)) (x:V) (H1:Hp):Prop
 | i (c:_) (_:x=.bl c) (_:Q c H1)
def tB (t:TE):TT:=λσ H Q=>t σ H (tB_i Q)
theorem Yo {e:Expr}{t:TE}(h:PE X e t)(he:∀ whole,isTrue e X.env whole=(do let v <-whole;standAt e.pos;holding [v] (truthy v)):=by intro _;rfl):PT X e (tB t):=by
 intro pins s σ H Q I hw;refine isTrue_plain (thn (h pins s σ H _ I hw) λv s1 ⟨x,H1,I1,r1,q1⟩=>?_) (he _);obtain⟨d,rfl,q⟩:=q1
 cases r1;exact GW ⟨H1,I1,q⟩
variable {tA tB':TT}{rest:TL}
def tOr (t u:TT):TT:=λσ H Q=>t σ H λc H1=>if c=true then Q true H1 else u σ H1 Q
def tNot (t:TT):TT:=λσ H Q=>t σ H λc H1=>Q (!c) H1
theorem Wh (ha:PT X a tA):PW X (.BoolOp .Or [a] pos) tA:=by
 intro wh pins s σ H Q I h;refine isTrue_or (thn (ha pins s σ H Q I h) λc s1 e=>?_)
 cases c with
 | false=>exact isTrue_or_nil e
 | true=>exact e
theorem Vj (ha:PT X a tA)(hb:PW X (.BoolOp .Or (b::rest) pos) tB'):PW X (.BoolOp .Or (a::b::rest) pos) (tOr tA tB'):=by
 intro wh pins s σ H Q I h;refine isTrue_or (thn (ha pins s σ H _ I h) λc s1 ⟨H1,I1,q1⟩=>?_)
 cases c with
 | true=>exact⟨H1,I1,q1⟩
 | false=>exact hb wh pins s1 σ H1 Q I1 q1
theorem Xg (ha:PT X a tA):PT X (.UnaryOp .Not a pos) (tNot tA):=by
 intro pins s σ H Q I h;exact isTrue_not (ha pins s σ H (λc H1=>Q (!c) H1) I h)
inductive tAndV_i (tb:TE) (σ:L2.St) (Q:VK) (x:V) (H1:Hp):Prop
 | i (c:_) (_:x=.bl c) (_:if c=true then tb σ H1 Q else Q (.bl false) H1)
def tAndV (ta tb:TE):TE:=λσ H Q=>ta σ H (tAndV_i tb σ Q)
inductive tOrV_i (tb:TE) (σ:L2.St) (Q:VK) (x:V) (H1:Hp):Prop
 | i (c:_) (_:x=.bl c) (_:if c=true then Q (.bl true) H1 else tb σ H1 Q)
def tOrV (ta tb:TE):TE:=λσ H Q=>ta σ H (tOrV_i tb σ Q)
inductive tNotV_i (Q:VK) (x:V) (H1:Hp):Prop
 | i (c:_) (_:x=.bl c) (_:Q (.bl (!c)) H1)
def tNotV (ta:TE):TE:=λσ H Q=>ta σ H (tNotV_i Q)
theorem Vp {op}{t:TE}(h:PE X a t):PE X (.BoolOp op [a] pos) t:=λpins s σ H Q I hw=>BoolOp_one (h pins s σ H Q I hw)
theorem Uw (ha:PE X a ta)(hb:PE X (.BoolOp .And (b::rest) pos) tb):PE X (.BoolOp .And (a::b::rest) pos) (tAndV ta tb):=by
 intro pins s σ H Q I h;refine BoolOp_and (thn (ha pins s σ H _ I h) λv s1 ⟨x,H1,I1,r1,q1⟩=>?_);obtain⟨c,rfl,q1⟩:=q1
 cases r1;refine GW ?_
 cases c with
 | true=>exact hb pins s1 σ H1 Q I1 q1
 | false=>exact⟨.bl false,H1,I1,rfl,q1⟩
theorem Z4r (ha:PE X a ta)(hb:PE X (.BoolOp .Or (b::rest) pos) tb):PE X (.BoolOp .Or (a::b::rest) pos) (tOrV ta tb):=by
 intro pins s σ H Q I h;refine BoolOp_or (thn (ha pins s σ H _ I h) λv s1 ⟨x,H1,I1,r1,q1⟩=>?_);obtain⟨c,rfl,q1⟩:=q1
 cases r1;refine GW ?_
 cases c with
 | false=>exact hb pins s1 σ H1 Q I1 q1
 | true=>exact⟨.bl true,H1,I1,rfl,q1⟩
theorem Su (ha:PE X a ta):PE X (.UnaryOp .Not a pos) (tNotV ta):=by
 intro pins s σ H Q I h;refine UnaryOp_ (thn (ha pins s σ H _ I h) λv s1 ⟨x,H1,I1,r1,q1⟩=>?_);obtain⟨c,rfl,q1⟩:=q1
 cases r1;exact not_of (GW ⟨.bl (!c),H1,I1,rfl,q1⟩)
def tIf (t:TT)(ta tb:TE):TE:=λσ H Q=>t σ H λc H1=>if c=true then ta σ H1 Q else tb σ H1 Q
theorem Sw {c:Expr}(hc:PT X c tA)(ha:PE X a ta)(hb:PE X b tb):PE X (.IfExp c a b pos) (tIf tA ta tb):=by
 intro pins s σ H Q I h;refine wpAny_IfExp (thn (hc pins s σ H _ I h) λd s1 ⟨H1,I1,q1⟩=>?_)
 cases d with
 | true=>exact ha pins s1 σ H1 Q I1 q1
 | false=>exact hb pins s1 σ H1 Q I1 q1
end
end L2
namespace L2
open PySem PySem.Spec PyProof.Rows
def SqL (K:TR)(H:Hp)(a:Addr)(xs:TZ):Prop :=
 Rd H a (.lst xs) ∨
  ∃ (o:Obj) (its:Array Value) (n:Nat),K.lookup a=some o/\o.cls=.type "list"/\o.dict=none/\o.data=.seq its n/\its.size<=sizeLine/\Vals xs its.toList
def SqT (K:TR)(H:Hp)(a:Addr)(xs:TZ):Prop :=
 Rd H a (.tup xs) ∨
  ∃ (o:Obj) (its:Array Value) (n:Nat),K.lookup a=some o/\o.cls=.type "tuple"/\o.data=.seq its n/\its.size<=sizeLine/\Vals xs its.toList
def absV:Value->Option V
 | .none=>some .non
 | .bool b=>some (.bl b)
 | .int i _=>some (.int i)
 | .str x _=>some (.str x)
 | .bytes b _=>some (.byt b)
 | .float b _=>some (.flt b)
 | .ref a=>some (.ref a)
 | .type n=>some (.ty n)
 | _=>none
theorem RelV.abs {x:V}{u:Value}(r:RelV x u):absV u=some x:=by
 cases x with
 | non=>cases r;rfl
 | bl _=>cases r;rfl
 | int _=>obtain⟨t,rfl⟩:=r;rfl
 | str _=>obtain⟨t,rfl⟩:=r;rfl
 | byt _=>obtain⟨t,rfl⟩:=r;rfl
 | flt _=>obtain⟨t,rfl⟩:=r;rfl
 | ref _=>cases r;rfl
 | ty _=>cases r;rfl
theorem RelV.inj {x y:V}(r:RelV x u)(q:RelV y u):x=y:=YR (r.abs.symm.trans q.abs)
theorem Vals.inj:∀ {xs ys:TZ} {us:TH},Vals xs us->Vals ys us->xs=ys
 | _,_,_,.nil,.nil=>rfl
 | _,_,_,.cons r t,.cons r' t'=>by rw[r.inj r',Vals.inj t t']
section
variable {X:Cx}{pins:TD}{σ:St}{H:Hp}{s:Shared}{a:Addr}{xs ys:TZ}
theorem SqL.of (h:H a=some (.lst xs)):SqL K H a xs:=.inl (.inl h)
theorem SqT.of (h:H a=some (.tup xs)):SqT K H a xs:=.inl (.inl h)
theorem Inv.list (I:Inv X pins σ H s)(h:SqL X.K H a xs):∃ its:List Value,Vals xs its/\PlainL s.heap a its.toArray/\xs.length<=sizeLine:=by
 rcases h with h | ⟨o,its,n,hk,hc,hd,hs,hz,r⟩
 ·obtain⟨z,its,n,r,e⟩:=h.ok I.hok;exact⟨its,r,⟨_,n,e,rfl,rfl,rfl⟩,z⟩
 refine⟨its.toList,r,⟨o,n,I.kIn a o hk,hc,hd,by simpa using hs⟩,?_⟩;have e:=r.length;simp only [qY] at e;omega
theorem Inv.tuple (I:Inv X pins σ H s)(h:SqT X.K H a xs):∃ its:List Value,Vals xs its/\IsTup s.heap a its.toArray/\xs.length<=sizeLine:=by
 rcases h with h | ⟨o,its,n,hk,hc,hs,hz,r⟩
 ·obtain⟨z,its,r,p⟩:=h.ok I.hok;exact⟨its,r,p,z⟩
 refine⟨its.toList,r,⟨o,I.kIn a o hk,hc,n,by simpa using hs⟩,?_⟩;have e:=r.length;simp only [qY] at e;omega
theorem Inv.list_inj (I:Inv X pins σ H s)(h:SqL X.K H a xs)(h':SqL X.K H a ys):xs=ys:=by
 obtain⟨its,r,⟨o,n,e,_,_,d⟩,_⟩:=I.list h;obtain⟨its',r',⟨o',n',e',_,_,d'⟩,_⟩:=I.list h';rw[e] at e';cases e';rw[d] at d';injection d' with d1 _
 have:its=its':=by simpa using congrArg Array.toList d1
 subst this;exact r.inj r'
theorem Inv.tuple_inj (I:Inv X pins σ H s)(h:SqT X.K H a xs)(h':SqT X.K H a ys):xs=ys:=by
 obtain⟨its,r,⟨o,e,_,n,d⟩,_⟩:=I.tuple h;obtain⟨its',r',⟨o',e',_,n',d'⟩,_⟩:=I.tuple h';rw[e] at e';cases e';rw[d] at d';injection d' with d1 _
 have:its=its':=by simpa using congrArg Array.toList d1
 subst this;exact r.inj r'
end
abbrev Cx.wish (X:Cx)(E:TC):Cx:={ X with xe:=E }
abbrev Cx.nox (X:Cx):Cx:=X.wish λ_ _=>False
theorem Cx.Ok.wish {X:Cx}(ok:X.Ok)(E:TC):(X.wish E).Ok :=
 ⟨ok.mod,ok.kind,ok.glob,ok.blt,ok.above,ok.inj,ok.has,ok.cab,ok.hd,ok.frames,ok.stk,ok.exf,ok.bs,ok.bsz,ok.noex,ok.exfs,ok.funs,ok.frf,ok.seen,ok.dpt⟩
theorem Cx.Ok.unwish (ok:(X.wish E).Ok):X.Ok :=
 ⟨ok.mod,ok.kind,ok.glob,ok.blt,ok.above,ok.inj,ok.has,ok.cab,ok.hd,ok.frames,ok.stk,ok.exf,ok.bs,ok.bsz,ok.noex,ok.exfs,ok.funs,ok.frf,ok.seen,ok.dpt⟩
section
variable {X:Cx}{pins:TD}{σ:St}{H:Hp}{s:Shared}{E:TC}
theorem Inv.wish (I:Inv X pins σ H s)(E:TC):Inv (X.wish E) pins σ H s:=⟨I.ok.wish E,I.os,I.bare,I.base,I.loc,I.cell,I.free,I.freeC,I.pin,I.hok,I.len⟩
theorem Inv.unwish (I:Inv (X.wish E) pins σ H s):Inv X pins σ H s:=⟨I.ok.unwish,I.os,I.bare,I.base,I.loc,I.cell,I.free,I.freeC,I.pin,I.hok,I.len⟩
theorem SP.unwish {D:Ends}{f:Flow}{s':Shared}(h:SP (X.wish E) pins D f s'):SP X pins D f s':=by
 cases f with
 | next=>obtain⟨σ',H',I,q⟩:=h;exact⟨σ',H',I.unwish,q⟩
 | brk=>obtain⟨σ',H',I,q⟩:=h;exact⟨σ',H',I.unwish,q⟩
 | cont=>obtain⟨σ',H',I,q⟩:=h;exact⟨σ',H',I.unwish,q⟩
 | ret u=>obtain⟨v,σ',H',I,r,q⟩:=h;exact⟨v,σ',H',I.unwish,r,q⟩
theorem PSs.nox {st:TM}{t:TS}(h:PSs X.nox st t):PSs X st t:=λpins s σ H D I hw =>
 qL (h pins s σ H D (I.wish _) hw) (λ_ _ q=>q.unwish) λ_ _ z=>False.elim z
end
section
variable {X:Cx}{st:Stmt}{rest:TM}{t u:TS}{e:Expr}{te:TE}{pos:Pos}
def tNext:TS:=λD σ H=>D.nx σ H
def tSeq (t u:TS):TS:=λD σ H=>t { D with nx:=u D } σ H
theorem Zw:PSs X [] tNext:=λ_ _ σ H _ I h=>jr ⟨σ,H,I,h⟩
theorem Z9 (h1:PS X st t)(h2:PSs X rest u):PSs X (st::rest) (tSeq t u):=by
 intro pins s σ H D I h;refine wpAny_execs_cons (thn (h1 pins s σ H { D with nx:=u D } I h) λf s1 q=>?_)
 cases f with
 | next =>
  obtain⟨σ',H',I',q⟩:=q;exact h2 pins s1 σ' H' D I' q
 | ret v=>exact q
 | brk=>exact q
 | cont=>exact q
theorem Za (h1:PS X st t):PSs X [st] t:=by
 intro pins s σ H D I h;refine wpAny_execs_cons (thn (h1 pins s σ H D I h) λf s1 q=>?_)
 cases f with
 | next=>exact jr q
 | ret v=>exact q
 | brk=>exact q
 | cont=>exact q
theorem Inv.quiet {s:Shared}(I:Inv X pins σ H s):interactive X.env=false:=by simp[interactive,I.ok.kind]
def tDrop (te:TE):TS:=λD σ H=>te σ H λ_ H1=>D.nx σ H1
theorem Xa (he:PE X e te)(hs:swapsWith e none pos.line X.env=pure false:=by rfl):PS X (.Expr e pos) (tDrop te):=by
 intro pins s σ H D I h;exact wpAny_Expr_any (thn (he pins s σ H _ I h) λv s1 ⟨x,H1,I1,r1,q1⟩=>⟨σ,H1,I1,q1⟩) I.quiet hs
def tRet (te:TE):TS:=λD σ H=>te σ H D.rt
theorem Zg (he:PE X e te):PS X (.Return (some e) pos) (tRet te):=by
 intro pins s σ H D I h;exact wpAny_Return_some (thn (he pins s σ H _ I h) λv s1 ⟨x,H1,I1,r1,q1⟩=>⟨x,σ,H1,I1,r1,q1⟩)
def tIfS (c:TT)(t u:TS):TS:=λD σ H=>c σ H λb H1=>if b=true then t D σ H1 else u D σ H1
theorem Yc {c:Expr}{a b:TM}{tc:TT}(hc:PT X c tc)(ha:PSs X a t)(hb:PSs X b u):PS X (.If c a b pos) (tIfS tc t u):=by
 intro pins s σ H D I h;refine wpAny_If (thn (hc pins s σ H _ I h) λd s1 ⟨H1,I1,q1⟩=>?_)
 cases d with
 | true=>exact ha pins s1 σ H1 D I1 q1
 | false=>exact hb pins s1 σ H1 D I1 q1
def tNever:TS:=λ_ _ _=>False
theorem Sq:PS X st tNever:=λ_ _ _ _ _ _ h=>h.elim
end
abbrev TG:=V->St->Hp->(St->Hp->Prop)->Prop
abbrev TGs:=List V->St->Hp->(St->Hp->Prop)->Prop
def PG (X:Cx)(target:Expr)(t:TG):Prop :=
 ∀ (pins:TD) (s:Shared) (σ:St) (H:Hp) (v:V) (u:Value) (Q:St->Hp->Prop),Inv X pins σ H s->RelV v u->t v σ H Q →
  wpAny (model X.prog X.w) X.A (assign target X.env u) (λ_ s'=>∃ σ' H',Inv X pins σ' H' s'/\Q σ' H') X.xe s
def PGs (X:Cx)(ts:TL)(t:TGs):Prop :=
 ∀ (pins:TD) (s:Shared) (σ:St) (H:Hp) (vs:TZ) (us:TH) (Q:St->Hp->Prop),Inv X pins σ H s->Vals vs us->t vs σ H Q →
  wpAny (model X.prog X.w) X.A (assignInOrder ((assignEach ts X.env).map (·.2)) us) (λ_ s'=>∃ σ' H',Inv X pins σ' H' s'/\Q σ' H') X.xe s
abbrev TSet:=V->V->V->Hp->(Hp->Prop)->Prop
def PSet (X:Cx)(t:TSet):Prop :=
 ∀ (pins:TD) (s:Shared) (σ:St) (H:Hp) (o i v:V) (ov iv u:Value) (Q:Hp->Prop),Inv X pins σ H s->RelV o ov->RelV i iv->RelV v u->t o i v H Q →
  wpAny (model X.prog X.w) X.A (setItem ov iv u) (λ_ s'=>∃ H',Inv X pins σ H' s'/\Q H') X.xe s
section
variable {X:Cx}{pos:Pos}
def gName (i:Nat):TG:=λv σ H Q=>Q (σ.set i (some v)) H
theorem Zf {i:Nat}{x:Str}(hN:X.N.Nodup)(hi:X.N[i]?=some x)(hx:Loc X.env.scope x)(hf:X.fn x=true \/ X.env.scope.names.lookup x=some .local:=by first | exact .inl rfl | exact .inr rfl | assumption):PG X (.Name x pos) (gName i):=by
 intro pins s σ H v u Q I r h;exact Y0l (Nr I hN hi hx r (λs' I'=>⟨_,H,I',h⟩) hf)
def gNil:TGs:=λvs σ H Q=>vs=[]/\Q σ H
inductive gCons (t:TG) (u:TGs) (vs:TZ) (σ:L2.St) (H:Hp) (Q:(L2.St->Hp->Prop)):Prop
 | i (v r:_) (_:vs=v::r) (_:t v σ H λσ' H'=>u r σ' H' Q)
theorem Xi:PGs X [] gNil:=by
 intro pins s σ H vs us Q I r h;obtain⟨e,h⟩:=h;subst e
 cases r;exact assignInOrder_nil ⟨σ,H,I,h⟩
theorem Y9 {e:Expr}{es:TL}{t:TG}{u:TGs}(h1:PG X e t)(h2:PGs X es u)
  (hs:(assignEach (e::es) X.env).map (·.2)=assign e X.env::(assignEach es X.env).map (·.2):=by rfl):PGs X (e::es) (gCons t u):=by
 intro pins s σ H vs us Q I r h;obtain⟨v,vr,e1,h⟩:=h;subst e1
 cases r with
 | cons r rr =>
  rw[hs];refine assignInOrder_cons (thn (h1 pins s σ H _ _ _ I r h) λ_ s1 ⟨σ1,H1,I1,q1⟩=>?_);exact h2 pins s1 σ1 H1 _ _ Q I1 rr q1
inductive gTup (K:TR) (n:Nat) (t:TGs) (v:V) (σ:L2.St) (H:Hp) (Q:(L2.St->Hp->Prop)):Prop
 | i (a xs:_) (_:v=.ref a) (_:SqT K H a xs) (_:xs.length=n) (_:t xs σ H Q)
theorem Wk {k:Nat}{t:TGs}{n:Nat}(hc:X.calm=true)(h:PGs X es t)
  (hn:(assignEach es X.env).length=n:=by rfl) (hst:(assignEach es X.env).findIdx? (·.1)=none:=by rfl):PG X (.Tuple es k pos) (gTup X.K n t):=by
 intro pins s σ H v u Q I r hw;obtain⟨a,xs,e1,hq,hl,hw⟩:=hw;subst e1
 cases r;obtain⟨its,rv,ht,hz⟩:=I.tuple hq;refine Sb.Q1 (I.qt hc) ht (by simp[hn,<-hl,rv.length]) hst λh' hx=>?_;have I1:Inv X pins σ H { s with heap:=h' }:=I.kept (t':=s.toks) λb o e=>hx b o (XE (YL e)) e;exact h pins _ σ H xs _ Q I1 (by simpa using rv) hw
def gSub (to ti:TE)(t:TSet):TG:=λv σ H Q=>to σ H λo H1=>ti σ H1 λi H2=>t o i v H2 λH3=>Q σ H3
theorem Pl {o i:Expr}{to ti:TE}{t:TSet}(ho:PE X o to)(hi:PE X i ti)(hs:PSet X t)
  (ha:∀ v,assign (.Subscript o i pos) X.env v=(do
   let ov <-holding [v] (eval o X.env);let iv <-holding [v,ov] (eval i X.env)
   standAt pos
   holding [v,ov,iv] (setItem ov iv v)
   release [v,ov,iv] []):=by intro _;rfl):PG X (.Subscript o i pos) (gSub to ti t):=by
 intro pins s σ H v u Q I r h;rw[ha];refine YA (GB (thn (ho pins s σ H _ I h) λov s1 ⟨x,H1,I1,r1,q1⟩=>?_));refine YA (GB (thn (hi pins s1 σ H1 _ I1 q1) λiv s2 ⟨y,H2,I2,r2,q2⟩=>?_));refine YA (jm (YA (GB (thn (hs pins s2 σ H2 x y v ov iv u _ I2 r1 r2 r q2) λ_ s3 ⟨H3,I3,q3⟩=>?_))));exact wpAny_release ⟨σ,H3,I3,q3⟩
def tAsg (te:TE)(g:TG):TS:=λD σ H=>te σ H λx H1=>g x σ H1 D.nx
theorem Sr {e:Expr}{g:TG}(he:PE X e te)(hg:PG X tg g)(hs:swapsWithSole [tg] e pos.line X.env=pure false:=by rfl)(hw:swappedStores [tg] e X.env=pure none:=by rfl)
  (h1:(assignEach [tg] X.env).map (·.2)=[assign tg X.env]:=by rfl):PS X (.Assign [tg] e pos) (tAsg te g):=by
 intro pins s σ H D I h;refine wpAny_Assign_stores (thn (he pins s σ H _ I h) λv s1 ⟨x,H1,I1,r1,q1⟩=>?_) hs hw;rw[h1];exact thn (hg pins s1 σ H1 x v _ I1 r1 q1) λ_ s2 q=>q
theorem Zh {i:Nat}{x:Str}{e:Expr}{pos':Pos}(hN:X.N.Nodup)(hi:X.N[i]?=some x)(hx:Loc X.env.scope x)(he:PE X e te)(hs:swapsWith e (some (.Name x pos')) pos.line X.env=pure false:=by rfl)(hf:X.fn x=true \/ X.env.scope.names.lookup x=some .local:=by first | exact .inl rfl | exact .inr rfl | assumption) :
  PS X (.Assign [.Name x pos'] e pos) (tAsg te (gName i)):=by
 intro pins s σ H D I h;refine wpAny_Assign_Name (thn (he pins s σ H _ I h) λv s1 ⟨y,H1,I1,r1,q1⟩=>?_) hs;exact Nr I1 hN hi hx r1 (λs2 I2=>⟨_,H1,I2,q1⟩) hf
end
section
variable {X:Cx}{pos:Pos}
def tWhile (c:TT)(tb:TS):TS:=λD σ H=>∃ W:Nat->St->Hp->Prop,(∃ m,W m σ H)/\∀ m σ H,W m σ H →
 c σ H λb H1=>if b=true then ∃ N:St->Hp->Prop,(∀ σ' H',N σ' H'->∃ m',m'<m/\W m' σ' H')/\tb { D with nx:=N,ct:=N,bk:=D.nx } σ H1 else D.nx σ H1
theorem M3 {c:Expr}{body:TM}{tc:TT}{tb:TS}(hp:PassesOwn (model X.prog X.w) X.A X.env X.xe)(hc:PT X c tc)(hb:PSs X body tb):PS X (.While c body [] pos) (tWhile tc tb):=by
 intro pins s σ H D I h;obtain⟨W,⟨m0,w0⟩,turn⟩:=h;refine wpAny_While (codeAny_whileLoop (λn s'=>∃ σ' H',Inv X pins σ' H' s'/\W n σ' H') ?_ m0 ⟨σ,H,I,w0⟩);rintro n s1 ⟨σ1,H1,I1,w1⟩;refine qM hp (thn (hc pins s1 σ1 H1 _ I1 (turn n σ1 H1 w1)) λb s2 ⟨H2,I2,q2⟩=>?_)
 cases b with
 | true =>
  obtain⟨N,hN,q2⟩:=q2;rw[XF rfl];refine qM hp (thn (hb pins s2 σ1 H2 _ I2 q2) λf s3 q3=>?_)
  cases f with
  | next =>
   obtain⟨σ3,H3,I3,n3⟩:=q3;obtain⟨m',hm,w3⟩:=hN σ3 H3 n3;exact⟨m',hm,σ3,H3,I3,w3⟩
  | cont =>
   obtain⟨σ3,H3,I3,n3⟩:=q3;obtain⟨m',hm,w3⟩:=hN σ3 H3 n3;exact⟨m',hm,σ3,H3,I3,w3⟩
  | brk=>exact q3
  | ret v=>exact q3
 | false =>
  rw[XB YS];exact jr ⟨σ1,H2,I2,q2⟩
end
structure It where
 go:Nat->Hp->Prop
 yld:Nat->Hp->V->Hp->Prop
 stop:Nat->Hp->Prop
def FpOk (X:Cx)(pins:TD)(H:Hp)(b:Addr):Prop :=
 H b=none/\b≠X.env.locals/\b ∉ X.fs/\(b∈X.ex \/ X.s₀.heap.objs.size<=b)/\(∀ x c,X.env.cells.lookup x=some c->c≠b)/\∀ p∈X.pn++pins,p.1≠b
theorem Inv.fpOk {s:Shared}{b:Addr}(I:Inv X pins σ H s)(hb:s.heap.objs.size<=b)(hn:H' b=none):FpOk X pins H' b:=by
 refine⟨hn,JW (YT I.lt hb),I.nofs hb,.inr (XD I.sz hb),λx c e z=>?_,λp hp z=>?_⟩
 ·obtain⟨v,q⟩:=I.cell x c e;exact absurd (YT q.lt (by rw[z];exact hb)) (JI _)
 exact absurd (YT (YL (I.pin p hp).1) (by rw[z];exact hb)) (JI _)
structure Turn (P:TU)(w:World)(K:TR)(tg:Expr)(J:It)(fp:TJ)(it:Addr)(tn:Nat->Heap->Prop):Prop where
 mem:it∈fp
 obj:∀ i h,tn i h->∀ b∈fp,∃ o,h.get? b=some o/\∀ v,o.data≠.cell v
 keep:∀ i h h',tn i h->(∀ b∈fp,∀ o,h.get? b=some o->h'.get? b=some o)->tn i h'
 item:∀ (X:Cx),X.prog=P->X.w=w->X.K=K->X.calm=true->∀ (i:Nat) (pins:TD) (s:Shared) (σ:St) (H:Hp) (E:TC),Inv X pins σ H s->(∀ b∈fp,FpOk X pins H b)->tn i s.heap->J.go i H →
  wpAny (model P w) X.A (pyNext (.ref it)) (λr s1=>∃ u,r=some u ∧
   wpAny (model P w) X.A (letOwnedTupleGo tg (.ref it) u) (λ_ s2=>∃ x H',Inv X pins σ H' s2/\RelV x u/\J.yld i H x H'/\tn (i+1) s2.heap/\∀ b∈fp,H' b=none) E s1) E s
 done:∀ (X:Cx),X.prog=P->X.w=w->X.K=K->X.calm=true->∀ (i:Nat) (pins:TD) (s:Shared) (σ:St) (H:Hp) (E:TC),Inv X pins σ H s->(∀ b∈fp,FpOk X pins H b)->tn i s.heap->J.stop i H →
  wpAny (model P w) X.A (pyNext (.ref it)) (λr s1=>r=none/\Inv X pins σ H s1) E s
 self:∀ (A:Around) (i:Nat) (s:Shared) (Q:TC) (E:TC),tn i s.heap->Q (.ref it) s->wpAny (model P w) A (pyIter (.ref it)) Q E s
abbrev TI:=St->Hp->(It->Hp->Prop)->Prop
def PIE (X:Cx)(pins:TD)(σ:St)(tg:Expr)(R:It->Hp->Prop)(itv:Value)(s2:Shared):Prop :=
 ∃ (it:Addr) (fp:TJ) (tn:Nat->Heap->Prop) (J:It) (H':Hp),itv=.ref it/\Inv X pins σ H' s2/\Turn X.prog X.w X.K tg J fp it tn/\tn 0 s2.heap/\(∀ b∈fp,FpOk X pins H' b)/\R J H'
def PI (X:Cx)(tg iter:Expr)(wi:TI):Prop :=
 ∀ (pins:TD) (s:Shared) (σ:St) (H:Hp) (R:It->Hp->Prop),Inv X pins σ H s->wi σ H R →
  wpAny (model X.prog X.w) X.A (eval iter X.env) (λv s1=>wpAny (model X.prog X.w) X.A (pyIter v) (PIE X pins σ tg R) X.xe s1) X.xe s
theorem Jg {M:Model}{A:Around}{E:TC}{s:Shared}{tg:Expr}{it:Addr}{u:Value}{o:Obj}{n:String}{vs:Array Value}{Q:Unit->Shared->Prop}(ho:s.heap.get? it=some o)(hc:o.cls=.type n)(hd:o.data=.fields vs)
  (hn:["enumerate","zip","dict_itemiterator","dict_reverseitemiterator","odict_iterator","itertools.zip_longest","itertools.pairwise"].contains n=false) (hQ:Q () s):wpAny M A (letOwnedTupleGo tg (.ref it) u) Q E s:=by
 unfold letOwnedTupleGo
 cases tg <;> first
  | exact YI hQ
  | (cases u <;> first
    | exact YI hQ
    | (refine YA (wpAny_load ho ?_)
       rw[hc,hd];show wpAny M A (if (["enumerate","zip","dict_itemiterator","dict_reverseitemiterator","odict_iterator","itertools.zip_longest","itertools.pairwise"].contains n && vs[0]? == some (rawInt _))=true then _ else _) Q E s;rw[XB (by intro h;rw[hn,Y0V] at h;cases h)];exact YI hQ))
def Itl (K:TR)(a:Addr):It :=
 ⟨λi H=>∃ xs x,SqL K H a xs/\xs[i]?=some x,λi H x H'=>H'=H/\∀ xs,SqL K H a xs->xs[i]?=some x,λi H=>∃ xs,SqL K H a xs/\xs.length<=i⟩
def Itt (K:TR)(a:Addr):It :=
 ⟨λi H=>∃ xs x,SqT K H a xs/\xs[i]?=some x,λi H x H'=>H'=H/\∀ xs,SqT K H a xs->xs[i]?=some x,λi H=>∃ xs,SqT K H a xs/\xs.length<=i⟩
def Itr (lo:Int)(n:Nat):It:=⟨λi _=>i<n,λi H x H'=>H'=H/\x=.int (lo+i),λi _=>n<=i⟩
theorem Um {P:TU}(a it:Addr):Turn P w K tg (Itl K a) [it] it (λi h=>h.IsListIter it a i) where
 mem:=by simp
 obj:=λi h st b hb=>by
  have e:b=it:=by simpa using hb
  subst e;obtain⟨o,e,c,d⟩:=st;exact⟨o,e,λv z=>by rw[d] at z;cases z⟩
 keep:=λi h h' st k=>st.at λo e=>k it (by simp) o e
 item:=by
  intro X hP hw hK hc i pins s σ H E I hf st hg;subst hP hw hK;obtain⟨xs,x,hq,hx⟩:=hg;obtain⟨its,rv,p,hz⟩:=I.list hq;obtain⟨u,hu,ru⟩:=rv.get hx;obtain⟨f0,f1,f2,f3,f4,f5⟩:=hf it (by simp);refine wpAny_pyNext_list_item st p.isList (x:=u) (by simpa using hu) λh' st' sb=>?_;have I1:Inv X pins σ H { s with heap:=h' }:=I.turned (t':=s.toks) (λb o hb e=>(sb.2 b hb).trans e) f0 f1 f3 f4 f5;obtain⟨o,e,c,d⟩:=id st';exact⟨u,rfl,Jg (s:={ s with heap:=h' }) e c d (by decide) ⟨x,H,I1,ru,⟨rfl,λys hy=>by rw[I.list_inj hy hq];exact hx⟩,st',λb hb=>(hf b hb).1⟩⟩
 done:=by
  intro X hP hw hK hc i pins s σ H E I hf st hg;subst hP hw hK;obtain⟨xs,hq,hx⟩:=hg;obtain⟨its,rv,p,hz⟩:=I.list hq;obtain⟨f0,f1,f2,f3,f4,f5⟩:=hf it (by simp);have hl:=rv.length;exact Sb.Ri (I.qt hc) st p.isList (by simp;omega) λh' eb=>⟨rfl,I.turned (t':=s.toks) (λb o hb e=>eb b o hb e) f0 f1 f3 f4 f5⟩
 self:=λ_ _ _ _ _ st h=>wpAny_pyIter_listiter st h
theorem Vk {P:TU}(a it:Addr):Turn P w K tg (Itt K a) [it] it (λi h=>h.IsTupleIter it a i) where
 mem:=by simp
 obj:=λi h st b hb=>by
  have e:b=it:=by simpa using hb
  subst e;obtain⟨o,e,c,d⟩:=st;exact⟨o,e,λv z=>by rw[d] at z;cases z⟩
 keep:=λi h h' st k=>st.at λo e=>k it (by simp) o e
 item:=by
  intro X hP hw hK hc i pins s σ H E I hf st hg;subst hP hw hK;obtain⟨xs,x,hq,hx⟩:=hg;obtain⟨its,rv,p,hz⟩:=I.tuple hq;obtain⟨u,hu,ru⟩:=rv.get hx;obtain⟨f0,f1,f2,f3,f4,f5⟩:=hf it (by simp);refine wpAny_pyNext_tuple_item st (show s.heap.IsTuple a its.toArray from p) (x:=u) (by simpa using hu) λh' st' sb=>?_;have I1:Inv X pins σ H { s with heap:=h' }:=I.turned (t':=s.toks) (λb o hb e=>(sb.2 b hb).trans e) f0 f1 f3 f4 f5;obtain⟨o,e,c,d⟩:=id st';exact⟨u,rfl,Jg (s:={ s with heap:=h' }) e c d (by decide) ⟨x,H,I1,ru,⟨rfl,λys hy=>by rw[I.tuple_inj hy hq];exact hx⟩,st',λb hb=>(hf b hb).1⟩⟩
 done:=by
  intro X hP hw hK hc i pins s σ H E I hf st hg;subst hP hw hK;obtain⟨xs,hq,hx⟩:=hg;obtain⟨its,rv,p,hz⟩:=I.tuple hq;obtain⟨f0,f1,f2,f3,f4,f5⟩:=hf it (by simp);have hl:=rv.length;exact Sb.Th (I.qt hc) st (show s.heap.IsTuple a its.toArray from p) (by simp;omega) λh' eb=>⟨rfl,I.turned (t':=s.toks) (λb o hb e=>eb b o hb e) f0 f1 f3 f4 f5⟩
 self:=λ_ _ _ _ _ st h=>wpAny_pyIter_tupleiter st h
theorem L9 {P:TU}(it:Addr)(lo:Int)(n:Nat):Turn P w K tg (Itr lo n) [it] it (λi h=>IsRangeIter h it (lo+(i:Nat)*1) ((n:Int) - (i:Nat)) 1) where
 mem:=by simp
 obj:=λi h st b hb=>by
  have e:b=it:=by simpa using hb
  subst e;exact⟨_,st,λv z=>by
   have z':Data.fields _=Data.cell v:=z
   cases z'⟩
 keep:=λi h h' st k=>k it (by simp) _ st
 item:=by
  intro X hP hw hK hc i pins s σ H E I hf st hg;subst hP hw hK;obtain⟨f0,f1,f2,f3,f4,f5⟩:=hf it (by simp);refine Sb.Lm i s _ _ hg st λv h' tk hv st' kk=>?_;obtain⟨t,rfl⟩:=hv;have I1:Inv X pins σ H { s with heap:=h',toks:=tk }:=I.turned (λb o hb e=>kk b o (by simpa using hb) e) f0 f1 f3 f4 f5;refine⟨_,rfl,Jg (s:={ s with heap:=h',toks:=tk }) (n:="range_iterator") st' rfl rfl (by decide) ⟨.int (lo+i),H,I1,⟨t,?_⟩,⟨rfl,rfl⟩,st',λb hb=>(hf b hb).1⟩⟩;rw[Y1m]
 done:=by
  intro X hP hw hK hc i pins s σ H E I hf st hg;subst hP hw hK;obtain⟨f0,f1,f2,f3,f4,f5⟩:=hf it (by simp);exact Sb.Nz (I.qt hc) st (by have:n<=i:=hg;omega) λh' eb=>⟨rfl,I.turned (t':=s.toks) (λb o hb e=>eb b o hb e) f0 f1 f3 f4 f5⟩
 self:=λ_ _ _ _ _ st h=>wpAny_pyIter_rangeiter st h
end L2
namespace L2
open PySem PySem.Spec PyProof.Rows
section
variable {X:Cx}{tg:Expr}
inductive iList_i (K:TR) (R:(It->Hp->Prop)) (x:V) (H1:Hp):Prop
 | i (a:_) (_:x=.ref a) (_:(∃ xs,SqL K H1 a xs)) (_:R (Itl K a) H1)
def iList (K:TR)(tl:TE):TI:=λσ H R=>tl σ H (iList_i K R)
inductive iTup_i (K:TR) (R:(It->Hp->Prop)) (x:V) (H1:Hp):Prop
 | i (a:_) (_:x=.ref a) (_:(∃ xs,SqT K H1 a xs)) (_:R (Itt K a) H1)
def iTup (K:TR)(tl:TE):TI:=λσ H R=>tl σ H (iTup_i K R)
theorem Y6 {l:Expr}(hl:PE X l tl):PI X tg l (iList X.K tl):=by
 intro pins s σ H R I h;refine thn (hl pins s σ H _ I h) λv s1 ⟨x,H1,I1,r1,q1⟩=>?_;obtain⟨a,e,⟨xs,hq⟩,q⟩:=q1;subst e
 cases r1;obtain⟨its,rv,p,hz⟩:=I1.list hq;refine JU p.isList ?_;refine⟨s1.heap.objs.size,[s1.heap.objs.size],_,_,H1,rfl,I1.kept (t':=s1.toks) λb o e=>YB _ e,Um a _,⟨_,YM _ rfl,rfl,rfl⟩,λb hb=>?_,q⟩;have e:b=s1.heap.objs.size:=by simpa using hb
 subst e;exact I1.fpOk (YF _) (I1.hok.fresh (YF _))
theorem Wj {l:Expr}(hl:PE X l tl):PI X tg l (iTup X.K tl):=by
 intro pins s σ H R I h;refine thn (hl pins s σ H _ I h) λv s1 ⟨x,H1,I1,r1,q1⟩=>?_;obtain⟨a,e,⟨xs,hq⟩,q⟩:=q1;subst e
 cases r1;obtain⟨its,rv,p,hz⟩:=I1.tuple hq;refine GQ (show s1.heap.IsTuple a its.toArray from p) ?_;refine⟨s1.heap.objs.size,[s1.heap.objs.size],_,_,H1,rfl,I1.kept (t':=s1.toks) λb o e=>YB _ e,Vk a _,⟨_,YM _ rfl,rfl,rfl⟩,λb hb=>?_,q⟩;have e:b=s1.heap.objs.size:=by simpa using hb
 subst e;exact I1.fpOk (YF _) (I1.hok.fresh (YF _))
theorem Du {s:Shared}{R:It->Hp->Prop}{lo hi:Int}{t u v:Tok}{tk:Nat}(I:Inv X pins σ H s)(h1:-(2 ^ 62)<=lo)(h2:lo<2 ^ 62)(h3:-(2 ^ 62)<=hi)(h4:hi<2 ^ 62)
  (q:R (Itr lo (hi - lo).toNat) H):wpAny (model X.prog X.w) X.A (pyIter (.ref s.heap.objs.size)) (PIE X pins σ tg R) E { s with heap:=s.heap.push { cls:=.type "range",data:=.fields #[.int lo t,.int hi u,.int 1 v] },toks:=tk }:=by
 refine wpAny_pyIter_range (IsRange.new ..) (small_one h1 h2 h3 h4) ?_;have I1:Inv X pins σ H { s with heap:=s.heap.push { cls:=.type "range",data:=.fields #[.int lo t,.int hi u,.int 1 v] },toks:=tk }:=I.kept λb o e=>YB _ e;refine⟨(s.heap.push { cls:=.type "range",data:=.fields #[.int lo t,.int hi u,.int 1 v] }).objs.size,[(s.heap.push { cls:=.type "range",data:=.fields #[.int lo t,.int hi u,.int 1 v] }).objs.size],_,_,H,rfl,
  I1.kept (t':=tk) λb o e=>YB _ e,L9 _ lo (hi - lo).toNat,?_,λb hb=>?_,q⟩
 ·have e1:lo+((0:Nat):Int)*1=lo:=by simp
  have e2:(((hi - lo).toNat:Nat):Int) - ((0:Nat):Int)=Builtin.Range.rangeSize lo hi 1:=by rw[rangeSize_one];split <;> omega
  show IsRangeIter _ _ (lo+((0:Nat):Int)*1) ((((hi - lo).toNat:Nat):Int) - ((0:Nat):Int)) 1;rw[e1,e2];exact YM _ rfl
 have e:b=(s.heap.push { cls:=.type "range",data:=.fields #[.int lo t,.int hi u,.int 1 v] }).objs.size:=by simpa using hb
 subst e;exact I1.fpOk (YF _) (I1.hok.fresh (YF _))
inductive iRng1_i (R:(It->Hp->Prop)) (vs:TZ) (H1:Hp):Prop
 | i (j:Int) (_:vs=[.int j]) (_:-(2 ^ 62)<=j) (_:j<2 ^ 62) (_:R (Itr 0 j.toNat) H1)
def iRng1 (ta:TA):TI:=λσ H R=>ta σ H (iRng1_i R)
theorem Yh {a:Expr}{ta:TA}{p pos:Pos}(hg:Gl X "range")(hm:X.mg "range"=none)(ha:PA X [a] ta)(hs:starEach [a] X.env=[(false,eval a X.env)]:=by rfl):PI X tg (.Call (.Name "range" p) [a] [] pos) (iRng1 ta):=by
 intro pins s σ H R I h;refine Call_ (Wq I hg hm boot_range (GG (thn (ha pos pins s σ H _ I h) λus s1 ⟨vs,H1,I1,r1,q1⟩=>?_) hs rfl));obtain⟨j,e,q1,q2,q⟩:=q1;subst e
 cases r1 with
 | cons r rr =>
  cases rr;obtain⟨t,rfl⟩:=r;exact call_range_1 (Du I1 (by omega) (by omega) q1 q2 (by simpa using q))
def tFor (wi:TI)(g:TG)(tb:TS):TS:=λD σ H=>wi σ H λJ H1=>∃ W:Nat->Nat->St->Hp->Prop,(∃ m,W 0 m σ H1)/\∀ i m σ H,W i m σ H →
 (J.stop i H/\D.nx σ H) \/ (J.go i H/\∃ N:St->Hp->Prop,(∀ σ' H',N σ' H'->∃ m',m'<m/\W (i+1) m' σ' H')/\∀ x H',J.yld i H x H'->g x σ H' λσ2 H2=>tb { D with nx:=N,ct:=N,bk:=D.nx } σ2 H2)
def pinsAt (fp:TJ)(h:Heap):List (Addr × Obj):=fp.filterMap λb=>(h.get? b).map λo=>(b,o)
theorem X6 {fp:TJ}{b:Addr}{o:Obj}(hb:b∈fp)(e:h.get? b=some o):(b,o)∈pinsAt fp h:=Y1b.mpr ⟨b,hb,by rw[e];rfl⟩
theorem Go {fp:TJ}{h:Heap}{p:Addr × Obj}(hp:p∈pinsAt fp h):p.1∈fp/\h.get? p.1=some p.2:=by
 obtain⟨b,hb,e⟩:=Y1b.mp hp
 cases q:h.get? b with
 | none=>rw[q] at e;cases e
 | some o =>
  rw[q] at e;have e':(b,o)=p:=YR e;subst e';exact⟨hb,q⟩
theorem Inv.pinned {s:Shared}{fp:TJ}(I:Inv X pins σ H s)(hf:∀ b∈fp,FpOk X pins H b)(ho:∀ b∈fp,∃ o,s.heap.get? b=some o/\∀ v,o.data≠.cell v):Inv X (pins++pinsAt fp s.heap) σ H s :=
 I.pins_of λp hp=>(XH.mp hp).elim (λz=>I.pin p (YU _ z)) λz=>by
  obtain⟨hb,e⟩:=Go z;obtain⟨f0,f1,f2,_⟩:=hf p.1 hb;obtain⟨o,e',d⟩:=ho p.1 hb;rw[e] at e';cases e';exact⟨e,f0,f1,f2,d⟩
theorem Inv.unpinned {pl:TD}{s:Shared}(I:Inv X (pins++pl) σ H s):Inv X pins σ H s:=I.pins_of λp hp=>I.pin p (YU _ (YJ _ hp))
theorem Ys {iter:Expr}{body:TM}{wi:TI}{g:TG}{tb:TS}{pos:Pos}(hp:PassesOwn (model X.prog X.w) X.A X.env X.xe)(hc:X.calm=true)(hi:PI X tg iter wi)(hg:PG X tg g)(hb:PSs X body tb)
  (hs:∀ x,foldedSetIterable iter X.env x=pure x:=by intro _;rfl):PS X (.For tg iter body [] pos) (tFor wi g tb):=by
 intro pins s σ H D I h;refine wpAny_For (thn (hi pins s σ H _ I h) λv s1 h1=>thn h1 λitv s2 h2=>?_) hs;obtain⟨it,fp,tn,J,H2,e,I2,T,st2,f2,W,⟨m0,w0⟩,turn⟩:=h2;subst e;have stat:∀ {H':Hp},(∀ b∈fp,H' b=none)->∀ b∈fp,FpOk X pins H' b:=λhn b hb=>⟨hn b hb,(f2 b hb).2⟩;refine codeAny_forLoop_any (λn s'=>∃ i σ' H',Inv X pins σ' H' s'/\tn i s'.heap/\(∀ b∈fp,H' b=none)/\W i n σ' H') ?_ m0 ⟨0,σ,H2,I2,st2,λb hb=>(f2 b hb).1,w0⟩;rintro n s3 ⟨i,σ3,H3,I3,st3,fr3,w3⟩;rcases turn i n σ3 H3 w3 with ⟨stop,qn⟩ | ⟨go,N,hN,step⟩
 ·refine qM hp (thn (T.done X rfl rfl rfl hc i pins s3 σ3 H3 X.xe I3 (stat fr3) st3 stop) λr s4 ⟨hr,I4⟩=>?_);subst hr;exact jr ⟨σ3,H3,I4,qn⟩
 refine qM hp (thn (T.item X rfl rfl rfl hc i pins s3 σ3 H3 X.xe I3 (stat fr3) st3 go) λr s4 ⟨u,hr,h4⟩=>?_);subst hr;refine qM hp (thn h4 λ_ s5 ⟨x,H5,I5,r5,y5,st5,fr5⟩=>?_);have I5':=I5.pinned (stat fr5) (T.obj _ _ st5);refine qM hp (thn (hg _ s5 σ3 H5 x u _ I5' r5 (step x H5 y5)) λ_ s6 ⟨σ6,H6,I6,q6⟩=>?_);refine qM hp (thn (hb _ s6 σ6 H6 _ I6 q6) λf s7 q7=>?_);have again:∀ {σ7:St} {H7:Hp},Inv X (pins++pinsAt fp s5.heap) σ7 H7 s7->N σ7 H7->∃ m,m<n/\∃ i σ' H',Inv X pins σ' H' s7/\tn i s7.heap/\(∀ b∈fp,H' b=none)/\W i m σ' H':=λ{σ7 H7} I7 n7=>by
  obtain⟨m',hm,w7⟩:=hN σ7 H7 n7;refine⟨m',hm,i+1,σ7,H7,I7.unpinned,T.keep _ _ _ st5 λb hb o e=>(I7.pin (b,o) (YU _ (YU _ (X6 hb e)))).1,λb hb=>?_,w7⟩;obtain⟨o,e,d⟩:=T.obj _ _ st5 b hb;exact (I7.pin (b,o) (YU _ (YU _ (X6 hb e)))).2.1
 cases f with
 | next=>obtain⟨σ7,H7,I7,n7⟩:=q7;exact again I7 n7
 | cont=>obtain⟨σ7,H7,I7,n7⟩:=q7;exact again I7 n7
 | brk=>obtain⟨σ7,H7,I7,q7⟩:=q7;exact⟨σ7,H7,I7.unpinned,q7⟩
 | ret v=>obtain⟨x7,σ7,H7,I7,r7,q7⟩:=q7;exact⟨x7,σ7,H7,I7.unpinned,r7,q7⟩
end
theorem X0 {a:Addr}{g:TG}{D:Ends}(Pv:Nat->St->Hp->Prop)(h0:Pv 0 σ H)(hl:∀ i σ H,i<=xs.length->Pv i σ H->SqL K H a xs)
  (hs:∀ i x σ H,xs[i]?=some x->Pv i σ H->g x σ H λσ2 H2=>tb { D with nx:=Pv (i+1),ct:=Pv (i+1),bk:=D.nx } σ2 H2) (hd:∀ σ H,Pv xs.length σ H->D.nx σ H) :
  ∃ W:Nat->Nat->St->Hp->Prop,(∃ m,W 0 m σ H)/\∀ i m σ H,W i m σ H →
   ((Itl K a).stop i H/\D.nx σ H) \/ ((Itl K a).go i H/\∃ N:St->Hp->Prop,(∀ σ' H',N σ' H'->∃ m',m'<m/\W (i+1) m' σ' H')/\∀ x H',(Itl K a).yld i H x H'->g x σ H' λσ2 H2=>tb { D with nx:=N,ct:=N,bk:=D.nx } σ2 H2):=by
 refine⟨λi m σ H=>m=xs.length - i/\i<=xs.length/\Pv i σ H,⟨xs.length,by simp,JO _,h0⟩,?_⟩;rintro i m σ H ⟨rfl,hi,p⟩;have q:=hl i σ H hi p;by_cases hlt:i<xs.length
 ·refine .inr ⟨⟨xs,xs[i],q,by simp[hlt]⟩,Pv (i+1),λσ' H' p'=>⟨xs.length - (i+1),by omega,rfl,hlt,p'⟩,λx H' y=>?_⟩;obtain⟨e,y⟩:=y;subst e;exact hs i x σ _ (y xs q) p
 have e:i=xs.length:=by omega
 subst e;exact .inl ⟨⟨xs,q,YF _⟩,hd σ H p⟩
theorem Pz {a:Addr}{g:TG}{D:Ends}(Pv:Nat->St->Hp->Prop)(h0:Pv 0 σ H)(hl:∀ i σ H,i<=xs.length->Pv i σ H->SqT K H a xs)
  (hs:∀ i x σ H,xs[i]?=some x->Pv i σ H->g x σ H λσ2 H2=>tb { D with nx:=Pv (i+1),ct:=Pv (i+1),bk:=D.nx } σ2 H2) (hd:∀ σ H,Pv xs.length σ H->D.nx σ H) :
  ∃ W:Nat->Nat->St->Hp->Prop,(∃ m,W 0 m σ H)/\∀ i m σ H,W i m σ H →
   ((Itt K a).stop i H/\D.nx σ H) \/ ((Itt K a).go i H/\∃ N:St->Hp->Prop,(∀ σ' H',N σ' H'->∃ m',m'<m/\W (i+1) m' σ' H')/\∀ x H',(Itt K a).yld i H x H'->g x σ H' λσ2 H2=>tb { D with nx:=N,ct:=N,bk:=D.nx } σ2 H2):=by
 refine⟨λi m σ H=>m=xs.length - i/\i<=xs.length/\Pv i σ H,⟨xs.length,by simp,JO _,h0⟩,?_⟩;rintro i m σ H ⟨rfl,hi,p⟩;have q:=hl i σ H hi p;by_cases hlt:i<xs.length
 ·refine .inr ⟨⟨xs,xs[i],q,by simp[hlt]⟩,Pv (i+1),λσ' H' p'=>⟨xs.length - (i+1),by omega,rfl,hlt,p'⟩,λx H' y=>?_⟩;obtain⟨e,y⟩:=y;subst e;exact hs i x σ _ (y xs q) p
 have e:i=xs.length:=by omega
 subst e;exact .inl ⟨⟨xs,q,YF _⟩,hd σ H p⟩
theorem T8 {lo:Int}{n:Nat}{g:TG}{D:Ends}(Pv:Nat->St->Hp->Prop)(h0:Pv 0 σ H)
  (hs:∀ i σ H,i<n->Pv i σ H->g (.int (lo+i)) σ H λσ2 H2=>tb { D with nx:=Pv (i+1),ct:=Pv (i+1),bk:=D.nx } σ2 H2) (hd:∀ σ H,Pv n σ H->D.nx σ H) :
  ∃ W:Nat->Nat->St->Hp->Prop,(∃ m,W 0 m σ H)/\∀ i m σ H,W i m σ H →
   ((Itr lo n).stop i H/\D.nx σ H) \/ ((Itr lo n).go i H/\∃ N:St->Hp->Prop,(∀ σ' H',N σ' H'->∃ m',m'<m/\W (i+1) m' σ' H')/\∀ x H',(Itr lo n).yld i H x H'->g x σ H' λσ2 H2=>tb { D with nx:=N,ct:=N,bk:=D.nx } σ2 H2):=by
 refine⟨λi m σ H=>m=n - i/\i<=n/\Pv i σ H,⟨n,by simp,JO _,h0⟩,?_⟩;rintro i m σ H ⟨rfl,hi,p⟩;by_cases hlt:i<n
 ·refine .inr ⟨hlt,Pv (i+1),λσ' H' p'=>⟨n - (i+1),by omega,rfl,hlt,p'⟩,λx H' y=>?_⟩;obtain⟨e,y⟩:=y;subst e y;exact hs i σ _ hlt p
 have e:i=n:=by omega
 subst e;exact .inl ⟨YF _,hd σ H p⟩
theorem Nl {c:TT}{tb:TS}{D:Ends}{σ:St}{H:Hp}(Pv:St->Hp->Prop)(μ:St->Hp->Nat)(h0:Pv σ H)
  (hs:∀ σ H,Pv σ H->c σ H λb H1=>if b=true then tb { D with nx:=λσ' H'=>Pv σ' H'/\μ σ' H'<μ σ H,ct:=λσ' H'=>Pv σ' H'/\μ σ' H'<μ σ H,bk:=D.nx } σ H1 else D.nx σ H1)
  (mono:∀ σ H Q Q',(∀ b H1,Q b H1->Q' b H1)->c σ H Q->c σ H Q'):tWhile c tb D σ H:=by
 refine⟨λm σ H=>m=μ σ H/\Pv σ H,⟨_,rfl,h0⟩,?_⟩;rintro m σ H ⟨rfl,p⟩;refine mono σ H _ _ (λb H1 q=>?_) (hs σ H p)
 cases b with
 | true=>exact⟨_,λσ' H' ⟨p',l⟩=>⟨_,l,rfl,p'⟩,q⟩
 | false=>exact q
end L2
namespace L2
open PySem PySem.Spec PyProof.Rows
abbrev R2:=V->V->Hp->VK->Prop
def OpR (X:Cx)(f:Value->Value->Sem Value)(r:R2):Prop :=
 ∀ (pins:TD) (s:Shared) (σ:St) (H:Hp) (x y:V) (v u:Value) (Q:VK),Inv X pins σ H s->RelV x v->RelV y u->r x y H Q →
  wpAny (model X.prog X.w) X.A (f v u) (EP X pins σ Q) X.xe s
def UnR (X:Cx)(f:Value->Sem Value)(r:V->Hp->VK->Prop):Prop :=
 ∀ (pins:TD) (s:Shared) (σ:St) (H:Hp) (x:V) (v:Value) (Q:VK),Inv X pins σ H s->RelV x v->r x H Q →
  wpAny (model X.prog X.w) X.A (f v) (EP X pins σ Q) X.xe s
def CallR (X:Cx)(f:Value)(r:List V->Hp->VK->Prop):Prop :=
 ∀ (pins:TD) (s:Shared) (σ:St) (H:Hp) (xs:TZ) (us:TH) (Q:VK),Inv X pins σ H s->Vals xs us->r xs H Q →
  wpAny (model X.prog X.w) X.A (call f us) (EP X pins σ Q) X.xe s
def tOp (r:R2)(ta tb:TE):TE:=λσ H Q=>ta σ H λx H1=>tb σ H1 λy H2=>r x y H2 Q
def tUn (r:V->Hp->VK->Prop)(ta:TE):TE:=λσ H Q=>ta σ H λx H1=>r x H1 Q
inductive rI (C:Int->Int->Prop) (g:Int->Int->V) (x:V) (y:V) (H:Hp) (Q:VK):Prop
 | i (i j:_) (_:x=.int i) (_:y=.int j) (_:C i j) (_:Q (g i j) H)
inductive rI0 (g:Int->Int->V) (x:V) (y:V) (H:Hp) (Q:VK):Prop
 | i (i j:_) (_:x=.int i) (_:y=.int j) (_:Q (g i j) H)
inductive rU (g:Int->V) (x:V) (H:Hp) (Q:VK):Prop
 | i (i:_) (_:x=.int i) (_:Q (g i) H)
section
variable {X:Cx}{a b c:Expr}{ta tb tc:TE}{pos:Pos}
theorem Z49 (ha:PE X a ta)(hb:PE X b tb){pins:TD}{s:Shared}{σ:St}{H:Hp}{R:V->V->Hp->Prop}(I:Inv X pins σ H s)
  (h:ta σ H λx H1=>tb σ H1 λy H2=>R x y H2) {Q:TC} {f:Value->Value->Sem Value}
  (hf:∀ v u s2 x y H2,Inv X pins σ H2 s2->RelV x v->RelV y u->R x y H2->wpAny (model X.prog X.w) X.A (f v u) Q X.xe s2) :
  wpAny (model X.prog X.w) X.A (eval a X.env) (λv s₁=>wpAny (model X.prog X.w) X.A (eval b X.env) (λu s₂=>wpAny (model X.prog X.w) X.A (f v u) Q X.xe s₂) X.xe s₁) X.xe s:=by
 refine thn (ha pins s σ H _ I h) λv s1 ⟨x,H1,I1,r1,q1⟩=>?_;refine thn (hb pins s1 σ H1 _ I1 q1) λu s2 ⟨y,H2,I2,r2,q2⟩=>?_;exact hf v u s2 x y H2 I2 r1 r2 q2
theorem Zm {op:Operator}{r:R2}(ho:OpR X (binaryOp op) r)(ha:PE X a ta)(hb:PE X b tb):PE X (.BinOp a op b pos) (tOp r ta tb):=by
 intro pins s σ H Q I h;exact wpAny_BinOp (Z49 ha hb I h λv u s2 x y H2 I2 rx ry q=>ho pins s2 σ H2 x y v u Q I2 rx ry q)
theorem Q8 {op:UnaryOp}{r:V->Hp->VK->Prop}(ho:UnR X (unaryOp op) r)(ha:PE X a ta):PE X (.UnaryOp op a pos) (tUn r ta):=by
 intro pins s σ H Q I h;exact UnaryOp_ (thn (ha pins s σ H _ I h) λv s1 ⟨x,H1,I1,r1,q1⟩=>ho pins s1 σ H1 x v Q I1 r1 q1)
theorem opI {f:Value->Value->Sem Value}{C:Int->Int->Prop}{g:Int->Int->Int}
  (rule:∀ (i j:Int) (t u:Tok) (s:Shared) (Q:TC) (E:TC),C i j->Q (.int (g i j) s.toks) { s with toks:=s.toks+1 }->wpAny (model X.prog X.w) X.A (f (.int i t) (.int j u)) Q E s) :
  OpR X f (rI C λi j=>.int (g i j)):=by
 intro pins s σ H x y v u Q I rx ry h;obtain⟨i,j,rfl,rfl,hc,q⟩:=h;obtain⟨t,rfl⟩:=rx;obtain⟨t',rfl⟩:=ry;exact rule i j t t' s _ _ hc ⟨.int (g i j),H,I.tok _,⟨_,rfl⟩,q⟩
theorem Z4u {f:Value->Value->Sem Value}{g:Int->Int->Int}
  (rule:∀ (i j:Int) (t u:Tok) (s:Shared) (Q:TC) (E:TC),Q (.int (g i j) s.toks) { s with toks:=s.toks+1 }->wpAny (model X.prog X.w) X.A (f (.int i t) (.int j u)) Q E s) :
  OpR X f (rI0 λi j=>.int (g i j)):=by
 intro pins s σ H x y v u Q I rx ry h;obtain⟨i,j,rfl,rfl,q⟩:=h;obtain⟨t,rfl⟩:=rx;obtain⟨t',rfl⟩:=ry;exact rule i j t t' s _ _ ⟨.int (g i j),H,I.tok _,⟨_,rfl⟩,q⟩
theorem Z16 {f:Value->Value->Sem Value}{g:Int->Int->Bool}
  (rule:∀ (i j:Int) (t u:Tok) (s:Shared) (Q:TC) (E:TC),Q (.bool (g i j)) s->wpAny (model X.prog X.w) X.A (f (.int i t) (.int j u)) Q E s) :
  OpR X f (rI0 λi j=>.bl (g i j)):=by
 intro pins s σ H x y v u Q I rx ry h;obtain⟨i,j,rfl,rfl,q⟩:=h;obtain⟨t,rfl⟩:=rx;obtain⟨t',rfl⟩:=ry;exact rule i j t t' s _ _ ⟨.bl (g i j),H,I,rfl,q⟩
def CPow (i j:Int):Prop:=0<=j/\j<=1000000/\i.natAbs<2 ^ 64
def CMul (i j:Int):Prop:=(-(2 ^ 64)<i/\i<2 ^ 64) \/ (-(2 ^ 64)<j/\j<2 ^ 64)
theorem X3:OpR X (binaryOp .Add) (rI0 λi j=>.int (i+j)):=Z4u λ_ _ _ _ _ _ _ q=>add_int q
theorem Ux:OpR X (binaryOp .Sub) (rI0 λi j=>.int (i - j)):=Z4u λ_ _ _ _ _ _ _ q=>sub_int q
theorem Xq:OpR X (binaryOp .Mod) (rI (λ_ j=>0<j) λi j=>.int (i % j)):=opI λi j _ _ _ _ _ hc q=>by
 have h1:(0:Int)<j:=hc;exact mod_int' (by omega) (by rw[Int.fmod_eq_emod_of_nonneg i (by omega)];exact q)
theorem Z15:OpR X (binaryOp .Mod) (rI (λ_ j=>j≠0) λi j=>.int (i.fmod j)):=opI λ_ _ _ _ _ _ _ hc q=>mod_int' hc q
theorem Po:OpR X (binaryOp .Pow) (rI CPow λi j=>.int (i ^ j.toNat)):=opI λ_ _ _ _ _ _ _ hc q=>pow_int_small hc.1 hc.2.1 hc.2.2 q
theorem unI {f:Value->Sem Value}{g:Int->Int}
  (rule:∀ (i:Int) (t:Tok) (s:Shared) (Q:TC) (E:TC),Q (.int (g i) s.toks) { s with toks:=s.toks+1 }->wpAny (model X.prog X.w) X.A (f (.int i t)) Q E s) :
  UnR X f (rU λi=>.int (g i)):=by
 intro pins s σ H x v Q I rx h;obtain⟨i,rfl,q⟩:=h;obtain⟨t,rfl⟩:=rx;exact rule i t s _ _ ⟨.int (g i),H,I.tok _,⟨_,rfl⟩,q⟩
theorem Ul:UnR X (unaryOp .USub) (rU λi=>.int (-i)):=unI λ_ _ _ _ _ q=>neg_int q
end
def scal:V->V->Bool
 | .non,.non=>true | .non,.int _=>true | .int _,.non=>true | .non,.bl _=>true | .bl _,.non=>true | .non,.str _=>true | .str _,.non=>true
 | .int _,.int _=>true | .bl _,.bl _=>true | .str _,.str _=>true | .byt _,.byt _=>true
 | .int _,.str _=>true | .str _,.int _=>true | .bl _,.str _=>true | .str _,.bl _=>true
 | _,_=>false
def rEq:R2:=λx y H Q=>scal x y=true/\Q (.bl (decide (x=y))) H
def rNe:R2:=λx y H Q=>scal x y=true/\Q (.bl (!decide (x=y))) H
theorem Jn {i j:Int}:decide (V.int i=V.int j)=(i == j):=by
 rw[JS];simp
theorem Z00 {i j:Bool}:decide (V.bl i=V.bl j)=(i == j):=by
 rw[JS];simp
theorem Jm {i j:Str}:decide (V.str i=V.str j)=(i == j):=by
 rw[JS];simp
theorem Jo {i j:Array UInt8}:decide (V.byt i=V.byt j)=(i.toList == j.toList):=by
 rw[JS]
 cases i
 cases j;simp
section
variable {X:Cx}{a b c:Expr}{ta tb tc:TE}{pos:Pos}
theorem Y5 {s:Shared}{Q:VK}{k k':Bool}(I:Inv X pins σ H s)(q:Q (.bl k) H)(e:k=k'):EP X pins σ Q (.bool k') s:=by
 subst e;exact⟨.bl k,H,I,rfl,q⟩
theorem Wv:OpR X (compareOp .Eq) rEq:=by
 intro pins s σ H x y v u Q I rx ry h;obtain⟨hs,q⟩:=h
 cases x with
 | non =>
  cases rx
  cases y with
  | non=>cases ry;exact PySem.EqNone.eq_none_none (Y5 I q (by simp))
  | bl j=>cases ry;exact PySem.EqNone.eq_none_bool (Y5 I q (by simp))
  | int j=>obtain⟨t',rfl⟩:=ry;exact PySem.EqNone.eq_none_int (Y5 I q (by simp))
  | str j=>obtain⟨t',rfl⟩:=ry;exact PySem.EqNone.eq_none_str (Y5 I q (by simp))
  | _=>exact absurd (show false=true from hs) YS
 | bl i =>
  cases rx
  cases y with
  | non=>cases ry;exact PySem.EqNone.eq_bool_none (Y5 I q (by simp))
  | bl j=>cases ry;exact eq_bool (Y5 I q Z00)
  | str j=>obtain⟨t',rfl⟩:=ry;exact PySem.EqMixed.eq_bool_str (Y5 I q (by simp))
  | _=>exact absurd (show false=true from hs) YS
 | int i =>
  obtain⟨t,rfl⟩:=rx
  cases y with
  | non=>cases ry;exact PySem.EqNone.eq_int_none (Y5 I q (by simp))
  | int j=>obtain⟨t',rfl⟩:=ry;exact eq_int (Y5 I q Jn)
  | str j=>obtain⟨t',rfl⟩:=ry;exact PySem.EqMixed.eq_int_str (Y5 I q (by simp))
  | _=>exact absurd (show false=true from hs) YS
 | str i =>
  obtain⟨t,rfl⟩:=rx
  cases y with
  | non=>cases ry;exact PySem.EqNone.eq_str_none (Y5 I q (by simp))
  | bl j=>cases ry;exact PySem.EqMixed.eq_str_bool (Y5 I q (by simp))
  | int j=>obtain⟨t',rfl⟩:=ry;exact PySem.EqMixed.eq_str_int (Y5 I q (by simp))
  | str j=>obtain⟨t',rfl⟩:=ry;exact eq_str (Y5 I q Jm)
  | _=>exact absurd (show false=true from hs) YS
 | byt i =>
  obtain⟨t,rfl⟩:=rx
  cases y with
  | byt j=>obtain⟨t',rfl⟩:=ry;exact W.eq_bytes (Y5 I q Jo)
  | _=>exact absurd (show false=true from hs) YS
 | _=>cases y <;> exact absurd (show false=true from hs) YS
theorem Me:OpR X (compareOp .NotEq) rNe:=by
 intro pins s σ H x y v u Q I rx ry h;obtain⟨hs,q⟩:=h
 cases x with
 | non =>
  cases rx
  cases y with
  | non=>cases ry;exact PySem.EqNone.ne_none_none (Y5 I q (by simp))
  | bl j=>cases ry;exact PySem.EqNone.ne_none_bool (Y5 I q (by simp))
  | int j=>obtain⟨t',rfl⟩:=ry;exact PySem.EqNone.ne_none_int (Y5 I q (by simp))
  | str j=>obtain⟨t',rfl⟩:=ry;exact PySem.EqNone.ne_none_str (Y5 I q (by simp))
  | _=>exact absurd (show false=true from hs) YS
 | bl i =>
  cases rx
  cases y with
  | non=>cases ry;exact PySem.EqNone.ne_bool_none (Y5 I q (by simp))
  | bl j=>cases ry;exact ne_bool (Y5 I q (congrArg not Z00))
  | str j=>obtain⟨t',rfl⟩:=ry;exact PySem.EqMixed.ne_bool_str (Y5 I q (by simp))
  | _=>exact absurd (show false=true from hs) YS
 | int i =>
  obtain⟨t,rfl⟩:=rx
  cases y with
  | non=>cases ry;exact PySem.EqNone.ne_int_none (Y5 I q (by simp))
  | int j=>obtain⟨t',rfl⟩:=ry;exact ne_int (Y5 I q (congrArg not Jn))
  | str j=>obtain⟨t',rfl⟩:=ry;exact PySem.EqMixed.ne_int_str (Y5 I q (by simp))
  | _=>exact absurd (show false=true from hs) YS
 | str i =>
  obtain⟨t,rfl⟩:=rx
  cases y with
  | non=>cases ry;exact PySem.EqNone.ne_str_none (Y5 I q (by simp))
  | bl j=>cases ry;exact PySem.EqMixed.ne_str_bool (Y5 I q (by simp))
  | int j=>obtain⟨t',rfl⟩:=ry;exact PySem.EqMixed.ne_str_int (Y5 I q (by simp))
  | str j=>obtain⟨t',rfl⟩:=ry;exact ne_str (Y5 I q (congrArg not Jm))
  | _=>exact absurd (show false=true from hs) YS
 | byt i =>
  obtain⟨t,rfl⟩:=rx
  cases y with
  | byt j=>obtain⟨t',rfl⟩:=ry;exact W.ne_bytes (Y5 I q (congrArg not Jo))
  | _=>exact absurd (show false=true from hs) YS
 | _=>cases y <;> exact absurd (show false=true from hs) YS
theorem Sz:OpR X (compareOp .Lt) (rI0 λi j=>.bl (decide (i<j))):=Z16 λ_ _ _ _ _ _ _ q=>lt_int q
theorem Z4s:OpR X (compareOp .LtE) (rI0 λi j=>.bl (decide (i<=j))):=Z16 λ_ _ _ _ _ _ _ q=>le_int q
theorem Ky:OpR X (compareOp .Gt) (rI0 λi j=>.bl (decide (j<i))):=Z16 λ_ _ _ _ _ _ _ q=>gt_int q
theorem Z4t:OpR X (compareOp .GtE) (rI0 λi j=>.bl (decide (j<=i))):=Z16 λ_ _ _ _ _ _ _ q=>ge_int q
theorem Cf:OpR X (compareOp .Is) (λx y H Q=>y=.non/\Q (.bl (decide (x=.non))) H):=by
 intro pins s σ H x y v u Q I rx ry h;obtain⟨rfl,q⟩:=h
 cases ry;refine is_none_gen (Y5 I q ?_)
 cases x <;> first
  | (cases rx;rfl)
  | (obtain⟨t,rfl⟩:=rx;rfl)
theorem U5:OpR X (compareOp .IsNot) (λx y H Q=>y=.non/\Q (.bl (!decide (x=.non))) H):=by
 intro pins s σ H x y v u Q I rx ry h;obtain⟨rfl,q⟩:=h
 cases ry;refine isnot_none_gen (Y5 I q ?_)
 cases x <;> first
  | (cases rx;rfl)
  | (obtain⟨t,rfl⟩:=rx;rfl)
theorem Zr (b:Expr){op:CmpOp}(h:op≠.In:=by decide)(h2:op≠.NotIn:=by decide):behindInMarks op b=false:=by
 have e1:(op == CmpOp.In)=false:=by cases op <;> first | rfl | exact absurd rfl h
 have e2:(op == CmpOp.NotIn)=false:=by cases op <;> first | rfl | exact absurd rfl h2
 cases b <;> simp[behindInMarks,e1,e2]
theorem Xb {op:CmpOp}{r:R2}(ho:OpR X (compareOp op) r)(ha:PE X a ta)(hb:PE X b tb)(hm:behindInMarks op b=false):PE X (.Compare a [op] [b] pos) (tOp r ta tb):=by
 intro pins s σ H Q I h;exact wpAny_Compare1 (Z49 ha hb I h λv u s2 x y H2 I2 rx ry q=>ho pins s2 σ H2 x y v u Q I2 rx ry q) hm
def tTest (t:TE):TT:=λσ H Q=>t σ H λx H'=>∃ k,x=.bl k/\Q k H'
theorem Zp {op:CmpOp}{r:R2}(ho:OpR X (compareOp op) r)(ha:PE X a ta)(hb:PE X b tb)(hm:behindInMarks op b=false):PT X (.Compare a [op] [b] pos) (tTest (tOp r ta tb)):=by
 intro pins s σ H Q I h;refine wpAny_isTrue_Compare1 (thn (ha pins s σ H _ I h) λv s1 ⟨x,H1,I1,r1,q1⟩=>thn (hb pins s1 σ H1 _ I1 q1) λu s2 ⟨y,H2,I2,r2,q2⟩ =>
  thn (ho pins s2 σ H2 x y v u _ I2 r1 r2 q2) λc s3 ⟨z,H3,I3,r3,k,e,q3⟩=>?_) hm
 subst e
 cases r3;exact GW ⟨H3,I3,q3⟩
theorem Py:(sizeLine:Nat)<2 ^ 63:=by rw[qR];decide
theorem Wz {x:V}{us:TH}(r:Vals [x] us):∃ u,us=[u]/\RelV x u:=by
 cases r with
 | cons r1 r2=>cases r2;exact⟨_,rfl,r1⟩
theorem Km {x y:V}{us:TH}(r:Vals [x,y] us):∃ u w',us=[u,w']/\RelV x u/\RelV y w':=by
 cases r with
 | cons r1 r2 =>
  cases r2 with
  | cons r3 r4=>cases r4;exact⟨_,_,rfl,r1,r3⟩
theorem L7:CallR X (.builtin "abs") (λxs H Q=>∃ i,xs=[.int i]/\Q (.int (if i<0 then -i else i)) H):=by
 intro pins s σ H xs us Q I r h;obtain⟨i,rfl,q⟩:=h;obtain⟨u,rfl,t,rfl⟩:=Wz r;exact call_abs_int λu tk=>⟨.int (if i<0 then -i else i),H,I.tok _,⟨_,rfl⟩,q⟩
end
end L2
namespace L2
open PySem PySem.Spec PyProof.Rows
structure ObjM (h:Heap)(x dx C:Addr)(mA:TB):Prop where
 obj:h.get? x=some (W.instObj C dx)
 ns:h.Ns1 dx mA
 ne:dx≠x
theorem Gu {dx:Addr}{mA:TB}(n:h.Ns1 dx mA):∃ od,h.get? dx=some od/\∀ name,W.lookIn name od=some (mA name):=by
 obtain⟨o,es,ep,ho,hd,hk,_,hm⟩:=n;refine⟨o,ho,λname=>?_⟩;have e:=hm name;unfold nsFind findBy at e;rw[<-Array.find?_toList] at e;unfold W.lookIn;rw[hd];dsimp only;split
 ·rename_i y q
  rw[q] at e;exact congrArg some e
 rename_i q
 rw[q] at e;have a:es.toList.any (·.refKey)=false:=by
  rw[List.any_eq_false];intro y hy;obtain⟨z,t,hkey⟩:=hk y (Array.mem_toList_iff.mp hy);simp[DictEntry.refKey,hkey]
 have a':¬ es.toList.any (·.refKey)=true:=by rw[a];exact YS
 rw[XB a'];exact congrArg some e
theorem ObjM.look {x dx:Addr}{mA:TB}(I:ObjM h x dx C mA):∃ od,W.InstAt h x (W.instObj C dx) C (some od)/\∀ name,W.lookIn name od=some (mA name) :=
 let ⟨od,ho,hl⟩:=Gu I.ns
 ⟨od,⟨I.obj,rfl,rfl,ho⟩,hl⟩
section
variable {prog:TU}{w:World}{A:Around}{E:TC}{s:Shared}{K:TR}{x dx C f:Addr}{mA:TB}{name:Str}{v:Value}
end
section
variable {P:TU}{w:World}{H H':Hp}{h h':Heap}{a C dx:Addr}{fs fs':List (Str × V)}
theorem Z26 (hok:HOk P w H h)(e:H a=some (.ins C dx fs)):∃ mA,ObjM h a dx C mA/\(∀ f,RelO (fs.lookup f) (mA f))/\PySem.Within mA (fs.map (·.1))/\fs.length<=1000/\H dx=some (.own a):=by
 obtain⟨d,z,ne,ob,mA,n,r,q⟩:=(show ObjOk P w H h a (.ins C dx fs) from hok a _ e);exact⟨mA,⟨ob,n,ne⟩,r,q,z,d⟩
end
structure Cls (K:TR)(C:Addr):Prop where
 pg:W.plainGet K C Str.empty=true
 hd:W.hasDictIn K C=true
 po:W.plainOver K C=true
 sa:W.findIn K (.ref C) "__setattr__"=some (some (.builtin "object.__setattr__"))
theorem Cls.get (c:Cls K C)(f:Str):W.plainGet K C f=true:=c.pg
structure Con (K:TR)(C:Addr)(f:Str)(v:V)(u:Value):Prop where
 at_:W.findIn K (.ref C) f=some (some u)
 rel:RelV v u
 get:W.specialIn K u "__get__"=some none
 cp:W.copiedNames.contains f=false
section
variable {X:Cx}{pins:TD}{σ:St}{H:Hp}{s:Shared}{a C dx:Addr}{fs:List (Str × V)}{f:Str}{v:V}{A:Around}{E:TC}
end
section
variable {X:Cx}{o e value:Expr}{f:Str}{pos pos' tpos:Pos}{ta tv:TE}
end
section
variable {X:Cx}{pins:TD}{σ:St}{H:Hp}{s:Shared}{A:Around}{E:TC}{Q:TC}{c:Value}{b:Bool}
inductive TyOf (K:TR) (H:Hp):V->Value->Prop where
 | non:TyOf K H .non (.type "NoneType")
 | bl (x:Bool):TyOf K H (.bl x) (.type "bool")
 | int (i:Int):TyOf K H (.int i) (.type "int")
 | str (x:Str):TyOf K H (.str x) (.type "str")
 | flt (x:UInt64):TyOf K H (.flt x) (.type "float")
 | lst {a:Addr} {xs:TZ} (e:H a=some (.lst xs)):TyOf K H (.ref a) (.type "list")
 | frz {a:Addr} {o:Obj} {xs:TZ} (e:H a=some (.frz o (.lst xs))):TyOf K H (.ref a) (.type "list")
 | tup {a:Addr} {xs:TZ} (e:H a=some (.tup xs)):TyOf K H (.ref a) (.type "tuple")
 | dK {a:Addr} {kvs:List (Key × V)} (e:H a=some (.dK kvs)):TyOf K H (.ref a) (.type "dict")
 | dT {a:Addr} {kvs:List (List Key × V)} (e:H a=some (.dT kvs)):TyOf K H (.ref a) (.type "dict")
 | ins {a C dx:Addr} {fs:List (Str × V)} (e:H a=some (.ins C dx fs)) (cl:Cls K C) (ha:W.findIn K (.ref C) "__class__"=some (some (.builtin "object.__class__")))
   (hn:W.specialIn K (.builtin "object.__class__") "__get__"=some (some (.builtin "getset_descriptor.__get__"))) (htk:W.takesIn K (.builtin "object.__class__")=some true)
   (hm:W.mroIn K C (.type "object")=some true):TyOf K H (.ref a) (.ref C)
theorem F1 {x:V}{u t:Value}(I:Inv X pins σ H s)(rx:RelV x u)(ty:TyOf X.K H x t)(e:W.kitOne X.K t c=some b)(h:∀ tk,Q (.bool b) { s with toks:=tk }) :
  wpAny (model X.prog X.w) A (call (.builtin "isinstance") [u,c]) Q E s:=by
 cases ty with
 | non=>cases (show u=Value.none from rx);exact ze W.kitx_none I.kIn True.intro e (λz=>nomatch z) h
 | bl y=>cases (show u=Value.bool y from rx);exact ze W.kitx_bool I.kIn True.intro e (λz=>nomatch z) h
 | int i=>obtain⟨t,q⟩:=(show ∃ t,u=Value.int i t from rx);cases q;exact ze W.kitx_int I.kIn True.intro e (λz=>nomatch z) h
 | str y=>obtain⟨t,q⟩:=(show ∃ t,u=Value.str y t from rx);cases q;exact ze W.kitx_str I.kIn True.intro e (λz=>nomatch z) h
 | flt y=>obtain⟨t,q⟩:=(show ∃ t,u=Value.float y t from rx);cases q;exact ze W.kitx_float I.kIn True.intro e (λz=>nomatch z) h
 | @lst a xs ea =>
  cases (show u=Value.ref a from rx);obtain⟨_,_,n,_,h1⟩:=(show ObjOk X.prog X.w H s.heap a (.lst xs) from I.hok a _ ea);exact ze W.kitx_list I.kIn ⟨_,h1,rfl⟩ e (λz=>nomatch z) h
 | @frz a ob xs ea =>
  cases (show u=Value.ref a from rx);obtain⟨_,_,_,n,_,h1⟩:=(show ObjOk X.prog X.w H s.heap a (.frz ob (.lst xs)) from I.hok a _ ea);exact ze W.kitx_list I.kIn ⟨_,h1,rfl⟩ e (λz=>nomatch z) h
 | @tup a xs ea =>
  cases (show u=Value.ref a from rx);obtain⟨_,_,_,p⟩:=(show ObjOk X.prog X.w H s.heap a (.tup xs) from I.hok a _ ea);obtain⟨o,h1,h2,_⟩:=p;exact ze W.kitx_tuple I.kIn ⟨o,h1,h2⟩ e (λz=>nomatch z) h
 | @dK a kvs ea =>
  cases (show u=Value.ref a from rx);obtain⟨_,_,vs,_,p⟩:=(show ObjOk X.prog X.w H s.heap a (.dK kvs) from I.hok a _ ea);obtain⟨o,es,ep,h1,h2,_⟩:=p;exact ze W.kitx_dict I.kIn ⟨o,h1,h2.1⟩ e (λz=>nomatch z) h
 | @dT a kvs ea =>
  cases (show u=Value.ref a from rx);obtain⟨_,_,xs,_,o,es,ep,h1,h2,_⟩:=(show ObjOk X.prog X.w H s.heap a (.dT kvs) from I.hok a _ ea);exact ze W.kitx_dict I.kIn ⟨o,h1,h2.1⟩ e (λz=>nomatch z) h
 | @ins a C dx fs ea cl ha hn htk hm =>
  cases (show u=Value.ref a from rx);obtain⟨mA,O,_⟩:=Z26 I.hok ea;obtain⟨od,J,_⟩:=O.look;exact ze (W.kitx_own (cl.get _) cl.hd ha hn htk hm) I.kIn J e (λz=>nomatch z) h
end
end L2
namespace L2
open PySem PySem.Spec PyProof.Rows
structure Room (k:Nat)(A:Around)(sr:Bool:=false):Prop where
 hd:sr=true->A.handled=none
 dp:A.depth+3*k+105<recursionLimit
 un:A.units+16*k+200<cLine
theorem Room.mono {j k:Nat}(r:Room k A sr)(h:j<=k):Room j A sr:=⟨r.hd,by have:=r.dp;omega,by have:=r.un;omega⟩
theorem Room.deeper {k:Nat}{A:Around}{sr:Bool}(r:Room (k+1) A sr)(env:Env):Room k (A.deeper env) sr :=
 ⟨r.hd,by have:=r.dp;show A.depth+1+3*k+105<_;omega,by have:=r.un;show A.units+3+16*k+200<_;omega⟩
theorem Room.in1 {k:Nat}{A:Around}{sr:Bool}(r:Room (k+1) A sr):Room k A.in1 sr :=
 ⟨r.hd,by have:=r.dp;show A.depth+3*k+105<_;omega,by have:=r.un;show A.units+1+16*k+200<_;omega⟩
theorem Room.depth {k:Nat}{A:Around}{sr:Bool}(r:Room k A sr):A.depth<recursionLimit:=by have:=r.dp;omega
theorem Room.units {k:Nat}{A:Around}{sr:Bool}(r:Room k A sr):A.units+64<cLine:=by have:=r.un;omega
theorem Room.loose {k:Nat}(r:Room k A sr):Room k A:=⟨(λz=>nomatch z),r.dp,r.un⟩
def tNil:TA:=λ_ H Q=>Q [] H
def tCons (ta:TE)(tr:TA):TA:=λσ H Q=>ta σ H λx H1=>tr σ H1 λxs H2=>Q (x::xs) H2
section
variable {X:Cx}{e:Expr}{es:TL}{te:TE}{t:TA}{pos:Pos}
theorem Z7:PA X [] tNil:=λ_ _ _ _ H Q I h=>Calls.spliced_nil ⟨[],H,I,.nil,h⟩
theorem Z0 (ha:PE X e te)(hr:PA X es t)(hs:starEach (e::es) X.env=(false,eval e X.env)::starEach es X.env:=by rfl):PA X (e::es) (tCons te t):=by
 intro pos pins s σ H Q I h;rw[hs];show wpAny _ _ (spliced ((false,eval e X.env)::backTo pos (starEach es X.env))) _ _ s;refine Calls.spliced_cons (thn (ha pins s σ H _ I h) λu s1 ⟨x,H1,I1,r1,q1⟩=>?_);exact thn (hr pos pins s1 σ H1 _ I1 q1) λus s2 ⟨xs,H2,I2,r2,q2⟩=>⟨x::xs,H2,I2,.cons r1 r2,q2⟩
def tTup (t:TA):TE:=λσ H Q=>t σ H λxs H1=>xs.length<=sizeLine/\∀ p,H1 p=none->Q (.ref p) (upd H1 p (.tup xs))
def tLst (t:TA):TE:=λσ H Q=>t σ H λxs H1=>xs.length<=sizeLine/\∀ p,H1 p=none->Q (.ref p) (upd H1 p (.lst xs))
theorem Yp {x1}(h:PA X es t):PE X (.Tuple es x1 pos) (tTup t):=by
 intro pins s σ H Q I hq;refine wpAny_Tuple_spliced (thn (h pos pins s σ H _ I hq) λus s1 ⟨xs,H1,I1,r,z,q⟩=>⟨by rw[<-r.length];exact z,?_⟩);have hf:H1 s1.heap.objs.size=none:=I1.hok.fresh (YF _);refine⟨.ref s1.heap.objs.size,upd H1 s1.heap.objs.size (.tup xs),I1.laid (t':=s1.toks) (λb u e=>YB _ e) (YF _) ?_,rfl,q _ hf⟩;exact⟨z,us,r,⟨_,YM _ rfl,rfl,_,rfl⟩⟩
theorem X1 (h:PA X es t):PE X (.List es pos) (tLst t):=by
 intro pins s σ H Q I hq;refine wpAny_List_spliced (thn (h pos pins s σ H _ I hq) λus s1 ⟨xs,H1,I1,r,z,q⟩=>⟨by rw[<-r.length];exact z,?_⟩);have hf:H1 s1.heap.objs.size=none:=I1.hok.fresh (YF _);refine⟨.ref s1.heap.objs.size,upd H1 s1.heap.objs.size (.lst xs),I1.laid (t':=s1.toks) (λb u e=>YB _ e) (YF _) ?_,rfl,q _ hf⟩;exact⟨z,us,0,r,YM _ rfl⟩
end
abbrev Sp:=List V->Hp->VK->XK->Prop
abbrev CXT:=List Env->Hp->Shared->XK->Value->Shared->Prop
structure Env0 (P:TU)(w:World)(K:TR)(mg:TB)(base:Heap)(A:Around)(outer:TN)(s:Shared)(H:Hp):Prop where
 frames:A.frames=some outer
 mod:Mod K mg base
 bs:∀ b o,base.get? b=some o->s.heap.get? b=some o/\H b=none
 bsz:base.objs.size<=s.heap.objs.size
 funs:s.heap.FunFrames base outer
 frf:∀ b∈frs outer,H b=none
 hok:HOk P w H s.heap
 bare:AllBare s.gens
 qt:Sb.QtE A s.heap H (frs outer)
 tree:P.given.tree=none
def CE (outer:TN)(P:TU)(w:World)(H:Hp)(s:Shared)(Q:VK)(u:Value)(s':Shared):Prop :=
 ∃ v H',s'.os=s.os/\AllBare s'.gens/\Un (frs outer) [] H H' s.heap s'.heap/\HOk P w H' s'.heap/\RelV v u/\Q v H'
def CR (CX:CXT)(outer:TN)(P:TU)(w:World)(H:Hp)(s:Shared)(Q:VK)(E:XK)(r:Result)(s':Shared):Prop :=
 match r with
 | .ok (.ret u)=>CE outer P w H s Q u s'
 | .ok _=>False
 | .error e=>CX outer H s E e s'
structure FnOk (P:TU)(w:World)(K:TR)(mg:TB)(base:Heap)(CX:CXT)(k:Nat)(f:Addr)(fd:FuncData)(ps:TF)(sp:Sp)(sr:Bool:=false):Prop where
 len:∀ vs H Q E,sp vs H Q E->vs.length=ps.length
 run:∀ (A:Around) (outer:TN) (s:Shared) (H:Hp) (args:Args) (us:TH) (vs:TZ) (Q:VK) (E:XK),Room k A sr->Env0 P w K mg base A outer s H->BindsTo s fd args (ps.zip us)->Vals vs us->sp vs H Q E →
  codeAny (model P w) A (.call (.ref f) args) (CR CX outer P w H s Q E) s
theorem Env0.in1 {P:TU}{w:World}{K:TR}{mg:TB}{base:Heap}{A:Around}{outer:TN}{s:Shared}{H:Hp}(e:Env0 P w K mg base A outer s H) :
  Env0 P w K mg base A.in1 outer s H:=⟨e.frames,e.mod,e.bs,e.bsz,e.funs,e.frf,e.hok,e.bare,e.qt,e.tree⟩
section
variable {X:Cx}{pins:TD}{σ:St}{H:Hp}{s s':Shared}
theorem Inv.env0 (I:Inv X pins σ H s)(hc:X.calm=true):Env0 X.prog X.w X.K X.mg X.base X.A X.stack s H :=
 ⟨I.ok.frames,I.ok.mod,I.bs,XD I.ok.bsz I.sz,I.stack,I.stkFree,I.hok,I.bare,(I.ok.hd hc).imp id λ⟨p,hp,e,n⟩=>by
  obtain⟨a1,a2,a3,a4,a5⟩:=I.pin p (YJ _ hp);exact⟨p.1,p.2,e,a1,n,a2,λz=>(YK.mp (I.stkSub p.1 z)).elim a3 a4,a5⟩,I.ok.seen.1⟩
theorem Inv.after {Q:VK}(I:Inv X pins σ H s)(h:CE X.stack X.prog X.w H s Q u s'):EP X pins σ Q u s':=by
 obtain⟨v,H',os,bare,un,hok,r,q⟩:=h;obtain⟨hh,g,d,t,os'⟩:=s';obtain rfl:os'=s.os:=os;exact⟨v,H',I.call (h':=hh) (g':=g) (d':=d) (t':=t) (ch:=[]) un hok bare (λb z=>absurd z (by simp)),r,q⟩
end
def tCall (sp:Sp)(dvs:TZ)(E:XK)(t:TA):TE:=λσ H Q=>t σ H λvs H1=>sp (vs++dvs) H1 Q E
def Binds (K:TR)(fd:FuncData)(ps:TF)(ds:TH):Prop :=
 ∀ (s:Shared) (us:TH),K.In s.heap->(us++ds).length=ps.length->BindsTo s fd ⟨us,[]⟩ (ps.zip (us++ds))
theorem Binds.all (h:∀ us:List Value,us.length=ps.length->bindArgs fd ⟨us,[]⟩=pure (ps.zip us)):Binds K fd ps []:=λs us _ hl=>by
 rw[GN] at hl ⊢;exact .of_eq (h us hl)
def Passes (CX:CXT)(X:Cx)(E:XK):Prop:=∀ (pins:TD) (σ:St) (H:Hp) (s:Shared) (e:Value) (s':Shared),Inv X pins σ H s->CX X.stack H s E e s'->X.xe e s'
section
variable {X:Cx}{CX:CXT}{k:Nat}{f C:Addr}{fd:FuncData}{ps:TF}{sp:Sp}{dvs:TZ}{ds:TH}{E:XK}{x m:Str}{p pos apos:Pos}{e o:Expr}{es:TL}{ta:TE}{t:TA}
theorem Z37 {pins:TD}{σ:St}{H:Hp}{s:Shared}{Q:VK}{us:TH}{vs:TZ}{sr:Bool}(F:FnOk X.prog X.w X.K X.mg X.base CX k f fd ps sp sr)(hr:Room k X.A sr)(hb:Binds X.K fd ps ds)(hd:Vals dvs ds)(hx:Passes CX X E)(hc:X.calm=true)
  (I:Inv X pins σ H s) (r:Vals vs us) (h:sp (vs++dvs) H Q E):wpAny (model X.prog X.w) X.A (call (.ref f) us) (EP X pins σ Q) X.xe s:=by
 have r2:Vals (vs++dvs) (us++ds):=r.append hd;have hl:(us++ds).length=ps.length:=by rw[<-r2.length];exact F.len _ _ _ _ h
 refine wpAny_call (Y0E (F.run X.A X.stack s H ⟨us,[]⟩ (us++ds) (vs++dvs) Q E hr (I.env0 hc) (hb s us I.kIn hl) r2 h) λr s' hq=>?_)
 cases r with
 | error e=>exact hx pins σ H s e s' I hq
 | ok fl =>
  cases fl with
  | ret u=>exact I.after hq
  | next=>exact False.elim hq
  | brk=>exact False.elim hq
  | cont=>exact False.elim hq
theorem Kx (F:FnOk X.prog X.w X.K X.mg X.base CX k f fd ps sp sr)(hr:Room k X.A sr)(hg:Gl X x)(hm:X.mg x=some (.ref f))(hk:W.keepIn X.K (.ref f)=true)(hb:Binds X.K fd ps ds)(hd:Vals dvs ds)(hx:Passes CX X E)
  (ha:PA X (e::es) t) (hdb:(x == ("__debug__":Str))=false:=by decide) (he:starEach (e::es) X.env=(false,eval e X.env)::starEach es X.env:=by rfl) (hpl:(backTo pos (starEach es X.env)).any (·.1)=false:=by rfl) (hc:X.calm=true:=by rfl) :
  PE X (.Call (.Name x p) (e::es) [] pos) (tCall sp dvs E t):=by
 intro pins s σ H Q I h;refine zK (J8 I hg hm ?_ hdb);refine W.callWith_K (h₀:=X.base) I.ok.mod.kin hk (thn (ha pos pins s σ H _ I h) λus s1 ⟨vs,H1,I1,r,q⟩=>⟨I1.kIn,?_⟩) he hpl;exact Z37 F hr hb hd hx hc I1 r q
end
section
variable {X:Cx}{CX:CXT}{k:Nat}{f C:Addr}{fd:FuncData}{ps ks:TF}{sp:Sp}{E:XK}{x m:Str}{p pos apos kpos:Pos}{e o:Expr}{es:TL}{kws:List Keyword}{te ta:TE}{t tk:TA}{nm:Option Str}
variable {g:List Value->List Value->List Value}{gV:List V->List V->List V}
end
structure FnScope (N P:TF)(sc:Scope):Prop where
 kind:sc.kind=.function
 co:sc.isCoroutine=false
 gen:sc.isGenerator=false
 nd:N.Nodup
 pre:N.take P.length=P
 par:∀ x∈P,sc.names.lookup x=some .local \/ sc.names.lookup x=some .cell
 nofree:∀ y∈sc.names,y.2≠.free
theorem fsc {N P:TF}{sc:Scope}(a:sc.kind=.function:=by rfl)(b:sc.isCoroutine=false:=by rfl)(c:sc.isGenerator=false:=by rfl)(d:N.Nodup:=by decide +kernel)(e:N.take P.length=P:=by rfl)(f:∀ x∈P,sc.names.lookup x=some .local ∨ sc.names.lookup x=some .cell:=by decide +kernel)(g:∀ y∈sc.names,y.2≠.free:=by decide +kernel):FnScope N P sc:=⟨a,b,c,d,e,f,g⟩
theorem Qn {kindOf:Str->Option NameKind}{x:Str}:∀ {binds:List (Str × Value)} {m:TB},(∀ v,(x,v) ∉ binds)->bindL kindOf binds m x=m x
 | [],_,_=>rfl
 | (n,v)::r,m,h=>by
  unfold bindL;rw[Qn λw hw=>h w (YQ _ hw)];split
  ·have:x≠n:=by rintro rfl;exact h v YY
   simp[this]
  rfl
theorem Qp {kindOf:Str->Option NameKind}{x:Str}:∀ {binds:List (Str × Value)} {m:TB},(∀ v,(x,v) ∉ binds)->bindC kindOf binds m x=m x
 | [],_,_=>rfl
 | (n,v)::r,m,h=>by
  unfold bindC;rw[Qp λw hw=>h w (YQ _ hw)];split
  ·rfl
  have:x≠n:=by rintro rfl;exact h v YY
  simp[this]
theorem Qo {kindOf:Str->Option NameKind}{x:Str}{v:Value}:∀ {P:TF} {vs:TH} {i:Nat} {m:TB},P.Nodup->P[i]?=some x->vs[i]?=some v->kindOf x=some .local →
  bindL kindOf (P.zip vs) m x=some v
 | [],_,_,_,_,h,_,_=>by simp at h
 | _::_,[],_,_,_,_,h,_=>by simp at h
 | p::P,w::vs,0,m,nd,h1,h2,hk=>by
  simp at h1 h2;subst h1;subst h2;show bindL kindOf ((p,w)::P.zip vs) m p=_;unfold bindL;rw[Qn λv hv=>(qH.mp nd).1 (js hv).1,XF hk];simp
 | p::P,w::vs,i+1,m,nd,h1,h2,hk=>by
  show bindL kindOf ((p,w)::P.zip vs) m x=_;unfold bindL;exact Qo (i:=i) (qH.mp nd).2 (by simpa using h1) (by simpa using h2) hk
theorem Qq {kindOf:Str->Option NameKind}{x:Str}{v:Value}:∀ {P:TF} {vs:TH} {i:Nat} {m:TB},P.Nodup->P[i]?=some x->vs[i]?=some v->kindOf x≠some .local →
  bindC kindOf (P.zip vs) m x=some v
 | [],_,_,_,_,h,_,_=>by simp at h
 | _::_,[],_,_,_,_,h,_=>by simp at h
 | p::P,w::vs,0,m,nd,h1,h2,hk=>by
  simp at h1 h2;subst h1;subst h2;show bindC kindOf ((p,w)::P.zip vs) m p=_;unfold bindC;rw[Qp λv hv=>(qH.mp nd).1 (js hv).1,XB hk];simp
 | p::P,w::vs,i+1,m,nd,h1,h2,hk=>by
  show bindC kindOf ((p,w)::P.zip vs) m x=_;unfold bindC;exact Qq (i:=i) (qH.mp nd).2 (by simpa using h1) (by simpa using h2) hk
def start (N:TF)(vs:TZ):St:=vs.map some++List.replicate (N.length - vs.length) none
def cxOf (CX:CXT)(P:TU)(w:World)(K:TR)(mg:TB)(base:Heap)(N:TF)(qual:Str)(scope:Scope)(f:Addr)(cd:Value)(A:Around)(outer:TN)(s:Shared)(H:Hp)(E:XK):Cx where
 prog:=P
 w:=w
 K:=K
 mg:=mg
 base:=base
 A:=A.deeper (envOfC qual scope s.heap.objs.size f cd)
 N:=N
 s₀:=s
 H₀:=H
 env:=envOfC qual scope s.heap.objs.size f cd
 outer:=outer
 stack:=envOfC qual scope s.heap.objs.size f cd::outer
 ex:=[]
 calm:=true
 fn:=λ_=>true
 pn:=Sb.qpin A s.heap
 xe:=λe s'=>wpAny (model P w) (A.deeper (envOfC qual scope s.heap.objs.size f cd)) (leaving (envOfC qual scope s.heap.objs.size f cd) e) (λ_ s''=>CX outer H s E e s'') (λe' s''=>CX outer H s E e' s'') s'
theorem L5 {sc:Scope}{n:Nat}{x:Str}(h:sc.names.lookup x=some .cell):∃ c,(cellsFrom n sc.names []).lookup x=some c:=by
 have q:=W.cellsFrom_some sc.names n [] (.inl h);exact qz.mp q
theorem F2 {CX:CXT}{P:TU}{w:World}{K:TR}{mg:TB}{base:Heap}{N ps:TF}{qual:Str}{scope:Scope}{f:Addr}{cd:Value}{A:Around}{outer:TN}{s s1:Shared}{H:Hp}{E:XK}{us:TH}{vs:TZ}
  (S:FnScope N ps scope) (e0:Env0 P w K mg base A outer s H) (hdp:A.depth+1+100<recursionLimit) (hl:vs.length=ps.length) (r:Vals vs us)
  (x:InCallC s s.heap.objs.size (bindL (envOfC qual scope s.heap.objs.size f cd).kindOf (ps.zip us) λ_=>none) (cellsFrom (s.heap.objs.size+1) scope.names []) (bindC (envOfC qual scope s.heap.objs.size f cd).kindOf (ps.zip us) λ_=>none) s1) :
  Inv (cxOf CX P w K mg base N qual scope f cd A outer s H E) [] (start N vs) H s1:=by
 have hpl:ps.length<=N.length:=by have:=congrArg List.length S.pre;rw[JC] at this;omega
 obtain⟨h1,tk,rfl,hk⟩:=x.done;have noA:∀ b:Addr,b ∉ (cxOf CX P w K mg base N qual scope f cd A outer s H E).ex:=λb z=>absurd (show b∈([]:TJ) from z) (by simp);refine⟨⟨e0.mod,S.kind,rfl,rfl,YF _,λy z c h1 h2=>?_,λy hy=>?_,λy c _ h=>?_,λ_=>e0.qt.pin,Around.frames_deeper e0.frames,.inr ⟨rfl,rfl⟩,λb z=>absurd z (noA b),e0.bs,e0.bsz,λb _ _=>noA b,λb z=>absurd z (noA b),e0.funs,e0.frf,⟨e0.tree,_,_,rfl,S.gen,S.co,rfl,rfl⟩,hdp⟩,
  rfl,e0.bare,Un.kept hk,⟨_,x.toInCall.ns,λi y v h1 h2 h3=>?_⟩,λy c h=>⟨_,x.cell y c h⟩,e0.hok.fresh (YF _),λy c h=>?_,λp hp=>?_,e0.hok.kept hk,?_⟩
 rotate_right 2
 ·obtain⟨a1,a2,a3,a4⟩:=e0.qt.mem p ((XH.mp hp).elim id λz=>absurd z (by simp));exact⟨hk _ _ a1,a2,XE (YL a1),a3,a4⟩
 rotate_left 1
 ·exact name_of_addr x.apart (GZ h1) (GZ h2)
 ·have hy:scope.names.lookup y=some .cell \/ scope.names.lookup y=some .free:=hy;rcases hy with hy | hy
  ·exact L5 hy
  exact absurd rfl (S.nofree _ (GZ hy))
 ·exact jy (x.above y c (GZ h))
 ·have hi:i<vs.length:=by
   unfold start at h2;by_cases hi:i<vs.length
   ·exact hi
   rw[JT (by simpa using hi)] at h2;rw[zf] at h2;split at h2 <;> cases h2
  have ha:vs[i]?=some v:=by
   unfold start at h2;rw[JV (by simpa using hi),YE] at h2
   cases e:vs[i]? with
   | none=>rw[e] at h2;cases h2
   | some a=>rw[e] at h2;cases h2;rfl
  obtain⟨u,hu,rv⟩:=r.get ha;have hp:ps[i]?=some y:=by
   rw[<-S.pre,zC (by omega)];exact h1
  have ndP:ps.Nodup:=by rw[<-S.pre];exact S.nd.sublist (List.take_sublist _ _)
  refine⟨u,rv,?_⟩;rcases S.par y (YD hp) with k | k
  ·exact .inl ⟨k,Qo ndP hp hu k⟩
  obtain⟨c,e⟩:=L5 (n:=s.heap.objs.size+1) k;refine .inr ⟨.inl k,c,e,?_⟩;have q:=x.cell y c e;rw[Qq ndP hp hu (by show scope.names.lookup y≠_;rw[k];decide)] at q;exact q
 ·exact e0.hok.fresh (jy (x.above y c (GZ h)))
 unfold start;show _=N.length;rw[YX,YC,ql];omega
theorem Z2s {CX:CXT}{P:TU}{w:World}{K:TR}{mg:TB}{base:Heap}{k:Nat}{f:Addr}{name qual:Str}{params:Arguments}{body:TM}{scope:Scope}{dV kV doc pm cdv ct oc:Value}{an od:TQ}
  {osl:Array (Option Value)} {N ps:TF} {sp:Sp} {sr:Bool} (lk:K.lookup f=some ⟨oc,od,.func (W.fnOf name qual params body scope dV kV doc pm an cdv ct),osl⟩) (hcd:W.codeIn K cdv qual=true) (S:FnScope N ps scope)
  (len:∀ vs H Q E,sp vs H Q E->vs.length=ps.length)
  (hbody:∀ (A:Around) (outer:TN) (s:Shared) (H:Hp) (vs:TZ) (Q:VK) (E:XK),Room k (A.deeper (envOfC qual scope s.heap.objs.size f cdv)) sr->sp vs H Q E →
   ∃ t,PSs (cxOf CX P w K mg base N qual scope f cdv A outer s H E) body t/\t { nx:=λ_ H'=>Q .non H',rt:=Q } (start N vs) H) :
  FnOk P w K mg base CX (k+1) f (W.fnOf name qual params body scope dV kV doc pm an cdv ct) ps sp sr:=by
 refine⟨len,λA outer s H args us vs Q E hr e0 hb r hsp=>?_⟩;have hl:=len _ _ _ _ hsp;have KX:K.In s.heap:=e0.mod.kin.keeps λb o e=>(e0.bs b o e).1;have lim:s.heap.NoLimit:=e0.mod.nolimit.keeps λb o e=>(e0.bs b o e).1;have hkind:∀ y∈ps.zip us,scope.names.lookup y.1=some .local \/ (scope.names.lookup y.1=some .cell/\((cellsFrom (s.heap.objs.size+1) scope.names []).lookup y.1).isSome=true):=λ⟨n,v⟩ hy=>by
  rcases S.par n (js hy).1 with q | q
  ·exact .inl q
  exact .inr ⟨q,W.cellsFrom_some _ _ _ (.inl q)⟩
 refine codeAny_call_function hr.depth (KX _ _ lk) rfl S.co S.gen rfl (W.codeRec_of KX hcd) (hb _ _ _ _ ?_);refine wpAny_newFunctionEnv_cells S.kind hkind λenv he s1 x=>?_;subst he;refine⟨lim.keeps x.toInCall.keep,codeAny_func ?_⟩;obtain⟨t,ht,hq⟩:=hbody A outer s H vs Q E (hr.deeper _) hsp;have I:Inv (cxOf CX P w K mg base N qual scope f cdv A outer s H E) [] (start N vs) H s1:=F2 S e0 (by have:=(hr.deeper (envOfC qual scope s.heap.objs.size f cdv)).dp;have:A.depth+1+3*k+105<recursionLimit:=this;omega) hl r x;refine qL (ht [] s1 (start N vs) H _ I hq) (λfl s' hs=>?_) λe s' hs=>hs;have fin:∀ {σ':St} {H':Hp} {v:V} {u:Value},Inv (cxOf CX P w K mg base N qual scope f cdv A outer s H E) [] σ' H' s'->RelV v u->Q v H'->CE outer P w H s Q u s' :=
  λ{σ' H' v u} J rv q=>⟨v,H',J.os,J.bare,J.base,J.hok,rv,q⟩
 cases fl with
 | ret u =>
  obtain⟨v,σ',H',J,rv,q⟩:=hs;exact fin J rv q
 | next =>
  obtain⟨σ',H',J,q⟩:=hs;exact fin (v:=V.non) (u:=Value.none) J rfl q
 | brk =>
  obtain⟨_,_,_,q⟩:=hs;exact False.elim q
 | cont =>
  obtain⟨_,_,_,q⟩:=hs;exact False.elim q
end L2
variable {sp:L2.Sp}
namespace L2
open PySem PySem.Spec PyProof.Rows
section
variable {X:Cx}{x:Str}{p pos:Pos}{e:Expr}{es:TL}{t:TA}{id T:String}{r:List V->Hp->VK->Prop}
def tCB (r:List V->Hp->VK->Prop)(t:TA):TE:=λσ H Q=>t σ H λvs H1=>r vs H1 Q
theorem Zq (hc:CallR X (.builtin id) r)(hg:Gl X x)(hm:X.mg x=none)(hv:bootBuiltins x=some (.builtin id))(ha:PA X (e::es) t)(hn:x≠"__name__":=by decide)(hdb:(x == ("__debug__":Str))=false:=by decide)
  (he:starEach (e::es) X.env=(false,eval e X.env)::starEach es X.env:=by rfl) (hpl:(backTo pos (starEach es X.env)).any (·.1)=false:=by rfl):PE X (.Call (.Name x p) (e::es) [] pos) (tCB r t):=by
 intro pins s σ H Q I h;refine zK (Wq I hg hm hv ?_ hn hdb);exact PyProof.Rows.callWith_builtin1 (thn (ha pos pins s σ H _ I h) λus s1 ⟨vs,H1,I1,r1,q1⟩=>hc pins s1 σ H1 vs us Q I1 r1 q1) he hpl
theorem Y1 (hc:CallR X (.type T) r)(hg:Gl X x)(hm:X.mg x=none)(hv:bootBuiltins x=some (.type T))(ha:PA X (e::es) t)(hn:x≠"__name__":=by decide)(hdb:(x == ("__debug__":Str))=false:=by decide)
  (he:starEach (e::es) X.env=(false,eval e X.env)::starEach es X.env:=by rfl) (hpl:(backTo pos (starEach es X.env)).any (·.1)=false:=by rfl):PE X (.Call (.Name x p) (e::es) [] pos) (tCB r t):=by
 intro pins s σ H Q I h;refine zK (Wq I hg hm hv ?_ hn hdb);exact GG (thn (ha pos pins s σ H _ I h) λus s1 ⟨vs,H1,I1,r1,q1⟩=>hc pins s1 σ H1 vs us Q I1 r1 q1) he hpl
end
end L2
namespace HT
open PySem PyProof.Rows
section
open PySem.SeqAt
open PySem.AutoSeq1 (wpAny_loadPart')
open PySem.MeetsSeq PySem.MeetsSeq2 PySem.MeetsSeq3
end
section
variable {prog:TU}{w:World}{A:Around}{E:TC}{s:Shared}
def sIx (n d:Nat):Option Int->Nat
 | none=>d
 | some v=>if v<0 then (v+(n:Int)).toNat else min v.toNat n
end
end HT
namespace L2
open PySem PySem.Spec PyProof.Rows
abbrev TO:=St->Hp->(Option Int->Hp->Prop)->Prop
def PO (X:Cx)(e:Option Expr)(t:TO):Prop :=
 ∀ (pins:TD) (s:Shared) (σ:St) (H:Hp) (Q:Option Int->Hp->Prop),Inv X pins σ H s->t σ H Q →
  wpAny (model X.prog X.w) X.A (evalPart e X.env) (λu s'=>∃ o H',Inv X pins σ H' s'/\IsPart u o/\Q o H') X.xe s
def tNoPart:TO:=λ_ H Q=>Q none H
inductive tPart_i (Q:(Option Int->Hp->Prop)) (x:V) (H1:Hp):Prop
 | i (i:_) (_:x=.int i) (_:Q (some i) H1)
def tPart (t:TE):TO:=λσ H Q=>t σ H (tPart_i Q)
theorem K7 {ns:TV}:∀ {us:TH},Vals (ns.map V.int) us->IntsAre us ns:=by
 induction ns with
 | nil=>intro us r;rw[List.map_nil] at r;cases r;exact .nil
 | cons n ns ih =>
  intro us r;rw[GT] at r
  cases r with
  | cons r1 r2 =>
   obtain⟨t,e⟩:=r1;subst e;exact .cons n t (ih r2)
section
variable {X:Cx}{e:Expr}{te:TE}{lo hi:Option Expr}{tl th:TO}{pos p2:Pos}
theorem Z0y:PO X none tNoPart:=by
 intro pins s σ H Q I h;rw[evalPart_none];exact YI ⟨none,H,I,.none,h⟩
theorem Z0x (h:PE X e te):PO X (some e) (tPart te):=by
 intro pins s σ H Q I hw;rw[evalPart_some];refine thn (h pins s σ H _ I hw) λu s1 ⟨x,H1,I1,r1,q1⟩=>?_;obtain⟨i,rfl,q⟩:=q1;obtain⟨t,rfl⟩:=r1;exact⟨some i,H1,I1,.int i t,q⟩
def SlR (X:Cx)(r:V->Option Int->Option Int->Hp->VK->Prop):Prop :=
 ∀ (pins:TD) (s:Shared) (σ:St) (H:Hp) (x:V) (v vl vu:Value) (lo hi:Option Int) (sl:Addr) (Q:VK),Inv X pins σ H s->RelV x v->s.heap.IsSliceOf sl vl vu .none->IsPart vl lo->IsPart vu hi->r x lo hi H Q →
  ∃ T id,typeLookup (.type T) "__getitem__"=pure (some (.builtin id))/\s.TypeIs v T/\wpAny (model X.prog X.w) X.A (getItem v (.ref sl)) (EP X pins σ Q) X.xe s
def tSl (r:V->Option Int->Option Int->Hp->VK->Prop)(te:TE)(tl th:TO):TE:=λσ H Q=>te σ H λx H1=>tl σ H1 λl H2=>th σ H2 λu H3=>r x l u H3 Q
theorem C9 {r:V->Option Int->Option Int->Hp->VK->Prop}(hr:SlR X r)(he:PE X e te)(hl:PO X lo tl)(hu:PO X hi th):PE X (.Subscript e (.Slice lo hi none p2) pos) (tSl r te tl th):=by
 intro pins s σ H Q I h;refine Subscript_ (thn (he pins s σ H _ I h) λv s1 ⟨x,H1,I1,r1,q1⟩=>?_);refine wpAny_Slice (thn (hl pins s1 σ H1 _ I1 q1) λvl s2 ⟨l,H2,I2,pl,q2⟩=>thn (hu pins s2 σ H2 _ I2 q2) λvu s3 ⟨u,H3,I3,pu,q3⟩=>?_);rw[evalPart_none];refine YI ?_;have I4:Inv X pins σ H3 { s3 with heap:=s3.heap.push { cls:=.type "slice",data:=.fields #[vl,vu,.none] } }:=I3.kept (t':=s3.toks) λb ob q=>YB _ q;obtain⟨T,id,hT,ht,hg⟩:=hr pins { s3 with heap:=s3.heap.push { cls:=.type "slice",data:=.fields #[vl,vu,.none] } } σ H3 x v vl vu l u s3.heap.objs.size Q I4 r1 (Heap.IsSliceOf.new ..) pl pu q3;show wpAny (model X.prog X.w) X.A (subscriptTail e (.Slice lo hi none p2) v (.ref s3.heap.objs.size)) (EP X pins σ Q) X.xe { s3 with heap:=s3.heap.push { cls:=.type "slice",data:=.fields #[vl,vu,.none] } };exact tail_any (ops:=[.ref s3.heap.objs.size,v]) ht hT hg (by with_unfolding_all rfl)
def cutV (xs:TZ)(lo hi:Option Int):List V:=(xs.drop (HT.sIx xs.length 0 lo)).take (HT.sIx xs.length xs.length hi - HT.sIx xs.length 0 lo)
theorem L4 (xs:TZ)(lo hi:Option Int):(cutV xs lo hi).length<=xs.length:=by
 unfold cutV;rw[JC,List.length_drop];omega
end
end L2
namespace L2
open PySem PySem.Spec PyProof.Rows
def ixN (n:Nat)(i:Int):Option Nat:=if 0<=i then (if i<n then some i.toNat else none) else if -(n:Int)<=i then some (i+n).toNat else none
def atI {α:Type}(xs:List α)(i:Int):Option α:=(ixN xs.length i).bind λj=>xs[j]?
theorem Jc {n:Nat}{i:Int}{j:Nat}(h:ixN n i=some j):seqIndex? i n=some j/\j<n/\-(n:Int)<=i/\i<n:=by
 unfold ixN at h;by_cases h0:0<=i
 ·rw[XF h0] at h;by_cases h1:i<n
  ·rw[XF h1] at h;have e:i.toNat=j:=YR h;exact⟨by rw[seqIndex_of h0 h1,e],by omega,by omega,h1⟩
  rw[XB h1] at h;cases h
 rw[XB h0] at h;by_cases h1:-(n:Int)<=i
 ·rw[XF h1] at h;have e:(i+n).toNat=j:=YR h;exact⟨by rw[seqIndex_neg (by omega) h1,e],by omega,h1,by omega⟩
 rw[XB h1] at h;cases h
theorem Jr {α:Type}{xs:List α}{i:Int}{v:α}(h:atI xs i=some v):∃ j,seqIndex? i xs.length=some j/\xs[j]?=some v/\j<xs.length/\-(xs.length:Int)<=i/\i<xs.length:=by
 unfold atI at h
 cases e:ixN xs.length i with
 | none=>rw[e] at h;cases h
 | some j =>
  rw[e] at h;obtain⟨h1,h2,h3,h4⟩:=Jc e;exact⟨j,h1,h,h2,h3,h4⟩
theorem Y4 {α:Type}{xs:List α}{j:Nat}{v:α}(h:xs[j]?=some v):atI xs (j:Int)=some v:=by
 have hj:j<xs.length:=(YH.mp h).1;have e:ixN xs.length (j:Int)=some j:=by
  unfold ixN;rw[XF (by omega),XF (by omega)];simp
 unfold atI;rw[e];exact h
def PlainIx (b:Expr):Prop:=∀ o i,subscripted b false o i=operate [o,i] (getItem o i)
def IxR (X:Cx)(r:R2):Prop :=
 ∀ (value slice:Expr) (pins:TD) (s:Shared) (σ:St) (H:Hp) (x y:V) (v u:Value) (Q:VK),Inv X pins σ H s->RelV x v->RelV y u->r x y H Q →
  subscripted slice false v u=operate [v,u] (getItem v u)->wpAny (model X.prog X.w) X.A (subscriptTail value slice v u) (EP X pins σ Q) X.xe s
def MtR (X:Cx)(id:String)(r:V->List V->Hp->VK->Prop):Prop :=
 ∀ (pins:TD) (s:Shared) (σ:St) (H:Hp) (x:V) (xs:TZ) (v:Value) (us:TH) (Q:VK),Inv X pins σ H s->RelV x v->Vals xs us->r x xs H Q →
  wpAny (model X.prog X.w) X.A (call (.builtin id) (v::us)) (EP X pins σ Q) X.xe s
section
variable {X:Cx}{a b:Expr}{ta tb:TE}{pos:Pos}
theorem Zi {r:R2}(hr:IxR X r)(ha:PE X a ta)(hb:PE X b tb)(hs:PlainIx b):PE X (.Subscript a b pos) (tOp r ta tb):=by
 intro pins s σ H Q I h;exact Subscript_ (Z49 ha hb I h λv u s2 x y H2 I2 rx ry q=>hr a b pins s2 σ H2 x y v u Q I2 rx ry q (hs _ _))
inductive rIxL (K:TR) (x:V) (y:V) (H:Hp) (Q:VK):Prop
 | i (p xs i v:_) (_:x=.ref p) (_:y=.int i) (_:SqL K H p xs) (_:atI xs i=some v) (_:Q v H)
inductive rIxT (K:TR) (x:V) (y:V) (H:Hp) (Q:VK):Prop
 | i (p xs i v:_) (_:x=.ref p) (_:y=.int i) (_:SqT K H p xs) (_:atI xs i=some v) (_:Q v H)
theorem Yz:IxR X (rIxL X.K):=by
 intro value slice pins s σ H x y v u Q I rx ry h hs;obtain⟨p,xs,i,z,rfl,rfl,hq,he,q⟩:=h
 cases rx;obtain⟨t,rfl⟩:=ry;obtain⟨its,r,pl,hz⟩:=I.list hq;obtain⟨j,h1,h2,h3,h4,h5⟩:=Jr he;obtain⟨w,ew,rw'⟩:=r.get h2;have hl:=r.length;have hn:=Py;have fin:EP X pins σ Q w s:=⟨z,H,I,rw',q⟩;by_cases h0:0<=i
 ·have hj:i.toNat=j:=by
   rw[seqIndex_of h0 h5] at h1;exact YR h1
  exact item_listR pl.isList h0 (by omega) (by rw[hj];simpa using ew) fin hs
 have hj:(i+(its.toArray.size:Int)).toNat=j:=by
  rw[seqIndex_neg (by omega) h4] at h1;rw[YN,<-hl];exact YR h1
 exact zR (x:=w) pl.isList.typeIs slot_list_getitem.lookup
  (wpAny_getItem_list_neg (Q:=λr s'=>r=w/\EP X pins σ Q r s') pl.isList (by omega) (by rw[YN] <;> omega) (by omega) (by rw[hj];simpa using ew) ⟨rfl,fin⟩) hs
theorem Wt:IxR X (rIxT X.K):=by
 intro value slice pins s σ H x y v u Q I rx ry h hs;obtain⟨p,xs,i,z,rfl,rfl,hq,he,q⟩:=h
 cases rx;obtain⟨t,rfl⟩:=ry;obtain⟨its,r,pl,hz⟩:=I.tuple hq;obtain⟨j,h1,h2,h3,h4,h5⟩:=Jr he;obtain⟨w,ew,rw'⟩:=r.get h2;have hl:=r.length;have hn:=Py;have fin:EP X pins σ Q w s:=⟨z,H,I,rw',q⟩;exact zR (x:=w) pl.typeIs slot_tuple_getitem.lookup
  (getItem_tuple (j:=j) (Q:=λr s'=>r=w/\EP X pins σ Q r s') pl (by omega) (by omega) (by rw[YN,<-hl];exact h1) (by simpa using ew) ⟨rfl,fin⟩) hs
theorem K4 (its:TH)(n j:Nat)(u:Value):Obj.mapSeq (·.setIfInBounds j u) { cls:=.type "list",data:=.seq its.toArray n }={ cls:=.type "list",data:=.seq (its.set j u).toArray n }:=by
 simp[Obj.mapSeq]
theorem Inv.lst {pins:TD}{σ:St}{H:Hp}{s:Shared}{p:Addr}{xs:TZ}(I:Inv X pins σ H s)(h:H p=some (.lst xs)) :
  ∃ (its:TH) (n:Nat),Vals xs its/\s.heap.get? p=some { cls:=.type "list",data:=.seq its.toArray n }/\xs.length<=sizeLine:=by
 obtain⟨z,its,n,r,e⟩:=I.hok p _ h;exact⟨its,n,r,e,z⟩
theorem Inv.lstUpd {s:Shared}{p:Addr}{ys:TZ}{its its':TH}{n n':Nat}{f:Obj->Obj}(I:Inv X pins σ H s)(h:H p=some (.lst xs))
  (ho:s.heap.get? p=some { cls:=.type "list",data:=.seq its.toArray n }) (hf:f { cls:=.type "list",data:=.seq its.toArray n }={ cls:=.type "list",data:=.seq its'.toArray n' }) (r:Vals ys its') (hz:ys.length<=sizeLine) (t:Nat) :
  Inv X pins σ (upd H p (.lst ys)) { s with heap:=s.heap.update p f,toks:=t }:=by
 have e:(s.heap.update p f).get? p=some { cls:=.type "list",data:=.seq its'.toArray n' }:=by
  rw[zp f ho (by rw[hf] <;> rfl),hf]
 refine I.write (x:=p) (e:=p) (by rw[h];trivial) (.inl rfl) (λb u hb q=>(Heap.get?_update_other _ _ (qi hb)).trans q) ⟨_,e⟩ ?_;exact⟨hz,its',n',r,e⟩
inductive rSetL (o:V) (i:V) (v:V) (H:Hp) (Q:(Hp->Prop)):Prop
 | i (p xs k j:_) (_:o=.ref p) (_:i=.int k) (_:H p=some (.lst xs)) (_:ixN xs.length k=some j) (_:Q (upd H p (.lst (xs.set j v))))
theorem Vy:PSet X rSetL:=by
 intro pins s σ H o i v ov iv u Q I ro ri rv h;obtain⟨p,xs,k,j,rfl,rfl,hp,hj,q⟩:=h
 cases ro;obtain⟨t,rfl⟩:=ri;obtain⟨its,n,r,ho,hz⟩:=I.lst hp;obtain⟨h1,h2,h3,h4⟩:=Jc hj;have hl:=r.length;have hn:=Py;have I':Inv X pins σ (upd H p (.lst (xs.set j v))) { s with heap:=s.heap.update p (Obj.mapSeq (·.setIfInBounds j u)) } :=
  I.lstUpd hp ho (K4 its n j u) (r.set rv j) (by rw[List.length_set];exact hz) s.toks
 by_cases h0:0<=k
 ·have hk:k.toNat=j:=by
   rw[seqIndex_of h0 h4] at h1;exact YR h1
  exact W.ki_setAt ho h0 (by omega) (by rw[YN,<-hl];exact h4) (by rw[hk];exact⟨_,I',q⟩)
 have hk:(k+(its.toArray.size:Int)).toNat=j:=by
  rw[seqIndex_neg (by omega) h3] at h1;rw[YN,<-hl];exact YR h1
 exact W.ki_setBack ho (by omega) (by rw[YN,<-hl];exact h3) (by omega) (by rw[hk];exact⟨_,I',q⟩)
theorem Qx (lo hi:Option Int)(n:Nat):(sliceBounds lo hi none n).1=((HT.sIx n 0 lo:Nat):Int)/\(sliceBounds lo hi none n).2.1=((HT.sIx n n hi:Nat):Int)/\(sliceBounds lo hi none n).2.2=1:=by
 refine⟨?_,?_,rfl⟩
 ·cases lo with
  | none=>simp[sliceBounds,HT.sIx]
  | some i =>
   simp only [sliceBounds,HT.sIx,Option.getD_none,show (1:Int) > 0 by decide,zx];by_cases h:i<0
   ·simp only [h,zx] <;> omega
   simp only [h,GU] <;> omega
 cases hi with
 | none=>simp[sliceBounds,HT.sIx]
 | some i =>
  simp only [sliceBounds,HT.sIx,Option.getD_none,show (1:Int) > 0 by decide,zx];by_cases h:i<0
  ·simp only [h,zx] <;> omega
  simp only [h,GU] <;> omega
theorem Q3 (its:TH)(lo hi:Option Int):slicePick its.toArray lo hi none=((its.drop (HT.sIx its.length 0 lo)).take (HT.sIx its.length its.length hi - HT.sIx its.length 0 lo)).toArray:=by
 obtain⟨h1,h2,h3⟩:=Qx lo hi its.toArray.size;unfold slicePick;rw[h1,h2,h3];simp only [sliceRange_one,pick_run,YN] <;> rfl
inductive rSlL (K:TR) (x:V) (lo:Option Int) (hi:Option Int) (H:Hp) (Q:VK):Prop
 | i (a xs:_) (_:x=.ref a) (_:SqL K H a xs) (_:∀ p,H p=none->Q (.ref p) (upd H p (.lst (cutV xs lo hi))))
theorem Z0b:SlR X (rSlL X.K):=by
 intro pins s σ H x v vl vu lo hi sl Q I rx hs pl pu h;obtain⟨a,xs,rfl,hx,q⟩:=h
 cases rx;obtain⟨its,r,ht,hz⟩:=I.list hx;have hlen:=r.length;refine⟨"list",_,slot_list_getitem.lookup,ht.isList.typeIs,?_⟩;refine wpAny_getItem_list_slice ht.isList hs pl pu .none (by simp) ?_ (by rw[YN] <;> omega);rw[Q3,<-hlen];refine⟨.ref s.heap.objs.size,_,I.laid (t':=s.toks) (o:=.lst (cutV xs lo hi)) (λb ob q=>YB _ q) (YF _) ?_,rfl,q _ (I.hok.fresh (YF _))⟩;exact⟨XD (L4 xs lo hi) hz,_,0,(r.drop (HT.sIx xs.length 0 lo)).take (HT.sIx xs.length xs.length hi - HT.sIx xs.length 0 lo),YM _ rfl⟩
def flatV:V->Bool
 | .non=>true
 | .bl _=>true
 | .int _=>true
 | .str _=>true
 | _=>false
def eqV:V->V->Bool
 | .non,.non=>true
 | .bl a,.bl b=>a == b
 | .bl a,.int b=>(if a then 1 else 0) == b
 | .int a,.bl b=>a == (if b then 1 else 0)
 | .int a,.int b=>a == b
 | .str a,.str b=>a == b
 | _,_=>false
theorem Z45 {A:Around}{s:Shared}{y x:V}{u v:Value}(ry:RelV y u)(rx:RelV x v)(fy:flatV y=true)(fx:flatV x=true):SeqAt.EqAt A s u v (eqV y x):=by
 cases y with
 | non =>
  cases ry
  cases x with
  | non=>cases rx;exact qN _
  | bl b=>cases rx;exact SeqAt.EqAt.none_bool b
  | int b=>obtain⟨t,rfl⟩:=rx;exact SeqAt.EqAt.none_int b t
  | str b=>obtain⟨t,rfl⟩:=rx;exact SeqAt.EqAt.none_str b t
  | _=>exact absurd (show false=true from fx) YS
 | bl a =>
  cases ry
  cases x with
  | non=>cases rx;exact SeqAt.EqAt.bool_none a
  | bl b=>cases rx;exact SeqAt.EqAt.bool_bool a b
  | int b=>obtain⟨t,rfl⟩:=rx;exact SeqAt.EqAt.bool_int a b t
  | str b=>obtain⟨t,rfl⟩:=rx;exact SeqAt.EqAt.bool_str a b t
  | _=>exact absurd (show false=true from fx) YS
 | int a =>
  obtain⟨t',rfl⟩:=ry
  cases x with
  | non=>cases rx;exact SeqAt.EqAt.int_none a t'
  | bl b=>cases rx;exact SeqAt.EqAt.int_bool a t' b
  | int b=>obtain⟨t,rfl⟩:=rx;exact zj a t' b t
  | str b=>obtain⟨t,rfl⟩:=rx;exact SeqAt.EqAt.int_str a t' b t
  | _=>exact absurd (show false=true from fx) YS
 | str a =>
  obtain⟨t',rfl⟩:=ry
  cases x with
  | non=>cases rx;exact SeqAt.EqAt.str_none a t'
  | bl b=>cases rx;exact SeqAt.EqAt.str_bool a t' b
  | int b=>obtain⟨t,rfl⟩:=rx;exact SeqAt.EqAt.str_int a t' b t
  | str b=>obtain⟨t,rfl⟩:=rx;exact SeqAt.EqAt.str_str a t' b t
  | _=>exact absurd (show false=true from fx) YS
 | _=>exact absurd (show false=true from fy) YS
def eqU (x:V)(u:Value):Bool:=match u with
 | .none=>eqV .non x
 | .bool b=>eqV (.bl b) x
 | .int i _=>eqV (.int i) x
 | .str z _=>eqV (.str z) x
 | _=>false
theorem Bu {x y:V}{u:Value}(r:RelV y u)(f:flatV y=true):eqU x u=eqV y x:=by
 cases y with
 | non=>cases r;rfl
 | bl b=>cases r;rfl
 | int i=>obtain⟨t,rfl⟩:=r;rfl
 | str z=>obtain⟨t,rfl⟩:=r;rfl
 | _=>exact absurd (show false=true from f) YS
theorem Nj {x:V}:∀ {xs:TZ} {us:TH},Vals xs us->xs.all flatV=true->us.any (eqU x)=xs.any λy=>eqV y x
 | _,_,.nil,_=>rfl
 | y::xs,u::us,.cons r t,f=>by
  rw[Y0q,qu] at f;rw[jn,jn,Bu r f.1,Nj t f.2]
theorem Rh {A:Around}{s:Shared}{x:V}{v:Value}(rx:RelV x v)(fx:flatV x=true):∀ {xs:TZ} {us:TH},Vals xs us->xs.all flatV=true->∀ u∈us,SeqAt.EqAt A s u v (eqU x u)
 | _,_,.nil,_=>λu hu=>by cases hu
 | y::xs,u::us,.cons r t,f=>λu' hu=>by
  rw[Y0q,qu] at f;rcases YK.mp hu with rfl | hu
  ·rw[Bu r f.1];exact Z45 r rx f.1 fx
  exact Rh rx fx t f.2 u' hu
def inV (x:V)(xs:TZ):Bool:=xs.any λy=>eqV y x
inductive rIn (K:TR) (neg:Bool) (x:V) (y:V) (H:Hp) (Q:VK):Prop
 | i (p xs:_) (_:y=.ref p) (_:(SqL K H p xs \/ SqT K H p xs)) (_:flatV x=true) (_:xs.all flatV=true) (_:Q (.bl (if neg then !inV x xs else inV x xs)) H)
theorem Q9:OpR X (compareOp .In) (rIn X.K false):=by
 intro pins s σ H x y v u Q I rx ry h;obtain⟨p,xs,rfl,hq,fx,fs,q⟩:=h
 cases ry;rcases hq with hq | hq
 ·obtain⟨its,r,pl,hz⟩:=I.list hq;refine SeqAt.in_listAt (eqU x) pl.isList (λw hw=>Rh rx fx r fs w (by simpa using hw)) ⟨.bl _,H,I,rfl,?_⟩;rw[show its.toArray.any (eqU x)=its.any (eqU x) by simp,Nj r fs];exact q
 obtain⟨its,r,pl,hz⟩:=I.tuple hq;refine SeqAt.in_tupleAt (eqU x) pl (λw hw=>Rh rx fx r fs w (by simpa using hw)) ⟨.bl _,H,I,rfl,?_⟩;rw[show its.toArray.any (eqU x)=its.any (eqU x) by simp,Nj r fs];exact q
theorem Zv:CallR X (.builtin "len") (λxs H Q=>∃ p ys,xs=[.ref p]/\(SqL X.K H p ys \/ SqT X.K H p ys)/\Q (.int ys.length) H):=by
 intro pins s σ H xs us Q I r h;obtain⟨p,ys,rfl,hq,q⟩:=h;obtain⟨u,rfl,rx⟩:=Wz r
 cases rx;have hn:=Py;rcases hq with hq | hq
 ·obtain⟨its,r',pl,hz⟩:=I.list hq;have hlen:=r'.length;exact Calls.call_len_list pl.isList (by simp only [YN] <;> omega) ⟨.int ys.length,H,I.tok _,⟨s.toks+1,by rw[YN,hlen]⟩,q⟩
 obtain⟨its,r',pl,hz⟩:=I.tuple hq;have hlen:=r'.length;exact len_tuple pl (by simp only [YN] <;> omega) ⟨.int ys.length,H,I.tok _,⟨s.toks+1,by rw[YN,hlen]⟩,q⟩
theorem Yn:CallR X (.type "list") (λxs H Q=>∃ p ys,xs=[.ref p]/\(SqL X.K H p ys \/ SqT X.K H p ys)/\∀ l,H l=none->Q (.ref l) (upd H l (.lst ys))):=by
 intro pins s σ H xs us Q I r h;obtain⟨p,ys,rfl,hq,q⟩:=h;obtain⟨u,rfl,rx⟩:=Wz r
 cases rx;have fin:∀ (its:TH),Vals ys its->ys.length<=sizeLine->∀ (h':Heap) (c':Nat),(∀ b o',s.heap.get? b=some o'->h'.get? b=some o') →
   h'.get? s.heap.objs.size=some { cls:=.type "list",dict:=none,data:=.seq its.toArray c',slots:=#[] }->EP X pins σ Q (.ref s.heap.objs.size) { s with heap:=h' }:=λits r' hz h' c' kp e =>
  ⟨.ref s.heap.objs.size,_,I.laid (t':=s.toks) kp (YF _) (show ObjOk X.prog X.w _ h' _ (.lst ys) from ⟨hz,its,c',r',e⟩),rfl,q _ (I.hok.fresh (YF _))⟩
 rcases hq with hq | hq
 ·obtain⟨its,r',pl,hz⟩:=I.list hq;have hlen:=r'.length;obtain⟨o,ho,hc,n,hd⟩:=pl.isList;exact call_list_seq p (.inl rfl) ho hc hd (λh' c' kp e=>fin its r' hz h' c' kp e) (by simp only [YN] <;> omega)
 obtain⟨its,r',pl,hz⟩:=I.tuple hq;have hlen:=r'.length;obtain⟨o,ho,hc,n,hd⟩:=pl;exact call_list_seq p (.inr rfl) ho hc hd (λh' c' kp e=>fin its r' hz h' c' kp e) (by simp only [YN] <;> omega)
theorem Y3:CallR X (.type "tuple") (λxs H Q=>∃ p ys,xs=[.ref p]/\((SqL X.K H p ys/\∀ l,H l=none->Q (.ref l) (upd H l (.tup ys))) \/ (SqT X.K H p ys/\Q (.ref p) H))):=by
 intro pins s σ H xs us Q I r h;obtain⟨p,ys,rfl,h⟩:=h;obtain⟨u,rfl,rx⟩:=Wz r
 cases rx;rcases h with ⟨hq,q⟩ | ⟨hq,q⟩
 ·obtain⟨its,r',pl,hz⟩:=I.list hq;have hlen:=r'.length;refine call_tuple_list pl.isList (λh' kp=>?_) (by simp only [YN] <;> omega);have I1:Inv X pins σ H { s with heap:=h' }:=I.kept (t':=s.toks) kp;have I2:Inv X pins σ (upd H h'.objs.size (.tup ys)) { s with heap:=h'.push { cls:=.type "tuple",data:=.seq its.toArray } } :=
   I1.laid (t':=s.toks) (λb o e=>YB _ e) (YF _) (show ObjOk X.prog X.w _ _ _ (.tup ys) from ⟨hz,its,r',IsTup.new _ _⟩)
  exact⟨.ref h'.objs.size,_,I2,rfl,q _ (I1.hok.fresh (YF _))⟩
 obtain⟨its,r',pl,hz⟩:=I.tuple hq;exact call_tuple_same pl ⟨.ref p,H,I,rfl,q⟩
def tyV (K:TR)(T:String)(x:V)(H:Hp):Prop:=match x with
 | .str _=>T="str"
 | .int _=>T="int"
 | .ref p=>(T="list"/\∃ xs,SqL K H p xs) \/ (T="tuple"/\∃ o,K.lookup p=some o/\o.cls=.type "tuple"/\o.dict=none) ∨
   (T="dict"/\((∃ kvs,H p=some (.dK kvs)) \/ ∃ kvs,H p=some (.dT kvs))) \/ (T="set"/\∃ S n,H p=some (.set S n))
 | _=>False
theorem Fr {pins:TD}{σ:St}{H:Hp}{s:Shared}{T:String}{x:V}{v:Value}(I:Inv X pins σ H s)(r:RelV x v)(ty:tyV X.K T x H) :
  s.TypeIs v T/\∀ a,v=.ref a->∃ ob,s.heap.get? a=some ob/\ob.dict=none:=by
 cases x with
 | str z =>
  obtain⟨t,rfl⟩:=r
  cases (show T="str" from ty);exact⟨typeIs_str s z t,λ_ e=>nomatch e⟩
 | int i =>
  obtain⟨t,rfl⟩:=r
  cases (show T="int" from ty);exact⟨Y0F s i t,λ_ e=>nomatch e⟩
 | ref p =>
  cases r;rcases ty with ⟨rfl,xs,hq⟩ | ⟨rfl,o,hk,hc,hd⟩ | ⟨rfl,hk⟩ | ⟨rfl,S,n,hk⟩
  ·obtain⟨its,_,pl,_⟩:=I.list hq;refine⟨pl.isList.typeIs,λa e=>?_⟩
   cases e;obtain⟨o,n,e,c,hd,_⟩:=pl;exact⟨o,e,hd⟩
  ·refine⟨⟨o,I.kIn p o hk,hc⟩,λa e=>?_⟩
   cases e;exact⟨o,I.kIn _ o hk,hd⟩
  ·have z:∃ o,s.heap.get? p=some o/\o.ExactDict:=by
    rcases hk with ⟨kvs,hk⟩ | ⟨kvs,hk⟩
    ·obtain⟨_,_,_,_,o,_,_,e,ex,_⟩:=I.hok p _ hk;exact⟨o,e,ex⟩
    obtain⟨_,_,_,_,o,_,_,e,ex,_⟩:=I.hok p _ hk;exact⟨o,e,ex⟩
   obtain⟨o,e,ex⟩:=z;refine⟨⟨o,e,ex.1⟩,λa e2=>?_⟩
   cases e2;exact⟨o,e,ex.2.1⟩
  obtain⟨o,_,_,_,e,ex,_⟩:=I.hok p _ hk;refine⟨⟨o,e,ex.1⟩,λa e2=>?_⟩
  cases e2;exact⟨o,e,ex.2.1⟩
 | _=>exact False.elim ty
def tBM0 (K:TR)(T:String)(r:V->List V->Hp->VK->Prop)(to:TE):TE:=λσ H Q=>to σ H λx H1=>tyV K T x H1/\r x [] H1 Q
def tBM (K:TR)(T:String)(r:V->List V->Hp->VK->Prop)(to:TE)(t:TA):TE:=λσ H Q=>to σ H λx H1=>tyV K T x H1/\t σ H1 λxs H2=>r x xs H2 Q
variable {o e:Expr}{es:TL}{to:TE}{t:TA}{name:Str}{apos cpos:Pos}{T id:String}{r:V->List V->Hp->VK->Prop}
theorem Z3f (pa:PlainAttrs T)(slot:Slot T name id)(hty:typeOf (.builtin id)=pure (.type "method_descriptor"))(hm:MtR X id r)(ho:PE X o to)
  (hbase:attributeBase o name X.env (eval o X.env)=eval o X.env:=by rfl) (hline:(apos.endLine == cpos.line)=true:=by rfl):PE X (.Call (.Attribute o name apos) [] [] cpos) (tBM0 X.K T r to):=by
 intro pins s σ H Q I h;refine wpAny_Call_method0_late hbase hline (thn (ho pins s σ H _ I h) λv s1 ⟨x,H1,I1,r1,ty,q1⟩=>?_);obtain⟨h1,h2⟩:=Fr I1 r1 ty;exact⟨T,id,pa,slot,hty,h1,h2,Calls.callWith_builtin rfl (PySem.evalArgs_none (hm pins s1 σ H1 x [] v [] Q I1 r1 .nil q1))⟩
theorem U3 (pa:PlainAttrs T)(slot:Slot T name id)(hty:typeOf (.builtin id)=pure (.type "method_descriptor"))(hm:MtR X id r)(ho:PE X o to)(ha:PA X (e::es) t)
  (hbase:attributeBase o name X.env (eval o X.env)=eval o X.env:=by rfl)
  (hfew:((backTo cpos (starEach (e::es) X.env)).all (λx=>!x.1) && (backToKw cpos (keywordEach [] X.env)).all (λx=>x.1.isSome)
   && decide ((e::es).length+([]:List Keyword).length+(if ([]:List Keyword).isEmpty then 0 else 1)<30))=true:=by rfl)
  (hline:(apos.endLine == cpos.line)=true:=by rfl) (hs:starEach (e::es) X.env=(false,eval e X.env)::starEach es X.env:=by rfl) (hplain:(backTo cpos (starEach es X.env)).any (·.1)=false:=by rfl) :
  PE X (.Call (.Attribute o name apos) (e::es) [] cpos) (tBM X.K T r to t):=by
 intro pins s σ H Q I h;refine wpAny_Call_method_late hbase hfew hline rfl (thn (ho pins s σ H _ I h) λv s1 ⟨x,H1,I1,r1,ty,q1⟩=>?_);obtain⟨h1,h2⟩:=Fr I1 r1 ty;refine⟨T,id,pa,slot,hty,h1,h2,?_⟩;have hA:=ha cpos pins s1 σ H1 _ I1 q1;rw[hs] at hA ⊢;refine Calls.callWith_builtin (by show (false || (backTo cpos (starEach es X.env)).any (·.1))=false;rw[hplain] <;> rfl) (Calls.evalArgs_plain ?_);exact thn hA λus s2 ⟨vs,H2,I2,r2,q2⟩=>hm pins s2 σ H2 x vs v us Q I2 r1 r2 q2
end
end L2
namespace L2
open PySem PySem.Spec PyProof.Rows
def MtM (X:Cx)(id:String)(r:V->List V->Hp->VK->Prop):Prop :=
 ∀ (pins:TD) (s:Shared) (σ:St) (H:Hp) (x:V) (xs:TZ) (v:Value) (us:TH) (Q:VK),Inv X pins σ H s->RelV x v->Vals xs us->r x xs H Q →
  wpAny (model X.prog X.w) X.A (call (.builtin id) (v::us)) (EP X pins σ Q) X.xe s
theorem Vals.one:∀ {x:V} {us:TH},Vals [x] us->∃ u,us=[u]/\RelV x u
 | _,_,.cons r .nil=>⟨_,rfl,r⟩
theorem Vals.two:∀ {x y:V} {us:TH},Vals [x,y] us->∃ u v,us=[u,v]/\RelV x u/\RelV y v
 | _,_,_,.cons r (.cons q .nil)=>⟨_,_,rfl,r,q⟩
theorem Vals.zero:∀ {us:TH},Vals [] us->us=[]
 | _,.nil=>rfl
theorem Vals.rep {xs:TZ}{us:TH}(h:Vals xs us):∀ k:Nat,Vals (List.replicate k xs).flatten (List.replicate k us).flatten
 | 0=>.nil
 | k+1=>by
  rw[qZ,qZ,zS,zS];exact Vals.append h (Vals.rep h k)
theorem Qh (its:TH):∀ (k:Nat) (acc:TH),
  List.foldl (λx1 x2=>x1++x2) acc.toArray (List.replicate k its.toArray)=(acc++(List.replicate k its).flatten).toArray
 | 0,acc=>by simp
 | k+1,acc=>by
  have e:acc.toArray++its.toArray=(acc++its).toArray:=by simp
  have e2:(acc++its)++(List.replicate k its).flatten=acc++(List.replicate (k+1) its).flatten:=by
   rw[qZ,zS,zT]
  rw[<-e2,<-Qh its k (acc++its),<-e,qZ,List.foldl_cons]
section
variable {X:Cx}{pins:TD}{σ:St}{H:Hp}{s:Shared}{l b:Addr}{xs ys zs:TZ}
theorem Inv.lset {its its':TH}{n:Nat}{f:Array Value->Array Value}{t':Nat}(I:Inv X pins σ H s)(hH:H l=some (.lst xs))
  (e:s.heap.get? l=some { cls:=.type "list",data:=.seq its.toArray n }) (hf:f its.toArray=its'.toArray) (hv:Vals ys its') (hz:ys.length<=sizeLine) :
  Inv X pins σ (upd H l (.lst ys)) { s with heap:=s.heap.update l (Obj.mapSeq f),toks:=t' }:=by
 have q:=PySem.IsL.update e f;rw[hf] at q;refine I.write (x:=l) (e:=l) (by rw[hH];exact trivial) (.inl rfl) (λb' u hb hu=>(Heap.get?_update_other s.heap (Obj.mapSeq f) (qi hb)).trans hu) ⟨_,q⟩ ?_;exact⟨hz,its',_,hv,q⟩
theorem Inv.lnew {its:TH}{t':Nat}(I:Inv X pins σ H s)(hv:Vals ys its)(hz:ys.length<=sizeLine) :
  Inv X pins σ (upd H s.heap.objs.size (.lst ys)) { s with heap:=s.heap.push { cls:=.type "list",data:=.seq its.toArray },toks:=t' } :=
 I.laid (λ_ _ q=>YB _ q) (YF _) ⟨hz,its,0,hv,YM _ rfl⟩
theorem Inv.fresh (I:Inv X pins σ H s):H s.heap.objs.size=none:=I.hok.fresh (YF _)
theorem Inv.lstM (I:Inv X pins σ H s)(hH:H l=some (.lst xs)):xs.length<=sizeLine/\∃ (its:TH) (n:Nat),Vals xs its/\xs.length=its.length/\s.heap.get? l=some { cls:=.type "list",data:=.seq its.toArray n }:=by
 obtain⟨z,its,n,r,e⟩:=I.hok l _ hH;exact⟨z,its,n,r,r.length,e⟩
theorem Ba {n:Nat}(h:n<=sizeLine):Builtin.List.listTooLong n=false:=by
 unfold Builtin.List.listTooLong;exact XR (by omega)
end
section
variable {X:Cx}
inductive rAppend (x:V) (vs:TZ) (H:Hp) (Q:VK):Prop
 | i (l xs y:_) (_:x=.ref l) (_:vs=[y]) (_:H l=some (.lst xs)) (_:xs.length<sizeLine) (_:Q .non (upd H l (.lst (xs++[y]))))
theorem Yt:MtM X "list.append" rAppend:=by
 intro pins s σ H x vs v us Q I rx rv h;obtain⟨l,xs,y,rfl,rfl,hH,hz,q⟩:=h
 cases rx;obtain⟨u,rfl,ru⟩:=rv.one;obtain⟨z,its,n,r,hl,e⟩:=I.lstM hH;refine zL F.slot_list_append ⟨_,e,rfl⟩ F.entry_list_append (F.args_list_append_2 _ _) (PySem.list_append l its.toArray n u (by rw[YN];omega)) ⟨e,?_⟩;refine⟨.non,_,I.lset (its':=its++[u]) hH e (by simp) (r.append (.cons ru .nil)) ?_,rfl,q⟩;rw[YX,List.length_singleton];omega
inductive rExtend (x:V) (vs:TZ) (H:Hp) (Q:VK):Prop
 | i (l b xs zs:_) (_:x=.ref l) (_:vs=[.ref b]) (_:H l=some (.lst xs)) (_:H b=some (.lst zs)) (_:xs.length+zs.length<=sizeLine) (_:Q .non (upd H l (.lst (xs++zs))))
theorem Qb:MtM X "list.extend" rExtend:=by
 intro pins s σ H x vs v us Q I rx rv h;obtain⟨l,b,xs,zs,rfl,rfl,hH,hB,hz,q⟩:=h
 cases rx;obtain⟨u,rfl,ru⟩:=rv.one
 cases ru;obtain⟨z,its,n,r,hl,e⟩:=I.lstM hH;obtain⟨z2,its2,n2,r2,hl2,e2⟩:=I.lstM hB;have hsz:its.toArray.size+its2.toArray.size<=sizeLine:=by rw[YN,YN];omega
 have hlong:¬ (!its.toArray.isEmpty && Builtin.List.listTooLong (its.toArray.size+its2.toArray.size))=true:=by
  rw[Ba hsz,Bool.and_false];exact YS
 refine zL F.slot_list_extend ⟨_,e,rfl⟩ F.entry_list_extend (F.args_list_extend_2 _ _)
  (AutoSeq1.list_extend_list_list_0 l its.toArray n b its2.toArray n2 hlong (by rw[YN];omega) (by omega)) ⟨e,e2,?_⟩
 refine⟨.non,_,I.lset (its':=its++its2) hH e (by simp) (r.append r2) ?_,rfl,q⟩;rw[YX];omega
inductive rClear (x:V) (vs:TZ) (H:Hp) (Q:VK):Prop
 | i (l xs:_) (_:x=.ref l) (_:vs=[]) (_:H l=some (.lst xs)) (_:Q .non (upd H l (.lst [])))
theorem Bg:MtM X "list.clear" rClear:=by
 intro pins s σ H x vs v us Q I rx rv h;obtain⟨l,xs,rfl,rfl,hH,q⟩:=h
 cases rx;have hus:=rv.zero;subst hus;obtain⟨z,its,n,r,hl,e⟩:=I.lstM hH;refine zL F.slot_list_clear ⟨_,e,rfl⟩ F.entry_list_clear (F.args_list_clear_1 _) (AutoSeq1.list_clear_list_0 l its.toArray n (by rw[YN];omega)) ⟨e,?_⟩;exact⟨.non,_,I.lset (its':=[]) (ys:=[]) hH e rfl .nil (JO _),rfl,q⟩
inductive rCat (x:V) (y:V) (H:Hp) (Q:VK):Prop
 | i (l b xs zs:_) (_:x=.ref l) (_:y=.ref b) (_:H l=some (.lst xs)) (_:H b=some (.lst zs)) (_:xs.length+zs.length<=sizeLine) (_:∀ p,H p=none->Q (.ref p) (upd H p (.lst (xs++zs))))
theorem Lw:OpR X (binaryOp .Add) rCat:=by
 intro pins s σ H x y v u Q I rx ry h;obtain⟨l,b,xs,zs,rfl,rfl,hH,hB,hz,q⟩:=h
 cases rx
 cases ry;obtain⟨z,its,n,r,hl,e⟩:=I.lstM hH;obtain⟨z2,its2,n2,r2,hl2,e2⟩:=I.lstM hB;refine PySem.P.add_list e e2 ?_ (by rw[YN,YN];omega);have ea:its.toArray++its2.toArray=(its++its2).toArray:=by simp
 rw[ea];exact⟨.ref _,_,I.lnew (t':=s.toks) (r.append r2) (by rw[YX];omega),rfl,q _ I.fresh⟩
theorem Z21 {α:Type}(xs:List α)(k:Nat):(List.replicate k xs).flatten.length=k*xs.length:=by
 induction k with
 | zero=>simp
 | succ k ih=>rw[qZ,zS,YX,ih,zy,jz]
end
section
variable {prog:TU}{w:World}{A:Around}{E:TC}{s:Shared}
end
section
variable {X:Cx}
end
end L2
namespace Att
open PySem PySem.W PySem.Calls PyProof.Rows
theorem Tw {P:Params}{h:Heap}:∀ (ns:TV) (vs:TH),WellAll P h vs (ns.map WData.int)->IntsAre vs ns:=by
 intro ns
 induction ns with
 | nil =>
  intro vs w;rw[List.map_nil] at w
  cases w;exact .nil
 | cons n ns ih =>
  intro vs w;rw[GT] at w
  cases w with
  | cons a b =>
   cases a;exact .cons _ _ (ih _ b)
theorem G5 {l:OpenLaw}{n:Nat}(hn:l.most=some n){P:Params}{h:Heap}{args:List WData}{vals:TH}
  (hpre:l.row.toRowW.claim.pre args=true) (hwl:WellAll P h vals args) :
  ∃ a vs ns,vals=[Value.ref a]/\args=[WData.list (ns.map WData.int)]/\h.get? a=some { cls:=.type "list",data:=.seq vs.toArray }/\IntsAre vs ns/\ns.length<=n:=by
 have hsh:WShape.hasAll [] args [.list .int]=true:=(pre_splitW hpre).1;have hc:l.pre.holds [] { args:=args }=true:=(pre_splitW hpre).2;obtain⟨d,r,rfl,h1,h2⟩:=hasAllW_cons hsh;obtain rfl:=hasAllW_nil h2;obtain⟨xs,rfl,h3⟩:=hasW_list h1;obtain⟨ns,rfl⟩:=items_int h3;have hlen:ns.length<=n:=by
  unfold OpenLaw.pre at hc;have h4:(WTm.not (.lt (.lit (.int (n:Int))) (.len (.arg 0)))).holds [] { args:=[.list (ns.map .int)] }=true:=by
   have h4:=(holds_andW hc).1;rw[hn] at h4;exact h4
  have h5:=condW_of h4 (w_not (w_lt w_lit (w_len_list (w_arg rfl))));rw[YC] at h5;refine Y0y λq=>?_;have q':(n:Int)<((ns.length:Nat):Int):=by omega
  first
   | (rw[XQ q'] at h5;exact absurd h5 (by decide))
   | (simp at h5;omega)
 cases hwl with
 | cons w1 w2 =>
  cases w2
  cases w1 with
  | list ho hall=>exact⟨_,_,ns,rfl,rfl,ho,Tw ns _ hall,hlen⟩
theorem Ge (l:OpenLaw)(args:List WData):l.row.toRowW.claim.post args (.bool true) args=true :=
 postW_of (r:=l.row.toRowW) (X:=(true == true))
  (show WShape.has [] (.bool true) .bool=true by first | rfl | decide | simp[WShape.has,WShape.arms,WShape.armsAll])
  (show (WTm.eq .res (.lit (.bool true))).value [] { args:=args,res:=some (.bool true),after:=args }=some (.bool (true == true)) from w_eq_bool (w_res rfl) w_lit) rfl
theorem attach_call {l:OpenLaw}{n:Nat}{q:TU}{loose:TF}{XP:(Str->Option Value)->Heap->Prop}{YP:World->Heap->Prop}{d:DefRec}
  (hn:l.most=some n) (hdf:d.params.defaults=[])
  (call:∀ (w:World) (s₀ s₁:Shared) (mg mb:TB) (fa:Addr) (o:Obj) (pm cd doc:Value) (a:Addr) (vs:TH) (ns:TV),
   Ground q loose [] XP w s₀ mg mb s₁.heap->YP w s₁.heap →
   s₁.heap.get? fa=some o->o.data=.func (docDef d.name d.params d.body d.scope pm cd doc)->s₁.heap.CodeRec cd d.name->mg d.name=some (.ref fa) →
   s₁.heap.get? a=some { cls:=.type "list",data:=.seq vs.toArray }->IntsAre vs ns->ns.length<=n->s₁.gens=#[] →
   codeAny (model l.prog w) callerA (.call (.ref fa) ⟨[.ref a],[]⟩) (λr s'=>r=.ok (.ret (.bool true))/\OldK s₁.heap s'.heap/\s'.os=s₁.os/\AllBare s'.gens) s₁) :
  WalkO q loose XP YP l.row.toRowW d [] (λf vs=>PySem.call f vs):=by
 intro w s₀ s₁ mg mb G Y fa o pm cd doc dV kV ho hd hcd hD hmg hg args vals as hpre hlay hrd hwl hlo;obtain rfl:dV=.none:=Dflts.none hD hdf;obtain rfl:kV=.none:=Dflts.noKw hD;obtain⟨a,vs,ns,rfl,rfl,hobj,hints,hlen⟩:=G5 hn hpre hwl;refine enter_call (Y0E (call w s₀ s₁ mg mb fa o pm cd doc a vs ns G Y ho (fd_plain hd) hcd hmg hobj hints hlen hg) λr s' hq=>?_);obtain⟨rfl,h2,h3,h4⟩:=hq;exact⟨.inl ⟨.bool true,.bool true,[],rfl,λ_=>rfl,.bool true,Ge l _,λ_=>⟨List.Pairwise.nil,λ_ hm=>(nomatch hm)⟩⟩,h2,h3,h4⟩
section
variable {prog:TU}{w:World}{A:Around}{E:TC}{s:Shared}{K:Frag}
def ledger (h:Heap)(L d:Addr):List (Addr × Obj):=(List.range h.objs.size).filterMap λa=>if a=L \/ a=d then none else (h.get? a).map λo=>(a,o)
end
end Att
namespace L2
open PySem PySem.Spec PyProof.Rows
theorem Q5:∀ {vs:TH} {ns:TV},IntsAre vs ns->Vals (ns.map V.int) vs
 | _,_,.nil=>.nil
 | _,_,.cons n t h=>.cons ⟨t,rfl⟩ (Q5 h)
end L2
namespace L2
open PySem PySem.Spec PyProof.Rows
abbrev KOf {K:TR}{h:Heap}(_:K.In h):W.Frag:=K
end L2
namespace L2
open PySem PySem.Spec PyProof.Rows
def defArgs (s:Stmt):Arguments:=match s with
 | .FunctionDef _ a _ _ _ _ _ _ _ _=>a
 | _=>{ posonlyargs:=[],args:=[],vararg:=none,kwonlyargs:=[],kw_defaults:=[],kwarg:=none,defaults:=[] }
def defBody (s:Stmt):List Stmt:=match s with
 | .FunctionDef _ _ b _ _ _ _ _ _ _=>b
 | _=>[]
def defScope (s:Stmt):Scope:=match s with
 | .FunctionDef _ _ _ _ _ _ sc _ _ _=>sc
 | _=>{ kind:=.function,names:=[],isGenerator:=false,isCoroutine:=false }
abbrev CX0:CXT:=λ_ _ _ _ _ _=>False
abbrev E0:XK:=λ_ _ _=>False
theorem Z2l:Passes CX0 X E0:=λ_ _ _ _ _ _ _ h=>h.elim
structure Fun (K:TR)(x qual:Str)(st:Stmt)(f:Addr)(fd:FuncData):Prop where
 ex:∃ (oc:Value) (od:TQ) (kV doc pm:Value) (an:TQ) (cdv ct:Value) (osl:Array (Option Value)),
  fd=W.fnOf x qual (defArgs st) (defBody st) (defScope st) .none kV doc pm an cdv ct/\K.lookup f=some ⟨oc,od,.func fd,osl⟩/\W.codeIn K cdv qual=true
 kp:W.keepIn K (.ref f)=true
section
variable {P:TU}{w:World}{K:TR}{mg:TB}{base:Heap}
theorem Fun.ok {x:Str}{N:TF}{k:Nat}(F:Fun K x qual st f fd)(S:FnScope N ps (defScope st))(len:∀ vs H Q E,sp vs H Q E->vs.length=ps.length)
  (hbody:∀ (cdv:Value) (A:Around) (outer:TN) (s:Shared) (H:Hp) (vs:TZ) (Q:VK) (E:XK),Room k (A.deeper (envOfC qual (defScope st) s.heap.objs.size f cdv)) sr->sp vs H Q E →
   ∃ t,PSs (cxOf CX0 P w K mg base N qual (defScope st) f cdv A outer s H E).nox (defBody st) t/\t { nx:=λ_ H'=>Q .non H',rt:=Q } (start N vs) H):FnOk P w K mg base CX0 (k+1) f fd ps sp sr:=by
 obtain⟨oc,od,kV,doc,pm,an,cdv,ct,osl,rfl,lk,hcd⟩:=F.ex;refine Z2s lk hcd S len λA outer s H vs Q E hr hsp=>?_;obtain⟨t,h,q⟩:=hbody cdv A outer s H vs Q E hr hsp;exact⟨t,h.nox,q⟩
theorem Fun.binds {x:Str}(F:Fun K x qual st f fd)
  (h:∀ (kV doc pm:Value) (an:TQ) (cdv ct:Value) (us:TH),us.length=ps.length->bindArgs (W.fnOf x qual (defArgs st) (defBody st) (defScope st) .none kV doc pm an cdv ct) ⟨us,[]⟩=pure (ps.zip us)):Binds K fd ps []:=by
 obtain⟨oc,od,kV,doc,pm,an,cdv,ct,osl,rfl,lk,hcd⟩:=F.ex;exact .all (h kV doc pm an cdv ct)
theorem Rn {x:Str}{osl:Array (Option Value)}{kV doc cdv:Value}(l:K.lookup f=some ⟨oc,od,.func (W.fnOf x qual (defArgs st) (defBody st) (defScope st) .none kV doc pm an cdv ct),osl⟩)
  (c:W.codeIn K cdv qual=true) (k:W.keepIn K (.ref f)=true):Fun K x qual st f (W.fnOf x qual (defArgs st) (defBody st) (defScope st) .none kV doc pm an cdv ct):=⟨⟨oc,od,kV,doc,pm,an,cdv,ct,osl,rfl,l,c⟩,k⟩
end
theorem Rk {k:Nat}(hr:Room k A sr):A.units+1<cLine:=JJ (Nat.add_le_add_left (by decide:1<=64) _) hr.units
theorem Ut {n:Nat}(h:n<=1000):n<sizeLine:=JJ h (by decide)
section
variable {X:Cx}
theorem pv (i:Nat){x:Str}{pos:Pos}(hN:X.N[i]?=some x:=by rfl)(hv:Vis X.env.scope x:=by first | exact Or.inl rfl | exact Or.inr (Or.inl rfl) | exact Or.inr (Or.inr rfl))(hd:(x == ("__debug__":Str))=false:=by decide)
  (hcd:(x == ("__classdict__":Str))=false:=by decide):PE X (.Name x pos) (tVar i):=Z3e hN hv hd hcd
end
theorem Yw {A B:Prop}(h:B):if false=true then A else B:=by
 rw[XB YS];exact h
theorem Wy {A B:Prop}(h:A):if true=true then A else B:=by
 rw[XF rfl];exact h
theorem V8 {c A B:Prop}[Decidable c](h1:c->A)(h2:¬ c->B):if c then A else B:=by
 by_cases h:c
 ·rw[XF h];exact h1 h
 rw[XB h];exact h2 h
theorem Qf {c A B:Prop}[Decidable c](hc:c)(h:B):if (!decide c)=true then A else B:=by
 rw[XQ hc];exact Yw h
def Same (H H':Hp):Prop:=∀ b o,H b=some o->H' b=some o
theorem Same.refl (H:Hp):Same H H:=λ_ _ h=>h
theorem Same.trans (a:Same H H1)(b:Same H1 H2):Same H H2:=λc o h=>b c o (a c o h)
theorem Same.free {H H':Hp}(e:Same H H'){l:Addr}(h:H' l=Option.none):H l=Option.none:=by
 cases q:H l with
 | none=>rfl
 | some o =>
  rw[e l o q] at h
  cases h
end L2
namespace Sb
def Bd (n:Nat)(x:Int):Prop:=x.natAbs<2 ^ n
theorem Bd.mono {m n:Nat}{x:Int}(h:Bd m x)(k:m<=n):Bd n x:=YT h (zu (by decide) k)
theorem Bd.mul {m n:Nat}{x y:Int}(h:Bd m x)(k:Bd n y):Bd (m+n) (x*y):=by
 unfold Bd at *
 rw[qA,Y0W];exact Nat.mul_lt_mul'' h k
theorem Bd.add {n:Nat}{x y:Int}(h:Bd n x)(k:Bd n y):Bd (n+1) (x+y):=by
 unfold Bd at *
 rw[Y00];omega
theorem Bd.sub {n:Nat}{x y:Int}(h:Bd n x)(k:Bd n y):Bd (n+1) (x - y):=by
 unfold Bd at *
 rw[Y00];omega
theorem Bd.neg {n:Nat}{x:Int}(h:Bd n x):Bd n (-x):=by
 unfold Bd at *
 omega
theorem Bd.of_le {n:Nat}{x y:Int}(h:x.natAbs<=y.natAbs)(k:Bd n y):Bd n x:=JJ h k
theorem Bd.of_le' {n:Nat}{x y:Int}(k:Bd n y)(h:x.natAbs<=y.natAbs):Bd n x:=JJ h k
theorem Bd.log {n:Nat}{x:Int}(h:Bd n x)(k:n<450000):x.natAbs.log2<450000:=by
 rcases Y1c x.natAbs with h0 | hp
 ·rw[h0];decide
 have:=(Y0X (JW hp)).mpr h;omega
def gI (p q:Int):Int:=(Int.gcd p q:Int)
def sg (p q:Int):Int:=if q<0 then -(gI p q) else gI p q
def nT (p q:Int):Int:=p.fdiv (sg p q)
def nB (p q:Int):Int:=q.fdiv (sg p q)
theorem K9 {p q:Int}(h:q≠0):0<gI p q:=by
 have:=Int.gcd_pos_of_ne_zero_right p h;unfold gI;omega
theorem Q6 {p q:Int}(h:q≠0):sg p q≠0:=by
 have:=K9 (p:=p) h;unfold sg;split <;> omega
theorem Lf (p q:Int):sg p q ∣ p:=by
 unfold sg gI;split
 ·exact Int.neg_dvd.mpr (Y0z ..)
 exact Y0z ..
theorem Lg (p q:Int):sg p q ∣ q:=by
 unfold sg gI;split
 ·exact Int.neg_dvd.mpr (zU ..)
 exact zU ..
theorem Vs {a b:Int}(h:b ∣ a):a.fdiv b*b=a:=by
 rw[Int.fdiv_eq_ediv_of_dvd h];exact Int.ediv_mul_cancel h
theorem K1 (p q:Int):nT p q*sg p q=p:=Vs (Lf p q)
theorem Uz (p q:Int):nB p q*sg p q=q:=Vs (Lg p q)
theorem Pu {p q:Int}(h:q≠0):0<nB p q:=by
 have e:=Uz p q;have g:=K9 (p:=p) h;by_cases hq:q<0
 ·have s:sg p q=-(gI p q):=by unfold sg;rw[XF hq]
  rw[s] at e;rcases Int.lt_trichotomy 0 (nB p q) with k | k | k
  ·exact k
  ·rw[<-k] at e;simp at e;omega
  have:=Int.mul_pos_of_neg_of_neg k (show -(gI p q)<0 by omega);omega
 have s:sg p q=gI p q:=by unfold sg;rw[XB hq]
 rw[s] at e;rcases Int.lt_trichotomy 0 (nB p q) with k | k | k
 ·exact k
 ·rw[<-k] at e;simp at e;omega
 have:=Int.mul_neg_of_neg_of_pos k g;omega
theorem Xw (p q:Int):nT p q*q=p*nB p q:=by
 have h1:=K1 p q;have h2:=Uz p q
 calc nT p q*q=nT p q*(nB p q*sg p q):=by rw[h2]
  _=(nT p q*sg p q)*nB p q:=by rw[JX (nB p q),JQ]
  _=p*nB p q:=by rw[h1]
theorem Bf {p q:Int}(h:q≠0):Int.gcd (nT p q) (nB p q)=1:=by
 have g:=K9 (p:=p) h;have e1:=K1 p q;have e2:=Uz p q;have e:Int.gcd p q=Int.gcd (nT p q) (nB p q)*(sg p q).natAbs:=by
  have z:=Int.gcd_mul_right (nT p q) (sg p q) (nB p q);rw[e1,e2] at z;exact z
 have s:(sg p q).natAbs=Int.gcd p q:=by
  unfold sg gI;split <;> simp
 rw[s] at e;have gp:0<Int.gcd p q:=by unfold gI at g;omega
 have e':1*Int.gcd p q=Int.gcd (nT p q) (nB p q)*Int.gcd p q:=by omega
 exact (Nat.eq_of_mul_eq_mul_right gp e').symm
theorem Fy {p q:Int}(h:q≠0):1<=(sg p q).natAbs:=by
 have:=Q6 (p:=p) h;omega
theorem T7 {a b c:Int}(h:a*b=c)(hb:1<=b.natAbs):a.natAbs<=c.natAbs:=by
 rw[<-h,qA];exact zO _ hb
theorem Z55 {p q:Int}(h:q≠0):(nT p q).natAbs<=p.natAbs:=T7 (K1 p q) (Fy h)
theorem Z56 {p q:Int}(h:q≠0):(nB p q).natAbs<=q.natAbs:=T7 (Uz p q) (Fy h)
theorem Z4g {p q:Int}(h:q≠0):(sg p q).natAbs<=q.natAbs:=by
 have e:=Uz p q;rw[JX] at e;have:=Pu (p:=p) h;exact T7 e (by omega)
theorem gcd_step {a b:Int}:Int.gcd b (a % b)=Int.gcd a b:=by
 rw[Y01 b,Int.emod_def];rw[Y0g]
theorem F4 (a b:Int):Int.gcd b (a.fmod b)=Int.gcd a b:=by
 rw[Y01 b,Int.fmod_def];rw[Y0g]
theorem Bq (a:Int){b:Int}(h:b≠0):(a.fmod b).natAbs<b.natAbs:=by
 rcases Int.lt_or_gt_of_ne h with k | k
 ·have h0:=Int.neg_fmod_neg a b;have h1:=Y0G (-a) (show 0 < -b by omega);have h2:=Y1d (-a) (show 0 < -b by omega);omega
 have h1:=Y0G a k;have h2:=Y1d a k;omega
theorem Z43 (a b:Int)(ha:0<=a)(h:b=0):a=(Int.gcd a b:Int):=by
 subst h;simp;omega
end Sb
namespace Sb
open PySem PySem.Spec PyProof.Rows L2
theorem Bd.bits {n:Nat}{x:Int}(h:Bd n x):Builtin.Int.intBits x<=n:=by
 unfold Builtin.Int.intBits;split
 ·exact JO _
 rename_i h0
 have hn:x.natAbs≠0:=by
  intro z;have:x=0:=by omega
  exact h0 (by simp[this])
 have:=(Y0X hn).mpr h;omega
theorem Bd.mulOk {m n:Nat}{x y:Int}(h:Bd m x)(k:Bd n y)(hm:m<=1048576)(hn:n<=1048576):IntMulOk x y :=
 IntMulOk.of_bits (XD h.bits (XD hm (by decide))) (XD k.bits (XD hn (by decide)))
theorem Mj {x y:Int}(h1:-(2 ^ 64)<x)(h2:x<2 ^ 64):IntMulOk x y:=IntMulOk.of_left (intBits_le_64 h1 h2)
theorem Mi {x y:Int}(h1:-(2 ^ 64)<y)(h2:y<2 ^ 64):IntMulOk x y:=IntMulOk.of_right (intBits_le_64 h1 h2)
section
variable {X:Cx}
theorem Zx:OpR X (binaryOp .Mult) (rI IntMulOk λi j=>.int (i*j)):=opI λ_ _ _ _ _ _ _ hc q=>mul_int q hc
def DivOk (_ j:Int):Prop:=j≠0/\j.natAbs.log2<450000
theorem Xv:OpR X (binaryOp .FloorDiv) (rI DivOk λi j=>.int (i.fdiv j)):=by
 intro pins s σ H x y v u Q I rx ry h;obtain⟨i,j,rfl,rfl,hc,q⟩:=h;obtain⟨t,rfl⟩:=rx;obtain⟨t',rfl⟩:=ry;exact floordiv_int hc.1 ⟨.int (i.fdiv j),H,I.tok _,⟨_,rfl⟩,q⟩ (.inr I.pylong)
inductive rP0 (K:TR) (x:V) (y:V) (H:Hp) (Q:VK):Prop
 | i (p u v:_) (_:x=.ref p) (_:y=.int 0) (_:SqT K H p [u,v]) (_:Q u H)
inductive rP1 (K:TR) (x:V) (y:V) (H:Hp) (Q:VK):Prop
 | i (p u v:_) (_:x=.ref p) (_:y=.int 1) (_:SqT K H p [u,v]) (_:Q v H)
inductive rL0 (K:TR) (x:V) (y:V) (H:Hp) (Q:VK):Prop
 | i (p u v:_) (_:x=.ref p) (_:y=.int 0) (_:SqL K H p [u,v]) (_:Q u H)
inductive rL1 (K:TR) (x:V) (y:V) (H:Hp) (Q:VK):Prop
 | i (p u v:_) (_:x=.ref p) (_:y=.int 1) (_:SqL K H p [u,v]) (_:Q v H)
theorem at0 {α:Type}(x:α)(xs:List α):atI (x::xs) 0=some x:=Y4 (j:=0) rfl
theorem at1 {α:Type}(x y:α)(xs:List α):atI (x::y::xs) 1=some y:=Y4 (j:=1) rfl
theorem Yq:IxR X (rP0 X.K):=λvl sl pins s σ H x y v u Q I rx ry ⟨p,a,b,e1,e2,h,q⟩ hs=>Wt vl sl pins s σ H x y v u Q I rx ry ⟨p,_,_,_,e1,e2,h,at0 _ _,q⟩ hs
theorem Yg:IxR X (rP1 X.K):=λvl sl pins s σ H x y v u Q I rx ry ⟨p,a,b,e1,e2,h,q⟩ hs=>Wt vl sl pins s σ H x y v u Q I rx ry ⟨p,_,_,_,e1,e2,h,at1 _ _ _,q⟩ hs
theorem Jb:IxR X (rL0 X.K):=λvl sl pins s σ H x y v u Q I rx ry ⟨p,a,b,e1,e2,h,q⟩ hs=>Yz vl sl pins s σ H x y v u Q I rx ry ⟨p,_,_,_,e1,e2,h,at0 _ _,q⟩ hs
theorem Ja:IxR X (rL1 X.K):=λvl sl pins s σ H x y v u Q I rx ry ⟨p,a,b,e1,e2,h,q⟩ hs=>Yz vl sl pins s σ H x y v u Q I rx ry ⟨p,_,_,_,e1,e2,h,at1 _ _ _,q⟩ hs
theorem U2 {x:Str}{T:String}{pos:Pos}(hm:X.mg x=none)(hv:bootBuiltins x=some (.type T))(hg:Gl X x:=by rfl)(hn:x≠"__name__":=by decide)(hd:(x == ("__debug__":Str))=false:=by decide):PE X (.Name x pos) (tC (.ty T)) :=
 Z12 hg hm hv rfl hn hd
theorem Xf:CallR X (.builtin "isinstance") (λxs H Q=>∃ x T t b,xs=[x,.ty T]/\TyOf X.K H x t/\W.kitOne X.K t (.type T)=some b/\Q (.bl b) H):=by
 intro pins s σ H xs us Q I r h;obtain⟨x,T,t,b,rfl,ty,k,q⟩:=h;obtain⟨u,w',rfl,rx,ry⟩:=Km r
 cases (show w'=Value.type T from ry);exact F1 I rx ty k λtk=>⟨.bl b,H,I.tok tk,rfl,q⟩
theorem Xl:CallR X (.builtin "isinstance") (λxs H Q=>∃ a ys T b,xs=[.ref a,.ty T]/\SqT X.K H a ys/\W.kitOne X.K (.type "tuple") (.type T)=some b/\Q (.bl b) H):=by
 intro pins s σ H xs us Q I r h;obtain⟨a,ys,T,b,rfl,hs,k,q⟩:=h;obtain⟨u,w',rfl,rx,ry⟩:=Km r
 cases (show w'=Value.type T from ry)
 cases (show u=Value.ref a from rx);obtain⟨its,_,tup,_⟩:=I.tuple hs;obtain⟨o,h1,h2,_⟩:=tup;exact ze W.kitx_tuple I.kIn ⟨o,h1,h2⟩ k (λz=>nomatch z) λtk=>⟨.bl b,H,I.tok tk,rfl,q⟩
end
theorem V7 {T:String}:W.kitOne K (.type T) (.type T)=some true:=by
 unfold W.kitOne;rw[XF (by simp)]
theorem Uc:W.kitOne K (.type "int") (.type "bool")=some false:=by
 show (if (Value.type "int" == Value.type "bool")=true then some true else (if W.kitMeta "bool"=true then (fastBuiltinMro "int").map (·.contains (Value.type "bool")) else none))=some false
 decide +kernel
def Has (P:TU)(w:World)(K:TR)(mg:TB)(base:Heap)(k:Nat)(x:Str)(ps:TF)(sp:Sp)(sr:Bool:=false):Prop :=
 ∃ (f:Addr) (fd:FuncData),FnOk P w K mg base CX0 k f fd ps sp sr/\mg x=some (.ref f)/\W.keepIn K (.ref f)=true/\Binds K fd ps []
def Def (K:TR)(mg:TB)(x:Str)(st:Stmt)(ps:TF):Prop :=
 ∃ (f:Addr) (fd:FuncData),Fun K x x st f fd/\mg x=some (.ref f)/\Binds K fd ps []
theorem Def.has {P:TU}{base:Heap}{k:Nat}{x:Str}(D:Def K mg x st ps)
  (h:∀ (f:Addr) (fd:FuncData),Fun K x x st f fd->FnOk P w K mg base CX0 k f fd ps sp sr):Has P w K mg base k x ps sp sr:=by
 obtain⟨f,fd,F,hm,b⟩:=D;exact⟨f,fd,h f fd F,hm,F.kp,b⟩
section
variable {X:Cx}{k:Nat}{x:Str}{ps:TF}{sp:Sp}{e:Expr}{es:TL}{t:TA}{p pos:Pos}
theorem Pm (h:Has X.prog X.w X.K X.mg X.base k x ps sp)(hr:Room k X.A sr)(hg:Gl X x)(ha:PA X (e::es) t)(hdb:(x == ("__debug__":Str))=false:=by decide)
  (he:starEach (e::es) X.env=(false,eval e X.env)::starEach es X.env:=by rfl) (hpl:(backTo pos (starEach es X.env)).any (·.1)=false:=by rfl) (hc:X.calm=true:=by rfl):PE X (.Call (.Name x p) (e::es) [] pos) (tCall sp [] E0 t):=by
 obtain⟨f,fd,F,hm,hk,hb⟩:=h;exact Kx F hr.loose hg hm hk hb .nil Z2l ha hdb he hpl hc
theorem Wl (h:Has X.prog X.w X.K X.mg X.base k x ps sp true)(hr:Room k X.A true)(hg:Gl X x)(ha:PA X (e::es) t)(hdb:(x == ("__debug__":Str))=false:=by decide)
  (he:starEach (e::es) X.env=(false,eval e X.env)::starEach es X.env:=by rfl) (hpl:(backTo pos (starEach es X.env)).any (·.1)=false:=by rfl) (hc:X.calm=true:=by rfl):PE X (.Call (.Name x p) (e::es) [] pos) (tCall sp [] E0 t):=by
 obtain⟨f,fd,F,hm,hk,hb⟩:=h;exact Kx F hr hg hm hk hb .nil Z2l ha hdb he hpl hc
theorem Zc {j:Nat}(h:Has X.prog X.w X.K X.mg X.base k x ps sp)(hr:Room j X.A sr)(ha:PA X (e::es) t)(hg:Gl X x:=by rfl)(hj:k<=j:=by decide)(hdb:(x == ("__debug__":Str))=false:=by decide)
  (he:starEach (e::es) X.env=(false,eval e X.env)::starEach es X.env:=by rfl) (hpl:(backTo pos (starEach es X.env)).any (·.1)=false:=by rfl) (hc:X.calm=true:=by rfl):PE X (.Call (.Name x p) (e::es) [] pos) (tCall sp [] E0 t):=Pm h (hr.mono hj) hg ha hdb he hpl hc
end
section
variable {X:Cx}{st:Stmt}{t:TS}{e:Expr}{te:TE}{tt:TT}
inductive tJ (t:TS) (D:Ends) (σ:L2.St) (H:Hp):Prop
 | i (J:L2.St->Hp->Prop) (_:t { D with nx:=J } σ H) (_:∀ σ' H',J σ' H'->D.nx σ' H')
theorem Wi (h:PS X st t):PS X st (tJ t):=by
 intro pins s σ H D I ⟨J,a,b⟩;refine thn (h pins s σ H _ I a) λf s' q=>?_
 cases f with
 | next=>obtain⟨σ',H',I',q⟩:=q;exact⟨σ',H',I',b _ _ q⟩
 | brk=>exact q
 | cont=>exact q
 | ret v=>exact q
end
def SameX (a:Addr)(H H':Hp):Prop:=∀ b o,H b=some o->b≠a->H' b=some o
theorem SameX.refl (a:Addr)(H:Hp):SameX a H H:=λ_ _ h _=>h
theorem SameX.trans {a:Addr}(x:SameX a H H1)(y:SameX a H1 H2):SameX a H H2:=λb o h n=>y b o (x b o h n) n
theorem SameX.of {a:Addr}(x:Same H H'):SameX a H H':=λb o h _=>x b o h
theorem SameX.upd (a:Addr)(H:Hp)(o:HO):SameX a H (upd H a o):=λb u h n=>by rw[Ze n];exact h
theorem Same.new {a:Addr}(h:H a=none):Same H (upd H a o):=λb u e=>by rw[Ze (Zd e h)];exact e
theorem Zn {a:Addr}(e:Same H H')(h:SqT K H a xs):SqT K H' a xs:=by
 rcases h with (h | ⟨o,h⟩) | h
 ·exact .inl (.inl (e _ _ h))
 ·exact .inl (.inr ⟨o,e _ _ h⟩)
 exact .inr h
def BagAt (H:Hp)(a:Addr)(n:Nat):Prop:=∃ x y:Int,H a=some (.lst [.int x,.int y])/\0<=y/\y<=n
theorem BagAt.mono {a:Addr}{m n:Nat}(h:BagAt H a m)(k:m<=n):BagAt H a n:=by
 obtain⟨x,y,e,h1,h2⟩:=h;exact⟨x,y,e,h1,by omega⟩
theorem BagAt.same {a:Addr}{n:Nat}(h:BagAt H a n)(x:Same H H'):BagAt H' a n:=by
 obtain⟨p,q,e,r⟩:=h;exact⟨p,q,x _ _ e,r⟩
theorem BagAt.upd {H:Hp}{a l:Addr}{o:HO}{n:Nat}(h:BagAt H a n)(k:a≠l):BagAt (L2.upd H l o) a n:=by
 obtain⟨p,q,e,r⟩:=h;exact⟨p,q,by rw[Ze k];exact e,r⟩
theorem BagAt.lst {H:Hp}{a:Addr}{n:Nat}(h:BagAt H a n):∃ ys,H a=some (.lst ys):=by
 obtain⟨x,y,e,_⟩:=h;exact⟨_,e⟩
theorem Zl {x:Str}{sl:Array (Option Value)}{kV dc cd:Value}(X:K.In h)(G:h.Ns mainGlobals mg)
  (a:W.nsIn K mainGlobals x=some (some (.ref f))) (l:K.lookup f=some ⟨oc,od,.func (W.fnOf x x (defArgs st) (defBody st) (defScope st) .none kV dc pm an cd ct),sl⟩) (c:W.codeIn K cd x=true) (k:W.keepIn K (.ref f)=true)
  (b:∀ (kV doc pm:Value) (an:TQ) (cdv ct:Value) (us:TH),us.length=ps.length->bindArgs (W.fnOf x x (defArgs st) (defBody st) (defScope st) .none kV doc pm an cdv ct) ⟨us,[]⟩=pure (ps.zip us)):Def K mg x st ps :=
 ⟨f,_,Rn l c k,W.mg_of X G a,(Rn l c k).binds b⟩
theorem Vt (env:Env):∀ (ns:List (Str × NameKind)) (cs:List (Str × Addr)),(∀ y∈ns,y.2=.free->∃ c,env.cells.lookup y.1=some c)->(∀ y c,cs.lookup y=some c->env.cells.lookup y=some c) →
  ∃ cl,(forIn ns cs (λ(x:Str × NameKind) (r:List (Str × Addr))=>(if (x.2 == .free)=true then do let a <-cellOf env x.1;pure (ForInStep.yield ((x.1,a)::r)) else pure (ForInStep.yield r):Sem (ForInStep (List (Str × Addr))))))=pure cl ∧
   (∀ y c,cl.lookup y=some c->env.cells.lookup y=some c)/\(∀ y c,cs.lookup y=some c->∃ c',cl.lookup y=some c')/\∀ y∈ns,y.2=.free->∃ c,cl.lookup y.1=some c
 | [],cs,_,hs=>⟨cs,by simp,hs,λy c e=>⟨c,e⟩,λy hy=>nomatch hy⟩
 | (n,k)::r,cs,hf,hs=>by
  have hr:∀ y∈r,y.2=.free->∃ c,env.cells.lookup y.1=some c:=λy hy=>hf y (YQ _ hy);by_cases hk:k=.free
  ·subst hk;obtain⟨c,hc⟩:=hf (n,.free) YY rfl;have hc':env.cells.lookup n=some c:=hc;have hs':∀ y d,((n,c)::cs).lookup y=some d->env.cells.lookup y=some d:=λy d e=>by
    by_cases hy:y=n
    ·subst hy;simp only [XY,qK] at e
     cases e;exact hc'
    have hb:(y == n)=false:=GF.mpr hy;simp only [XY,hb] at e;exact hs y d e
   obtain⟨cl,h1,h2,h3,h4⟩:=Vt env r ((n,c)::cs) hr hs';have up:∃ c',cl.lookup n=some c':=h3 n c (by simp[XY]);refine⟨cl,?_,h2,λy d e=>?_,λy hy hyf=>?_⟩
   ·have e:cellOf env n=pure c:=by unfold cellOf;rw[hc']
    simp only [zG,qK,zx,e];exact h1
   ·by_cases hy:y=n
    ·subst hy;exact up
    have hb:(y == n)=false:=GF.mpr hy;exact h3 y d (by simp only [XY,hb];exact e)
   rcases YK.mp hy with z | z
   ·subst z;exact up
   exact h4 y z hyf
  obtain⟨cl,h1,h2,h3,h4⟩:=Vt env r cs hr hs;refine⟨cl,?_,h2,h3,λy hy hyf=>?_⟩
  ·have hb:(k == NameKind.free)=false:=GF.mpr hk;simp only [zG,hb,XV,GU];exact h1
  rcases YK.mp hy with z | z
  ·subst z;exact absurd hyf hk
  exact h4 y z hyf
theorem Xd {env:Env}(hf:∀ y∈scope.names,y.2=.free->∃ c,env.cells.lookup y.1=some c) :
  ∃ cl,closureFor scope env=pure cl/\(∀ y c,cl.lookup y=some c->env.cells.lookup y=some c)/\∀ y∈scope.names,y.2=.free->∃ c,cl.lookup y.1=some c:=by
 obtain⟨cl,h1,h2,_,h4⟩:=Vt env scope.names [] hf (λy c e=>by simp at e);refine⟨cl,?_,h2,h4⟩;have e:closureFor scope env=((forIn scope.names ([]:List (Str × Addr)) (λ(x:Str × NameKind) (r:List (Str × Addr))=>(if (x.2 == .free)=true then do let a <-cellOf env x.1;pure (ForInStep.yield ((x.1,a)::r)) else pure (ForInStep.yield r):Sem (ForInStep (List (Str × Addr)))))) >>= λr=>pure r):=by
  unfold closureFor
  congr 1
 rw[e,h1];rfl
theorem Rg {l:List (Str × NameKind)}{x:Str}{q:NameKind}(h:l.lookup x=some q):(x,q)∈l:=by
 obtain⟨a,b,e,_⟩:=List.lookup_eq_some_iff.mp h;rw[e];simp
theorem Wg {env:Env}(hf:env.scope.kind=.function):∀ {names:List (Str × NameKind)} {x:Str},names.lookup x=some .free->env.kindOf x=some .cell →
  (names.map λ(n,k)=>if (k == .free && env.scope.kind == .function && env.kindOf n == some .cell) then (n,NameKind.cell) else (n,k)).lookup x=some .cell
 | [],_,h,_=>by simp at h
 | (n,k)::r,x,h,hx=>by
  by_cases e:x=n
  ·subst e;simp only [XY,qK] at h
   cases h;simp[XY,hf,hx]
  have hb:(x == n)=false:=GF.mpr e;simp only [XY,hb] at h;have ih:=Wg hf h hx;show List.lookup x ((if (k == .free && env.scope.kind == .function && env.kindOf n == some .cell)=true then (n,NameKind.cell) else (n,k))::_)=_;by_cases c:(k == .free && env.scope.kind == .function && env.kindOf n == some .cell)=true
  ·rw[XF c];simp only [XY,hb];exact ih
  rw[XB c];simp only [XY,hb];exact ih
theorem Yy {env:Env}:∀ {names:List (Str × NameKind)} {x:Str} {q:NameKind},(q=.cell \/ q=.free) →
  (names.map λ(n,k)=>if (k == .free && env.scope.kind == .function && env.kindOf n == some .cell) then (n,NameKind.cell) else (n,k)).lookup x=some q →
  ∃ y∈names,y.1=x/\(y.2=.free \/ y.2=.cell)
 | [],_,_,_,h=>by simp at h
 | (n,k)::r,x,q,hq,h=>by
  by_cases e:x=n
  ·subst e;refine⟨(x,k),YY,rfl,?_⟩;replace h:List.lookup x ((if (k == .free && env.scope.kind == .function && env.kindOf x == some .cell)=true then (x,NameKind.cell) else (x,k))::_)=some q:=h;by_cases c:(k == .free && env.scope.kind == .function && env.kindOf x == some .cell)=true
   ·have:k=.free:=by
     rw[qu,qu] at c;exact zM.mp c.1.1
    exact .inl this
   rw[XB c] at h;simp only [XY,qK] at h
   cases h;rcases hq with z | z
   ·exact .inr z
   exact .inl z
  have hb:(x == n)=false:=GF.mpr e;replace h:List.lookup x ((if (k == .free && env.scope.kind == .function && env.kindOf n == some .cell)=true then (n,NameKind.cell) else (n,k))::_)=some q:=h;have h':(r.map λ(n,k)=>if (k == .free && env.scope.kind == .function && env.kindOf n == some .cell) then (n,NameKind.cell) else (n,k)).lookup x=some q:=by
   by_cases c:(k == .free && env.scope.kind == .function && env.kindOf n == some .cell)=true
   ·rw[XF c] at h;simp only [XY,hb] at h;exact h
   rw[XB c] at h;simp only [XY,hb] at h;exact h
  obtain⟨y,hy,z⟩:=Yy hq h';exact⟨y,YQ _ hy,z⟩
section
variable {prog:TU}{w:World}{A:Around}{R:Result->Shared->Prop}{s:Shared}
abbrev noX:Value->Shared->Prop:=λ_ _=>False
theorem Ql {elt tg iter:Expr}{ifs:TL}{scope:Scope}{pos:Pos}{it acc:Value}{env:Env}(J:Nat->Shared->Prop)
  (turn:∀ n s,J n s->wpAny (model prog w) A (pyNext it) (λr s1=>match r with
   | none=>R (.ok .next) s1
   | some v=>wpAny (model prog w) A (letOwnedTupleGo tg it v) (λ_ s2=>wpAny (model prog w) A (assign tg env v) (λ_ s3 =>
     wpAny (model prog w) A (forIn ifs true λc r=>if r=true then do let ok <-isTrue c env (eval c env);pure (ForInStep.yield ok) else pure (ForInStep.yield r)) (λok s4 =>
      if ok=true then wpAny (model prog w) A (eval elt env) (λx s5=>wpAny (model prog w) A (call (.builtin "list.append") [acc,x]) (λ_ s6=>∃ m,m<n/\J m s6) noX s5) noX s4
      else ∃ m,m<n/\J m s4) noX s3) noX s2) noX s1) noX s)
  (n:Nat) (h:J n s):codeAny (model prog w) A (.compLoop (.ListComp elt [⟨tg,iter,ifs,0⟩] scope pos) 0 it acc env) R s:=by
 have no:∀ {Z:TC} (a:Value) (b:Shared),noX a b->Z a b:=λ_ _ f=>f.elim;refine codeAny_loop rfl J (λn s hJ=>?_) n h;show wpAny _ A ((compTurn (.ListComp elt [⟨tg,iter,ifs,0⟩] scope pos) 0 it acc env).onRaise (λx=>do noteFrame x env;theTreesLotGoes x)) _ _ s;refine wpAny_noted ?_;rw[compTurn_list];refine YA (jm (YA (qL (turn n s hJ) (λr s1 h1=>?_) no)))
 cases r with
 | none=>exact YI h1
 | some v =>
  refine YA (qL h1 (λ_ s2 h2=>YA (qL h2 (λ_ s3 h3=>YA (qL h3 (λok s4 h4=>?_) no)) no)) no)
  cases ok with
  | false=>exact YI ⟨rfl,h4⟩
  | true=>exact YA (YA (qL h4 (λx s5 h5=>YA (qL h5 (λ_ s6 h6=>YI (YI ⟨rfl,h6⟩)) no)) no))
end
def compCx (X:Cx)(N:TF)(scope:Scope)(cl:List (Str × Addr))(C:Addr)(fp:TJ)(s:Shared)(H:Hp):Cx where
 prog:=X.prog
 w:=X.w
 K:=X.K
 mg:=X.mg
 base:=X.base
 A:=X.A
 N:=N
 s₀:=s
 H₀:=H
 env:=compEnvC scope cl C X.env
 outer:=X.stack
 stack:=X.stack
 ex:=fp
 fn:=λ_=>false
 calm:=true
 pn:=X.pn
 xe:=noX
def comp0 (k:Nat)(fv:List Nat)(σ:L2.St):L2.St:=List.replicate k none++fv.map λj=>σ.getD j none
def PTs (X:Cx)(ifs:TL)(t:TT):Prop :=
 ∀ (pins:TD) (s:Shared) (σ:L2.St) (H:Hp) (Q:Bool->Hp->Prop),Inv X pins σ H s->t σ H Q →
  wpAny (model X.prog X.w) X.A (forIn ifs true λc r=>if r=true then do let ok <-isTrue c X.env (eval c X.env);pure (ForInStep.yield ok) else pure (ForInStep.yield r)) (TP X pins σ Q) X.xe s
def tYes:TT:=λ_ H Q=>Q true H
theorem Zy:PTs X [] tYes:=λ_ _ _ H _ I h=>wpAny_tests_nil ⟨H,I,h⟩
theorem X8 {c:Expr}{t:TT}(h:PT X c t):PTs X [c] t:=λpins s σ H Q I q=>wpAny_tests_one (h pins s σ H Q I q)
def Weaker (σ4 σ0:L2.St):Prop:=σ0.length=σ4.length/\∀ (i:Nat) (v:V),σ0[i]?=some (some v)->σ4[i]?=some (some v)
def tComp (wi:TI)(g:TG)(tt:TT)(te:TE)(k:Nat)(fv:List Nat):TE:=λσ H Q=>wi σ H λJ H1=>∀ d,H1 d=none->∃ (n:Nat) (W:Nat->List V->Hp->Prop),n<=sizeLine/\W 0 [] (upd H1 d (.lst [])) ∧
 (∀ i ys H2,i<n->W i ys H2->H2 d=some (.lst ys)->J.go i H2/\∀ x H3,J.yld i H2 x H3->g x (comp0 k fv σ) H3 λσ4 H4=>tt σ4 H4 λb H5 =>
  if b=true then te σ4 H5 λy H6=>H6 d=some (.lst ys)/\W (i+1) (ys++[y]) (upd H6 d (.lst (ys++[y]))) else H5 d=some (.lst ys)/\W (i+1) ys H5) ∧
 (∀ ys H2,W n ys H2->H2 d=some (.lst ys)->J.stop n H2/\Q (.ref d) H2)
theorem Jf {P:TU}(x:HOk P w H h)(hn:H C=none)(k:∀ b,b≠C->h'.get? b=h.get? b):HOk P w H h':=λa o e =>
 (x a o e).stay (λb u hb q=>by
  rw[k b]
  ·exact q
  rintro rfl;rcases hb with rfl | hb
  ·rw[hn] at e;cases e
  rw[hn] at hb;cases hb) (λ_ q=>q) λ_ _ q=>q
theorem Fq {fs ex:TJ}{h1 h2:Heap}(u:Un fs ex H H' h h1)(hC:h.get? C=none)(k:∀ b,b≠C->h2.get? b=h1.get? b):Un fs ex H H' h h2:=by
 have ne:∀ b o,h.get? b=some o->b≠C:=λb o e z=>by rw[z,hC] at e;cases e
 exact⟨λb o e n hf hx=>by rw[k b (ne b o e)];exact u.keep b o e n hf hx,λb o e n hf hx=>by rw[k b (ne b o e)];exact u.slot b o e n hf hx,u.free,λb o e hx=>by rw[k b (ne b o e)];exact u.there b o e hx,u.tups,u.frzs,u.tbls⟩
section
variable {X:Cx}{pins:TD}{σ:L2.St}{H:Hp}{s:Shared}{N:TF}{scope:Scope}{cl:List (Str × Addr)}{fp:TJ}{k:Nat}{fv:List Nat}
theorem Z2g (I:Inv X pins σ H s)(hc:X.calm=true)(hf:∀ b∈fp,FpOk X pins H b)(hl:∀ b∈fp,b<s.heap.objs.size)(hkind:scope.kind=.function)(hcell:∀ y∈scope.names,y.2≠.cell)
  (h1:∀ y c,cl.lookup y=some c->X.env.cells.lookup y=some c) (h2:∀ y∈scope.names,y.2=.free->∃ c,cl.lookup y.1=some c):(compCx X N scope cl s.heap.objs.size fp s H).Ok where
 mod:=I.ok.mod
 kind:=hkind
 glob:=I.ok.glob
 blt:=I.ok.blt
 above:=YF _
 inj:=λx y c a b=>I.ok.inj x y c (h1 x c a) (h1 y c b)
 has:=λx hx=>by
  have:∃ y∈scope.names,y.1=x/\(y.2=.free \/ y.2=.cell):=by
   rcases hx with z | z
   ·exact Yy (.inl rfl) z
   exact Yy (.inr rfl) z
  obtain⟨y,hy,e,z⟩:=this;rcases z with z | z
  ·obtain⟨c,hcl⟩:=h2 y hy z;exact⟨c,by rw[<-e];exact hcl⟩
  exact absurd z (hcell y hy)
 cab:=λx c z=>by cases z
 hd:=λ_=>I.ok.hd hc
 frames:=I.ok.frames
 stk:=.inl rfl
 exf:=λb hb=>⟨XE (hl b hb),λx c e=>(hf b hb).2.2.2.2.1 x c (h1 x c e)⟩
 bs:=I.bs
 bsz:=XD I.ok.bsz I.sz
 noex:=λb o e hb=>by
  rcases (hf b hb).2.2.2.1 with z | z
  ·exact I.ok.noex b o e z
  exact absurd (YT (YL (I.ok.bs b o e).1) z) (JI _)
 exfs:=λb hb z=>(YK.mp (I.stkSub b z)).elim (λe=>(hf b hb).2.1 e) λe=>(hf b hb).2.2.1 e
 funs:=I.stack
 frf:=I.stkFree
 seen:=I.ok.seen
 dpt:=I.ok.dpt
theorem Z04 (I:Inv X pins σ H s)(hc:X.calm=true)(hf:∀ b∈fp,FpOk X pins H b)(hl:∀ b∈fp,b<s.heap.objs.size)(hkind:scope.kind=.function)(hcell:∀ y∈scope.names,y.2≠.cell)
  (h1:∀ y c,cl.lookup y=some c->X.env.cells.lookup y=some c) (h2:∀ y∈scope.names,y.2=.free->∃ c,cl.lookup y.1=some c)
  (hN:N.length=k+fv.length) (hfv:fv.map (λj=>X.N[j]?)=(N.drop k).map some) (hk:(N.drop k).map X.env.kindOf=(N.drop k).map λ_=>some .cell) (hfl:∀ y∈N.drop k,scope.names.lookup y=some .free)
  {h':Heap} {tk:Nat} (hn:h'.Ns s.heap.objs.size λ_=>none) (hb:∀ b o,s.heap.get? b=some o->h'.get? b=some o) :
  Inv (compCx X N scope cl s.heap.objs.size fp s H) [] (comp0 k fv σ) H { s with heap:=h',toks:=tk } where
 ok:=Z2g I hc hf hl hkind hcell h1 h2
 os:=rfl
 bare:=I.bare
 base:=Un.kept hb
 loc:=⟨_,hn,λi x v e1 e2 e3=>by
  have hik:k<=i:=by
   apply Y0y;intro z;have:(comp0 k fv σ)[i]?=some none:=by
    unfold comp0;rw[JV (by simpa using z)];simp[z]
   rw[this] at e2
   cases e2
  obtain⟨j,rfl⟩:∃ j,i=k+j:=⟨i - k,by omega⟩;have e2':(fv.map λj=>σ.getD j none)[j]?=some (some v):=by
   have:(comp0 k fv σ)[k+j]?=(fv.map λj=>σ.getD j none)[j]?:=by
    unfold comp0;rw[JT (by simp)];simp
   rw[<-this];exact e2
  rw[YE] at e2'
  cases hj:fv[j]? with
  | none=>rw[hj] at e2';cases e2'
  | some m =>
   rw[hj] at e2';have e4:σ.getD m none=some v:=YR e2';have e5:(N.drop k)[j]?=some x:=by rw[Y1e];exact e1
   have e6:X.N[m]?=some x:=by
    have a:=congrArg (λl=>l[j]?) hfv;simp only [YE,hj,e5,qJ] at a;exact YR a
   have e7:X.env.kindOf x=some .cell:=by
    have a:=congrArg (λl=>l[j]?) hk;simp only [YE,e5,qJ] at a;exact YR a
   have e8:σ[m]?=some (some v):=by
    cases q:σ[m]? with
    | none=>rw[List.getD,q] at e4;cases e4
    | some o=>rw[List.getD,q] at e4;rw[show o=some v from e4]
   obtain⟨m0,hm0,hl0⟩:=I.loc;obtain⟨u,ru,lk⟩:=hl0 m x v e6 e8 (.inr (.inl e7));refine⟨u,ru,?_⟩;rcases lk with ⟨z,_⟩ | ⟨_,c,hcc,ic⟩
   ·rw[e7] at z;cases z
   have mem:x∈N.drop k:=YD e5;have fr:=hfl x mem;obtain⟨c',hc'⟩:=h2 (x,.free) (Rg fr) rfl;have ec:=h1 x c' hc';rw[hcc] at ec
   cases ec;refine .inr ⟨.inl (Wg I.ok.kind fr e7),c,hc',?_⟩;obtain⟨o,ho,hd⟩:=ic;exact⟨o,hb _ _ ho,hd⟩⟩
 cell:=λx c e=>by
  obtain⟨v,o,ho,hd⟩:=I.cell x c (h1 x c e);exact⟨v,o,hb _ _ ho,hd⟩
 free:=I.hok.fresh (YF _)
 freeC:=λx c e=>I.freeC x c (h1 x c e)
 pin:=λp hp=>by
  obtain⟨a1,a2,a3,a4,a5⟩:=I.pin p (YJ _ ((XH.mp hp).elim id λz=>nomatch z));exact⟨hb _ _ a1,a2,XE (YL a1),λz=>(YK.mp (I.stkSub p.1 z)).elim a3 a4,a5⟩
 hok:=I.hok.kept hb
 len:=by
  show (comp0 k fv σ).length=N.length;unfold comp0;simp[hN]
end
section
variable {X:Cx}
theorem Rx {elt iter tg:Expr}{ifs:TL}{scope:Scope}{pos:Pos}{g:TG}{tt:TT}{te:TE}{N:TF}{k:Nat}{fv:List Nat}{cl:List (Str × Addr)}
  {pins:TD} {σ:L2.St} {H:Hp} {s:Shared} {it:Addr} {fp:TJ} {tn:Nat->Heap->Prop} {J:It} {Q:VK} {RR:Value->Addr->Result->Shared->Prop} {E:TC}
  (hc:X.calm=true) (hg:∀ cl C fp s H,PG (compCx X N scope cl C fp s H) tg g) (ht:∀ cl C fp s H,PTs (compCx X N scope cl C fp s H) ifs tt) (he:∀ cl C fp s H,PE (compCx X N scope cl C fp s H) elt te)
  (hw:∀ r x H Q,g x (List.replicate k none++r) H Q->g x (List.replicate k none++r) H λσ4 H4=>Q σ4 H4/\Weaker σ4 (List.replicate k none++r))
  (hN:N.length=k+fv.length) (hfv:fv.map (λj=>X.N[j]?)=(N.drop k).map some) (hk:(N.drop k).map X.env.kindOf=(N.drop k).map λ_=>some .cell) (hfl:∀ y∈N.drop k,scope.names.lookup y=some .free)
  (hcell:∀ y∈scope.names,y.2≠.cell) (hkind:scope.kind=.function) (h1:∀ y c,cl.lookup y=some c->X.env.cells.lookup y=some c) (h2:∀ y∈scope.names,y.2=.free->∃ c,cl.lookup y.1=some c)
  (I:Inv X pins σ H s) (T:Turn X.prog X.w X.K tg J fp it tn) (st:tn 0 s.heap) (f:∀ b∈fp,FpOk X pins H b)
  (body:∀ d,H d=none->∃ (n:Nat) (W:Nat->List V->Hp->Prop),n<=sizeLine/\W 0 [] (upd H d (.lst [])) ∧
   (∀ i ys H2,i<n->W i ys H2->H2 d=some (.lst ys)->J.go i H2/\∀ x H3,J.yld i H2 x H3->g x (comp0 k fv σ) H3 λσ4 H4=>tt σ4 H4 λb H5 =>
    if b=true then te σ4 H5 λy H6=>H6 d=some (.lst ys)/\W (i+1) (ys++[y]) (upd H6 d (.lst (ys++[y]))) else H5 d=some (.lst ys)/\W (i+1) ys H5) ∧
   (∀ ys H2,W n ys H2->H2 d=some (.lst ys)->J.stop n H2/\Q (.ref d) H2))
  (hR:∀ (D C:Addr) (H':Hp) (s':Shared),(∃ m,s'.heap.Ns C m)->FpOk X pins H' C->Q (.ref D) H'->(∀ h',Heap.SameBut C s'.heap h'->Inv X pins σ H' { s' with heap:=h' })->RR (.ref D) C (.ok .next) s') :
  wpAny (model X.prog X.w) X.A (newList []) (λacc s3=>wpAny (model X.prog X.w) X.A (newFunctionEnv scope X.env.globals cl [] X.env.qual none .none (some X.env)) (λcenv s4 =>
   codeAny (model X.prog X.w) X.A (.compStart (.ListComp elt [⟨tg,iter,ifs,0⟩] scope pos) 0 (.ref it) acc { cenv with scope:=relabel scope X.env }) (RR acc cenv.locals) s4) E s3) E s:=by
 refine zr ?_;have I3:=I.lnew (its:=[]) (ys:=[]) (t':=s.toks) .nil (JO _);have fresh:=I.fresh;generalize hD:s.heap.objs.size=D at I3 fresh ⊢;have f3:∀ b∈fp,FpOk X pins (upd H D (.lst [])) b:=λb hb=>by
  refine⟨?_,(f b hb).2⟩;have hne:b≠D:=by
   obtain⟨o,e,_⟩:=T.obj 0 _ st b hb;rw[<-hD];exact XE (YL e)
  rw[Ze hne];exact (f b hb).1
 have up3:∀ b o,s.heap.get? b=some o->(s.heap.push { cls:=.type "list",data:=.seq ([]:TH).toArray }).get? b=some o:=λb o e=>YB _ e;have st3:tn 0 (s.heap.push { cls:=.type "list",data:=.seq ([]:TH).toArray }):=T.keep 0 _ _ st λb _ o e=>up3 b o e;have hl3:∀ b∈fp,b<(s.heap.push { cls:=.type "list",data:=.seq ([]:TH).toArray }).objs.size:=λb hb=>by
  obtain⟨o,e,_⟩:=T.obj 0 _ st3 b hb;exact YL e
 obtain⟨n,W,hn,w0,step,fin⟩:=body D fresh;generalize hS3:({ s with heap:=s.heap.push { cls:=.type "list",data:=.seq ([]:TH).toArray },toks:=s.toks }:Shared)=s3 at I3;have eS3:s3.heap=s.heap.push { cls:=.type "list",data:=.seq ([]:TH).toArray }:=by rw[<-hS3]
 rw[<-eS3] at st3 hl3;refine wpAny_newFunctionEnv hcell (λy hy=>nomatch hy) (λh4 hns hsb=>?_) hkind;have old:∀ b o,s3.heap.get? b=some o->h4.get? b=some o:=λb o e=>(hsb.2 b (XE (YL e))).trans (YB _ e);have I4:=Z04 (N:=N) (tk:=s3.toks+([]:List (Str × Value)).length) I3 hc f3 hl3 hkind hcell h1 h2 hN hfv hk hfl (h':=h4) hns old;have st4:tn 0 h4:=T.keep 0 _ _ st3 λb _ o e=>old b o e;have hCn:s3.heap.get? s3.heap.objs.size=none:=by
  cases e:s3.heap.get? s3.heap.objs.size with
  | none=>rfl
  | some o=>exact absurd (YL e) (JI _)
 generalize hC:s3.heap.objs.size=C at I4 hCn ⊢;have stat:∀ {H':Hp} {ps:TD},(∀ b∈fp,H' b=none)->(∀ p∈ps,p.1 ∉ fp)->∀ b∈fp,FpOk (compCx X N scope cl C fp s3 (upd H D (.lst []))) ps H' b:=λ{H' ps} hn hp b hb =>
  ⟨hn b hb,by rw[<-hC];exact XE (hl3 b hb),λz=>(YK.mp (I3.stkSub b z)).elim (λe=>(f3 b hb).2.1 e) λe=>(f3 b hb).2.2.1 e,.inl hb,λx c e=>(f3 b hb).2.2.2.2.1 x c (h1 x c e),λp q z=>(XH.mp q).elim (λq=>(f3 b hb).2.2.2.2.2 p (YJ _ q) z) λq=>hp p q (by rw[z];exact hb)⟩
 have loop:∀ s4:Shared,s4={ s3 with heap:=h4,toks:=s3.toks+([]:List (Str × Value)).length } →
   codeAny (model X.prog X.w) X.A (.compLoop (.ListComp elt [⟨tg,iter,ifs,0⟩] scope pos) 0 (.ref it) (.ref D) (compEnvC scope cl C X.env)) (RR (.ref D) C) s4:=by
  rintro s4 rfl;refine Ql (λm s'=>∃ i ys H',Inv (compCx X N scope cl C fp s3 (upd H D (.lst []))) [] (comp0 k fv σ) H' s'/\tn i s'.heap/\(∀ b∈fp,H' b=none)/\i<=n/\m=n+1 - i/\ys.length<=i/\H' D=some (.lst ys)/\W i ys H') ?_ (n+1)
   ⟨0,[],_,I4,st4,λb hb=>(f3 b hb).1,JO _,rfl,YF _,Zb,w0⟩
  rintro m s5 ⟨i,ys,H5,I5,st5,fr5,hi,rfl,hys,hD5,w5⟩;by_cases hlt:i<n
  ·obtain⟨go,stp⟩:=step i ys H5 hlt w5 hD5;refine thn (T.item (compCx X N scope cl C fp s3 (upd H D (.lst []))) rfl rfl rfl rfl i [] s5 _ H5 noX I5 (stat fr5 (by simp)) st5 go) λr s6 ⟨u,er,h6⟩=>?_;subst er;refine thn h6 λ_ s7 ⟨x,H7,I7,r7,y7,st7,fr7⟩=>?_;have I7':=I7.pinned (stat fr7 (by simp)) (T.obj _ _ st7);refine thn (hg cl C fp s3 _ _ s7 _ H7 x u _ I7' r7 (hw _ x H7 _ (stp x H7 y7))) λ_ s8 ⟨σ8,H8,I8,q8,wk⟩=>?_;refine thn (ht cl C fp s3 _ _ s8 σ8 H8 _ I8 q8) λok s9 ⟨H9,I9,q9⟩=>?_;have back:∀ {σ':L2.St} {H':Hp} {s':Shared},Inv (compCx X N scope cl C fp s3 (upd H D (.lst []))) ([]++pinsAt fp s7.heap) σ' H' s'->Weaker σ' (comp0 k fv σ) →
     Inv (compCx X N scope cl C fp s3 (upd H D (.lst []))) [] (comp0 k fv σ) H' s'/\tn (i+1) s'.heap/\∀ b∈fp,H' b=none:=λ{σ' H' s'} I' wk'=>by
    refine⟨I'.unpinned.weak wk'.1 wk'.2,T.keep _ _ _ st7 λb hb o e=>(I'.pin (b,o) (YU _ (YU _ (X6 hb e)))).1,λb hb=>?_⟩;obtain⟨o,e,_⟩:=T.obj _ _ st7 b hb;exact (I'.pin (b,o) (YU _ (YU _ (X6 hb e)))).2.1
   cases ok with
   | false =>
    rw[XB YS] at q9 ⊢;obtain⟨hD9,w9⟩:=q9;obtain⟨a1,a2,a3⟩:=back I9 wk;exact⟨n+1 - (i+1),by omega,i+1,ys,H9,a1,a2,a3,hlt,rfl,Nat.le_succ_of_le hys,hD9,w9⟩
   | true =>
    rw[XF rfl] at q9 ⊢;refine thn (he cl C fp s3 _ _ s9 σ8 H9 _ I9 q9) λy s10 ⟨yv,H10,I10,r10,hD10,w10⟩=>?_;refine thn (Yt _ s10 σ8 H10 (.ref D) [yv] (.ref D) [y] (λ_ H'=>H'=upd H10 D (.lst (ys++[yv]))) I10 rfl (.cons r10 .nil) ⟨D,ys,yv,rfl,rfl,hD10,JJ hys (YT hlt hn),rfl⟩) λ_ s11 ⟨_,H11,I11,_,e11⟩=>?_;subst e11;obtain⟨a1,a2,a3⟩:=back I11 wk;exact⟨n+1 - (i+1),by omega,i+1,ys++[yv],_,a1,a2,a3,hlt,rfl,by rw[YX];show ys.length+1<=i+1;omega,Zb,w10⟩
  obtain rfl:i=n:=Nat.le_antisymm hi (jf.mp hlt);obtain⟨stop,q⟩:=fin ys H5 w5 hD5;refine thn (T.done (compCx X N scope cl C fp s3 (upd H D (.lst []))) rfl rfl rfl rfl i [] s5 _ H5 noX I5 (stat fr5 (by simp)) st5 stop) λr s6 ⟨er,I6⟩=>?_;subst er;refine hR D C H5 s6 ?_ (I3.fpOk (by rw[hC];exact YF _) I6.free) q λh' hs'=>?_
  ·obtain⟨m,hm,_⟩:=I6.loc;exact⟨m,hm⟩
  have hs2:∀ b,b≠C->h'.get? b=s6.heap.get? b:=λb hb=>hs'.2 b hb;refine I3.call' (s':={ s6 with heap:=h' }) (ch:=fp) ?_ (Fq I6.base hCn hs2) (Jf I6.hok I6.free hs2) I6.bare λb hb=>?_
  ·exact I6.os
  exact⟨(f3 b hb).2.2.2.1,(f3 b hb).2.1,(f3 b hb).2.2.2.2.1,(f3 b hb).2.2.2.2.2⟩
 exact codeAny_compStart_list (loop _ rfl) (T.self _ 0 _ _ _ st4 (loop _ rfl))
theorem Y0 {pos:Pos}{g:TG}{N:TF}{k:Nat}{fv:List Nat}
  (hc:X.calm=true) (hi:PI X tg iter wi) (hg:∀ cl C fp s H,PG (compCx X N scope cl C fp s H) tg g) (ht:∀ cl C fp s H,PTs (compCx X N scope cl C fp s H) ifs tt) (he:∀ cl C fp s H,PE (compCx X N scope cl C fp s H) elt te)
  (hw:∀ r x H Q,g x (List.replicate k none++r) H Q->g x (List.replicate k none++r) H λσ4 H4=>Q σ4 H4/\Weaker σ4 (List.replicate k none++r))
  (hN:N.length=k+fv.length:=by rfl) (hfv:fv.map (λj=>X.N[j]?)=(N.drop k).map some:=by rfl) (hk:(N.drop k).map X.env.kindOf=(N.drop k).map (λ_=>some .cell):=by rfl)
  (hfl:∀ y∈N.drop k,scope.names.lookup y=some .free:=by decide +kernel) (hfr:∀ y∈scope.names,y.2=.free->y.1∈N.drop k:=by decide +kernel)
  (hcell:∀ y∈scope.names,y.2≠.cell:=by decide +kernel) (hkind:scope.kind=.function:=by rfl) (hnames:∀ y∈scope.names,y.2=.local->scope.names.lookup y.1=some .local:=by decide +kernel)
  (hs:∀ x,foldedSetIterable iter X.env x=pure x:=by intro _;rfl):PE X (.ListComp elt [⟨tg,iter,ifs,0⟩] scope pos) (tComp wi g tt te k fv):=by
 intro pins s σ H Q I h;have kc:∀ y∈N.drop k,X.env.kindOf y=some .cell:=λy hy=>by
  obtain⟨j,hj⟩:=XL hy;have a:=congrArg (λl=>l[j]?) hk;simp only [YE,hj,qJ] at a;exact YR a
 obtain⟨cl,hclos,h1,h2⟩:=Xd (env:=X.env) (scope:=scope) λy hy hf=>I.ok.has y.1 (.inl (kc y.1 (hfr y hy hf)));rw[eval_ListComp];refine qV (use:=none) rfl hs hclos hkind hnames (thn (hi pins s σ H _ I h) λxv s1 h1'=>thn h1' λitv s2 h2'=>?_);obtain⟨it,fp,tn,J,H2,e,I2,T,st2,f2,body⟩:=h2';subst e;exact Rx (RR:=λacc C=>compPost (model X.prog X.w) X.A X.xe none (EP X pins σ Q) acc C) hc hg ht he hw hN hfv hk hfl hcell hkind h1 h2 I2 T st2 f2 body λD C H' s' ⟨m,hm⟩ _ q iv=>⟨m,hm,λh' hs'=>⟨.ref D,H',iv h' hs',rfl,q⟩⟩
theorem Zj:∀ (r:L2.St) (x:V) (H:Hp) (Q:L2.St->Hp->Prop),gName 0 x (List.replicate 1 none++r) H Q->gName 0 x (List.replicate 1 none++r) H λσ4 H4=>Q σ4 H4/\Weaker σ4 (List.replicate 1 none++r):=λr x H Q h =>
 ⟨h,by simp,λi v e=>by
  cases i with
  | zero=>cases e
  | succ j=>exact e⟩
theorem W0 {K:TR}:∀ (r:L2.St) (x:V) (H:Hp) (Q:L2.St->Hp->Prop),gTup K 2 (gCons (gName 0) (gCons (gName 1) gNil)) x (List.replicate 2 none++r) H Q →
  gTup K 2 (gCons (gName 0) (gCons (gName 1) gNil)) x (List.replicate 2 none++r) H λσ4 H4=>Q σ4 H4/\Weaker σ4 (List.replicate 2 none++r):=by
 rintro r x H Q ⟨a,xs,e1,hq,hl,v,t,e2,v',t',e3,e4,q⟩;refine⟨a,xs,e1,hq,hl,v,t,e2,v',t',e3,e4,q,by simp,λi z e=>?_⟩
 cases i with
 | zero=>cases e
 | succ j =>
  cases j with
  | zero=>cases e
  | succ j=>exact e
end
theorem Y2 {x:V}{σ:L2.St}{A B:L2.St->Hp->Prop}(h:A (σ.set 0 (some x)) H):gName 0 x σ H λσ4 H4=>tYes σ4 H4 λb H5=>if b=true then A σ4 H5 else B σ4 H5:=by
 show if true=true then A (σ.set 0 (some x)) H else B (σ.set 0 (some x)) H
 exact Wy h
section
variable {X:Cx}
inductive rIxA (K:TR) (x:V) (y:V) (H:Hp) (Q:VK):Prop
 | i (p xs i v:_) (_:x=.ref p) (_:y=.int i) (_:(SqL K H p xs \/ SqT K H p xs)) (_:atI xs i=some v) (_:Q v H)
theorem K6:IxR X (rIxA X.K):=λvl sl pins s σ H x y v u Q I rx ry ⟨p,xs,i,z,e1,e2,h,ea,q⟩ hs=>by
 rcases h with h | h
 ·exact Yz vl sl pins s σ H x y v u Q I rx ry ⟨p,xs,i,z,e1,e2,h,ea,q⟩ hs
 exact Wt vl sl pins s σ H x y v u Q I rx ry ⟨p,xs,i,z,e1,e2,h,ea,q⟩ hs
end
section
variable {X:Cx}{K:TR}
theorem Mr (h:X.K=K:=by rfl):IxR X (rIxT K):=h ▸ Wt
theorem Z2q (h:X.K=K:=by rfl):IxR X (rIxL K):=h ▸ Yz
theorem Z2r (h:X.K=K:=by rfl):IxR X (rIxA K):=h ▸ K6
theorem Z40 (h:X.K=K:=by rfl):IxR X (rP0 K):=h ▸ Yq
theorem Z3z (h:X.K=K:=by rfl):IxR X (rP1 K):=h ▸ Yg
end
theorem U7 {x:V}{σ:L2.St}{A B:L2.St->Hp->Prop}{t:TT}(h:t (σ.set 0 (some x)) H λb H5=>if b=true then A (σ.set 0 (some x)) H5 else B (σ.set 0 (some x)) H5) :
  gName 0 x σ H λσ4 H4=>t σ4 H4 λb H5=>if b=true then A σ4 H5 else B σ4 H5:=h
theorem Tz {p:Addr}{u:V}{σ:L2.St}{A B:L2.St->Hp->Prop}(hp:SqT K H p [u,v])(h:A ((σ.set 0 (some u)).set 1 (some v)) H) :
  gTup K 2 (gCons (gName 0) (gCons (gName 1) gNil)) (.ref p) σ H λσ4 H4=>tYes σ4 H4 λb H5=>if b=true then A σ4 H5 else B σ4 H5:=by
 refine⟨p,[u,v],rfl,hp,rfl,u,[v],rfl,v,[],rfl,rfl,?_⟩;show if true=true then A ((σ.set 0 (some u)).set 1 (some v)) H else B ((σ.set 0 (some u)).set 1 (some v)) H
 exact Wy h
theorem Fk (bs:List Bool):(List.range bs.length).any (λi=>bs.getD i false)=bs.any id:=by
 induction bs with
 | nil=>rfl
 | cons b r ih =>
  rw[XS,Y0H,jn,Y02,jn,<-ih];rfl
section
variable {X:Cx}
theorem Qm (hc:X.calm=true):CallR X (.builtin "any") (λxs H Q=>∃ (p:Addr) (bs:List Bool),xs=[.ref p]/\SqL X.K H p (bs.map V.bl)/\Q (.bl (bs.any id)) H):=by
 intro pins s σ H xs us Q I r h;obtain⟨p,bs,rfl,hs,q⟩:=h;obtain⟨u,e0,rx⟩:=Wz r
 cases (show u=Value.ref p from rx);subst e0;obtain⟨its,rv,pl,hz⟩:=I.list hs;have hl:=rv.length;rw[YC] at hl;have lp:s.heap.IsList p its.toArray:=pl.isList;have lt:p<s.heap.objs.size:=by
  obtain⟨o,e,_⟩:=lp;exact YL e
 have ip:∀ p∈X.pn,s.heap.get? p.1=some p.2:=λp hp=>(I.pin p (YJ _ hp)).1;refine call_any_walk (JU lp ?_);refine⟨s.heap.objs.size,_,_,_,_,_,λi=>bs.getD i false,rfl,Walks.listQ (A:=X.A.in1) (I.ok.hd hc) s.heap.objs.size p (XE lt) (λp hp=>XE (YL (ip p hp))) its.toArray,⟨⟨_,YM _ rfl,rfl,rfl⟩,lp.push _,λp hp=>YB _ (ip p hp)⟩,?_,λh' tk k=>?_⟩
 ·intro i v s' Q' E' hP hQ;have hi:i<its.length:=by
   have:=(Y09.mp hP).1
   simpa using this
  have hb:i<bs.length:=by omega
  have e1:(bs.map V.bl)[i]?=some (V.bl bs[i]):=by simp[hb]
  obtain⟨w,e2,rw'⟩:=rv.get e1;have e3:its[i]?=some v:=by simpa using hP
  rw[e2] at e3
  cases e3
  cases (show v=Value.bool bs[i] from rw');have e4:bs.getD i false=bs[i]:=by simp[List.getD,hb]
  replace hQ:Q' (bs.getD i false) s':=hQ;rw[e4] at hQ;exact GW hQ
 have e:(List.range its.toArray.size).any (λi=>bs.getD i false)=bs.any id:=by
  rw[YN,<-hl];exact Fk bs
 rw[e];refine⟨.bl (bs.any id),H,?_,rfl,q⟩;exact I.kept (t':=tk) λb o z=>k b o (by
  intro m;have:b=s.heap.objs.size:=by simpa using m
  rw[this] at z;exact absurd (YL z) (JI _)) (YB _ z)
end
end Sb
namespace Sb
open PySem PySem.Builtin.SmallTypes
section
variable {prog:TU}{w:World}{A:Around}{E:TC}{s:Shared}
theorem Bc {t:Addr}{j:Nat}{ys:Array Value}{y:Value}{Q:TC}(ti:s.heap.IsTupleIter it t j)(tt:s.heap.IsTuple t ys)(ey:ys[j]?=some y)
  (hQ:∀ h',h'.IsTupleIter it t (j+1)->Heap.SameBut it s.heap h'->Q y { s with heap:=h' }):wpAny (model prog w) A (nextOf (.ref it)) Q E s:=by
 obtain⟨oi,ei,ci,di⟩:=id ti;obtain⟨ot,et,_,nt,dt⟩:=tt;unfold nextOf;refine YA (JE (name:=Str.ofString "__next__") ti.typeIs GI (JM GI ti.typeIs zt ?_ (zn _)));show wpAny _ _ (field (.ref it) 0 >>= _) _ _ _;refine YA (JH ei di (x:=.ref t) rfl ?_);show wpAny _ _ (if (Value.ref t == Value.none)=true then _ else _) _ _ _;rw[XB (show ¬ ((Value.ref t == Value.none)=true) from λq=>YS q)];show wpAny _ _ (field (.ref it) 1 >>= _) _ _ _;refine YA (JH ei di (x:=.int j 0) rfl ?_);show wpAny _ _ (seqItems? (.ref t) >>= _) _ _ _;refine YA (JZ et dt ?_);simp only [qF,ey];refine YA (zd ei di (by simp) (YI ⟨y,rfl,YI (hQ _ ?_ (JD ..))⟩));refine⟨_,zp _ ei (jb (zi di _)),(Y0k ..).trans ci,?_⟩;rw[zi di];simp[rawInt]
theorem Ps {t:Addr}{j:Nat}{ys:Array Value}{Q:TC}(hq:Qt A s.heap)(ti:s.heap.IsTupleIter it t j)(tt:s.heap.IsTuple t ys)(ey:ys[j]?=none)
  (hE:∀ h' e,Heap.ExtBut it s.heap h'->(∃ o,h'.get? e=some o/\o.cls=.type "StopIteration")->E (.ref e) { s with heap:=h' }):wpAny (model prog w) A (nextOf (.ref it)) Q E s:=by
 obtain⟨oi,ei,ci,di⟩:=id ti;obtain⟨ot,et,_,nt,dt⟩:=tt;unfold nextOf;refine YA (JE (name:=Str.ofString "__next__") ti.typeIs GI (JM GI ti.typeIs zt ?_ (zn _)));show wpAny _ _ (field (.ref it) 0 >>= _) _ _ _;refine YA (JH ei di (x:=.ref t) rfl ?_);show wpAny _ _ (if (Value.ref t == Value.none)=true then _ else _) _ _ _;rw[XB (show ¬ ((Value.ref t == Value.none)=true) from λq=>YS q)];show wpAny _ _ (field (.ref it) 1 >>= _) _ _ _;refine YA (JH ei di (x:=.int j 0) rfl ?_);show wpAny _ _ (seqItems? (.ref t) >>= _) _ _ _;refine YA (JZ et dt ?_);simp only [qF,ey];refine YA (qU (YA (zd ei di (by simp) ?_)));refine Ur (hq:=(hq.but ei λn=>?_)) λh' e k he=>hE _ _ (λb o hb e=>k b o ((JD ..).extBut b o hb e)) he;obtain⟨vs,e1,e2⟩:=n;rw[di] at e1
 cases e1;simp at e2
theorem W9 {qs:TD}(hq:QtP A qs)(it t:Addr)(ne:t≠it)(hqs:∀ p∈qs,p.1≠it)(ys:Array Value) :
  Draws prog w A it (it::t::qs.map Prod.fst) ys.size (λi x=>ys[i]?=some x) (λi h=>h.IsTupleIter it t i/\h.IsTuple t ys/\∀ p∈qs,h.get? p.1=some p.2) where
 live:=λi h st=>by
  obtain⟨⟨o,e,_⟩,_⟩:=st;exact⟨o,e⟩
 frame:=λi h h' st k=>by
  obtain⟨⟨o,e,r⟩,⟨o',e',r'⟩,st⟩:=st;exact⟨⟨o,k it (by simp) o e,r⟩,⟨o',k t (by simp) o' e',r'⟩,λp hp=>k p.1 (by simp;exact .inr (.inr ⟨p.2,hp⟩)) p.2 (st p hp)⟩
 item:=λi s Q E lt st hQ=>Bc st.1 st.2.1 (qj lt) λh' a b=>hQ _ h' s.toks (qj lt) ⟨a,st.2.1.extBut b.extBut ne,λp hp=>b.extBut p.1 p.2 (hqs p hp) (st.2.2 p hp)⟩ b
 done:=λs Q E st hE=>Ps (hq.at st.2.2) st.1 st.2.1 (Y0I (YF _)) hE
end
structure Off (z TI TO i1 i2:Addr)(f1 f2:TJ):Prop where
 a1:TI≠z
 a2:TO≠z
 a3:i1≠z
 a4:i2≠z
 a5:TI≠TO
 a6:TI≠i1
 a7:TI≠i2
 a8:TO≠i1
 a9:TO≠i2
 b1:i1≠i2
 z1:z ∉ f1
 o1:TO ∉ f1
 n1:i2 ∉ f1
 z2:z ∉ f2
 o2:TO ∉ f2
 n2:i1 ∉ f2
section
variable {prog:TU}{w:World}{A:Around}{E:TC}{s:Shared}{z TI TO i1 i2:Addr}{f1 f2:TJ}{n1 n2:Nat}{P1 P2:Nat->Value->Prop}{S1 S2:Nat->Heap->Prop}
theorem Jw {k:Nat}{a b:Value}{Q:TC}(D:Off z TI TO i1 i2 f1 f2)(D1:Draws prog w A i1 f1 n1 P1 S1)(D2:Draws prog w A i2 f2 n2 P2 S2)
  (hz:IsZip s.heap z TI TO .none) (hTI:IsPair s.heap TI (.ref i1) (.ref i2)) (hTO:IsPair s.heap TO a b) (c1:S1 k s.heap) (c2:S2 k s.heap) (l1:k<n1) (l2:k<n2)
  (hQ:∀ x y h' tk,P1 k x->P2 k y->IsZip h' z TI TO (rawInt s.heap.objs.size)->IsPair h' TO x y->S1 (k+1) h'->S2 (k+1) h'->IsPair h' s.heap.objs.size x y->h'.objs.size=s.heap.objs.size+1 →
   (∀ c o,c≠z->c≠TO->c≠i1->c≠i2->s.heap.get? c=some o->h'.get? c=some o)->Q (.ref s.heap.objs.size) { s with heap:=h',toks:=tk }) :
  wpAny (model prog w) A (Builtin.«zip.__next__» ⟨[.ref z],[]⟩) (λfin s'=>∃ v,fin=.done (.ret v)/\Q v s') E s:=by
 show wpAny _ _ (field (.ref z) 2 >>= _) _ _ _;refine YA (JH hz rfl (x:=.bool false) rfl ?_);show wpAny _ _ (field (.ref z) 3 >>= _) _ _ _;refine YA (JH hz rfl (x:=.ref TI) rfl ?_);refine YA (JZ hTI rfl ?_);show wpAny _ _ (ownedTupleIsFree (.ref z) >>= _) _ _ _;refine YA ?_;unfold ownedTupleIsFree;refine YA (JH hz rfl (x:=.none) rfl (YI ?_));simp only [zx];refine YA (qU ?_);refine YA (JH hz rfl (x:=.ref TO) rfl ?_);refine YA (zl hz (by simp) λg1 z1 s1=>?_);replace z1:IsZip g1 z TI TO .ellipsis:=z1;refine YA ?_;simp only [List.zipIdx_cons,List.zipIdx_nil,zG,Y0a];refine YA (YA (Y17 ?_));show wpAny _ _ (nextOf (.ref i1) >>= _) _ _ _;have c11:S1 k g1:=D1.frame _ _ _ c1 λb hb o e=>s1.extBut b o (λq=>D.z1 (q ▸ hb)) e;refine YA (D1.item k _ _ _ l1 c11 λx g2 tk2 p1 c12 s2=>YI ?_);replace s2:Heap.SameBut i1 g1 g2:=s2;have t2:IsPair g2 TO a b:=s2.extBut _ _ D.a8 (s1.extBut _ _ D.a2 hTO);refine YA (JZ t2 rfl ?_);refine YA (wpAny_updateSeq_pair t2 λg3 t3 s3=>?_);replace t3:IsPair g3 TO x b:=t3;replace s3:Heap.SameBut TO g2 g3:=s3;refine YA (wpAny_letGo (YI ?_));refine YA (YA (Y17 ?_));show wpAny _ _ (nextOf (.ref i2) >>= _) _ _ _;have c23:S2 k g3:=D2.frame _ _ _ c2 λb hb o e=>s3.extBut b o (λq=>D.o2 (q ▸ hb)) (s2.extBut b o (λq=>D.n2 (q ▸ hb)) (s1.extBut b o (λq=>D.z2 (q ▸ hb)) e));have c13:S1 (k+1) g3:=D1.frame _ _ _ c12 λb hb o e=>s3.extBut b o (λq=>D.o1 (q ▸ hb)) e;refine YA (D2.item k _ _ _ l2 c23 λy g4 tk4 p2 c24 s4=>YI ?_);replace s4:Heap.SameBut i2 g3 g4:=s4;have t4:IsPair g4 TO x b:=s4.extBut _ _ D.a9 t3;refine YA (JZ t4 rfl ?_);refine YA (wpAny_updateSeq_pair t4 λg5 t5 s5=>?_);replace t5:IsPair g5 TO x y:=t5;replace s5:Heap.SameBut TO g4 g5:=s5;refine YA (wpAny_letGo (YI (YI ?_)));refine YA (JZ t5 rfl ?_);refine YA (wpAny_newTuple ?_);have sz:g5.objs.size=s.heap.objs.size:=by rw[s5.1,s4.1,s3.1,s2.1,s1.1]
 have z5:IsZip g5 z TI TO .ellipsis:=s5.extBut _ _ D.a2.symm (s4.extBut _ _ D.a4.symm (s3.extBut _ _ D.a2.symm (s2.extBut _ _ D.a3.symm z1)));have k5:∀ c o,c≠z->c≠TO->c≠i1->c≠i2->s.heap.get? c=some o->g5.get? c=some o:=λc o q1 q2 q3 q4 e =>
  s5.extBut _ _ q2 (s4.extBut _ _ q4 (s3.extBut _ _ q2 (s2.extBut _ _ q3 (s1.extBut _ _ q1 e))))
 have c15:S1 (k+1) g5:=D1.frame _ _ _ c13 λb hb o e=>s5.extBut b o (λq=>D.o1 (q ▸ hb)) (s4.extBut b o (λq=>D.n1 (q ▸ hb)) e);have c25:S2 (k+1) g5:=D2.frame _ _ _ c24 λb hb o e=>s5.extBut b o (λq=>D.o2 (q ▸ hb)) e;have zlt:z<g5.objs.size:=YL z5;show wpAny _ _ (ownedTupleHandOut (.ref z) (.ref g5.objs.size) >>= _) _ _ _;refine YA ?_;unfold ownedTupleHandOut;have z6:IsZip (g5.push { cls:=.type "tuple",data:=.seq #[x,y] }) z TI TO .ellipsis:=YB _ z5;refine YA (zl z6 (by simp) λg7 z7 s7=>?_);replace z7:IsZip g7 z TI TO (rawInt g5.objs.size):=z7;refine zl z7 (by simp) λg8 z8 s8=>?_;replace z8:IsZip g8 z TI TO (rawInt g5.objs.size):=z8;have up:∀ c o,c≠z->g5.get? c=some o->g8.get? c=some o:=λc o q e=>s8.extBut _ _ q (s7.extBut _ _ q (YB _ e));have t8:IsPair g8 g5.objs.size x y:=s8.extBut _ _ (JW zlt) (s7.extBut _ _ (JW zlt) (YM _ rfl));have sz8:g8.objs.size=g5.objs.size+1:=by rw[s8.1,s7.1,XX]
 rw[sz] at z8 t8 sz8;refine YI ⟨_,rfl,?_⟩;show Q (.ref g5.objs.size) _;rw[sz];exact hQ x y g8 tk4 p1 p2 z8 (up _ _ D.a2 t5) (D1.frame _ _ _ c15 λb hb o e=>up b o (λq=>D.z1 (q ▸ hb)) e) (D2.frame _ _ _ c25 λb hb o e=>up b o (λq=>D.z2 (q ▸ hb)) e) t8 sz8
  λc o q1 q2 q3 q4 e=>up c o q1 (k5 c o q1 q2 q3 q4 e)
theorem Jv {k:Nat}{a b:Value}{Q:Fin->Shared->Prop}(D:Off z TI TO i1 i2 f1 f2)(D1:Draws prog w A i1 f1 n1 P1 S1)(hz:IsZip s.heap z TI TO .none)(hTI:IsPair s.heap TI (.ref i1) (.ref i2))(c1:S1 n1 s.heap)
  (hE:∀ h' e,(∀ c o,c≠z->c≠i1->s.heap.get? c=some o->h'.get? c=some o)->(∃ o,h'.get? e=some o/\o.cls=.type "StopIteration")->E (.ref e) { s with heap:=h' }) :
  wpAny (model prog w) A (Builtin.«zip.__next__» ⟨[.ref z],[]⟩) Q E s:=by
 show wpAny _ _ (field (.ref z) 2 >>= _) _ _ _;refine YA (JH hz rfl (x:=.bool false) rfl ?_);show wpAny _ _ (field (.ref z) 3 >>= _) _ _ _;refine YA (JH hz rfl (x:=.ref TI) rfl ?_);refine YA (JZ hTI rfl ?_);show wpAny _ _ (ownedTupleIsFree (.ref z) >>= _) _ _ _;refine YA ?_;unfold ownedTupleIsFree;refine YA (JH hz rfl (x:=.none) rfl (YI ?_));simp only [zx];refine YA (qU ?_);refine YA (JH hz rfl (x:=.ref TO) rfl ?_);refine YA (zl hz (by simp) λg1 z1 s1=>?_);replace z1:IsZip g1 z TI TO .ellipsis:=z1;refine YA ?_;simp only [List.zipIdx_cons,List.zipIdx_nil,zG,Y0a];refine YA (YA (Y17 ?_));show wpAny _ _ (nextOf (.ref i1) >>= _) _ _ _;have c11:S1 n1 g1:=D1.frame _ _ _ c1 λb hb o e=>s1.extBut b o (λq=>D.z1 (q ▸ hb)) e;refine YA (D1.done _ _ _ c11 λg2 e s2 he=>?_);obtain⟨oe,eo,ce⟩:=he;replace s2:Heap.ExtBut i1 g1 g2:=s2;have z2:IsZip g2 z TI TO .ellipsis:=s2 _ _ D.a3.symm z1;have ez:e≠z:=λq=>by
  subst q;rw[z2] at eo
  cases eo;simp at ce
 exact zl z2 (by simp) λg3 _ s3=>hE g3 e (λc o q1 q3 h=>s3.extBut _ _ q1 (s2 _ _ q3 (s1.extBut _ _ q1 h))) ⟨oe,s3.extBut _ _ ez eo,ce⟩
theorem Tl {k:Nat}{a b:Value}{Q:Option Value->Shared->Prop}(D:Off z TI TO i1 i2 f1 f2)(D1:Draws prog w A.in1 i1 f1 n1 P1 S1)(D2:Draws prog w A.in1 i2 f2 n2 P2 S2)
  (hz:IsZip s.heap z TI TO .none) (hTI:IsPair s.heap TI (.ref i1) (.ref i2)) (hTO:IsPair s.heap TO a b) (c1:S1 k s.heap) (c2:S2 k s.heap) (l1:k<n1) (l2:k<n2)
  (hQ:∀ x y h' tk,P1 k x->P2 k y->IsZip h' z TI TO (rawInt s.heap.objs.size)->IsPair h' TO x y->S1 (k+1) h'->S2 (k+1) h'->IsPair h' s.heap.objs.size x y->h'.objs.size=s.heap.objs.size+1 →
   (∀ c o,c≠z->c≠TO->c≠i1->c≠i2->s.heap.get? c=some o->h'.get? c=some o)->Q (some (.ref s.heap.objs.size)) { s with heap:=h',toks:=tk }):wpAny (model prog w) A (pyNext (.ref z)) Q E s:=by
 have hT:s.TypeIs (.ref z) "zip":=⟨_,hz,rfl⟩;unfold pyNext;exact YA (qT (JE (name:=Str.ofString "__next__") hT jt (JM jt hT F.entry_zip_next
   (Jw D D1 D2 hz hTI hTO c1 c2 l1 l2 λx y h' tk p1 p2 q1 q2 q3 q4 q5 q6 q7=>YI (hQ x y h' tk p1 p2 q1 q2 q3 q4 q5 q6 q7)) (F.args_zip_next_1 _))))
theorem Wu {Q:Option Value->Shared->Prop}(D:Off z TI TO i1 i2 f1 f2)(D1:Draws prog w A.in1 i1 f1 n1 P1 S1)(hz:IsZip s.heap z TI TO .none)(hTI:IsPair s.heap TI (.ref i1) (.ref i2))(c1:S1 n1 s.heap)
  (hQ:∀ h',(∀ c o,c≠z->c≠i1->s.heap.get? c=some o->h'.get? c=some o)->Q none { s with heap:=h' }):wpAny (model prog w) A (pyNext (.ref z)) Q E s:=by
 have hT:s.TypeIs (.ref z) "zip":=⟨_,hz,rfl⟩;unfold pyNext;refine YA (qT (JE (name:=Str.ofString "__next__") hT jt (JM jt hT F.entry_zip_next
  (Jv (k:=0) (a:=.none) (b:=.none) D D1 hz hTI c1 λh' e hk he=>?_) (F.args_zip_next_1 _))))
 obtain⟨o,ho,hc⟩:=he;exact YA (qq (T:="StopIteration") (b:=true) ⟨o,ho,hc⟩ zQ (YI (hQ _ hk)))
end
abbrev zH1 (h:Heap)(t:Addr):Heap:=h.push { cls:=.type "tuple_iterator",data:=.fields #[.ref t,.int 0 0] }
abbrev zH2 (h:Heap)(t u:Addr):Heap:=(zH1 h t).push { cls:=.type "tuple_iterator",data:=.fields #[.ref u,.int 0 0] }
abbrev zH3 (h:Heap)(t u:Addr):Heap:=(zH2 h t u).push { cls:=.type "tuple",data:=.seq #[.ref h.objs.size,.ref (zH1 h t).objs.size] }
abbrev zH4 (h:Heap)(t u:Addr):Heap:=(zH3 h t u).push { cls:=.type "tuple",data:=.seq #[.none,.none] }
abbrev zH5 (h:Heap)(t u:Addr):Heap:=(zH4 h t u).push { cls:=.type "zip",data:=.fields #[.none,.bool false,.bool false,.ref (zH2 h t u).objs.size,.ref (zH3 h t u).objs.size] }
theorem K2 (t u:Addr)(xs ys:Array Value):Meets (Builtin.«zip.__new__» ⟨[.type "zip",.ref t,.ref u],[]⟩) (λ_ R s=>s.heap.IsTuple t xs/\s.heap.IsTuple u ys ∧
  R (.ok (.ret (.ref (zH4 s.heap t u).objs.size))) { s with heap:=zH5 s.heap t u }) :=
 .of_wp λprog w A R s h=>by
  obtain⟨hp,g,d,tk,os⟩:=s;obtain⟨h1,h2,h⟩:=h;have hsub:=sub_zip;have T1:Heap.IsTuple (Shared.heap ⟨hp,g,d,tk,os⟩) t xs:=h1;have T2:Heap.IsTuple (Shared.heap ⟨hp.push { cls:=.type "tuple_iterator",data:=.fields #[.ref t,.int 0 0] },g,d,tk,os⟩) u ys:=Heap.IsTuple.push h2 _
  wp_walk using GQ T1,GQ T2
  exact⟨_,rfl,h⟩
theorem Fg {prog:TU}{w:World}{A:Around}{E:TC}{s:Shared}{t u:Addr}{xs ys:Array Value}{Q:TC}(h1:s.heap.IsTuple t xs)(h2:s.heap.IsTuple u ys)
  (h:∀ h',IsZip h' (s.heap.objs.size+4) (s.heap.objs.size+2) (s.heap.objs.size+3) .none->IsPair h' (s.heap.objs.size+2) (.ref s.heap.objs.size) (.ref (s.heap.objs.size+1))->IsPair h' (s.heap.objs.size+3) .none .none →
   h'.IsTupleIter s.heap.objs.size t 0->h'.IsTupleIter (s.heap.objs.size+1) u 0->h'.objs.size=s.heap.objs.size+5->(∀ c o,s.heap.get? c=some o->h'.get? c=some o)->Q (.ref (s.heap.objs.size+4)) { s with heap:=h' }) :
  wpAny (model prog w) A (call (.type "zip") [.ref t,.ref u]) Q E s:=by
 refine Y0J F.called_zip (by decide) (F.typeCall_zip_2 _ _) (F.newCall_zip_2 _ _) (λobj=>F.args_object_init_3 obj _ _) F.entry_zip_new (K2 t u xs ys) ⟨h1,h2,?_⟩;have e1:(zH1 s.heap t).objs.size=s.heap.objs.size+1:=XX ..;have e2:(zH2 s.heap t u).objs.size=s.heap.objs.size+2:=by rw[XX,e1]
 have e3:(zH3 s.heap t u).objs.size=s.heap.objs.size+3:=by rw[XX,e2]
 have e4:(zH4 s.heap t u).objs.size=s.heap.objs.size+4:=by rw[XX,e3]
 have e5:(zH5 s.heap t u).objs.size=s.heap.objs.size+5:=by rw[XX,e4]
 have p5:(zH5 s.heap t u).get? (zH4 s.heap t u).objs.size=some _:=YM _ rfl;have p4:(zH5 s.heap t u).get? (zH3 s.heap t u).objs.size=some _:=YB _ (YM _ rfl);have p3:(zH5 s.heap t u).get? (zH2 s.heap t u).objs.size=some _:=YB _ (YB _ (YM _ rfl));have p2:(zH5 s.heap t u).get? (zH1 s.heap t).objs.size=some _:=YB _ (YB _ (YB _ (YM _ rfl)));have p1:(zH5 s.heap t u).get? s.heap.objs.size=some _:=YB _ (YB _ (YB _ (YB _ (YM _ rfl))));show _/\_;rw[e2,e3,e4] at p5;rw[e1,e2] at p3;rw[e3] at p4;rw[e1] at p2;rw[e4];refine⟨⟨_,p5,rfl⟩,h _ p5 p3 p4 ⟨_,p1,rfl,rfl⟩ ⟨_,p2,rfl,rfl⟩ e5 λc o x=>?_⟩;exact YB _ (YB _ (YB _ (YB _ (YB _ x))))
theorem Mk (t:Addr)(ys:Array Value)(n:Nat)(dd:TQ)(sl:Array (Option Value)):Meets (Builtin.«enumerate.__new__» ⟨[.type "enumerate",.ref t],[]⟩) (λ_ R s=>s.heap.get? t=some { cls:=.type "tuple",dict:=dd,data:=.seq ys n,slots:=sl } ∧
  R (.ok (.ret (.ref (zH1 s.heap t).objs.size))) { s with heap:=(zH1 s.heap t).push { cls:=.type "enumerate",data:=.fields #[.none,.bool false,.ref s.heap.objs.size,rawInt 0,.none,.none] } }) :=
 .of_wp λprog w A R s h=>by
  obtain⟨hp,g,d,tk,os⟩:=s;obtain⟨hl,h⟩:=h;have hsub:=sub_enumerate;have hL:Heap.IsTuple (Shared.heap ⟨hp,g,d,tk,os⟩) t ys:=⟨_,hl,rfl,n,rfl⟩
  wp_walk using JN hl
  refine wpAny_stack_any λst=>YI ?_;split
  ·rename_i c _ _ _ _ _
   cases (c == Value.type "enumerate")
   ·wp_walk using JN hl,GQ hL
    exact⟨_,rfl,h⟩
   wp_walk using JN hl,GQ hL
   exact⟨_,rfl,h⟩
  wp_walk using JN hl,GQ hL
  exact⟨_,rfl,h⟩
theorem Ke {prog:TU}{w:World}{A:Around}{E:TC}{s:Shared}{t:Addr}{ys:Array Value}{Q:TC}(ht:s.heap.IsTuple t ys)
  (h:∀ h',IsEnum h' (s.heap.objs.size+1) s.heap.objs.size 0 .none->h'.IsTupleIter s.heap.objs.size t 0->h'.objs.size=s.heap.objs.size+2->(∀ b o,s.heap.get? b=some o->h'.get? b=some o)->Q (.ref (s.heap.objs.size+1)) { s with heap:=h' }) :
  wpAny (model prog w) A (call (.type "enumerate") [.ref t]) Q E s:=by
 obtain⟨⟨c,dd,dt,sl⟩,e,c1,n,d1⟩:=ht
 cases c1
 cases d1;refine Y0J F.called_enumerate (by decide) (F.typeCall_enumerate_1 _) (F.newCall_enumerate_1 _) (λobj=>F.args_object_init_2 obj _) F.entry_enumerate_new (Mk t ys n dd sl) ⟨e,?_⟩;have hz:(zH1 s.heap t).objs.size=s.heap.objs.size+1:=XX ..;show _/\_;rw[hz];have he:IsEnum ((zH1 s.heap t).push { cls:=.type "enumerate",data:=.fields #[.none,.bool false,.ref s.heap.objs.size,rawInt 0,.none,.none] }) (s.heap.objs.size+1) s.heap.objs.size 0 .none:=by
  have q:=YM (zH1 s.heap t) (o:={ cls:=.type "enumerate",data:=.fields #[.none,.bool false,.ref s.heap.objs.size,rawInt 0,.none,.none] }) rfl;rw[hz] at q;exact q
 exact⟨⟨_,he,rfl⟩,h _ he ⟨_,YB _ (YM _ rfl),rfl,rfl⟩ (by rw[XX,hz]) λb o x=>YB _ (YB _ x)⟩
end Sb
namespace Sb
open PySem PySem.Spec PyProof.Rows L2
section
variable {X:Cx}{pins:TD}{σ:L2.St}{H:Hp}{s:Shared}{h':Heap}{t':Nat}{ch:TJ}
theorem Mu (I:Inv X pins σ H s)(hn:∀ b∈ch,H b=none)(k:∀ b o,b ∉ ch->s.heap.get? b=some o->h'.get? b=some o):HOk X.prog X.w H h':=λa o e =>
 (I.hok a o e).stay (λb u hb q=>k b u (λz=>by
  have n:=hn b z;rcases hb with rfl | hb
  ·rw[n] at e;cases e
  rw[n] at hb;cases hb) q) (λ_ q=>q) λ_ _ q=>q
theorem W8 (I:Inv X pins σ H s)(hf:∀ b∈ch,FpOk X pins H b)(k:∀ b o,b ∉ ch->s.heap.get? b=some o->h'.get? b=some o):Inv X pins σ H { s with heap:=h',toks:=t' }:=by
 refine I.step (g':=s.gens) (d':=s.drawn) (ch:=ch) (λb hb=>?_) (λb o _ _ hc e _=>k b o hc e) (λb o _ _ hc e _=>⟨o.slots,k b o hc e⟩) (λ_ _ _ _ n=>n) (λb o hc e=>⟨o,k b o hc e⟩) (λ_ _ e=>e) (λ_ _ _ e=>e)
  (λb ps e=>⟨#[],by rw[e];simp⟩) (λm hm=>?_) (Mu I (λb hb=>(hf b hb).1) k) I.bare
 ·exact⟨(hf b hb).2.2.2.1,(hf b hb).2.1,(hf b hb).2.2.2.2.1,(hf b hb).2.2.2.2.2⟩
 obtain⟨o,es,ep,ho,r⟩:=hm;exact⟨o,es,ep,k _ o (λz=>(hf _ z).2.1 rfl) ho,r⟩
theorem Xk {p:Addr}{u:HO}(I:Inv X pins σ H s)(hf:∀ b∈ch,FpOk X pins H b)(k:∀ b o,b ∉ ch->s.heap.get? b=some o->h'.get? b=some o)(hp:s.heap.objs.size<=p)(new:ObjOk X.prog X.w (upd H p u) h' p u) :
  Inv X pins σ (upd H p u) { s with heap:=h',toks:=t' }:=by
 have lt:∀ b o,s.heap.get? b=some o->b≠p:=λb o e z=>absurd (YT (YL e) hp) (by rw[z];exact JI _);have ltH:∀ b o,H b=some o->b≠p:=λb o e z=>absurd (YT (I.hok.lt e) hp) (by rw[z];exact JI _);have hk:=Mu I (λb hb=>(hf b hb).1) k;refine I.step (g':=s.gens) (d':=s.drawn) (ch:=ch) (λb hb=>?_) (λb o _ _ hc e _=>k b o hc e) (λb o _ _ hc e _=>⟨o.slots,k b o hc e⟩) (λb o _ e n=>by rw[Ze (lt b o e)];exact n) (λb o hc e=>⟨o,k b o hc e⟩)
  (λb _ e=>by rw[Ze (ltH b _ e)];exact e) (λb _ _ e=>by rw[Ze (ltH b _ e)];exact e) (λb ps e=>⟨#[],by rw[Ze (ltH b _ e),e];simp⟩) (λm hm=>?_) (λb o e=>?_) I.bare
 ·exact⟨(hf b hb).2.2.2.1,(hf b hb).2.1,(hf b hb).2.2.2.2.1,(hf b hb).2.2.2.2.2⟩
 ·obtain⟨o,es,ep,ho,r⟩:=hm;exact⟨o,es,ep,k _ o (λz=>(hf _ z).2.1 rfl) ho,r⟩
 by_cases hb:b=p
 ·subst hb;rw[Zb] at e
  cases e;exact new
 rw[Ze hb] at e;exact (hk b o e).stay (λ_ _ _ q=>q) (λc q=>by rw[Ze (ltH c _ q)];exact q) λc xs q=>by rw[Ze (ltH c _ q)];exact q
theorem Uo {b t:Addr}(I:Inv X pins σ H s)(hf:FpOk X pins H b)(h:SqT X.K H t xs):t≠b:=by
 rintro rfl;rcases h with (h | ⟨o,h⟩) | ⟨o,its,n,h,_⟩
 ·rw[hf.1] at h;cases h
 ·rw[hf.1] at h;cases h
 have e:=I.ok.mod.kin _ _ h;rcases hf.2.2.2.1 with z | z
 ·exact I.ok.noex _ _ e z
 exact absurd (YT (YL (I.ok.bs _ _ e).1) z) (JI _)
end
def Itz (K:TR)(t u:Addr):It :=
 ⟨λi H=>∃ xs ys,SqT K H t xs/\SqT K H u ys/\i<xs.length/\i<ys.length,
   λi H v H'=>∃ p x y,v=.ref p/\H p=none/\H'=upd H p (.tup [x,y])/\(∀ xs,SqT K H t xs->xs[i]?=some x)/\∀ ys,SqT K H u ys->ys[i]?=some y,
   λi H=>∃ xs ys,SqT K H t xs/\SqT K H u ys/\i=xs.length⟩
structure ZOff (z TI TO i1 i2:Addr):Prop where
 a1:TI≠z
 a2:TO≠z
 a3:i1≠z
 a4:i2≠z
 a5:TI≠TO
 a6:TI≠i1
 a7:TI≠i2
 a8:TO≠i1
 a9:TO≠i2
 b1:i1≠i2
theorem Fs {P:TU}{z TI TO i1 i2:Addr}(O:ZOff z TI TO i1 i2)(t u:Addr) :
  Turn P w K (.Tuple es kk tp) (Itz K t u) [z,TI,TO,i1,i2] z (λi h=>IsZip h z TI TO .none/\IsPair h TI (.ref i1) (.ref i2)/\(∃ a b,IsPair h TO a b)/\h.IsTupleIter i1 t i/\h.IsTupleIter i2 u i) where
 mem:=by simp
 obj:=λi h ⟨hz,hTI,⟨a,b,hTO⟩,⟨o1,e1,_,d1⟩,⟨o2,e2,_,d2⟩⟩ b hb=>by
  simp only [YK,XJ,GA] at hb;rcases hb with rfl | rfl | rfl | rfl | rfl
  ·exact⟨_,hz,λv q=>by have q':Data.fields _=Data.cell v:=q;cases q'⟩
  ·exact⟨_,hTI,λv q=>by have q':Data.seq _ _=Data.cell v:=q;cases q'⟩
  ·exact⟨_,hTO,λv q=>by have q':Data.seq _ _=Data.cell v:=q;cases q'⟩
  ·exact⟨_,e1,λv q=>by rw[d1] at q;cases q⟩
  exact⟨_,e2,λv q=>by rw[d2] at q;cases q⟩
 keep:=λi h h' ⟨hz,hTI,⟨a,b,hTO⟩,⟨o1,e1,r1⟩,⟨o2,e2,r2⟩⟩ k=>⟨k z (by simp) _ hz,k TI (by simp) _ hTI,⟨a,b,k TO (by simp) _ hTO⟩,⟨o1,k i1 (by simp) _ e1,r1⟩,⟨o2,k i2 (by simp) _ e2,r2⟩⟩
 item:=by
  intro X hP hw hK hc i pins s σ H E I hf st hg;subst hP hw hK;obtain⟨xs,ys,hx,hy,lx,ly⟩:=hg;obtain⟨hz,hTI,⟨a,b,hTO⟩,c1,c2⟩:=st;obtain⟨u1,v1,p1,_⟩:=I.tuple hx;obtain⟨u2,v2,p2,_⟩:=I.tuple hy;have n1:=v1.length;have n2:=v2.length;have ne:∀ b∈[z,TI,TO,i1,i2],t≠b/\u≠b:=λb hb=>⟨Uo I (hf b hb) hx,Uo I (hf b hb) hy⟩;have off:∀ b∈[z,TI,TO,i1,i2],∀ x,(b,x) ∉ X.pn:=λb hb x m=>(hf b hb).2.2.2.2.2 _ (YJ _ m) rfl;have qI:∀ p∈X.pn,s.heap.get? p.1=some p.2:=λp hp=>(I.pin p (YJ _ hp)).1;have qO:∀ b∈[z,TI,TO,i1,i2],∀ p∈X.pn,p.1≠b:=λb hb p hp=>(hf b hb).2.2.2.2.2 p (YJ _ hp);have D:Off z TI TO i1 i2 (i1::t::X.pn.map Prod.fst) (i2::u::X.pn.map Prod.fst):=⟨O.a1,O.a2,O.a3,O.a4,O.a5,O.a6,O.a7,O.a8,O.a9,O.b1,
   by simp[O.a3.symm,(ne z (by simp)).1.symm,off z (by simp)],by simp[O.a8,(ne TO (by simp)).1.symm,off TO (by simp)],by simp[O.b1.symm,(ne i2 (by simp)).1.symm,off i2 (by simp)],
   by simp[O.a4.symm,(ne z (by simp)).2.symm,off z (by simp)],by simp[O.a9,(ne TO (by simp)).2.symm,off TO (by simp)],by simp[O.b1,(ne i1 (by simp)).2.symm,off i1 (by simp)]⟩
  have D1:=W9 (prog:=X.prog) (w:=X.w) (A:=X.A.in1) (I.ok.hd hc) i1 t (ne i1 (by simp)).1 (qO i1 (by simp)) u1.toArray;have D2:=W9 (prog:=X.prog) (w:=X.w) (A:=X.A.in1) (I.ok.hd hc) i2 u (ne i2 (by simp)).2 (qO i2 (by simp)) u2.toArray;refine Tl D D1 D2 hz hTI hTO ⟨c1,p1,qI⟩ ⟨c2,p2,qI⟩ (by simp;omega) (by simp;omega) λx y g tk px py z' to' s1 s2 pr sz kp=>?_;refine⟨_,rfl,Y0h z' λg2 z2 sb=>?_⟩;obtain⟨x0,ex⟩:∃ x0,xs[i]?=some x0:=⟨xs[i],by simp[lx]⟩;obtain⟨y0,ey⟩:∃ y0,ys[i]?=some y0:=⟨ys[i],by simp[ly]⟩;obtain⟨x1,ex1,rx⟩:=v1.get ex;obtain⟨y1,ey1,ry⟩:=v2.get ey;have qx:x1=x:=by
   have:u1.toArray[i]?=some x:=px;rw[qm,ex1] at this;exact YR this
  have qy:y1=y:=by
   have:u2.toArray[i]?=some y:=py;rw[qm,ey1] at this;exact YR this
  subst qx qy;have zlt:z<s.heap.objs.size:=YL hz;have pz:s.heap.objs.size≠z:=JW zlt;have sb2:∀ b,b≠z->g2.get? b=g.get? b:=λb hb=>sb.2 b hb;have keep:∀ b o,b ∉ [z,TI,TO,i1,i2]->s.heap.get? b=some o->g2.get? b=some o:=λb o hb e=>by
   simp only [YK,XJ,GA,Y0Y] at hb;rw[sb2 b hb.1];exact kp b o hb.1 hb.2.2.1 hb.2.2.2.1 hb.2.2.2.2 e
  have new:ObjOk X.prog X.w (upd H s.heap.objs.size (.tup [x0,y0])) g2 s.heap.objs.size (.tup [x0,y0]) :=
   ⟨by show 2<=sizeLine;decide,[x1,y1],.cons rx (.cons ry .nil),⟨_,by rw[sb2 _ pz];exact pr,rfl,0,rfl⟩⟩
  have I2:=Xk (t':=tk) I hf keep (YF _) new;have nn:∀ b∈[z,TI,TO,i1,i2],upd H s.heap.objs.size (.tup [x0,y0]) b=none:=λb hb=>by
   have:b≠s.heap.objs.size:=by
    have ob:∃ o,s.heap.get? b=some o:=by
     simp only [YK,XJ,GA] at hb;obtain⟨o1,e1,_⟩:=c1;obtain⟨o2,e2,_⟩:=c2;rcases hb with rfl | rfl | rfl | rfl | rfl
     ·exact⟨_,hz⟩
     ·exact⟨_,hTI⟩
     ·exact⟨_,hTO⟩
     ·exact⟨_,e1⟩
     exact⟨_,e2⟩
    obtain⟨o,e⟩:=ob;exact XE (YL e)
   rw[Ze this];exact (hf b hb).1
  refine⟨.ref s.heap.objs.size,_,I2,rfl,⟨_,x0,y0,rfl,I.fresh,rfl,λxs' h1=>by rw[I.tuple_inj h1 hx];exact ex,λys' h2=>by rw[I.tuple_inj h2 hy];exact ey⟩,⟨z2,?_,⟨x1,y1,?_⟩,?_,?_⟩,nn⟩
  ·exact (sb2 TI O.a1).trans (kp _ _ O.a1 O.a5 O.a6 O.a7 hTI)
  ·exact (sb2 TO O.a2).trans to'
  ·exact s1.1.extBut sb.extBut O.a3
  exact s2.1.extBut sb.extBut O.a4
 done:=by
  intro X hP hw hK hc i pins s σ H E I hf st hg;subst hP hw hK;obtain⟨xs,ys,hx,hy,rfl⟩:=hg;obtain⟨hz,hTI,⟨a,b,hTO⟩,c1,c2⟩:=st;obtain⟨u1,v1,p1,_⟩:=I.tuple hx;have n1:=v1.length;have ne:∀ b∈[z,TI,TO,i1,i2],t≠b/\u≠b:=λb hb=>⟨Uo I (hf b hb) hx,Uo I (hf b hb) hy⟩;have off:∀ b∈[z,TI,TO,i1,i2],∀ x,(b,x) ∉ X.pn:=λb hb x m=>(hf b hb).2.2.2.2.2 _ (YJ _ m) rfl;have qI:∀ p∈X.pn,s.heap.get? p.1=some p.2:=λp hp=>(I.pin p (YJ _ hp)).1;have qO:∀ b∈[z,TI,TO,i1,i2],∀ p∈X.pn,p.1≠b:=λb hb p hp=>(hf b hb).2.2.2.2.2 p (YJ _ hp);have D:Off z TI TO i1 i2 (i1::t::X.pn.map Prod.fst) (i2::u::X.pn.map Prod.fst):=⟨O.a1,O.a2,O.a3,O.a4,O.a5,O.a6,O.a7,O.a8,O.a9,O.b1,
   by simp[O.a3.symm,(ne z (by simp)).1.symm,off z (by simp)],by simp[O.a8,(ne TO (by simp)).1.symm,off TO (by simp)],by simp[O.b1.symm,(ne i2 (by simp)).1.symm,off i2 (by simp)],
   by simp[O.a4.symm,(ne z (by simp)).2.symm,off z (by simp)],by simp[O.a9,(ne TO (by simp)).2.symm,off TO (by simp)],by simp[O.b1,(ne i1 (by simp)).2.symm,off i1 (by simp)]⟩
  have D1:=W9 (prog:=X.prog) (w:=X.w) (A:=X.A.in1) (I.ok.hd hc) i1 t (ne i1 (by simp)).1 (qO i1 (by simp)) u1.toArray;have c1':s.heap.IsTupleIter i1 t u1.toArray.size:=by
   rw[YN,<-n1];exact c1
  refine Wu D D1 hz hTI ⟨c1',p1,qI⟩ λg kp=>⟨rfl,?_⟩;exact W8 (t':=s.toks) I hf λb o hb e=>by
   simp only [YK,XJ,GA,Y0Y] at hb;exact kp b o hb.1 hb.2.2.2.1 e
 self:=λ_ _ _ _ _ st h=>jg st.1 h
section
variable {X:Cx}
inductive iZip_i (K:TR) (R:(It->Hp->Prop)) (vs:TZ) (H1:Hp):Prop
 | i (t u:_) (_:vs=[.ref t,.ref u]) (_:(∃ xs,SqT K H1 t xs)) (_:(∃ ys,SqT K H1 u ys)) (_:R (Itz K t u) H1)
def iZip (K:TR)(ta:TA):TI:=λσ H R=>ta σ H (iZip_i K R)
theorem C5 {a b:Expr}{p pos:Pos}{es:TL}{kk:Nat}{tp:Pos}(hg:Gl X "zip")(hm:X.mg "zip"=none)(ha:PA X [a,b] ta)(hs:starEach [a,b] X.env=[(false,eval a X.env),(false,eval b X.env)]:=by rfl)
  (hs2:starEach [b] X.env=[(false,eval b X.env)]:=by rfl):PI X (.Tuple es kk tp) (.Call (.Name "zip" p) [a,b] [] pos) (iZip X.K ta):=by
 intro pins s σ H R I h;refine Call_ (Wq I hg hm boot_zip (GG (thn (ha pos pins s σ H _ I h) λus s1 ⟨vs,H1,I1,r1,q1⟩=>?_) (by rw[hs,hs2]) (by rw[hs2];rfl)));obtain⟨t,u,e,⟨xs,hx⟩,⟨ys,hy⟩,q⟩:=q1;subst e;obtain⟨t0,u0,e0,rt,ru⟩:=Km r1
 cases (show t0=Value.ref t from rt)
 cases (show u0=Value.ref u from ru);subst e0;obtain⟨u1,v1,p1,_⟩:=I1.tuple hx;obtain⟨u2,v2,p2,_⟩:=I1.tuple hy;refine Fg (xs:=u1.toArray) (ys:=u2.toArray) p1 p2 λg z0 ti to i1 i2 sz kp=>?_;refine jg z0 ?_;have I2:Inv X pins σ H1 { s1 with heap:=g }:=I1.kept (t':=s1.toks) kp;refine⟨s1.heap.objs.size+4,[s1.heap.objs.size+4,s1.heap.objs.size+2,s1.heap.objs.size+3,s1.heap.objs.size,s1.heap.objs.size+1],_,Itz X.K t u,H1,rfl,I2,Fs (O:=?_) t u,⟨z0,ti,⟨_,_,to⟩,i1,i2⟩,λb hb=>?_,q⟩
 ·refine⟨?_,?_,?_,?_,?_,?_,?_,?_,?_,?_⟩ <;> (show @Ne Nat _ _;omega)
 have hb':s1.heap.objs.size<=b:=by
  simp only [YK,XJ,GA] at hb;rcases hb with rfl | rfl | rfl | rfl | rfl
  ·exact XT _ _
  ·exact XT _ _
  ·exact XT _ _
  ·exact YF _
  exact XT _ _
 exact I1.fpOk hb' (I1.hok.fresh hb')
end
def Ite (K:TR)(t:Addr):It :=
 ⟨λi H=>∃ xs,SqT K H t xs/\i<xs.length,
   λi H v H'=>∃ p x,v=.ref p/\H p=none/\H'=upd H p (.tup [.int (i:Int),x])/\∀ xs,SqT K H t xs->xs[i]?=some x,
   λi H=>∃ xs,SqT K H t xs/\i=xs.length⟩
theorem Jz {P:TU}{e:Addr}(O:e≠it)(t:Addr) :
  Turn P w K (.Tuple es kk tp) (Ite K t) [e,it] e (λi h=>(∃ old,IsEnum h e it (i:Int) old)/\h.IsTupleIter it t i) where
 mem:=by simp
 obj:=λi h ⟨⟨old,he⟩,⟨o1,e1,_,d1⟩⟩ b hb=>by
  simp only [YK,XJ,GA] at hb;rcases hb with rfl | rfl
  ·exact⟨_,he,λv q=>by have q':Data.fields _=Data.cell v:=q;cases q'⟩
  exact⟨_,e1,λv q=>by rw[d1] at q;cases q⟩
 keep:=λi h h' ⟨⟨old,he⟩,⟨o1,e1,r1⟩⟩ k=>⟨⟨old,k e (by simp) _ he⟩,⟨o1,k it (by simp) _ e1,r1⟩⟩
 item:=by
  intro X hP hw hK hc i pins s σ H E I hf st hg;subst hP hw hK;obtain⟨xs,hx,lx⟩:=hg;obtain⟨⟨old,he⟩,c1⟩:=st;obtain⟨u1,v1,p1,_⟩:=I.tuple hx;have n1:=v1.length;have ne:∀ b∈[e,it],t≠b:=λb hb=>Uo I (hf b hb) hx;have off:∀ b∈[e,it],∀ x,(b,x) ∉ X.pn:=λb hb x m=>(hf b hb).2.2.2.2.2 _ (YJ _ m) rfl;have qI:∀ p∈X.pn,s.heap.get? p.1=some p.2:=λp hp=>(I.pin p (YJ _ hp)).1;have qO:∀ b∈[e,it],∀ p∈X.pn,p.1≠b:=λb hb p hp=>(hf b hb).2.2.2.2.2 p (YJ _ hp);have D1:=W9 (prog:=X.prog) (w:=X.w) (A:=X.A.in1) (I.ok.hd hc) it t (ne it (by simp)) (qO it (by simp)) u1.toArray;refine wpAny_pyNext_enum_itemD D1 he ⟨c1,p1,qI⟩ (by simp;omega) O (by simp[O,(ne e (by simp)).symm,off e (by simp)]) λx g tk px out s1 pr sz kp=>?_;refine⟨_,rfl,Y0b out λg2 z2 sb=>?_⟩;obtain⟨x0,ex⟩:∃ x0,xs[i]?=some x0:=⟨xs[i],by simp[lx]⟩;obtain⟨x1,ex1,rx⟩:=v1.get ex;have qx:x1=x:=by
   have:u1.toArray[i]?=some x:=px;rw[qm,ex1] at this;exact YR this
  subst qx;have elt:e<s.heap.objs.size:=YL he;have pe:s.heap.objs.size≠e:=JW elt;have sb2:∀ b,b≠e->g2.get? b=g.get? b:=λb hb=>sb.2 b hb;have keep:∀ b o,b ∉ [e,it]->s.heap.get? b=some o->g2.get? b=some o:=λb o hb q=>by
   simp only [YK,XJ,GA,Y0Y] at hb;rw[sb2 b hb.1];exact kp b o hb.1 hb.2 q
  have new:ObjOk X.prog X.w (upd H s.heap.objs.size (.tup [.int (i:Int),x0])) g2 s.heap.objs.size (.tup [.int (i:Int),x0]) :=
   ⟨by show 2<=sizeLine;decide,[.int (i:Int) tk,x1],.cons ⟨tk,rfl⟩ (.cons rx .nil),⟨_,by rw[sb2 _ pe];exact pr,rfl,0,rfl⟩⟩
  have I2:=Xk (t':=tk+1) I hf keep (YF _) new;have nn:∀ b∈[e,it],upd H s.heap.objs.size (.tup [.int (i:Int),x0]) b=none:=λb hb=>by
   have:b≠s.heap.objs.size:=by
    have ob:∃ o,s.heap.get? b=some o:=by
     simp only [YK,XJ,GA] at hb;obtain⟨o1,e1,_⟩:=c1;rcases hb with rfl | rfl
     ·exact⟨_,he⟩
     exact⟨_,e1⟩
    obtain⟨o,q⟩:=ob;exact XE (YL q)
   rw[Ze this];exact (hf b hb).1
  refine⟨.ref s.heap.objs.size,_,I2,rfl,⟨_,x0,rfl,I.fresh,rfl,λxs' h1=>by rw[I.tuple_inj h1 hx];exact ex⟩,⟨⟨x1,?_⟩,?_⟩,nn⟩
  ·exact z2
  exact s1.1.extBut sb.extBut O.symm
 done:=by
  intro X hP hw hK hc i pins s σ H E I hf st hg;subst hP hw hK;obtain⟨xs,hx,rfl⟩:=hg;obtain⟨⟨old,he⟩,c1⟩:=st;obtain⟨u1,v1,p1,_⟩:=I.tuple hx;have n1:=v1.length;have ne:∀ b∈[e,it],t≠b:=λb hb=>Uo I (hf b hb) hx;have off:∀ b∈[e,it],∀ x,(b,x) ∉ X.pn:=λb hb x m=>(hf b hb).2.2.2.2.2 _ (YJ _ m) rfl;have qI:∀ p∈X.pn,s.heap.get? p.1=some p.2:=λp hp=>(I.pin p (YJ _ hp)).1;have qO:∀ b∈[e,it],∀ p∈X.pn,p.1≠b:=λb hb p hp=>(hf b hb).2.2.2.2.2 p (YJ _ hp);have D1:=W9 (prog:=X.prog) (w:=X.w) (A:=X.A.in1) (I.ok.hd hc) it t (ne it (by simp)) (qO it (by simp)) u1.toArray;have c1':s.heap.IsTupleIter it t u1.toArray.size:=by
   rw[YN,<-n1];exact c1
  refine wpAny_pyNext_enum_endD D1 he ⟨c1',p1,qI⟩ λg kp=>⟨rfl,?_⟩;exact W8 (t':=s.toks) I hf λb o hb q=>by
   simp only [YK,XJ,GA,Y0Y] at hb;exact kp b o hb.2 q
 self:=λ_ _ _ _ _ st h=>by
  obtain⟨⟨old,he⟩,_⟩:=st;exact zV he h
section
variable {X:Cx}
inductive iEnum_i (K:TR) (R:(It->Hp->Prop)) (vs:TZ) (H1:Hp):Prop
 | i (t:_) (_:vs=[.ref t]) (_:(∃ xs,SqT K H1 t xs)) (_:R (Ite K t) H1)
def iEnum (K:TR)(ta:TA):TI:=λσ H R=>ta σ H (iEnum_i K R)
theorem Z10 {a:Expr}{p pos:Pos}{es:TL}{kk:Nat}{tp:Pos}(hg:Gl X "enumerate")(hm:X.mg "enumerate"=none)(ha:PA X [a] ta)(hs:starEach [a] X.env=[(false,eval a X.env)]:=by rfl) :
  PI X (.Tuple es kk tp) (.Call (.Name "enumerate" p) [a] [] pos) (iEnum X.K ta):=by
 intro pins s σ H R I h;refine Call_ (Wq I hg hm boot_enumerate (GG (thn (ha pos pins s σ H _ I h) λus s1 ⟨vs,H1,I1,r1,q1⟩=>?_) hs rfl));obtain⟨t,e,⟨xs,hx⟩,q⟩:=q1;subst e;obtain⟨t0,e0,rt⟩:=Wz r1
 cases (show t0=Value.ref t from rt);subst e0;obtain⟨u1,v1,p1,_⟩:=I1.tuple hx;refine Ke (ys:=u1.toArray) p1 λg z0 i1 sz kp=>?_;refine zV z0 ?_;have I2:Inv X pins σ H1 { s1 with heap:=g }:=I1.kept (t':=s1.toks) kp;refine⟨s1.heap.objs.size+1,[s1.heap.objs.size+1,s1.heap.objs.size],_,Ite X.K t,H1,rfl,I2,Jz (O:=?_) t,⟨⟨_,z0⟩,i1⟩,λb hb=>?_,q⟩
 ·show @Ne Nat _ _;omega
 have hb':s1.heap.objs.size<=b:=by
  simp only [YK,XJ,GA] at hb;rcases hb with rfl | rfl
  ·exact XT _ _
  exact YF _
 exact I1.fpOk hb' (I1.hok.fresh hb')
end
end Sb
namespace Sb
open PySem L2
structure Ext (H H':Hp):Prop where
 tup:∀ b xs,H b=some (.tup xs)->H' b=some (.tup xs)
 frz:∀ b o u,H b=some (.frz o u)->H' b=some (.frz o u)
theorem Ext.trans (a:Ext H H1)(b:Ext H1 H2):Ext H H2:=⟨λc xs h=>b.tup c xs (a.tup c xs h),λc o u h=>b.frz c o u (a.frz c o u h)⟩
theorem Ext.same (x:Same H H'):Ext H H':=⟨λb _ h=>x b _ h,λb _ _ h=>x b _ h⟩
theorem Ext.x {a:Addr}(x:SameX a H H')(ha:H a=some (.lst ys)):Ext H H' :=
 ⟨λb _ h=>x b _ h (Z2n h ha (by intro z;cases z)),λb _ _ h=>x b _ h (Z2n h ha (by intro z;cases z))⟩
theorem Ext.bag {a:Addr}{n:Nat}(x:SameX a H H')(ha:BagAt H a n):Ext H H':=by
 obtain⟨ys,e⟩:=ha.lst;exact Ext.x x e
theorem Ext.upd {l:Addr}{H:Hp}{ys:TZ}{o:HO}(hl:H l=some (.lst ys)):Ext H (L2.upd H l o):=Ext.x (SameX.upd l H o) hl
theorem Ext.new {l:Addr}{H:Hp}{o:HO}(hl:H l=none):Ext H (L2.upd H l o):=Ext.same (Same.new hl)
theorem Ext.sq {a:Addr}(e:Ext H H')(h:SqT K H a xs):SqT K H' a xs:=by
 rcases h with (h | ⟨o,h⟩) | h
 ·exact .inl (.inl (e.tup _ _ h))
 ·exact .inl (.inr ⟨o,e.frz _ _ _ h⟩)
 exact .inr h
abbrev Rat:=Int × Int
abbrev _root_.UC:=List (List Rat)
abbrev _root_.UB:=List Rat
def IsR (K:TR)(H:Hp)(r:Rat)(v:V):Prop:=∃ b,v=.ref b/\SqT K H b [.int r.1,.int r.2]
theorem IsR.ext {r:Rat}(h:IsR K H r v)(e:Ext H H'):IsR K H' r v:=by
 obtain⟨b,q,h⟩:=h;exact⟨b,q,e.sq h⟩
def Rs (K:TR)(H:Hp)(rs:UB)(xs:TZ):Prop:=Paired (IsR K H) rs xs
theorem Rs.ext {K:TR}{H H':Hp}{rs:UB}{xs:TZ}(h:Rs K H rs xs)(e:Ext H H'):Rs K H' rs xs:=Paired.mapP h λ_ _ q=>q.ext e
theorem Rs.snoc {K:TR}{H:Hp}{rs:UB}{xs:TZ}{r:Rat}{v:V}(h:Rs K H rs xs)(q:IsR K H r v):Rs K H (rs++[r]) (xs++[v]):=Y0m h q
theorem Rs.len {rs:UB}(h:Rs K H rs xs):rs.length=xs.length:=YW h
theorem Rs.at {K:TR}{H:Hp}:∀ {rs:UB} {xs:TZ} {i:Nat} {r:Rat},Rs K H rs xs->rs[i]?=some r->∃ v,xs[i]?=some v/\IsR K H r v
 | _,_,_,_,.nil,e=>by simp at e
 | _,_,0,_,.cons q _,e=>by
  simp at e;subst e;exact⟨_,rfl,q⟩
 | _,_,i+1,r,.cons _ t,e=>by
  obtain⟨v,h1,h2⟩:=Rs.at (i:=i) (r:=r) t (by simpa using e);exact⟨v,by simpa using h1,h2⟩
theorem Rs.back {rs:UB}{i:Nat}(h:Rs K H rs xs)(e:xs[i]?=some v):∃ r,rs[i]?=some r/\IsR K H r v:=by
 have hi:i<xs.length:=(YH.mp e).1;have hr:i<rs.length:=by rw[h.len];exact hi
 obtain⟨w,h1,h2⟩:=h.at (i:=i) (r:=rs[i]) (by simp[hr]);rw[e] at h1
 cases h1;exact⟨_,by simp[hr],h2⟩
def RowAt (K:TR)(H:Hp)(a:Addr)(rs:UB):Prop:=∃ xs,SqT K H a xs/\Rs K H rs xs
theorem RowAt.ext {K:TR}{H H':Hp}{a:Addr}{rs:UB}(h:RowAt K H a rs)(e:Ext H H'):RowAt K H' a rs:=by
 obtain⟨xs,h1,h2⟩:=h;exact⟨xs,e.sq h1,h2.ext e⟩
structure Good (n:Nat)(r:Rat):Prop where
 b1:Bd n r.1
 b2:Bd n r.2
 pos:0<r.2
 cop:Int.gcd r.1 r.2=1
theorem Good.mono {m n:Nat}{r:Rat}(h:Good m r)(k:m<=n):Good n r:=⟨h.b1.mono k,h.b2.mono k,h.pos,h.cop⟩
def nrm (p q:Int):Rat:=(nT p q,nB p q)
theorem Xe {n:Nat}{p q:Int}(hp:Bd n p)(hq:Bd n q)(h:q≠0):Good n (nrm p q):=⟨hp.of_le' (Z55 h),hq.of_le' (Z56 h),Pu h,Bf h⟩
def addR (r s:Rat):Rat:=nrm (r.1*s.2+s.1*r.2) (r.2*s.2)
def subR (r s:Rat):Rat:=nrm (r.1*s.2 - s.1*r.2) (r.2*s.2)
def mulR' (r s:Rat):Rat:=nrm (r.1*s.1) (r.2*s.2)
theorem Xh {a b:Int}(ha:0<a)(hb:0<b):a*b≠0:=by
 have:=XN ha hb;omega
theorem Fn {m n:Nat}{r s:Rat}(hr:Good m r)(hs:Good n s):Good (m+n+1) (addR r s):=by
 refine Xe ?_ ((hr.b2.mul hs.b2).mono (by omega)) (Xh hr.pos hs.pos);have a:=hr.b1.mul hs.b2;have b:=hs.b1.mul hr.b2;rw[jz n m] at b;exact a.add b
end Sb
variable {e l mix rs:UB}{s:Sb.Rat}
namespace Sb
open PySem PySem.Spec PyProof.Rows L2
set_option maxRecDepth 100000
theorem W6:fillsNumberSlot (.type "tuple") "mul"=pure false :=
 PySem.fillsNumberSlot_seq (id:="tuple.__mul__") (r:=some (.builtin "tuple.__rmul__")) jh.lookup (by decide +kernel) F.slot_tuple_rmul.lookup (by decide +kernel)
theorem U1:seqRepeat? (.type "tuple")=pure (some (.builtin "tuple.__mul__")):=by
 unfold seqRepeat?;rw[PySem.seqSlot_of (T:="tuple") (name:="__mul__") (id:="tuple.__mul__") jh.lookup (by decide +kernel),PySem.seqSlot_of (T:="tuple") (name:="__rmul__") (id:="tuple.__rmul__") F.slot_tuple_rmul.lookup (by decide +kernel)];rfl
theorem Vi (a:Int)(t:Tok)(l:Addr)(items:Array Value)(n:Nat)(dd:TQ)(sl:Array (Option Value)) :
  Meets (Builtin.«int.__rmul__» ⟨[.int a t,.ref l],[]⟩) (λ_ R s=>s.heap.get? l=some { cls:=.type "tuple",dict:=dd,data:=.seq items n,slots:=sl }/\R (.ok (.ret Value.notImplemented)) s) :=
 .of_wp λprog w A R s h=>by obtain⟨hp,g,d,tk,os⟩:=s;obtain⟨hl,h⟩:=h;wp_walk;exact⟨_,rfl,h⟩
theorem G1 (l:Addr)(items:Array Value)(n:Nat)(dd:TQ)(sl:Array (Option Value))(x:Int)(u:Tok)(h1:2<=x)(h2:items.isEmpty=false)(h3:items.size*x.toNat<=1000) :
  Meets (Builtin.«tuple.__mul__» ⟨[.ref l,.int x u],[]⟩) (λ_ R s=>s.heap.get? l=some { cls:=.type "tuple",dict:=dd,data:=.seq items n,slots:=sl } ∧
   R (.ok (.ret (Value.ref s.heap.objs.size))) { s with heap:=s.heap.push { cls:=Value.type "tuple",data:=Data.seq (List.foldl (·++·) #[] (List.replicate x.toNat items)) } }) :=
 .of_wp λprog w A R s h=>by
  obtain⟨hp,g,d,tk,os⟩:=s;obtain⟨hl,h⟩:=h;have f1:=AutoSeq1.idx_int;have f2:=Y0r;have b1:(items.size:Int)*x<=1000:=by
   have e:x=(x.toNat:Int):=by omega
   rw[e,<-Int.natCast_mul];omega
  have b2:0<items.size:=by
   cases items with
   | mk l=>cases l with
    | nil=>simp at h2
    | cons a r=>simp
  have b3:x<=1000:=by
   have:(1:Int)*x<=(items.size:Int)*x:=ji (by omega) (by omega);omega
  have c0:¬ (decide (x < -2 ^ 63) || decide (x ≥ 2 ^ 63))=true:=by simp;omega
  have c1:¬ (items.isEmpty || x == 1)=true:=by rw[h2];simp;omega
  have c2:¬ (decide (x<=0) || items.isEmpty)=true:=by rw[h2];simp;omega
  have c3:¬ ((items.size:Int)*x > (2 ^ 63 - 1) / 8):=by
   have:(1000:Int)<=(2 ^ 63 - 1) / 8:=by decide
   omega
  have c4:¬ Builtin.Tuple.tupleTooMany ((items.size:Int)*x)=true:=by
   unfold Builtin.Tuple.tupleTooMany;have:((items.size:Int)*x).toNat<=1000:=by omega
   have:(1000:Nat)<=sizeLine:=by decide
   simp;omega
  have c5:(List.foldl (λx1 x2=>x1++x2) #[] (List.replicate x.toNat items)).size<=sizeLine:=by
   rw[AutoSeq1.size_joined];have:(1000:Nat)<=sizeLine:=by decide
   have e:x.toNat*items.size=items.size*x.toNat:=Y03 ..;simp;omega
  wp_walk using JN hl
  refine ju (XR c0) ?_
  wp_walk using JN hl
  refine ju (XR c1) ?_
  wp_walk using JN hl
  refine ju (XR c2) ?_
  wp_walk using JN hl
  refine ju (XR c3) ?_
  wp_walk using JN hl
  exact⟨_,rfl,h⟩
section
variable {X:Cx}{K:TR}
inductive rRepT (K:TR) (x:V) (y:V) (H:Hp) (Q:VK):Prop
 | i (a k xs:_) (_:x=.ref a) (_:y=.int k) (_:SqT K H a xs) (_:2<=k) (_:xs≠[]) (_:xs.length*k.toNat<=1000) (_:∀ p,H p=none->Q (.ref p) (upd H p (.tup (List.replicate k.toNat xs).flatten)))
theorem Z14:OpR X (binaryOp .Mult) (rRepT X.K):=by
 intro pins s σ H x y v u Q I rx ry h;obtain⟨l,k,xs,rfl,rfl,hq,h1,h2,h3,q⟩:=h
 cases rx;obtain⟨t,rfl⟩:=ry;obtain⟨its,r,pl,hz⟩:=I.tuple hq;obtain⟨⟨cls,dd,data,sl⟩,ho,hc,n,hd⟩:=id pl;simp only at hc hd;subst hc hd;have hl:=r.length;have he:its.toArray.isEmpty=false:=by
  cases its with
  | nil=>cases r;exact absurd rfl h2
  | cons a b=>rfl
 have hnew:List.foldl (λx1 x2=>x1++x2) #[] (List.replicate k.toNat its.toArray)=(List.replicate k.toNat its).flatten.toArray:=by
  have:=Qh its k.toNat [];rw[List.nil_append] at this;exact this
 refine Y0i (T:="tuple") (U:="int") (by decide) ⟨_,ho,rfl⟩ (λs'=>Y0F s' k t) W6 F.fills_int_mul jv U1 F.slot_int_index.lookup
  (zL jv (Y0F s k t) F.entry_int_rmul (F.args_int_rmul_2 _ _) (Vi k t l its.toArray n dd sl)
   ⟨ho,rfl,⟨_,ho,rfl⟩,zL jh ⟨_,ho,rfl⟩ F.entry_tuple_mul (F.args_tuple_mul_2 _ _) (G1 l its.toArray n dd sl k t h1 he (by rw[YN,<-hl];exact h3)) ⟨ho,?_⟩⟩)
 rw[hnew];refine⟨.ref s.heap.objs.size,_,I.laid (t':=s.toks) (o:=.tup (List.replicate k.toNat xs).flatten) (λb ob q=>YB _ q) (YF _) ?_,rfl,q _ (I.hok.fresh (YF _))⟩;exact⟨by rw[Z21,Y03];exact XD h3 (by decide),_,r.rep k.toNat,IsTup.new _ _⟩
inductive rEqI (K:TR) (x:V) (y:V) (H:Hp) (Q:VK):Prop
 | i (a b:Addr) (ns ms:TV) (_:x=.ref a) (_:y=.ref b) (_:SqT K H a (ns.map V.int)) (_:SqT K H b (ms.map V.int)) (_:Q (.bl (decide (ns=ms))) H)
theorem Ki (ns ms:TV):((List.range (min ns.length ms.length)).all (λj=>ns.getD j 0 == ms.getD j 0) && ns.length == ms.length)=decide (ns=ms):=by
 rw[JS];simp only [qu,GR,JA,zM,qS];constructor
 ·rintro ⟨h,hl⟩;refine zz hl λi h1 h2=>?_;have:=h i (by omega)
  simpa [List.getD,h1,h2] using this
 rintro rfl;exact⟨λ_ _=>rfl,rfl⟩
theorem Vh {ns:TV}{us:TH}(r:Vals (ns.map V.int) us){j:Nat}(h:j<us.length):∃ t,us[j]=Value.int (ns.getD j 0) t:=by
 have hl:=r.length;rw[YC] at hl;have hj:j<ns.length:=by omega
 obtain⟨u,e,q⟩:=r.get (i:=j) (show (ns.map V.int)[j]?=some (V.int ns[j]) by simp[hj]);obtain⟨t,rfl⟩:=q;have e2:us[j]?=some us[j]:=by simp[h]
 rw[e2] at e;refine⟨t,?_⟩;rw[YR e];simp[List.getD,hj]
theorem Pp (hu:X.A.units<cLine)(hK:X.K=K:=by rfl):OpR X (compareOp .Eq) (rEqI K):=by
 subst hK;intro pins s σ H x y v u Q I rx ry h;obtain⟨a,b,ns,ms,rfl,rfl,ha,hb,q⟩:=h
 cases rx
 cases ry;obtain⟨its,r1,p1,_⟩:=I.tuple ha;obtain⟨its2,r2,p2,_⟩:=I.tuple hb;have l1:=r1.length;have l2:=r2.length;rw[YC] at l1 l2;refine SeqAt.eq_tupleAt (e:=λj=>ns.getD j 0 == ms.getD j 0) p1 p2 hu (λj h1 h2=>?_) ?_
 ·obtain⟨t,e1⟩:=Vh r1 (j:=j) (by simpa using h1);obtain⟨t',e2⟩:=Vh r2 (j:=j) (by simpa using h2);have e1':its.toArray[j]=Value.int (ns.getD j 0) t:=by simpa using e1
  have e2':its2.toArray[j]=Value.int (ms.getD j 0) t':=by simpa using e2
  rw[e1',e2'];exact zj _ _ _ _
 rw[YN,YN,<-l1,<-l2,Ki];exact⟨.bl _,H,I,rfl,q⟩
theorem Lv (h:X.K=K:=by rfl):OpR X (compareOp .In) (rIn K false):=h ▸ Q9
end
theorem Mt (i:Int)(ns:TV):inV (.int i) (ns.map V.int)=decide (i∈ns):=by
 unfold inV;rw[Y02,JS];simp only [List.any_eq_true,qS,Function.comp];constructor
 ·rintro ⟨x,hx,e⟩;have:x=i:=by simpa [eqV] using e
  exact this ▸ hx
 intro h;exact⟨i,h,by simp[eqV]⟩
theorem Qj (ns:TV):(ns.map V.int).all flatV=true:=by
 rw[Y1j,GR];intro x _;rfl
end Sb
namespace Sb
open PySem L2
def Con (K:TR)(mg:TB)(x:Str)(r:Rat):Prop:=∃ a:Addr,mg x=some (.ref a)/\∀ H,SqT K H a [.int r.1,.int r.2]
theorem Z02 {x:Str}{a:Addr}{i j:Int}{t1 t2:Tok}{n:Nat}{dd:TQ}{sl:Array (Option Value)}(X:K.In h)(G:h.Ns mainGlobals mg)
  (e:W.nsIn K mainGlobals x=some (some (.ref a))) (l:K.lookup a=some ⟨.type "tuple",dd,.seq #[.int i t1,.int j t2] n,sl⟩):Con K mg x (i,j) :=
 ⟨a,W.mg_of X G e,λH=>.inr ⟨_,_,_,l,rfl,rfl,sz2,.cons ⟨_,rfl⟩ (.cons ⟨_,rfl⟩ .nil)⟩⟩
def evI (c:Nat)(p:Nat->Bool):List Int:=((List.range c).filter p).map λ(w:Nat)=>(w:Int)
def EvAt (K:TR)(H:Hp)(c:Nat)(o:TW)(v:V):Prop:=match o with
 | none=>v=.non
 | some p=>∃ a,v=.ref a/\SqT K H a ((evI c p).map V.int)
theorem EvAt.ext {K:TR}{H H':Hp}{c:Nat}{o:TW}{v:V}(h:EvAt K H c o v)(e:Ext H H'):EvAt K H' c o v:=by
 cases o with
 | none=>exact h
 | some p=>obtain⟨a,q,h⟩:=h;exact⟨a,q,e.sq h⟩
theorem EvAt.same {K:TR}{H H':Hp}{c:Nat}{o:TW}{v:V}(h:EvAt K H c o v)(e:Same H H'):EvAt K H' c o v:=h.ext (Ext.same e)
def inE (o:TW)(i:Nat):Bool:=match o with
 | none=>true
 | some p=>p i
theorem J0 {c:Nat}{p:Nat->Bool}{i:Nat}:((i:Int)∈evI c p) ↔ i<c/\p i=true:=by
 unfold evI;simp only [YZ,XI,JA];constructor
 ·rintro ⟨j,h,e⟩;have:j=i:=by omega
  exact this ▸ h
 intro h;exact⟨i,h,rfl⟩
theorem L0 (c:Nat)(p:Nat->Bool):evI (c+1) p=evI c p++if p c then [(c:Int)] else []:=by
 unfold evI;rw[qP,qw,XM]
 congr 1
 cases h:p c <;> simp[h]
theorem F9 {c:Nat}{p q:Nat->Bool}(h:∀ i,i<c->p i=q i):evI c p=evI c q:=by
 unfold evI
 congr 1
 apply List.filter_congr;intro x hx;exact h x (JA.mp hx)
theorem Bl {c A B:Prop}[Decidable c](hc:c)(h:A):if decide c=true then A else B:=by rw[XQ hc];exact Wy h
theorem Ms {c A B:Prop}[Decidable c](hc:¬ c)(h:B):if decide c=true then A else B:=by rw[XR hc];exact Yw h
theorem Bm {b:Bool}{A B:Prop}(h1:b=true->A)(h0:b=false->B):if b=true then A else B:=by
 cases b with
 | true=>exact Wy (h1 rfl)
 | false=>exact Yw (h0 rfl)
theorem Y8 {α:Type}{l:List α}{i:Nat}{x:α}(h:l[i]?=some x):l.take (i+1)=l.take i++[x]:=by rw[GK,h];rfl
def cutR (o:TW)(rs:UB):List Rat:=rs.mapIdx λi r=>if inE o i then r else (0,1)
theorem Ug {o:TW}{i:Nat}{r:Rat}(h:rs[i]?=some r):(cutR o rs)[i]?=some (if inE o i then r else (0,1)):=by
 unfold cutR;rw[jo,h];rfl
theorem Yu (o:TW)(rs:UB):(cutR o rs).length=rs.length:=by unfold cutR;simp
theorem g01 (n:Nat)(h:1<=n):Good n (0,1):=by
 have:2 ^ 1<=2 ^ n:=zu (by decide) h;exact⟨by show (0:Int).natAbs<_;simp;omega,by show (1:Int).natAbs<_;simp;omega,by decide,by decide⟩
def zipR {α:Type}(op:Rat->Rat->α)(rs ss:UB)(i:Nat):List α:=List.zipWith op (rs.take i) (ss.take i)
theorem Ju {α:Type}(op:Rat->Rat->α){rs ss:UB}{i:Nat}{r s:Rat}(hr:rs[i]?=some r)(hs:ss[i]?=some s):zipR op rs ss (i+1)=zipR op rs ss i++[op r s]:=by
 have lr:i<rs.length:=(YH.mp hr).1;have ls:i<ss.length:=(YH.mp hs).1;unfold zipR;rw[GK,GK,hr,hs,Y14 (by simp;omega)];rfl
theorem Fo {α:Type}(op:Rat->Rat->α){rs ss:UB}{n:Nat}(hr:rs.length=n)(hs:ss.length=n):zipR op rs ss n=List.zipWith op rs ss:=by
 unfold zipR;rw[YV (by omega),YV (by omega)]
def mapR {α:Type}(op:Rat->α)(rs:UB)(i:Nat):List α:=(rs.take i).map op
theorem Qc {α:Type}(op:Rat->α){rs:UB}{i:Nat}{r:Rat}(hr:rs[i]?=some r):mapR op rs (i+1)=mapR op rs i++[op r]:=by
 unfold mapR;rw[GK,hr,XM];rfl
theorem Mm {α:Type}(op:Rat->α){rs:UB}{n:Nat}(hr:rs.length=n):mapR op rs n=rs.map op:=by
 unfold mapR;rw[YV (by omega)]
def ltR (r s:Rat):Bool:=decide (r.1*s.2<s.1*r.2)
end Sb
namespace Sb
open PySem PySem.Spec PyProof.Rows L2
section
variable {X:Cx}{tg:Expr}{K:TR}
def iSeq (K:TR)(tl:TE):TI:=λσ H R=>tl σ H λx H1=>∃ a,x=.ref a/\(((∃ xs,SqL K H1 a xs)/\R (Itl K a) H1) \/ ((∃ xs,SqT K H1 a xs)/\R (Itt K a) H1))
theorem C6 {l:Expr}(hl:PE X l tl):PI X tg l (iSeq X.K tl):=by
 intro pins s σ H R I h;refine thn (hl pins s σ H _ I h) λv s1 ⟨x,H1,I1,r1,q1⟩=>?_;obtain⟨a,e,⟨⟨xs,hq⟩,q⟩ | ⟨⟨xs,hq⟩,q⟩⟩:=q1
 ·subst e
  cases r1;obtain⟨its,rv,p,hz⟩:=I1.list hq;refine JU p.isList ?_;refine⟨s1.heap.objs.size,[s1.heap.objs.size],_,_,H1,rfl,I1.kept (t':=s1.toks) λb o e=>YB _ e,Um a _,⟨_,YM _ rfl,rfl,rfl⟩,λb hb=>?_,q⟩;have e:b=s1.heap.objs.size:=by simpa using hb
  subst e;exact I1.fpOk (YF _) (I1.hok.fresh (YF _))
 subst e
 cases r1;obtain⟨its,rv,p,hz⟩:=I1.tuple hq;refine GQ (show s1.heap.IsTuple a its.toArray from p) ?_;refine⟨s1.heap.objs.size,[s1.heap.objs.size],_,_,H1,rfl,I1.kept (t':=s1.toks) λb o e=>YB _ e,Vk a _,⟨_,YM _ rfl,rfl,rfl⟩,λb hb=>?_,q⟩;have e:b=s1.heap.objs.size:=by simpa using hb
 subst e;exact I1.fpOk (YF _) (I1.hok.fresh (YF _))
theorem Jh {a:Addr}{g:TG}{D:Ends}{σ:L2.St}(Pv:Nat->L2.St->Hp->Prop)(hx:SqL K H a xs \/ SqT K H a xs)(h0:Pv 0 σ H)(hS:∀ i σ H',i<=xs.length->Pv i σ H'->Same H H')
  (hs:∀ i x σ H,xs[i]?=some x->Pv i σ H->g x σ H λσ2 H2=>tb { D with nx:=Pv (i+1),ct:=Pv (i+1),bk:=D.nx } σ2 H2) (hd:∀ σ H,Pv xs.length σ H->D.nx σ H) :
  ∃ b,V.ref a=.ref b/\(((∃ xs,SqL K H b xs)/\∃ W:Nat->Nat->L2.St->Hp->Prop,(∃ m,W 0 m σ H)/\∀ i m σ H,W i m σ H →
   ((Itl K b).stop i H/\D.nx σ H) \/ ((Itl K b).go i H/\∃ N:L2.St->Hp->Prop,(∀ σ' H',N σ' H'->∃ m',m'<m/\W (i+1) m' σ' H')/\∀ x H',(Itl K b).yld i H x H'->g x σ H' λσ2 H2=>tb { D with nx:=N,ct:=N,bk:=D.nx } σ2 H2)) ∨
   ((∃ xs,SqT K H b xs)/\∃ W:Nat->Nat->L2.St->Hp->Prop,(∃ m,W 0 m σ H)/\∀ i m σ H,W i m σ H →
   ((Itt K b).stop i H/\D.nx σ H) \/ ((Itt K b).go i H/\∃ N:L2.St->Hp->Prop,(∀ σ' H',N σ' H'->∃ m',m'<m/\W (i+1) m' σ' H')/\∀ x H',(Itt K b).yld i H x H'->g x σ H' λσ2 H2=>tb { D with nx:=N,ct:=N,bk:=D.nx } σ2 H2))):=by
 refine⟨a,rfl,?_⟩;rcases hx with hx | hx
 ·exact .inl ⟨⟨_,hx⟩,X0 (K:=K) (a:=a) (xs:=xs) Pv h0 (λi σ H' hi p=>by
   rcases hx with (z | ⟨o,z⟩) | z
   ·exact .inl (.inl (hS i σ H' hi p _ _ z))
   ·exact .inl (.inr ⟨o,hS i σ H' hi p _ _ z⟩)
   exact .inr z) hs hd⟩
 exact .inr ⟨⟨_,hx⟩,Pz (K:=K) (a:=a) (xs:=xs) Pv h0 (λi σ H' hi p=>Zn (hS i σ H' hi p) hx) hs hd⟩
theorem Td (hc:X.calm=true)(hK:X.K=K:=by rfl):CallR X (.builtin "sum") (λxs H Q=>∃ (p:Addr) (ns:TV),xs=[.ref p]/\SqL K H p (ns.map V.int)/\Q (.int ns.sum) H):=by
 subst hK;intro pins s σ H xs us Q I r h;obtain⟨p,ns,rfl,hs,q⟩:=h;obtain⟨u,e0,rx⟩:=Wz r
 cases (show u=Value.ref p from rx);subst e0;obtain⟨its,rv,pl,hz⟩:=I.list hs;have hi:IntsAre its ns:=K7 rv;obtain⟨ys,ey⟩:=hi.allInts.items;have en:(numsOf its.toArray.toList)=ns:=hi.numsOf;have lp:s.heap.IsList p (intItems ys):=by rw[<-ey];exact pl.isList
 rw[ey,nums_intItems] at en;refine Z4c (I.ok.hd hc) (λp hp=>(I.pin p (YJ _ hp)).1) lp λh' tk t' hk=>⟨.int ns.sum,H,I.kept (t':=tk) hk,⟨t',?_⟩,q⟩;rw[preSum_eq,YV (by simp),en]
end
end Sb
namespace Sb
open PySem L2
theorem Yr {a:Addr}(e:Same H H')(h:SqL K H a xs):SqL K H' a xs:=by
 rcases h with (h | ⟨o,h⟩) | h
 ·exact .inl (.inl (e _ _ h))
 ·exact .inl (.inr ⟨o,e _ _ h⟩)
 exact .inr h
end Sb
namespace Sb
open PySem PySem.Spec PyProof.Rows L2
abbrev bmV:List Value:=[.type "ValueError",.type "Exception",.type "BaseException",.type "object"]
section
variable {P:TU}{w:World}{K:TR}{mg:TB}{base:Heap}{N:TF}{qual:Str}{scope:Scope}{f:Addr}{cd:Value}{A:Around}{outer:TN}{s:Shared}{H:Hp}{E:XK}
end
structure CatchBy (K:TR)(C D:Addr):Prop where
 nt:W.instIn K (.ref D) (.type "tuple")=some false
 be:W.subIn K (.ref D) (.type "BaseException")=some true
 it:W.kitOne K (.type "int") (.ref D)=some false
 sub:W.subIn K (.ref C) (.ref D)=some true
section
variable {X:Cx}{k:Nat}{x:Str}{ps:TF}{sp:Sp}{e:Expr}{es:TL}{t:TA}{p pos:Pos}{EX:L2.St->XK}
end
section
variable {X:Cx}{pins pins' pn:TD}{σ:L2.St}{H:Hp}{s:Shared}{E:TC}{a:Addr}
end
section
variable {X:Cx}{x:Str}{C D:Addr}{body:TM}{b₀:Stmt}{suite:TM}{np hp pos:Pos}{tb:(L2.St->XK)->TS}{ts:TS}
end
open PySem.W (Looks findIn specialIn takesIn mroIn clsIn InstAt findObj KitX)
section
variable {K:TR}{C x:Addr}{prog:TU}{w:World}{A:Around}{E:TC}{h:Heap}{g:Array GenState}{d:Drawn}{t:Nat}{os:OsState}
end
section
variable {X:Cx}{K:TR}
end
end Sb
namespace Sb
open PySem PySem.Spec PyProof.Rows L2
section
variable {X:Cx}{pins:TD}{σ:L2.St}{H:Hp}{s:Shared}
end
section
variable {X:Cx}{x n:Str}{i:Nat}{C D:Addr}{body:TM}{b₀:Stmt}{suite:TM}{np hp pos:Pos}{tb:(L2.St->XK)->TS}{ts:TS}
end
def flatE:V->Bool
 | .non | .bl _ | .int _ | .str _ | .ref _=>true
 | _=>false
def EqU (K:TR)(H:Hp):Nat->V->V->Prop
 | 0,x,y=>x=y/\flatE x=true
 | n+1,x,y=>(x=y/\flatE x=true) \/ ∃ (a b:Addr) (xs ys:TZ),x=.ref a/\y=.ref b/\((SqL K H a xs/\SqL K H b ys) \/ (SqT K H a xs/\SqT K H b ys))/\Paired (EqU K H n) xs ys
theorem Paired.getB {α β:Type}{R:α->β->Prop}:∀ {xs:List α} {ys:List β} {i:Nat} {x:α} {y:β},Paired R xs ys->xs[i]?=some x->ys[i]?=some y->R x y
 | _,_,_,_,_,.nil,e,_=>by simp at e
 | _,_,0,_,_,.cons q _,e,e'=>by
  simp at e e';subst e e';exact q
 | _,_,i+1,x,y,.cons _ t,e,e'=>Paired.getB (i:=i) t (by simpa using e) (by simpa using e')
section
variable {X:Cx}{pins:TD}{σ:L2.St}{H:Hp}{s:Shared}{K:TR}
theorem Qk {A:Around}{x:V}{u v:Value}(h:flatE x=true)(ru:RelV x u)(rv:RelV x v):SeqAt.EqAt A s u v true:=by
 cases x with
 | non=>cases ru;cases rv;exact qN _
 | bl b=>cases ru;cases rv;exact qN _
 | int i =>
  obtain⟨t,rfl⟩:=ru;obtain⟨t',rfl⟩:=rv;have:=zj (A:=A) (s:=s) i t i t'
  rwa [qK] at this
 | str z =>
  obtain⟨t,rfl⟩:=ru;obtain⟨t',rfl⟩:=rv;have:=SeqAt.EqAt.str_str (A:=A) (s:=s) z t z t'
  rwa [qK] at this
 | ref a=>cases ru;cases rv;exact qN _
 | byt b=>cases h
 | flt b=>cases h
 | ty b=>cases h
theorem Wa (n:Nat):(List.range n).all (λ_=>true)=true:=by simp
theorem Kb (I:Inv X pins σ H s):∀ (n:Nat) (A:Around) (x y:V) (u v:Value),A.units+n<cLine->EqU X.K H n x y->RelV x u->RelV y v->SeqAt.EqAt A s u v true
 | 0,A,x,y,u,v,_,⟨e,h⟩,ru,rv=>by
  subst e;exact Qk h ru rv
 | n+1,A,x,y,u,v,hu,h,ru,rv=>by
  rcases h with ⟨e,h⟩ | ⟨a,b,xs,ys,rfl,rfl,h,p⟩
  ·subst e;exact Qk h ru rv
  cases ru
  cases rv;by_cases hab:a=b
  ·subst hab;exact qN _
  refine Y0c hab ?_;have lp:=YW p;rcases h with ⟨h1,h2⟩ | ⟨h1,h2⟩
  ·obtain⟨i1,r1,p1,_⟩:=I.list h1;obtain⟨i2,r2,p2,_⟩:=I.list h2;have l1:=r1.length;have l2:=r2.length;have:=SeqAt.RcAt.lists (A:=A) (e:=λ_=>true) p1.isList p2.isList (by simp;omega) (by omega) λj h1 h2=>by
    have h1':j<i1.length:=by simpa using h1
    have h2':j<i2.length:=by simpa using h2
    obtain⟨w1,e1,q1⟩:=r1.get (i:=j) (x:=xs[j]'(by omega)) (by simp);obtain⟨w2,e2,q2⟩:=r2.get (i:=j) (x:=ys[j]'(by omega)) (by simp);have g1:i1.toArray[j]=w1:=by
     have:i1[j]?=some i1[j]:=by simp[h1']
     rw[this] at e1
     simpa using YR e1
    have g2:i2.toArray[j]=w2:=by
     have:i2[j]?=some i2[j]:=by simp[h2']
     rw[this] at e2
     simpa using YR e2
    rw[g1,g2];exact Kb I n A.in1 _ _ _ _ (by show A.units+1+n<cLine;omega) (Paired.getB p (i:=j) (by simp) (by simp)) q1 q2
   rwa [Wa] at this
  obtain⟨i1,r1,p1,_⟩:=I.tuple h1;obtain⟨i2,r2,p2,_⟩:=I.tuple h2;have l1:=r1.length;have l2:=r2.length;have:=zW (A:=A) (e:=λ_=>true) p1 p2 (by omega) λj h1 h2=>by
   have h1':j<i1.length:=by simpa using h1
   have h2':j<i2.length:=by simpa using h2
   obtain⟨w1,e1,q1⟩:=r1.get (i:=j) (x:=xs[j]'(by omega)) (by simp);obtain⟨w2,e2,q2⟩:=r2.get (i:=j) (x:=ys[j]'(by omega)) (by simp);have g1:i1.toArray[j]=w1:=by
    have:i1[j]?=some i1[j]:=by simp[h1']
    rw[this] at e1
    simpa using YR e1
   have g2:i2.toArray[j]=w2:=by
    have:i2[j]?=some i2[j]:=by simp[h2']
    rw[this] at e2
    simpa using YR e2
   rw[g1,g2];exact Kb I n A.in1 _ _ _ _ (by show A.units+1+n<cLine;omega) (Paired.getB p (i:=j) (by simp) (by simp)) q1 q2
  rw[Wa] at this;have e:(i1.toArray.size == i2.toArray.size)=true:=by simp;omega
  rw[e] at this;exact this
inductive rAlike (K:TR) (ans:Bool) (x:V) (y:V) (H:Hp) (Q:VK):Prop
 | i (n:Nat) (a b:Addr) (xs ys:TZ) (_:x=.ref a) (_:y=.ref b) (_:n<=60) (_:((SqL K H a xs/\SqL K H b ys) \/ (SqT K H a xs/\SqT K H b ys))) (_:Paired (EqU K H n) xs ys) (_:Q (.bl ans) H)
theorem Xz (I:Inv X pins σ H s){n:Nat}{A:Around}{xs ys:TZ}{i1 i2:TH}(hu:A.units+n<cLine)(p:Paired (EqU X.K H n) xs ys)(r1:Vals xs i1)(r2:Vals ys i2)(j:Nat)(h1:j<i1.toArray.size)(h2:j<i2.toArray.size):SeqAt.EqAt A s i1.toArray[j] i2.toArray[j] true:=by
 have l1:=r1.length;have l2:=r2.length;have h1':j<i1.length:=by simpa using h1
 have h2':j<i2.length:=by simpa using h2
 obtain⟨w1,e1,q1⟩:=r1.get (i:=j) (x:=xs[j]'(by omega)) (by simp);obtain⟨w2,e2,q2⟩:=r2.get (i:=j) (x:=ys[j]'(by omega)) (by simp);have g1:i1.toArray[j]=w1:=by
  have:i1[j]?=some i1[j]:=by simp[h1']
  rw[this] at e1
  simpa using YR e1
 have g2:i2.toArray[j]=w2:=by
  have:i2[j]?=some i2[j]:=by simp[h2']
  rw[this] at e2
  simpa using YR e2
 rw[g1,g2];exact Kb I n A _ _ _ _ hu (Paired.getB p (i:=j) (by simp) (by simp)) q1 q2
theorem Ce (hu:X.A.units+64<cLine)(hK:X.K=K:=by rfl):OpR X (compareOp .NotEq) (rAlike K false):=by
 subst hK;intro pins s σ H x y v u Q I rx ry h;obtain⟨n,a,b,xs,ys,rfl,rfl,hn,h,p,q⟩:=h
 cases rx
 cases ry;have lp:=YW p;rcases h with ⟨h1,h2⟩ | ⟨h1,h2⟩
 ·obtain⟨i1,r1,p1,_⟩:=I.list h1;obtain⟨i2,r2,p2,_⟩:=I.list h2;have l1:=r1.length;have l2:=r2.length;refine SeqAt.RcNeAt.lists (A:=X.A) (e:=λ_=>true) p1.isList p2.isList (by simp;omega) (by omega) (λj h1 h2=>Xz I (by show X.A.units+1+n<cLine;omega) p r1 r2 j h1 h2) _ _ _ _ ?_;rw[Wa];exact⟨.bl false,H,I,rfl,q⟩
 obtain⟨i1,r1,p1,_⟩:=I.tuple h1;obtain⟨i2,r2,p2,_⟩:=I.tuple h2;have l1:=r1.length;have l2:=r2.length;refine SeqAt.RcNeAt.tuples (A:=X.A) (e:=λ_=>true) p1 p2 (by omega) (λj h1 h2=>Xz I (by show X.A.units+1+n<cLine;omega) p r1 r2 j h1 h2) _ _ _ _ ?_;have e:(i1.toArray.size == i2.toArray.size)=true:=by simp;omega
 rw[Wa,e];exact⟨.bl false,H,I,rfl,q⟩
end
end Sb
namespace Sb
open PySem PySem.Builtin.SmallTypes
abbrev yH1 (h:Heap)(t:Addr):Heap:=h.push { cls:=.type "list_iterator",data:=.fields #[.ref t,.int 0 0] }
abbrev yH2 (h:Heap)(t u:Addr):Heap:=(yH1 h t).push { cls:=.type "list_iterator",data:=.fields #[.ref u,.int 0 0] }
abbrev yH3 (h:Heap)(t u:Addr):Heap:=(yH2 h t u).push { cls:=.type "tuple",data:=.seq #[.ref h.objs.size,.ref (yH1 h t).objs.size] }
abbrev yH4 (h:Heap)(t u:Addr):Heap:=(yH3 h t u).push { cls:=.type "tuple",data:=.seq #[.none,.none] }
abbrev yH5 (h:Heap)(t u:Addr):Heap:=(yH4 h t u).push { cls:=.type "zip",data:=.fields #[.none,.bool false,.bool false,.ref (yH2 h t u).objs.size,.ref (yH3 h t u).objs.size] }
theorem K3 (t u:Addr)(xs ys:Array Value):Meets (Builtin.«zip.__new__» ⟨[.type "zip",.ref t,.ref u],[]⟩) (λ_ R s=>s.heap.IsList t xs/\s.heap.IsList u ys ∧
  R (.ok (.ret (.ref (yH4 s.heap t u).objs.size))) { s with heap:=yH5 s.heap t u }) :=
 .of_wp λprog w A R s h=>by
  obtain⟨hp,g,d,tk,os⟩:=s;obtain⟨h1,h2,h⟩:=h;have hsub:=sub_zip;have T1:Heap.IsList (Shared.heap ⟨hp,g,d,tk,os⟩) t xs:=h1;have T2:Heap.IsList (Shared.heap ⟨hp.push { cls:=.type "list_iterator",data:=.fields #[.ref t,.int 0 0] },g,d,tk,os⟩) u ys:=Heap.IsList.push h2 _
  wp_walk using JU T1,JU T2
  exact⟨_,rfl,h⟩
theorem Fh {prog:TU}{w:World}{A:Around}{E:TC}{s:Shared}{t u:Addr}{xs ys:Array Value}{Q:TC}(h1:s.heap.IsList t xs)(h2:s.heap.IsList u ys)
  (h:∀ h',IsZip h' (s.heap.objs.size+4) (s.heap.objs.size+2) (s.heap.objs.size+3) .none->IsPair h' (s.heap.objs.size+2) (.ref s.heap.objs.size) (.ref (s.heap.objs.size+1))->IsPair h' (s.heap.objs.size+3) .none .none →
   h'.IsListIter s.heap.objs.size t 0->h'.IsListIter (s.heap.objs.size+1) u 0->h'.objs.size=s.heap.objs.size+5->(∀ c o,s.heap.get? c=some o->h'.get? c=some o)->Q (.ref (s.heap.objs.size+4)) { s with heap:=h' }) :
  wpAny (model prog w) A (call (.type "zip") [.ref t,.ref u]) Q E s:=by
 refine Y0J F.called_zip (by decide) (F.typeCall_zip_2 _ _) (F.newCall_zip_2 _ _) (λobj=>F.args_object_init_3 obj _ _) F.entry_zip_new (K3 t u xs ys) ⟨h1,h2,?_⟩;have e1:(yH1 s.heap t).objs.size=s.heap.objs.size+1:=XX ..;have e2:(yH2 s.heap t u).objs.size=s.heap.objs.size+2:=by rw[XX,e1]
 have e3:(yH3 s.heap t u).objs.size=s.heap.objs.size+3:=by rw[XX,e2]
 have e4:(yH4 s.heap t u).objs.size=s.heap.objs.size+4:=by rw[XX,e3]
 have e5:(yH5 s.heap t u).objs.size=s.heap.objs.size+5:=by rw[XX,e4]
 have p5:(yH5 s.heap t u).get? (yH4 s.heap t u).objs.size=some _:=YM _ rfl;have p4:(yH5 s.heap t u).get? (yH3 s.heap t u).objs.size=some _:=YB _ (YM _ rfl);have p3:(yH5 s.heap t u).get? (yH2 s.heap t u).objs.size=some _:=YB _ (YB _ (YM _ rfl));have p2:(yH5 s.heap t u).get? (yH1 s.heap t).objs.size=some _:=YB _ (YB _ (YB _ (YM _ rfl)));have p1:(yH5 s.heap t u).get? s.heap.objs.size=some _:=YB _ (YB _ (YB _ (YB _ (YM _ rfl))));show _/\_;rw[e2,e3,e4] at p5;rw[e1,e2] at p3;rw[e3] at p4;rw[e1] at p2;rw[e4];refine⟨⟨_,p5,rfl⟩,h _ p5 p3 p4 ⟨_,p1,rfl,rfl⟩ ⟨_,p2,rfl,rfl⟩ e5 λc o x=>?_⟩;exact YB _ (YB _ (YB _ (YB _ (YB _ x))))
theorem Ml (t:Addr)(ys:Array Value)(n:Nat)(dd:TQ)(sl:Array (Option Value)):Meets (Builtin.«enumerate.__new__» ⟨[.type "enumerate",.ref t],[]⟩) (λ_ R s=>s.heap.get? t=some { cls:=.type "list",dict:=dd,data:=.seq ys n,slots:=sl } ∧
  R (.ok (.ret (.ref (yH1 s.heap t).objs.size))) { s with heap:=(yH1 s.heap t).push { cls:=.type "enumerate",data:=.fields #[.none,.bool false,.ref s.heap.objs.size,rawInt 0,.none,.none] } }) :=
 .of_wp λprog w A R s h=>by
  obtain⟨hp,g,d,tk,os⟩:=s;obtain⟨hl,h⟩:=h;have hsub:=sub_enumerate;have hL:Heap.IsList (Shared.heap ⟨hp,g,d,tk,os⟩) t ys:=⟨_,hl,rfl,n,rfl⟩
  wp_walk using JN hl
  refine wpAny_stack_any λst=>YI ?_;split
  ·rename_i c _ _ _ _ _
   cases (c == Value.type "enumerate")
   ·wp_walk using JN hl,JU hL
    exact⟨_,rfl,h⟩
   wp_walk using JN hl,JU hL
   exact⟨_,rfl,h⟩
  wp_walk using JN hl,JU hL
  exact⟨_,rfl,h⟩
theorem Kf {prog:TU}{w:World}{A:Around}{E:TC}{s:Shared}{t:Addr}{ys:Array Value}{Q:TC}(ht:s.heap.IsList t ys)
  (h:∀ h',IsEnum h' (s.heap.objs.size+1) s.heap.objs.size 0 .none->h'.IsListIter s.heap.objs.size t 0->h'.objs.size=s.heap.objs.size+2->(∀ b o,s.heap.get? b=some o->h'.get? b=some o)->Q (.ref (s.heap.objs.size+1)) { s with heap:=h' }) :
  wpAny (model prog w) A (call (.type "enumerate") [.ref t]) Q E s:=by
 obtain⟨⟨c,dd,dt,sl⟩,e,c1,n,d1⟩:=ht
 cases c1
 cases d1;refine Y0J F.called_enumerate (by decide) (F.typeCall_enumerate_1 _) (F.newCall_enumerate_1 _) (λobj=>F.args_object_init_2 obj _) F.entry_enumerate_new (Ml t ys n dd sl) ⟨e,?_⟩;have hz:(yH1 s.heap t).objs.size=s.heap.objs.size+1:=XX ..;show _/\_;rw[hz];have he:IsEnum ((yH1 s.heap t).push { cls:=.type "enumerate",data:=.fields #[.none,.bool false,.ref s.heap.objs.size,rawInt 0,.none,.none] }) (s.heap.objs.size+1) s.heap.objs.size 0 .none:=by
  have q:=YM (yH1 s.heap t) (o:={ cls:=.type "enumerate",data:=.fields #[.none,.bool false,.ref s.heap.objs.size,rawInt 0,.none,.none] }) rfl;rw[hz] at q;exact q
 exact⟨⟨_,he,rfl⟩,h _ he ⟨_,YB _ (YM _ rfl),rfl,rfl⟩ (by rw[XX,hz]) λb o x=>YB _ (YB _ x)⟩
end Sb
namespace Sb
open PySem PySem.Spec PyProof.Rows L2
section
variable {X:Cx}{pins:TD}{σ:L2.St}{H:Hp}{s:Shared}
theorem T6 {b t:Addr}(I:Inv X pins σ H s)(hf:FpOk X pins H b)(h:SqL X.K H t xs):t≠b:=by
 rintro rfl;rcases h with (h | ⟨o,h⟩) | ⟨o,its,n,h,_⟩
 ·rw[hf.1] at h;cases h
 ·rw[hf.1] at h;cases h
 have e:=I.ok.mod.kin _ _ h;rcases hf.2.2.2.1 with z | z
 ·exact I.ok.noex _ _ e z
 exact absurd (YT (YL (I.ok.bs _ _ e).1) z) (JI _)
end
def ItzL (K:TR)(t u:Addr):It :=
 ⟨λi H=>∃ xs ys,SqL K H t xs/\SqL K H u ys/\i<xs.length/\i<ys.length,
   λi H v H'=>∃ p x y,v=.ref p/\H p=none/\H'=upd H p (.tup [x,y])/\(∀ xs,SqL K H t xs->xs[i]?=some x)/\∀ ys,SqL K H u ys->ys[i]?=some y,
   λi H=>∃ xs ys,SqL K H t xs/\SqL K H u ys/\i=xs.length⟩
theorem Jy {P:TU}{z TI TO i1 i2:Addr}(O:ZOff z TI TO i1 i2)(t u:Addr) :
  Turn P w K (.Tuple es kk tp) (ItzL K t u) [z,TI,TO,i1,i2] z (λi h=>IsZip h z TI TO .none/\IsPair h TI (.ref i1) (.ref i2)/\(∃ a b,IsPair h TO a b)/\h.IsListIter i1 t i/\h.IsListIter i2 u i) where
 mem:=by simp
 obj:=λi h ⟨hz,hTI,⟨a,b,hTO⟩,⟨o1,e1,_,d1⟩,⟨o2,e2,_,d2⟩⟩ b hb=>by
  simp only [YK,XJ,GA] at hb;rcases hb with rfl | rfl | rfl | rfl | rfl
  ·exact⟨_,hz,λv q=>by have q':Data.fields _=Data.cell v:=q;cases q'⟩
  ·exact⟨_,hTI,λv q=>by have q':Data.seq _ _=Data.cell v:=q;cases q'⟩
  ·exact⟨_,hTO,λv q=>by have q':Data.seq _ _=Data.cell v:=q;cases q'⟩
  ·exact⟨_,e1,λv q=>by rw[d1] at q;cases q⟩
  exact⟨_,e2,λv q=>by rw[d2] at q;cases q⟩
 keep:=λi h h' ⟨hz,hTI,⟨a,b,hTO⟩,⟨o1,e1,r1⟩,⟨o2,e2,r2⟩⟩ k=>⟨k z (by simp) _ hz,k TI (by simp) _ hTI,⟨a,b,k TO (by simp) _ hTO⟩,⟨o1,k i1 (by simp) _ e1,r1⟩,⟨o2,k i2 (by simp) _ e2,r2⟩⟩
 item:=by
  intro X hP hw hK hc i pins s σ H E I hf st hg;subst hP hw hK;obtain⟨xs,ys,hx,hy,lx,ly⟩:=hg;obtain⟨hz,hTI,⟨a,b,hTO⟩,c1,c2⟩:=st;obtain⟨u1,v1,p1',_⟩:=I.list hx;have p1:=p1'.isList;obtain⟨u2,v2,p2',_⟩:=I.list hy;have p2:=p2'.isList;have n1:=v1.length;have n2:=v2.length;have ne:∀ b∈[z,TI,TO,i1,i2],t≠b/\u≠b:=λb hb=>⟨T6 I (hf b hb) hx,T6 I (hf b hb) hy⟩;have off:∀ b∈[z,TI,TO,i1,i2],∀ x,(b,x) ∉ X.pn:=λb hb x m=>(hf b hb).2.2.2.2.2 _ (YJ _ m) rfl;have qI:∀ p∈X.pn,s.heap.get? p.1=some p.2:=λp hp=>(I.pin p (YJ _ hp)).1;have qO:∀ b∈[z,TI,TO,i1,i2],∀ p∈X.pn,p.1≠b:=λb hb p hp=>(hf b hb).2.2.2.2.2 p (YJ _ hp);have D:Off z TI TO i1 i2 (i1::t::X.pn.map Prod.fst) (i2::u::X.pn.map Prod.fst):=⟨O.a1,O.a2,O.a3,O.a4,O.a5,O.a6,O.a7,O.a8,O.a9,O.b1,
   by simp[O.a3.symm,(ne z (by simp)).1.symm,off z (by simp)],by simp[O.a8,(ne TO (by simp)).1.symm,off TO (by simp)],by simp[O.b1.symm,(ne i2 (by simp)).1.symm,off i2 (by simp)],
   by simp[O.a4.symm,(ne z (by simp)).2.symm,off z (by simp)],by simp[O.a9,(ne TO (by simp)).2.symm,off TO (by simp)],by simp[O.b1,(ne i1 (by simp)).2.symm,off i1 (by simp)]⟩
  have D1:=Sb.Draws.listQ (prog:=X.prog) (w:=X.w) (A:=X.A.in1) (I.ok.hd hc) i1 t (ne i1 (by simp)).1 (qO i1 (by simp)) u1.toArray;have D2:=Sb.Draws.listQ (prog:=X.prog) (w:=X.w) (A:=X.A.in1) (I.ok.hd hc) i2 u (ne i2 (by simp)).2 (qO i2 (by simp)) u2.toArray;refine Tl D D1 D2 hz hTI hTO ⟨c1,p1,qI⟩ ⟨c2,p2,qI⟩ (by simp;omega) (by simp;omega) λx y g tk px py z' to' s1 s2 pr sz kp=>?_;refine⟨_,rfl,Y0h z' λg2 z2 sb=>?_⟩;obtain⟨x0,ex⟩:∃ x0,xs[i]?=some x0:=⟨xs[i],by simp[lx]⟩;obtain⟨y0,ey⟩:∃ y0,ys[i]?=some y0:=⟨ys[i],by simp[ly]⟩;obtain⟨x1,ex1,rx⟩:=v1.get ex;obtain⟨y1,ey1,ry⟩:=v2.get ey;have qx:x1=x:=by
   have:u1.toArray[i]?=some x:=px;rw[qm,ex1] at this;exact YR this
  have qy:y1=y:=by
   have:u2.toArray[i]?=some y:=py;rw[qm,ey1] at this;exact YR this
  subst qx qy;have zlt:z<s.heap.objs.size:=YL hz;have pz:s.heap.objs.size≠z:=JW zlt;have sb2:∀ b,b≠z->g2.get? b=g.get? b:=λb hb=>sb.2 b hb;have keep:∀ b o,b ∉ [z,TI,TO,i1,i2]->s.heap.get? b=some o->g2.get? b=some o:=λb o hb e=>by
   simp only [YK,XJ,GA,Y0Y] at hb;rw[sb2 b hb.1];exact kp b o hb.1 hb.2.2.1 hb.2.2.2.1 hb.2.2.2.2 e
  have new:ObjOk X.prog X.w (upd H s.heap.objs.size (.tup [x0,y0])) g2 s.heap.objs.size (.tup [x0,y0]) :=
   ⟨by show 2<=sizeLine;decide,[x1,y1],.cons rx (.cons ry .nil),⟨_,by rw[sb2 _ pz];exact pr,rfl,0,rfl⟩⟩
  have I2:=Xk (t':=tk) I hf keep (YF _) new;have nn:∀ b∈[z,TI,TO,i1,i2],upd H s.heap.objs.size (.tup [x0,y0]) b=none:=λb hb=>by
   have:b≠s.heap.objs.size:=by
    have ob:∃ o,s.heap.get? b=some o:=by
     simp only [YK,XJ,GA] at hb;obtain⟨o1,e1,_⟩:=c1;obtain⟨o2,e2,_⟩:=c2;rcases hb with rfl | rfl | rfl | rfl | rfl
     ·exact⟨_,hz⟩
     ·exact⟨_,hTI⟩
     ·exact⟨_,hTO⟩
     ·exact⟨_,e1⟩
     exact⟨_,e2⟩
    obtain⟨o,e⟩:=ob;exact XE (YL e)
   rw[Ze this];exact (hf b hb).1
  refine⟨.ref s.heap.objs.size,_,I2,rfl,⟨_,x0,y0,rfl,I.fresh,rfl,λxs' h1=>by rw[I.list_inj h1 hx];exact ex,λys' h2=>by rw[I.list_inj h2 hy];exact ey⟩,⟨z2,?_,⟨x1,y1,?_⟩,?_,?_⟩,nn⟩
  ·exact (sb2 TI O.a1).trans (kp _ _ O.a1 O.a5 O.a6 O.a7 hTI)
  ·exact (sb2 TO O.a2).trans to'
  ·exact s1.1.extBut sb.extBut O.a3
  exact s2.1.extBut sb.extBut O.a4
 done:=by
  intro X hP hw hK hc i pins s σ H E I hf st hg;subst hP hw hK;obtain⟨xs,ys,hx,hy,rfl⟩:=hg;obtain⟨hz,hTI,⟨a,b,hTO⟩,c1,c2⟩:=st;obtain⟨u1,v1,p1',_⟩:=I.list hx;have p1:=p1'.isList;have n1:=v1.length;have ne:∀ b∈[z,TI,TO,i1,i2],t≠b/\u≠b:=λb hb=>⟨T6 I (hf b hb) hx,T6 I (hf b hb) hy⟩;have off:∀ b∈[z,TI,TO,i1,i2],∀ x,(b,x) ∉ X.pn:=λb hb x m=>(hf b hb).2.2.2.2.2 _ (YJ _ m) rfl;have qI:∀ p∈X.pn,s.heap.get? p.1=some p.2:=λp hp=>(I.pin p (YJ _ hp)).1;have qO:∀ b∈[z,TI,TO,i1,i2],∀ p∈X.pn,p.1≠b:=λb hb p hp=>(hf b hb).2.2.2.2.2 p (YJ _ hp);have D:Off z TI TO i1 i2 (i1::t::X.pn.map Prod.fst) (i2::u::X.pn.map Prod.fst):=⟨O.a1,O.a2,O.a3,O.a4,O.a5,O.a6,O.a7,O.a8,O.a9,O.b1,
   by simp[O.a3.symm,(ne z (by simp)).1.symm,off z (by simp)],by simp[O.a8,(ne TO (by simp)).1.symm,off TO (by simp)],by simp[O.b1.symm,(ne i2 (by simp)).1.symm,off i2 (by simp)],
   by simp[O.a4.symm,(ne z (by simp)).2.symm,off z (by simp)],by simp[O.a9,(ne TO (by simp)).2.symm,off TO (by simp)],by simp[O.b1,(ne i1 (by simp)).2.symm,off i1 (by simp)]⟩
  have D1:=Sb.Draws.listQ (prog:=X.prog) (w:=X.w) (A:=X.A.in1) (I.ok.hd hc) i1 t (ne i1 (by simp)).1 (qO i1 (by simp)) u1.toArray;have c1':s.heap.IsListIter i1 t u1.toArray.size:=by
   rw[YN,<-n1];exact c1
  refine Wu D D1 hz hTI ⟨c1',p1,qI⟩ λg kp=>⟨rfl,?_⟩;exact W8 (t':=s.toks) I hf λb o hb e=>by
   simp only [YK,XJ,GA,Y0Y] at hb;exact kp b o hb.1 hb.2.2.2.1 e
 self:=λ_ _ _ _ _ st h=>jg st.1 h
section
variable {X:Cx}
inductive iZipL_i (K:TR) (R:(It->Hp->Prop)) (vs:TZ) (H1:Hp):Prop
 | i (t u:_) (_:vs=[.ref t,.ref u]) (_:(∃ xs,SqL K H1 t xs)) (_:(∃ ys,SqL K H1 u ys)) (_:R (ItzL K t u) H1)
def iZipL (K:TR)(ta:TA):TI:=λσ H R=>ta σ H (iZipL_i K R)
theorem Z0z {a b:Expr}{p pos:Pos}{es:TL}{kk:Nat}{tp:Pos}(hg:Gl X "zip")(hm:X.mg "zip"=none)(ha:PA X [a,b] ta)(hs:starEach [a,b] X.env=[(false,eval a X.env),(false,eval b X.env)]:=by rfl)
  (hs2:starEach [b] X.env=[(false,eval b X.env)]:=by rfl):PI X (.Tuple es kk tp) (.Call (.Name "zip" p) [a,b] [] pos) (iZipL X.K ta):=by
 intro pins s σ H R I h;refine Call_ (Wq I hg hm boot_zip (GG (thn (ha pos pins s σ H _ I h) λus s1 ⟨vs,H1,I1,r1,q1⟩=>?_) (by rw[hs,hs2]) (by rw[hs2];rfl)));obtain⟨t,u,e,⟨xs,hx⟩,⟨ys,hy⟩,q⟩:=q1;subst e;obtain⟨t0,u0,e0,rt,ru⟩:=Km r1
 cases (show t0=Value.ref t from rt)
 cases (show u0=Value.ref u from ru);subst e0;obtain⟨u1,v1,p1',_⟩:=I1.list hx;have p1:=p1'.isList;obtain⟨u2,v2,p2',_⟩:=I1.list hy;have p2:=p2'.isList;refine Fh (xs:=u1.toArray) (ys:=u2.toArray) p1 p2 λg z0 ti to i1 i2 sz kp=>?_;refine jg z0 ?_;have I2:Inv X pins σ H1 { s1 with heap:=g }:=I1.kept (t':=s1.toks) kp;refine⟨s1.heap.objs.size+4,[s1.heap.objs.size+4,s1.heap.objs.size+2,s1.heap.objs.size+3,s1.heap.objs.size,s1.heap.objs.size+1],_,ItzL X.K t u,H1,rfl,I2,Jy (O:=?_) t u,⟨z0,ti,⟨_,_,to⟩,i1,i2⟩,λb hb=>?_,q⟩
 ·refine⟨?_,?_,?_,?_,?_,?_,?_,?_,?_,?_⟩ <;> (show @Ne Nat _ _;omega)
 have hb':s1.heap.objs.size<=b:=by
  simp only [YK,XJ,GA] at hb;rcases hb with rfl | rfl | rfl | rfl | rfl
  ·exact XT _ _
  ·exact XT _ _
  ·exact XT _ _
  ·exact YF _
  exact XT _ _
 exact I1.fpOk hb' (I1.hok.fresh hb')
end
def IteL (K:TR)(t:Addr):It :=
 ⟨λi H=>∃ xs,SqL K H t xs/\i<xs.length,
   λi H v H'=>∃ p x,v=.ref p/\H p=none/\H'=upd H p (.tup [.int (i:Int),x])/\∀ xs,SqL K H t xs->xs[i]?=some x,
   λi H=>∃ xs,SqL K H t xs/\i=xs.length⟩
theorem La {P:TU}{e:Addr}(O:e≠it)(t:Addr) :
  Turn P w K (.Tuple es kk tp) (IteL K t) [e,it] e (λi h=>(∃ old,IsEnum h e it (i:Int) old)/\h.IsListIter it t i) where
 mem:=by simp
 obj:=λi h ⟨⟨old,he⟩,⟨o1,e1,_,d1⟩⟩ b hb=>by
  simp only [YK,XJ,GA] at hb;rcases hb with rfl | rfl
  ·exact⟨_,he,λv q=>by have q':Data.fields _=Data.cell v:=q;cases q'⟩
  exact⟨_,e1,λv q=>by rw[d1] at q;cases q⟩
 keep:=λi h h' ⟨⟨old,he⟩,⟨o1,e1,r1⟩⟩ k=>⟨⟨old,k e (by simp) _ he⟩,⟨o1,k it (by simp) _ e1,r1⟩⟩
 item:=by
  intro X hP hw hK hc i pins s σ H E I hf st hg;subst hP hw hK;obtain⟨xs,hx,lx⟩:=hg;obtain⟨⟨old,he⟩,c1⟩:=st;obtain⟨u1,v1,p1',_⟩:=I.list hx;have p1:=p1'.isList;have n1:=v1.length;have ne:∀ b∈[e,it],t≠b:=λb hb=>T6 I (hf b hb) hx;have off:∀ b∈[e,it],∀ x,(b,x) ∉ X.pn:=λb hb x m=>(hf b hb).2.2.2.2.2 _ (YJ _ m) rfl;have qI:∀ p∈X.pn,s.heap.get? p.1=some p.2:=λp hp=>(I.pin p (YJ _ hp)).1;have qO:∀ b∈[e,it],∀ p∈X.pn,p.1≠b:=λb hb p hp=>(hf b hb).2.2.2.2.2 p (YJ _ hp);have D1:=Sb.Draws.listQ (prog:=X.prog) (w:=X.w) (A:=X.A.in1) (I.ok.hd hc) it t (ne it (by simp)) (qO it (by simp)) u1.toArray;refine wpAny_pyNext_enum_itemD D1 he ⟨c1,p1,qI⟩ (by simp;omega) O (by simp[O,(ne e (by simp)).symm,off e (by simp)]) λx g tk px out s1 pr sz kp=>?_;refine⟨_,rfl,Y0b out λg2 z2 sb=>?_⟩;obtain⟨x0,ex⟩:∃ x0,xs[i]?=some x0:=⟨xs[i],by simp[lx]⟩;obtain⟨x1,ex1,rx⟩:=v1.get ex;have qx:x1=x:=by
   have:u1.toArray[i]?=some x:=px;rw[qm,ex1] at this;exact YR this
  subst qx;have elt:e<s.heap.objs.size:=YL he;have pe:s.heap.objs.size≠e:=JW elt;have sb2:∀ b,b≠e->g2.get? b=g.get? b:=λb hb=>sb.2 b hb;have keep:∀ b o,b ∉ [e,it]->s.heap.get? b=some o->g2.get? b=some o:=λb o hb q=>by
   simp only [YK,XJ,GA,Y0Y] at hb;rw[sb2 b hb.1];exact kp b o hb.1 hb.2 q
  have new:ObjOk X.prog X.w (upd H s.heap.objs.size (.tup [.int (i:Int),x0])) g2 s.heap.objs.size (.tup [.int (i:Int),x0]) :=
   ⟨by show 2<=sizeLine;decide,[.int (i:Int) tk,x1],.cons ⟨tk,rfl⟩ (.cons rx .nil),⟨_,by rw[sb2 _ pe];exact pr,rfl,0,rfl⟩⟩
  have I2:=Xk (t':=tk+1) I hf keep (YF _) new;have nn:∀ b∈[e,it],upd H s.heap.objs.size (.tup [.int (i:Int),x0]) b=none:=λb hb=>by
   have:b≠s.heap.objs.size:=by
    have ob:∃ o,s.heap.get? b=some o:=by
     simp only [YK,XJ,GA] at hb;obtain⟨o1,e1,_⟩:=c1;rcases hb with rfl | rfl
     ·exact⟨_,he⟩
     exact⟨_,e1⟩
    obtain⟨o,q⟩:=ob;exact XE (YL q)
   rw[Ze this];exact (hf b hb).1
  refine⟨.ref s.heap.objs.size,_,I2,rfl,⟨_,x0,rfl,I.fresh,rfl,λxs' h1=>by rw[I.list_inj h1 hx];exact ex⟩,⟨⟨x1,?_⟩,?_⟩,nn⟩
  ·exact z2
  exact s1.1.extBut sb.extBut O.symm
 done:=by
  intro X hP hw hK hc i pins s σ H E I hf st hg;subst hP hw hK;obtain⟨xs,hx,rfl⟩:=hg;obtain⟨⟨old,he⟩,c1⟩:=st;obtain⟨u1,v1,p1',_⟩:=I.list hx;have p1:=p1'.isList;have n1:=v1.length;have ne:∀ b∈[e,it],t≠b:=λb hb=>T6 I (hf b hb) hx;have off:∀ b∈[e,it],∀ x,(b,x) ∉ X.pn:=λb hb x m=>(hf b hb).2.2.2.2.2 _ (YJ _ m) rfl;have qI:∀ p∈X.pn,s.heap.get? p.1=some p.2:=λp hp=>(I.pin p (YJ _ hp)).1;have qO:∀ b∈[e,it],∀ p∈X.pn,p.1≠b:=λb hb p hp=>(hf b hb).2.2.2.2.2 p (YJ _ hp);have D1:=Sb.Draws.listQ (prog:=X.prog) (w:=X.w) (A:=X.A.in1) (I.ok.hd hc) it t (ne it (by simp)) (qO it (by simp)) u1.toArray;have c1':s.heap.IsListIter it t u1.toArray.size:=by
   rw[YN,<-n1];exact c1
  refine wpAny_pyNext_enum_endD D1 he ⟨c1',p1,qI⟩ λg kp=>⟨rfl,?_⟩;exact W8 (t':=s.toks) I hf λb o hb q=>by
   simp only [YK,XJ,GA,Y0Y] at hb;exact kp b o hb.2 q
 self:=λ_ _ _ _ _ st h=>by
  obtain⟨⟨old,he⟩,_⟩:=st;exact zV he h
section
variable {X:Cx}
inductive iEnumL_i (K:TR) (R:(It->Hp->Prop)) (vs:TZ) (H1:Hp):Prop
 | i (t:_) (_:vs=[.ref t]) (_:(∃ xs,SqL K H1 t xs)) (_:R (IteL K t) H1)
def iEnumL (K:TR)(ta:TA):TI:=λσ H R=>ta σ H (iEnumL_i K R)
theorem M7 {a:Expr}{p pos:Pos}{es:TL}{kk:Nat}{tp:Pos}(hg:Gl X "enumerate")(hm:X.mg "enumerate"=none)(ha:PA X [a] ta)(hs:starEach [a] X.env=[(false,eval a X.env)]:=by rfl) :
  PI X (.Tuple es kk tp) (.Call (.Name "enumerate" p) [a] [] pos) (iEnumL X.K ta):=by
 intro pins s σ H R I h;refine Call_ (Wq I hg hm boot_enumerate (GG (thn (ha pos pins s σ H _ I h) λus s1 ⟨vs,H1,I1,r1,q1⟩=>?_) hs rfl));obtain⟨t,e,⟨xs,hx⟩,q⟩:=q1;subst e;obtain⟨t0,e0,rt⟩:=Wz r1
 cases (show t0=Value.ref t from rt);subst e0;obtain⟨u1,v1,p1',_⟩:=I1.list hx;have p1:=p1'.isList;refine Kf (ys:=u1.toArray) p1 λg z0 i1 sz kp=>?_;refine zV z0 ?_;have I2:Inv X pins σ H1 { s1 with heap:=g }:=I1.kept (t':=s1.toks) kp;refine⟨s1.heap.objs.size+1,[s1.heap.objs.size+1,s1.heap.objs.size],_,IteL X.K t,H1,rfl,I2,La (O:=?_) t,⟨⟨_,z0⟩,i1⟩,λb hb=>?_,q⟩
 ·show @Ne Nat _ _;omega
 have hb':s1.heap.objs.size<=b:=by
  simp only [YK,XJ,GA] at hb;rcases hb with rfl | rfl
  ·exact XT _ _
  exact YF _
 exact I1.fpOk hb' (I1.hok.fresh hb')
end
end Sb
namespace Sv
def sm:Nat->(Nat->Int)->Int
 | 0,_=>0
 | n+1,f=>sm n f+f n
theorem Xn {n:Nat}{f g:TY}(h:∀ i,i<n->f i=g i):sm n f=sm n g:=by
 induction n with
 | zero=>rfl
 | succ n ih =>
  show sm n f+f n=sm n g+g n;rw[ih λi hi=>h i (by omega),h n (by omega)]
theorem Qw (n:Nat)(f g:TY):sm n (λi=>f i+g i)=sm n f+sm n g:=by
 induction n with
 | zero=>rfl
 | succ n ih=>show sm n _+(f n+g n)=(sm n f+f n)+(sm n g+g n);rw[ih];omega
theorem Sk (a:Int)(n:Nat)(f:TY):sm n (λi=>a*f i)=a*sm n f:=by
 induction n with
 | zero=>show (0:Int)=a*0;simp
 | succ n ih=>show sm n _+_=a*(sm n f+f n);rw[ih,Int.mul_add]
theorem sm_zero {n:Nat}{f:TY}(h:∀ i,i<n->f i=0):sm n f=0:=by
 induction n with
 | zero=>rfl
 | succ n ih=>show sm n f+f n=0;rw[ih λi hi=>h i (by omega),h n (by omega)];rfl
theorem V4 {n k:Nat}{f:TY}(hk:k<n):sm n f=f k+sm n (λi=>if i=k then 0 else f i):=by
 induction n with
 | zero=>omega
 | succ n ih =>
  show sm n f+f n=f k+(sm n (λi=>if i=k then 0 else f i)+if n=k then 0 else f n);by_cases e:n=k
  ·subst e;rw[XF rfl,Xn (f:=λi=>if i=n then 0 else f i) (g:=f) λi hi=>XB (by omega)];omega
  rw[XB e,ih (by omega)];omega
theorem sm_one {n k:Nat}{f:TY}(hk:k<n)(h:∀ i,i<n->i≠k->f i=0):sm n f=f k:=by
 rw[V4 hk,sm_zero λi hi=>?_]
 ·omega
 by_cases e:i=k
 ·rw[XF e]
 rw[XB e];exact h i hi e
theorem Z2v {n p q:Nat}{f:TY}(hp:p<n)(hq:q<n)(hpq:p≠q)(h:∀ i,i<n->i≠p->i≠q->f i=0):sm n f=f p+f q:=by
 rw[V4 hp,sm_one (k:=q) hq λi hi hne=>?_]
 ·rw[XB (qi hpq)]
 by_cases e:i=p
 ·rw[XF e]
 rw[XB e];exact h i hi e hne
theorem Ve {n:Nat}{f:TY}(h:∀ i,i<n->0<=f i):0<=sm n f:=by
 induction n with
 | zero=>exact Y1n _
 | succ n ih =>
  show 0<=sm n f+f n;have:=ih λi hi=>h i (by omega);have:=h n (by omega);omega
theorem Fw {n:Nat}{f g:TY}(h:∀ i,i<n->f i<=g i):sm n f<=sm n g:=by
 induction n with
 | zero=>exact Y1n _
 | succ n ih =>
  show sm n f+f n<=sm n g+g n;have:=ih λi hi=>h i (by omega);have:=h n (by omega);omega
theorem sm_abs {n M:Nat}{f:TY}(h:∀ i,i<n->(f i).natAbs<=M):(sm n f).natAbs<=n*M:=by
 induction n with
 | zero=>show (0:Int).natAbs<=0*M;simp
 | succ n ih =>
  show (sm n f+f n).natAbs<=(n+1)*M;have h1:=ih λi hi=>h i (by omega);have h2:=h n (by omega);rw[zy];omega
abbrev Vec:=Nat->Int
abbrev Mat:=Nat->Vec
def skip (k i:Nat):Nat:=if i<k then i else i+1
def sgn:Nat->Int
 | 0=>1
 | n+1=>- sgn n
def minor (v:Mat)(k:Nat):Mat:=λi r=>v (skip k i) (r+1)
def det:Nat->Mat->Int
 | 0,_=>1
 | m+1,v=>sm (m+1) (λk=>sgn k*v k 0*det m (minor v k))
def put (v:Mat)(c:Nat)(x:Vec):Mat:=λi=>if i=c then x else v i
theorem put_eq (v:Mat)(c:Nat)(x:Vec):put v c x c=x:=XF rfl
theorem put_ne {v:Mat}{c i:Nat}{x:Vec}(h:i≠c):put v c x i=v i:=XB h
theorem put_self (v:Mat)(c:Nat):put v c (v c)=v:=by
 funext i
 by_cases e:i=c
 ·subst e;exact put_eq ..
 exact put_ne e
theorem W5 {v:Mat}{c d:Nat}{x y:Vec}(h:c≠d):put (put v c x) d y=put (put v d y) c x:=by
 funext i
 by_cases e:i=c
 ·subst e;rw[put_ne h,put_eq,put_eq]
 by_cases e':i=d
 ·subst e';rw[put_eq,put_ne e,put_eq]
 rw[put_ne e',put_ne e,put_ne e,put_ne e']
theorem det_congr:∀ {m:Nat} {v w:Mat},(∀ k r,k<m->r<m->v k r=w k r)->det m v=det m w
 | 0,_,_,_=>rfl
 | m+1,v,w,h=>by
  refine Xn λk hk=>?_;rw[h k 0 hk (by omega),det_congr (m:=m) (v:=minor v k) (w:=minor w k) λi r hi hr=>?_];exact h _ _ (by unfold skip;split <;> omega) (by omega)
def unskip (k c:Nat):Nat:=if c<k then c else c - 1
theorem Vq (v:Mat)(c:Nat)(z:Vec):minor (put v c z) c=minor v c:=by
 funext i r
 show put v c z (skip c i) (r+1)=v (skip c i) (r+1);rw[put_ne (by unfold skip;split <;> omega)]
theorem T3 {v:Mat}{k c:Nat}{z:Vec}(h:k≠c):minor (put v c z) k=put (minor v k) (unskip k c) (λr=>z (r+1)):=by
 funext i r
 show put v c z (skip k i) (r+1)=_;by_cases e:skip k i=c
 ·have e':i=unskip k c:=by
   unfold skip at e;unfold unskip;split at e <;> split <;> omega
  rw[e,e',put_eq,put_eq]
 have e':i≠unskip k c:=by
  unfold skip at e;unfold unskip;split at e <;> split <;> omega
 rw[put_ne e,put_ne e'];rfl
theorem Uf:∀ {m:Nat} {v:Mat} {c:Nat} {a b:Int} {x y:Vec},c<m->det m (put v c (λr=>a*x r+b*y r))=a*det m (put v c x)+b*det m (put v c y)
 | 0,_,_,_,_,_,_,h=>by omega
 | m+1,v,c,a,b,x,y,h=>by
  show sm (m+1) _=a*sm (m+1) _+b*sm (m+1) _;rw[<-Sk,<-Sk,<-Qw];refine Xn λk hk=>?_;by_cases e:k=c
  ·subst e;rw[Vq,Vq,Vq,put_eq,put_eq,put_eq];grind
  rw[T3 e,T3 e,T3 e,put_ne e,put_ne e,put_ne e];have:=Uf (m:=m) (v:=minor v k) (c:=unskip k c) (a:=a) (b:=b) (x:=λr=>x (r+1)) (y:=λr=>y (r+1)) (by unfold unskip;split <;> omega);rw[this];grind
theorem By {m:Nat}{v:Mat}{c:Nat}(h:c<m):det m (put v c (λ_=>0))=0:=by
 have:=Uf (m:=m) (v:=v) (c:=c) (a:=0) (b:=0) (x:=λ_=>0) (y:=λ_=>0) h
 simpa using this
theorem det_sum {m:Nat}{v:Mat}{c:Nat}(h:c<m)(a:TY)(u:Nat->Vec):∀ n,det m (put v c (λr=>sm n (λk=>a k*u k r)))=sm n (λk=>a k*det m (put v c (u k)))
 | 0=>By h
 | n+1=>by
  have:=Uf (m:=m) (v:=v) (c:=c) (a:=1) (b:=a n) (x:=λr=>sm n (λk=>a k*u k r)) (y:=u n) h;show _=sm n (λk=>a k*det m (put v c (u k)))+a n*det m (put v c (u n));rw[<-det_sum h a u n];rw[Y0T] at this;rw[<-this]
  congr 2
  funext r
  show sm n _+_=_;rw[Y0T]
theorem det_smul {m:Nat}{v:Mat}{c:Nat}(h:c<m)(a:Int)(x:Vec):det m (put v c (λr=>a*x r))=a*det m (put v c x):=by
 have:=Uf (m:=m) (v:=v) (c:=c) (a:=a) (b:=0) (x:=x) (y:=x) h
 simpa using this
theorem Nh {m:Nat}{v:Mat}{c:Nat}(h:c<m)(x y:Vec):det m (put v c (λr=>x r+y r))=det m (put v c x)+det m (put v c y):=by
 have:=Uf (m:=m) (v:=v) (c:=c) (a:=1) (b:=1) (x:=x) (y:=y) h
 simpa using this
theorem Se:∀ {m:Nat} {v:Mat} {p:Nat},p+1<m->v p=v (p+1)->det m v=0
 | 0,_,_,h,_=>by omega
 | m+1,v,p,h,e=>by
  show sm (m+1) _=0;rw[Z2v (p:=p) (q:=p+1) (by omega) h (by omega) λk hk h1 h2=>?_]
  ·have e2:minor v p=minor v (p+1):=by
    funext i r
    show v (skip p i) (r+1)=v (skip (p+1) i) (r+1);by_cases q:i=p
    ·have a1:skip p i=p+1:=by unfold skip;split <;> omega
     have a2:skip (p+1) i=p:=by unfold skip;split <;> omega
     rw[a1,a2,e]
    have a1:skip p i=skip (p+1) i:=by unfold skip;split <;> split <;> omega
    rw[a1]
   rw[e2,e];show sgn p*_*_ + -sgn p*_*_=0;grind
  have:det m (minor v k)=0:=by
   by_cases q:k<p
   ·refine Se (p:=p - 1) (by omega) ?_
    funext r
    show v (skip k (p - 1)) (r+1)=v (skip k (p - 1+1)) (r+1);have a1:skip k (p - 1)=p:=by unfold skip;split <;> omega
    have a2:skip k (p - 1+1)=p+1:=by unfold skip;split <;> omega
    rw[a1,a2,e]
   refine Se (p:=p) (by omega) ?_
   funext r
   show v (skip k p) (r+1)=v (skip k (p+1)) (r+1);have a1:skip k p=p:=by unfold skip;split <;> omega
   have a2:skip k (p+1)=p+1:=by unfold skip;split <;> omega
   rw[a1,a2,e]
  rw[this,Y0K]
theorem Bz {m:Nat}{v:Mat}{p q:Nat}(hp:p<m)(hq:q<m)(hpq:p≠q)(h0:∀ z:Vec,det m (put (put v p z) q z)=0)(x y:Vec):det m (put (put v p x) q y)=- det m (put (put v p y) q x):=by
 have e:=h0 (λr=>x r+y r);rw[Nh hq,W5 hpq,Nh hp,W5 (c:=p) hpq,Nh hp] at e;rw[W5 (qi hpq),W5 (qi hpq),W5 (qi hpq),W5 (qi hpq),h0 x,h0 y] at e;omega
theorem Ng:∀ (d:Nat) {m:Nat} {v:Mat} {p q:Nat},q=p+1+d->q<m->v p=v q->det m v=0
 | 0,m,v,p,q,h,hq,e=>Se (p:=p) (by omega) (by rw[e,h])
 | d+1,m,v,p,q,h,hq,e=>by
  have hz:∀ z:Vec,det m (put (put v (q - 1) z) q z)=0:=λz=>by
   refine Se (p:=q - 1) (by omega) ?_;have a:q - 1+1=q:=by omega
   rw[a,put_eq,put_ne (by omega),put_eq]
  have s:=Bz (m:=m) (v:=v) (p:=q - 1) (q:=q) (by omega) hq (by omega) hz (v (q - 1)) (v q);rw[put_self,put_self] at s;have:det m (put (put v (q - 1) (v q)) q (v (q - 1)))=0:=by
   refine Ng d (p:=p) (q:=q - 1) (by omega) (by omega) ?_;rw[put_ne (by omega),put_ne (by omega),put_ne (by omega),put_eq,e]
  rw[s,this];rfl
theorem det_same {m:Nat}{v:Mat}{p q:Nat}(hp:p<m)(hq:q<m)(hpq:p≠q)(e:v p=v q):det m v=0:=by
 by_cases h:p<q
 ·exact Ng (q - p - 1) (p:=p) (q:=q) (by omega) hq e
 exact Ng (p - q - 1) (p:=q) (q:=p) (by omega) hp e.symm
def idm:Mat:=λk r=>if k=r then 1 else 0
theorem det_id:∀ m:Nat,det m idm=1
 | 0=>rfl
 | m+1=>by
  show sm (m+1) _=1;rw[sm_one (k:=0) (by omega) λk hk h=>?_]
  ·have e:minor idm 0=idm:=by
    funext i r
    show (if skip 0 i=r+1 then (1:Int) else 0)=if i=r then 1 else 0
    have:skip 0 i=i+1:=by unfold skip;split <;> omega
    rw[this];by_cases q:i=r
    ·rw[XF q,XF (by omega)]
    rw[XB q,XB (by omega)]
   rw[e,det_id m];show (1:Int)*(if (0:Nat)=0 then 1 else 0)*1=1;rfl
  show sgn k*(if k=0 then 1 else 0)*_=0;rw[XB h];simp
theorem Kp:∀ k,(sgn k).natAbs=1
 | 0=>rfl
 | k+1=>by show (-sgn k).natAbs=1;rw[Int.natAbs_neg];exact Kp k
end Sv
namespace Sb
theorem Na {a b c:Int}(h:a ∣ b*c)(g:Int.gcd a b=1):a ∣ c:=by
 have h1:a.natAbs ∣ b.natAbs*c.natAbs:=by
  rw[<-qA];exact qo.mpr h
 exact qo.mp (Nat.Coprime.dvd_of_dvd_mul_left g h1)
theorem Vl {r:Rat}(hr:0<r.2)(hs:0<s.2)(cr:Int.gcd r.1 r.2=1)(cs:Int.gcd s.1 s.2=1)(h:r.1*s.2=s.1*r.2):r=s:=by
 have d1:r.2 ∣ s.2:=by
  have:r.2 ∣ r.1*s.2:=⟨s.1,by rw[h,JX]⟩;exact Na this (by rw[Y01];exact cr)
 have d2:s.2 ∣ r.2:=by
  have:s.2 ∣ s.1*r.2:=⟨r.1,by rw[<-h,JX]⟩;exact Na this (by rw[Y01];exact cs)
 have e:r.2=s.2:=Int.dvd_antisymm (by omega) (by omega) d1 d2;have e1:r.1=s.1:=by
  rw[e] at h;exact zv (by omega) h
 obtain⟨a,b⟩:=r;obtain⟨c,d⟩:=s;simp only at e e1;rw[e,e1]
theorem Rp {r:Rat}{W:Int}(hr:0<r.2)(cr:Int.gcd r.1 r.2=1)(h:r.1*D=W*r.2):r.2 ∣ D :=
 Na (show r.2 ∣ r.1*D from ⟨W,by rw[h,JX]⟩) (by rw[Y01];exact cr)
theorem Xc {a b:Int}(hb:0<b)(h:a ∣ b):a.natAbs<=b.natAbs:=by
 have:=qo.mpr h;exact Nat.le_of_dvd (by omega) this
theorem Dt {r:Rat}{W:Int}(hD:0<D)(hr:0<r.2)(cr:Int.gcd r.1 r.2=1)(h:r.1*D=W*r.2):r.1.natAbs<=W.natAbs/\r.2.natAbs<=D.natAbs:=by
 have d:=Rp hr cr h;refine⟨?_,Xc hD d⟩;obtain⟨k,e⟩:=d;have:W=r.1*k:=by
  rw[e] at h;have:(r.1*k)*r.2=W*r.2:=by rw[<-h];rw[JQ,JX k]
  exact (zv (by omega) this).symm
 rw[this,qA];refine zO _ ?_;have:k≠0:=by
  intro z;rw[z] at e;simp at e;omega
 omega
theorem Xy {n:Nat}{r:Rat}{W:Int}(hD:0<D)(hr:0<r.2)(cr:Int.gcd r.1 r.2=1)(h:r.1*D=W*r.2)(bD:Bd n D)(bW:Bd n W):Good n r :=
 ⟨bW.of_le' (Dt hD hr cr h).1,bD.of_le' (Dt hD hr cr h).2,hr,cr⟩
theorem Pd {p q:Int}(_:q≠0):(nrm p q).1*q=p*(nrm p q).2:=Xw p q
theorem Z0v {r:Rat}{D1 D2 W1 W2:Int}(hr:0<r.2)(hs:0<s.2)(h1:r.1*D1=W1*r.2)(h2:s.1*D2=W2*s.2):(mulR' r s).1*(D1*D2)=(W1*W2)*(mulR' r s).2:=by
 have h3:(mulR' r s).1*(r.2*s.2)=(r.1*s.1)*(mulR' r s).2:=Xw _ _;generalize mulR' r s=m at *
 have:(r.2*s.2)*(m.1*(D1*D2))=(r.2*s.2)*(W1*W2*m.2):=by grind
 exact qk (Xh hr hs) this
theorem Kv {r:Rat}{W1 W2:Int}(hr:0<r.2)(hs:0<s.2)(h1:r.1*D=W1*r.2)(h2:s.1*D=W2*s.2):(addR r s).1*D=(W1+W2)*(addR r s).2:=by
 have h3:(addR r s).1*(r.2*s.2)=(r.1*s.2+s.1*r.2)*(addR r s).2:=Xw _ _;generalize addR r s=m at *
 have:(r.2*s.2)*(m.1*D)=(r.2*s.2)*((W1+W2)*m.2):=by grind
 exact qk (Xh hr hs) this
theorem Ku {r:Rat}{W1 W2:Int}(hr:0<r.2)(hs:0<s.2)(h1:r.1*D=W1*r.2)(h2:s.1*D=W2*s.2):(subR r s).1*D=(W1 - W2)*(subR r s).2:=by
 have h3:(subR r s).1*(r.2*s.2)=(r.1*s.2 - s.1*r.2)*(subR r s).2:=Xw _ _;generalize subR r s=m at *
 have:(r.2*s.2)*(m.1*D)=(r.2*s.2)*((W1 - W2)*m.2):=by grind
 exact qk (Xh hr hs) this
structure Low (r:Rat):Prop where
 pos:0<r.2
 cop:Int.gcd r.1 r.2=1
theorem Good.low {n:Nat}{r:Rat}(h:Good n r):Low r:=⟨h.pos,h.cop⟩
theorem Yd {p q:Int}(h:q≠0):Low (nrm p q):=⟨Pu h,Bf h⟩
theorem Sa {r:Rat}(hr:Low r)(hs:Low s):Low (addR r s):=Yd (Xh hr.pos hs.pos)
theorem J5 {r:Rat}(hr:Low r)(hs:Low s):Low (subR r s):=Yd (Xh hr.pos hs.pos)
theorem J6 {r:Rat}(hr:Low r)(hs:Low s):Low (mulR' r s):=Yd (Xh hr.pos hs.pos)
theorem Tn:Low (0,1):=⟨by decide,by decide⟩
theorem Mo:Low (1,1):=⟨by decide,by decide⟩
structure RepL (n:Nat)(D:Int)(Ws:TV)(rs:UB):Prop where
 pos:0<D
 bD:Bd n D
 len:Ws.length=rs.length
 at_:∀ (i:Nat) (W:Int) (r:Rat),Ws[i]?=some W->rs[i]?=some r->r.1*D=W*r.2/\Bd n W/\Low r
theorem RepL.good {n:Nat}(h:RepL n D Ws rs):∀ r∈rs,Good n r:=λr hr=>by
 obtain⟨i,hi⟩:=XL hr;have hl:i<rs.length:=(YH.mp hi).1;have hw:i<Ws.length:=by rw[h.len];exact hl
 obtain⟨e,b,l⟩:=h.at_ i Ws[i] r (by simp[hw]) hi;exact Xy h.pos l.pos l.cop e h.bD b
def lcm1 (l b:Int):Int:=(l*b).fdiv (Int.gcd l b)
theorem Qe {l b:Int}(hl:0<l)(hb:0<b):0<lcm1 l b/\l ∣ lcm1 l b/\b ∣ lcm1 l b/\∀ D,l ∣ D->b ∣ D->lcm1 l b ∣ D:=by
 have hg:0<(Int.gcd l b:Int):=by
  have:=Y04 b (show l≠0 by omega);omega
 obtain⟨x,ex⟩:=Y0z (a:=l) (b:=b);obtain⟨y,ey⟩:=zU (a:=l) (b:=b);have e1:lcm1 l b=x*b:=by
  unfold lcm1;have:l*b=(x*b)*(Int.gcd l b:Int):=by
   conv=>lhs;rw[ex]
   rw[JX (Int.gcd l b:Int),JQ,JX (Int.gcd l b:Int),<-JQ]
  rw[this,Y15 _ (by omega)]
 have e2:lcm1 l b=l*y:=by
  unfold lcm1;have:l*b=(l*y)*(Int.gcd l b:Int):=by
   conv=>lhs;rw[ey]
   rw[JX (Int.gcd l b:Int),JQ]
  rw[this,Y15 _ (by omega)]
 have hx:0<x:=by
  apply YO;intro z;have:(Int.gcd l b:Int)*x<=0:=Int.mul_nonpos_of_nonneg_of_nonpos (by omega) (by omega);omega
 refine⟨by rw[e1];exact XN hx hb,⟨y,e2⟩,⟨x,by rw[e1,JX]⟩,λD h1 h2=>?_⟩;have:(lcm1 l b).natAbs ∣ D.natAbs:=by
  have e3:(lcm1 l b).natAbs=Nat.lcm l.natAbs b.natAbs:=by
   unfold Nat.lcm;have g:Nat.gcd l.natAbs b.natAbs=Int.gcd l b:=rfl;rw[g];have e4:(lcm1 l b).natAbs*Int.gcd l b=l.natAbs*b.natAbs:=by
    rw[<-qA,e1];have:((x*b).natAbs)*Int.gcd l b=(x*b*(Int.gcd l b:Int)).natAbs:=by
     rw[qA (x*b)];rfl
    rw[this]
    congr 1
    conv=>rhs;rw[ex]
    rw[JQ,JX b,<-JQ,JX x]
   rw[<-e4];exact (Nat.mul_div_cancel _ (by omega)).symm
  rw[e3];exact Nat.lcm_dvd (qo.mpr h1) (qo.mpr h2)
 exact qo.mp this
def lcmB (rs:UB):Int:=rs.foldl (λl r=>lcm1 l r.2) 1
theorem Gw (rs:UB)(r:Rat):lcmB (rs++[r])=lcm1 (lcmB rs) r.2:=by
 unfold lcmB;rw[List.foldl_append];rfl
theorem Gv {i:Nat}{r:Rat}(h:rs[i]?=some r):lcmB (rs.take (i+1))=lcm1 (lcmB (rs.take i)) r.2:=by rw[Y8 h,Gw]
theorem My:∀ (rs:UB) (l:Int),0<l->(∀ r∈rs,0<r.2)->0<rs.foldl (λl r=>lcm1 l r.2) l/\l ∣ rs.foldl (λl r=>lcm1 l r.2) l/\(∀ r∈rs,r.2 ∣ rs.foldl (λl r=>lcm1 l r.2) l)/\∀ D,l ∣ D->(∀ r∈rs,r.2 ∣ D)->rs.foldl (λl r=>lcm1 l r.2) l ∣ D
 | [],l,hl,_=>⟨hl,Int.dvd_refl _,(λ_ h=>nomatch h),λD h _=>h⟩
 | r::t,l,hl,h=>by
  obtain⟨p,d1,d2,m⟩:=Qe hl (h r YY);obtain⟨p',d1',d2',m'⟩:=My t (lcm1 l r.2) p λx hx=>h x (YQ _ hx);refine⟨p',Y18 d1 d1',λx hx=>?_,λD h1 h2=>m' D (m D h1 (h2 r YY)) λx hx=>h2 x (YQ _ hx)⟩;rcases YK.mp hx with rfl | hx
  ·exact Y18 d2 d1'
  exact d2' x hx
theorem Qd (h:∀ r∈rs,0<r.2):0<lcmB rs/\(∀ r∈rs,r.2 ∣ lcmB rs)/\∀ D,(∀ r∈rs,r.2 ∣ D)->lcmB rs ∣ D:=by
 obtain⟨p,_,d,m⟩:=My rs 1 (by decide) h;exact⟨p,d,λD hD=>m D (Int.one_dvd _) hD⟩
def wholeB (rs:UB)(D:Int):List Int:=rs.map λr=>r.1*D.fdiv r.2
theorem Wb {r:Rat}(h:r.2 ∣ D):r.1*D=(r.1*D.fdiv r.2)*r.2:=by
 have:=Vs h;rw[JQ,this]
theorem RepL.least {n:Nat}(h:RepL n D Ws rs):RepL n (lcmB rs) (wholeB rs (lcmB rs)) rs:=by
 have low:∀ r∈rs,Low r:=λr hr=>(h.good r hr).low;obtain⟨p,d,m⟩:=Qd λr hr=>(low r hr).pos;have dD:∀ r∈rs,r.2 ∣ D:=λr hr=>by
  obtain⟨i,hi⟩:=XL hr;have hl:i<rs.length:=(YH.mp hi).1;have hw:i<Ws.length:=by rw[h.len];exact hl
  obtain⟨e,b,l⟩:=h.at_ i Ws[i] r (by simp[hw]) hi;exact Rp l.pos l.cop e
 have hd:=m D dD;refine⟨p,h.bD.of_le' (Xc h.pos hd),by unfold wholeB;rw[YC],λi W r hW hr=>?_⟩;have hrm:=YD hr;have hl:i<rs.length:=(YH.mp hr).1;have hw:i<Ws.length:=by rw[h.len];exact hl
 obtain⟨e,b,l⟩:=h.at_ i Ws[i] r (by simp[hw]) hr;unfold wholeB at hW;rw[YE,hr] at hW
 cases hW;refine⟨Wb (d r hrm),?_,l⟩;obtain⟨k,ek⟩:=hd;have e1:=Wb (D:=lcmB rs) (d r hrm);have hk:Ws[i]=(r.1*(lcmB rs).fdiv r.2)*k:=by
  have:(r.1*(lcmB rs).fdiv r.2*k)*r.2=Ws[i]*r.2:=by
   rw[<-e,ek,<-JQ,e1];grind
  exact (zv (by have:=l.pos;omega) this).symm
 have hk0:k≠0:=by
  intro z;rw[z,Y0K] at ek;have:=h.pos;omega
 refine b.of_le' ?_;rw[hk,qA _ k];exact zO _ (by omega)
theorem N0 {a b:Int}(ha:0<a)(hb:0<b):(a.fdiv b).natAbs<=a.natAbs:=by
 rw[Int.fdiv_eq_ediv_of_nonneg _ (by omega)];have h1:=Int.ediv_nonneg (show 0<=a by omega) (show 0<=b by omega);have h2:=Int.ediv_le_self b (show 0<=a by omega);omega
theorem Tr {n:Nat}:∀ (rs:UB) (l:Int) (m:Nat),0<l->Bd m l->(∀ r∈rs,0<r.2/\Bd n r.2)->Bd (m+n*rs.length) (rs.foldl (λl r=>lcm1 l r.2) l)
 | [],l,m,_,b,_=>b
 | r::t,l,m,hl,b,h=>by
  obtain⟨hp,hb⟩:=h r YY;obtain⟨p,_,_,mm⟩:=Qe hl hp;have:Bd (m+n) (lcm1 l r.2):=(b.mul hb).of_le' (Xc (XN hl hp) (mm _ (Int.dvd_mul_right ..) (Int.dvd_mul_left ..)));have:=Tr t (lcm1 l r.2) (m+n) p this λx hx=>h x (YQ _ hx);rw[XS,Y1k];exact this.mono (by omega)
theorem RepL.of_good {n:Nat}(h:∀ r∈rs,Good n r):RepL (n*(rs.length+1)+1) (lcmB rs) (wholeB rs (lcmB rs)) rs:=by
 obtain⟨p,d,_⟩:=Qd λr hr=>(h r hr).pos;have b:Bd (1+n*rs.length) (lcmB rs):=Tr rs 1 1 (by decide) (by show (1:Int).natAbs<2 ^ 1;decide) λr hr=>⟨(h r hr).pos,(h r hr).b2⟩;refine⟨p,b.mono (by rw[Y1k];omega),by unfold wholeB;rw[YC],λi W r hW hr=>?_⟩;have hrm:=YD hr;unfold wholeB at hW;rw[YE,hr] at hW
 cases hW;exact⟨Wb (d r hrm),((h r hrm).b1.mul (b.of_le' (N0 p (h r hrm).pos))).mono (by rw[Y1k];omega),(h r hrm).low⟩
theorem Z07 {n:Nat}:∀ (xs:TV),(∀ x∈xs,Bd n x)->∀ k,xs.length<=2 ^ k->Bd (n+k) xs.sum:=λxs h k hk=>by
 have key:∀ (xs:TV),(∀ x∈xs,Bd n x)->xs.sum.natAbs<=xs.length*(2 ^ n - 1):=λxs=>by
  induction xs with
  | nil=>intro _;simp
  | cons a t ih =>
   intro h;have h1:=ih λx hx=>h x (YQ _ hx);have h2:a.natAbs<2 ^ n:=h a YY;rw[zD,XS,zy];omega
 have h1:=key xs h;unfold Bd;have h2:xs.length*(2 ^ n - 1)<=2 ^ k*(2 ^ n - 1):=qB _ hk;have h3:2 ^ k*(2 ^ n - 1)<2 ^ (n+k):=by
  rw[Y0W,Y03 (2 ^ n)];have:0<2 ^ n:=Y1o (by decide);exact Nat.mul_lt_mul_of_pos_left (by omega) (Y1o (by decide))
 omega
theorem Kt {D:Int}(hD:0<D):∀ (Ns:TV) (zs:UB),Ns.length=zs.length->(∀ (i:Nat) (N:Int) (z:Rat),Ns[i]?=some N->zs[i]?=some z->z.1*D=N*z.2/\Low z)->∀ (a:Rat) (A:Int),Low a->a.1*D=A*a.2->(zs.foldl addR a).1*D=(A+Ns.sum)*(zs.foldl addR a).2/\Low (zs.foldl addR a)
 | [],[],_,_,a,A,la,ha=>⟨by simpa using ha,la⟩
 | [],_::_,h,_,_,_,_,_=>by simp at h
 | _::_,[],h,_,_,_,_,_=>by simp at h
 | N::Ns,z::zs,h,hz,a,A,la,ha=>by
  obtain⟨e,lz⟩:=hz 0 N z rfl rfl;obtain⟨h1,h2⟩:=Kt hD Ns zs (by simpa using h) (λi N' z' e1 e2=>hz (i+1) N' z' (by simpa using e1) (by simpa using e2)) (addR a z) (A+N) (Sa la lz) (Kv la.pos lz.pos ha e);refine⟨?_,h2⟩;rw[zD,<-Int.add_assoc];exact h1
theorem RepL.mul {n n':Nat}{D D':Int}{Ws Rs:TV}{ws rs:UB}(h:RepL n D Ws ws)(h':RepL n' D' Rs rs)(hl:ws.length=rs.length):RepL (n+n') (D*D') (List.zipWith (·*·) Ws Rs) (List.zipWith mulR' ws rs):=by
 refine⟨XN h.pos h'.pos,h.bD.mul h'.bD,by rw[JL,JL,h.len,h'.len],λi W r hW hr=>?_⟩;rw[JK] at hW hr
 cases e1:Ws[i]? with
 | none=>rw[e1] at hW;cases hW
 | some x =>
  cases e2:Rs[i]? with
  | none=>rw[e1,e2] at hW;cases hW
  | some y =>
   cases e3:ws[i]? with
   | none=>rw[e3] at hr;cases hr
   | some u =>
    cases e4:rs[i]? with
    | none=>rw[e3,e4] at hr;cases hr
    | some v =>
     rw[e1,e2] at hW;rw[e3,e4] at hr
     cases hW
     cases hr;obtain⟨a1,b1,l1⟩:=h.at_ i x u e1 e3;obtain⟨a2,b2,l2⟩:=h'.at_ i y v e2 e4;exact⟨Z0v l1.pos l2.pos a1 a2,b1.mul b2,J6 l1 l2⟩
theorem RepL.sum {n:Nat}{D:Int}{Ns:TV}{zs:UB}(h:RepL n D Ns zs):(zs.foldl addR (0,1)).1*D=Ns.sum*(zs.foldl addR (0,1)).2/\Low (zs.foldl addR (0,1)):=by
 have:=Kt h.pos Ns zs h.len (λi N z e1 e2=>⟨(h.at_ i N z e1 e2).1,(h.at_ i N z e1 e2).2.2⟩) (0,1) 0 Tn (by simp)
 rwa [Int.zero_add] at this
theorem RepL.take {n:Nat}{D:Int}{Ns:TV}{zs:UB}(h:RepL n D Ns zs)(i:Nat):RepL n D (Ns.take i) (zs.take i):=by
 refine⟨h.pos,h.bD,by rw[JC,JC,h.len],λj W r hW hr=>?_⟩;rw[Y1f] at hW hr;split at hW
 ·rename_i q
  rw[XF q] at hr;exact h.at_ j W r hW hr
 cases hW
theorem RepL.sumGood {n k:Nat}{Ns:TV}{zs:UB}(h:RepL n D Ns zs)(hk:zs.length<=2 ^ k):Good (n+k) (zs.foldl addR (0,1)):=by
 obtain⟨e,l⟩:=h.sum;refine Xy h.pos l.pos l.cop e (h.bD.mono (by omega)) (Z07 Ns (λx hx=>?_) k (by rw[h.len];exact hk));obtain⟨i,hi⟩:=XL hx;have hl:i<Ns.length:=(YH.mp hi).1;have hz:i<zs.length:=by rw[<-h.len];exact hl
 exact (h.at_ i x zs[i] hi (by simp[hz])).2.1
theorem Z1y {n n':Nat}{D':Int}{Rs:TV}{ws:UB}(h:RepL n D Ws ws)(h':RepL n' D' Rs rs)(hl:ws.length=rs.length) :
  nrm (List.zipWith (·*·) Ws Rs).sum (D*D')=(List.zipWith mulR' ws rs).foldl addR (0,1):=by
 have m:=h.mul h' hl;obtain⟨e,l⟩:=m.sum;have hne:D*D'≠0:=by have:=m.pos;omega
 have l':=Yd (p:=(List.zipWith (·*·) Ws Rs).sum) hne;have e':=Pd (p:=(List.zipWith (·*·) Ws Rs).sum) hne;refine Vl l'.pos l.pos l'.cop l.cop ?_;generalize (List.zipWith mulR' ws rs).foldl addR (0,1)=u at *
 generalize nrm (List.zipWith (·*·) Ws Rs).sum (D*D')=v at *
 generalize (List.zipWith (·*·) Ws Rs).sum=N at *
 generalize D*D'=E at *
 have:E*(v.1*u.2)=E*(u.1*v.2):=by grind
 exact qk hne this
end Sb
namespace Sb
open PySem L2
def sumR (rs:UB):Rat:=rs.foldl addR (0,1)
theorem G2 (rs:UB)(r:Rat):sumR (rs++[r])=addR (sumR rs) r:=by
 unfold sumR;rw[List.foldl_append];rfl
theorem Vc {i:Nat}{r:Rat}(h:rs[i]?=some r):sumR (rs.take (i+1))=addR (sumR (rs.take i)) r:=by rw[Y8 h,G2]
theorem Qi {n:Nat}:∀ (rs:UB) (m:Nat) (a:Rat),Good m a->(∀ r∈rs,Good n r)->Good (m+rs.length*(n+1)) (rs.foldl addR a)
 | [],m,a,h,_=>by simpa using h
 | r::t,m,a,h,g=>by
  have:=Qi t (m+n+1) (addR a r) (Fn h (g r YY)) λx hx=>g x (YQ _ hx);refine this.mono ?_;rw[XS,zy];omega
theorem G3 {n:Nat}(h:∀ r∈rs,Good n r):Good (1+rs.length*(n+1)) (sumR rs):=Qi rs 1 (0,1) (g01 1 (by decide)) h
theorem Ld {n i:Nat}(h:∀ r∈rs,Good n r)(hi:i<=rs.length):Good (1+rs.length*(n+1)) (sumR (rs.take i)):=by
 refine (G3 (rs:=rs.take i) λr hr=>h r (GS hr)).mono ?_;have:(rs.take i).length*(n+1)<=rs.length*(n+1):=qB _ (by simp;omega);omega
theorem Pq {n:Nat}{i:Nat}(hi:i<rs.length):n<=1+rs.length*(n+1):=by
 have:1*(n+1)<=rs.length*(n+1):=qB _ (by omega);omega
def isW (rs:UB):Bool:=!((rs.map λr=>ltR r (0,1)).any id) && decide (sumR rs=(1,1))
theorem eq11 (r:Rat):decide ([r.1,r.2]=[(1:Int),1])=decide (r=(1,1)):=by
 obtain⟨a,b⟩:=r;rw[JS];simp
theorem Lc:∀ (ns:TV) (m:Int),(∀ z∈ns,0<=z/\z<=m)->0<=ns.sum/\ns.sum<=m*ns.length
 | [],m,_=>by simp
 | z::t,m,h=>by
  obtain⟨h1,h2⟩:=Lc t m λx hx=>h x (YQ _ hx);obtain⟨h3,h4⟩:=h z YY;rw[zD,XS];have:m*((t.length+1:Nat):Int)=m*t.length+m:=by rw[Int.natCast_add,Int.mul_add];simp
  omega
theorem Kn:∀ (ns:TV),(∀ z∈ns,0<=z)->(∃ z∈ns,1<=z)->1<=ns.sum
 | [],_,h=>by obtain⟨z,hz,_⟩:=h;cases hz
 | y::t,h0,h=>by
  have ht:0<=t.sum:=by
   have:∀ l:List Int,(∀ z∈l,0<=z)->0<=l.sum:=λl=>by
    induction l with
    | nil=>intro _;simp
    | cons a r ih =>
     intro h;have:=ih λx hx=>h x (YQ _ hx);have:=h a YY;rw[zD];omega
   exact this t λx hx=>h0 x (YQ _ hx)
  have hy:=h0 y YY;rw[zD];obtain⟨z,hz,h1⟩:=h;rcases YK.mp hz with e | e
  ·subst e;omega
  have:=Kn t (λx hx=>h0 x (YQ _ hx)) ⟨z,e,h1⟩;omega
end Sb
namespace Sb
theorem V0 {α β:Type}(f:α->β){l:List α}{i:Nat}{x:α}(h:l[i]?=some x):(l.map f).take (i+1)=(l.map f).take i++[f x]:=Y8 (by rw[YE,h];rfl)
open Sv (sm Xn Qw Sk sm_zero Ve V4 Fw)
theorem Kk:∀ (c:Nat) (As Bs:TV),As.length=c->Bs.length=c->(List.zipWith (·*·) As Bs).sum=sm c (λi=>As.getD i 0*Bs.getD i 0)
 | 0,As,Bs,h1,h2=>by
  rw[jp h1];rfl
 | c+1,As,Bs,h1,h2=>by
  have e1:As=As.take c++[As.getD c 0]:=by
   have:As[c]?=some (As.getD c 0):=by simp[List.getD,show c<As.length by omega]
   rw[<-Y8 this,YV (by omega)]
  have e2:Bs=Bs.take c++[Bs.getD c 0]:=by
   have:Bs[c]?=some (Bs.getD c 0):=by simp[List.getD,show c<Bs.length by omega]
   rw[<-Y8 this,YV (by omega)]
  have l1:(As.take c).length=c:=by rw[JC];omega
  have l2:(Bs.take c).length=c:=by rw[JC];omega
  have ih:=Kk c (As.take c) (Bs.take c) l1 l2
  conv=>lhs;rw[e1,e2]
  rw[Y14 (by omega)];rw[List.sum_append,ih];show _+(As.getD c 0*Bs.getD c 0+0)=sm c _+As.getD c 0*Bs.getD c 0;rw[Int.add_zero]
  congr 1
  refine Xn λi hi=>?_;have g:∀ L:List Int,c<=L.length->(L.take c).getD i 0=L.getD i 0:=λL hL=>by
   simp[List.getD,Y1f,hi]
  rw[g As (by omega),g Bs (by omega)]
def cutZ (o:TW)(Zs:TV):List Int:=Zs.mapIdx λi z=>if inE o i then z else 0
theorem L3 (o:TW)(Zs:TV):(cutZ o Zs).length=Zs.length:=by unfold cutZ;simp
theorem Jp {o:TW}{i:Nat}:(cutZ o Zs)[i]?=(Zs[i]?).map λz=>if inE o i then z else 0:=by
 unfold cutZ;rw[jo]
theorem Fb (o:TW)(Zs:TV)(i:Nat):(cutZ o Zs).getD i 0=if inE o i then Zs.getD i 0 else 0:=by
 simp only [List.getD,Jp]
 cases Zs[i]? with
 | none=>simp
 | some z=>rfl
theorem bd0 (n:Nat):Bd n 0:=by
 show (0:Int).natAbs<2 ^ n;exact Y1o (by decide)
theorem RepL.cut {n:Nat}(h:RepL n D Zs rs)(o:TW):RepL n D (cutZ o Zs) (cutR o rs):=by
 refine⟨h.pos,h.bD,by rw[L3,Yu,h.len],λi W r hW hr=>?_⟩;have hl:i<rs.length:=by
  have:=(YH.mp hr).1
  rwa [Yu] at this
 have hz:i<Zs.length:=by rw[h.len];exact hl
 rw[Ug (r:=rs[i]) (by simp[hl])] at hr;rw[Jp,show Zs[i]?=some Zs[i] by simp[hz]] at hW
 cases hr
 cases hW;obtain⟨a,b,l⟩:=h.at_ i Zs[i] rs[i] (by simp[hz]) (by simp[hl]);split
 ·exact⟨a,b,l⟩
 exact⟨by simp,bd0 n,Tn⟩
theorem RepL.ones (c:Nat):RepL 1 1 (List.replicate c 1) (List.replicate c (1,1)):=by
 refine⟨by decide,by show (1:Int).natAbs<2 ^ 1;decide,by simp,λi W r hW hr=>?_⟩;have h1:=qW (YD hW);have h2:=qW (YD hr);subst h1 h2;exact⟨rfl,by show (1:Int).natAbs<2 ^ 1;decide,Mo⟩
theorem RepL.mono {m n:Nat}{D:Int}{Zs:TV}{rs:UB}(h:RepL m D Zs rs)(k:m<=n):RepL n D Zs rs :=
 ⟨h.pos,h.bD.mono k,h.len,λi W r hW hr=>⟨(h.at_ i W r hW hr).1,(h.at_ i W r hW hr).2.1.mono k,(h.at_ i W r hW hr).2.2⟩⟩
theorem Uu {r:Rat}{W:Int}(k:Int)(h:r.1*D=W*r.2):r.1*(D*k)=(W*k)*r.2:=by
 rw[<-JQ,h,JQ,JX r.2,<-JQ]
theorem Ds {mi sh q:Rat}{S M:Int}(hm:0<mi.2)(hs:0<sh.2)(h1:mi.1*(D*6)=M*mi.2)(h2:sh.1*(D*1)=S*sh.2)(hq:q.1*(mi.2*sh.1)=(mi.1*sh.2)*q.2):q.1*(6*S)=M*q.2:=by
 have:(mi.2*sh.2)*(q.1*(6*S))=(mi.2*sh.2)*(M*q.2):=by
  have e1:(mi.2*sh.2)*(q.1*(6*S))=q.1*mi.2*6*(S*sh.2):=by grind
  have e2:(mi.2*sh.2)*(M*q.2)=(M*mi.2)*sh.2*q.2:=by grind
  rw[e1,e2,<-h1,<-h2];have e3:q.1*mi.2*6*(sh.1*(D*1))=(q.1*(mi.2*sh.1))*(6*D):=by grind
  rw[e3,hq];grind
 exact qk (Xh hm hs) this
section
variable {c:Nat}{Ws Ro:TV}{o:TW}
end
theorem Bx {m n k:Nat}{As Bs:TV}(ha:∀ z∈As,Bd m z)(hb:∀ z∈Bs,Bd n z)(hl:As.length<=2 ^ k):Bd (m+n+k) (List.zipWith (·*·) As Bs).sum:=by
 refine Z07 _ (λx hx=>?_) k (by rw[JL];omega);obtain⟨i,hi⟩:=XL hx;rw[JK] at hi
 cases e1:As[i]? with
 | none=>rw[e1] at hi;cases hi
 | some a =>
  cases e2:Bs[i]? with
  | none=>rw[e1,e2] at hi;cases hi
  | some b =>
   rw[e1,e2] at hi
   cases hi;exact (ha a (YD e1)).mul (hb b (YD e2))
theorem RepL.bdW {n:Nat}(h:RepL n D Zs rs):∀ z∈Zs,Bd n z:=λz hz=>by
 obtain⟨i,hi⟩:=XL hz;have hl:i<Zs.length:=(YH.mp hi).1;have hr:i<rs.length:=by rw[<-h.len];exact hl
 exact (h.at_ i z rs[i] hi (by simp[hr])).2.1
end Sb
namespace Sb
open PySem L2
structure Goes (J:It)(H:Hp)(xs:TZ):Prop where
 go:∀ (i:Nat) (H':Hp),Same H H'->i<xs.length->J.go i H'
 yld:∀ (i:Nat) (H':Hp) (x:V) (H'':Hp),Same H H'->J.yld i H' x H''->H''=H'/\xs[i]?=some x
 stop:∀ H':Hp,Same H H'->J.stop xs.length H'
theorem Z5a {a:Addr}(h:SqL K H a xs):Goes (Itl K a) H xs :=
 ⟨λi H' S hi=>⟨xs,xs[i],Yr S h,by simp[hi]⟩,λ_ _ _ _ S ⟨e,f⟩=>⟨e,f xs (Yr S h)⟩,λ_ S=>⟨xs,Yr S h,YF _⟩⟩
theorem Z59 {a:Addr}(h:SqT K H a xs):Goes (Itt K a) H xs :=
 ⟨λi H' S hi=>⟨xs,xs[i],Zn S h,by simp[hi]⟩,λ_ _ _ _ S ⟨e,f⟩=>⟨e,f xs (Zn S h)⟩,λ_ S=>⟨xs,Zn S h,YF _⟩⟩
section
open PySem.Spec PyProof.Rows
variable {X:Cx}{tg:Expr}
inductive iAny_i (K:TR) (R:(It->Hp->Prop)) (x:V) (H1:Hp):Prop
 | i (a:Addr) (xs:TZ) (_:x=.ref a) (_:(SqL K H1 a xs \/ SqT K H1 a xs)) (_:∀ J:It,Goes J H1 xs->R J H1)
def iAny (K:TR)(tl:TE):TI:=λσ H R=>tl σ H (iAny_i K R)
theorem Z3d {l:Expr}(hl:PE X l tl):PI X tg l (iAny X.K tl):=by
 intro pins s σ H R I h;refine thn (hl pins s σ H _ I h) λv s1 ⟨x,H1,I1,r1,q1⟩=>?_;obtain⟨a,xs,e,hq | hq,q⟩:=q1
 ·subst e
  cases r1;obtain⟨its,rv,p,hz⟩:=I1.list hq;refine JU p.isList ?_;refine⟨s1.heap.objs.size,[s1.heap.objs.size],_,_,H1,rfl,I1.kept (t':=s1.toks) λb o e=>YB _ e,Um a _,⟨_,YM _ rfl,rfl,rfl⟩,λb hb=>?_,q _ (Z5a hq)⟩;have e:b=s1.heap.objs.size:=by simpa using hb
  subst e;exact I1.fpOk (YF _) (I1.hok.fresh (YF _))
 subst e
 cases r1;obtain⟨its,rv,p,hz⟩:=I1.tuple hq;refine GQ (show s1.heap.IsTuple a its.toArray from p) ?_;refine⟨s1.heap.objs.size,[s1.heap.objs.size],_,_,H1,rfl,I1.kept (t':=s1.toks) λb o e=>YB _ e,Vk a _,⟨_,YM _ rfl,rfl,rfl⟩,λb hb=>?_,q _ (Z59 hq)⟩;have e:b=s1.heap.objs.size:=by simpa using hb
 subst e;exact I1.fpOk (YF _) (I1.hok.fresh (YF _))
end
end Sb
namespace Sb
open PySem PySem.Spec PyProof.Rows L2
section
variable {X:Cx}
theorem X9 {i:Nat}{x:Str}{pos' spos:Pos}{pos:Pos}{g:TG}{N:TF}{k:Nat}{fv:List Nat}
  (hXN:X.N.Nodup) (hix:X.N[i]?=some x) (hx:Loc X.env.scope x)
  (hc:X.calm=true) (hi:PI X tg iter wi) (hg:∀ cl C fp s H,PG (compCx X N scope cl C fp s H) tg g) (ht:∀ cl C fp s H,PTs (compCx X N scope cl C fp s H) ifs tt) (he:∀ cl C fp s H,PE (compCx X N scope cl C fp s H) elt te)
  (hw:∀ r x H Q,g x (List.replicate k none++r) H Q->g x (List.replicate k none++r) H λσ4 H4=>Q σ4 H4/\Weaker σ4 (List.replicate k none++r))
  (hN:N.length=k+fv.length:=by rfl) (hfv:fv.map (λj=>X.N[j]?)=(N.drop k).map some:=by rfl) (hk:(N.drop k).map X.env.kindOf=(N.drop k).map (λ_=>some .cell):=by rfl)
  (hfl:∀ y∈N.drop k,scope.names.lookup y=some .free:=by decide +kernel) (hfr:∀ y∈scope.names,y.2=.free->y.1∈N.drop k:=by decide +kernel)
  (hcell:∀ y∈scope.names,y.2≠.cell:=by decide +kernel) (hkind:scope.kind=.function:=by rfl) (hnames:∀ y∈scope.names,y.2=.local->scope.names.lookup y.1=some .local:=by decide +kernel)
  (hs:∀ x,foldedSetIterable iter X.env x=pure x:=by intro _;rfl)
  (hsw:swapsWith (.ListComp elt [⟨tg,iter,ifs,0⟩] scope pos) (some (.Name x pos')) spos.line X.env=pure true:=by rfl)
  (hf:X.fn x=true \/ X.env.scope.names.lookup x=some .local:=by first | exact .inl rfl | exact .inr rfl | assumption) :
  PS X (.Assign [.Name x pos'] (.ListComp elt [⟨tg,iter,ifs,0⟩] scope pos) spos) (tAsg (tComp wi g tt te k fv) (gName i)):=by
 intro pins s σ H D I h;have kc:∀ y∈N.drop k,X.env.kindOf y=some .cell:=λy hy=>by
  obtain⟨j,hj⟩:=XL hy;have a:=congrArg (λl=>l[j]?) hk;simp only [YE,hj,qJ] at a;exact YR a
 obtain⟨cl,hclos,h1,h2⟩:=Xd (env:=X.env) (scope:=scope) λy hy hf=>I.ok.has y.1 (.inl (kc y.1 (hfr y hy hf)));rw[exec_Assign_Name_used _ _ _ _ hsw];refine YA (jm (YA ?_));unfold evalThenUse;refine YA (qV (use:=some (assign (.Name x pos') X.env)) rfl hs hclos hkind hnames (thn (hi pins s σ H _ I h) λxv s1 h1'=>thn h1' λitv s2 h2'=>?_));obtain⟨it,fp,tn,J,H2,e,I2,T,st2,f2,body⟩:=h2';subst e;refine Rx (Q:=λv H1=>gName i v σ H1 D.nx) (RR:=λacc C=>compPost (model X.prog X.w) X.A X.xe (some (assign (.Name x pos') X.env)) _ acc C) hc hg ht he hw hN hfv hk hfl hcell hkind h1 h2 I2 T st2 f2 body λDd C H' s' ⟨m,hm⟩ fpC q iv=>?_;show wpAny _ _ (assign (.Name x pos') X.env (.ref Dd)) _ _ s';have I':Inv X pins σ H' s':=iv s'.heap ⟨rfl,λ_ _=>rfl⟩;refine Y0l (Uq I' hXN hix hx (v:=.ref Dd) rfl (λs3 I3 ⟨a,sb,ha⟩=>⟨m,?_,λh' hs'=>?_⟩) hf)
 ·have hne:C≠a:=by
   rcases ha with rfl | ha
   ·exact fpC.2.1
   exact λz=>fpC.2.2.2.2.1 x a ha z.symm
  obtain⟨o,es,ep,ho,r⟩:=hm;exact⟨o,es,ep,by rw[sb.2 C hne];exact ho,r⟩
 refine YI (YI ?_);have I4:=W8 (ch:=[C]) (h':=h') (t':=s3.toks) I3 (λb hb=>by rw[XA.mp hb];exact fpC) λb o hb e=>by
  rw[hs'.2 b (λz=>hb (by rw[z];exact XA.mpr rfl))];exact e
 exact⟨_,H',I4,q⟩
end
end Sb
namespace Sb
open PySem L2
theorem F7 {a:Addr}{g:TG}{D:Ends}{σ:L2.St}(Pv:Nat->L2.St->Hp->Prop)(h0:Pv 0 σ H)(hl:∀ i σ H,i<=xs.length->Pv i σ H->SqL K H a xs)
  (hs:∀ i x σ H p,xs[i]?=some x->Pv i σ H->H p=none->g (.ref p) σ (upd H p (.tup [.int (i:Int),x])) λσ2 H2=>tb { D with nx:=Pv (i+1),ct:=Pv (i+1),bk:=D.nx } σ2 H2) (hd:∀ σ H,Pv xs.length σ H->D.nx σ H) :
  ∃ W:Nat->Nat->L2.St->Hp->Prop,(∃ m,W 0 m σ H)/\∀ i m σ H,W i m σ H →
   ((IteL K a).stop i H/\D.nx σ H) \/ ((IteL K a).go i H/\∃ N:L2.St->Hp->Prop,(∀ σ' H',N σ' H'->∃ m',m'<m/\W (i+1) m' σ' H')/\∀ x H',(IteL K a).yld i H x H'->g x σ H' λσ2 H2=>tb { D with nx:=N,ct:=N,bk:=D.nx } σ2 H2):=by
 refine⟨λi m σ H=>m=xs.length - i/\i<=xs.length/\Pv i σ H,⟨xs.length,by simp,JO _,h0⟩,?_⟩;rintro i m σ H ⟨rfl,hi,p⟩;have q:=hl i σ H hi p;by_cases hlt:i<xs.length
 ·refine .inr ⟨⟨xs,q,hlt⟩,Pv (i+1),λσ' H' p'=>⟨xs.length - (i+1),by omega,rfl,hlt,p'⟩,λx H' y=>?_⟩;obtain⟨pp,x0,rfl,hp,rfl,fx⟩:=y;exact hs i x0 σ H pp (fx xs q) p hp
 have e:i=xs.length:=by omega
 subst e;exact .inl ⟨⟨xs,q,rfl⟩,hd σ H p⟩
theorem Paired.appP {α β:Type}{R:α->β->Prop}:∀ {xs xs':List α} {ys ys':List β},Paired R xs ys->Paired R xs' ys'->Paired R (xs++xs') (ys++ys')
 | _,_,_,_,.nil,s=>s
 | _,_,_,_,.cons r t,s=>.cons r (Paired.appP t s)
section
variable {K:TR}
def RowsAt (K:TR)(H:Hp)(l:Addr)(rss:UC):Prop:=∃ as:List Addr,H l=some (.lst (as.map V.ref))/\Paired (RowAt K H) as rss
theorem Zk {as:TJ}{rss:UC}(h:Paired (RowAt K H) as rss)(x:Ext H H'):Paired (RowAt K H') as rss:=Paired.mapP h λ_ _ q=>q.ext x
end
theorem Jd {c A B:Prop}[Decidable c](hc:¬ c)(h:A):if (!decide c)=true then A else B:=by
 rw[XR hc];exact Wy h
end Sb
namespace Sb
open PySem PySem.Spec PyProof.Rows L2
theorem Lb (l:Addr)(items:Array Value)(n:Nat)(dd:TQ)(sl:Array (Option Value))(u:Tok) :
  Meets (Builtin.«tuple.__mul__» ⟨[.ref l,.int 1 u],[]⟩) (λ_ R s=>s.heap.get? l=some { cls:=.type "tuple",dict:=dd,data:=.seq items n,slots:=sl }/\R (.ok (.ret (Value.ref l))) s) :=
 .of_wp λprog w A R s h=>by
  obtain⟨hp,g,d,tk,os⟩:=s;obtain⟨hl,h⟩:=h;have f1:=AutoSeq1.idx_int;have f2:=Y0r;have c1:(items.isEmpty || (1:Int) == 1)=true:=by simp
  wp_walk using JN hl
  exact⟨_,rfl,h⟩
section
variable {X:Cx}{K:TR}
inductive rRepU (K:TR) (x:V) (y:V) (H:Hp) (Q:VK):Prop
 | i (a k xs:_) (_:x=.ref a) (_:y=.int k) (_:SqT K H a xs) (_:1<=k) (_:xs≠[]) (_:xs.length*k.toNat<=1000) (_:∀ p H',Same H H'->SqT K H' p (List.replicate k.toNat xs).flatten->Q (.ref p) H')
theorem Z13:OpR X (binaryOp .Mult) (rRepU X.K):=by
 intro pins s σ H x y v u Q I rx ry h;obtain⟨l,k,xs,rfl,rfl,hq,h1,h2,h3,q⟩:=h;by_cases hk:2<=k
 ·exact Z14 pins s σ H _ _ v u Q I rx ry ⟨l,k,xs,rfl,rfl,hq,hk,h2,h3,λp hp=>q p _ (Same.new hp) (SqT.of Zb)⟩
 have e:k=1:=by omega
 subst e
 cases rx;obtain⟨t,rfl⟩:=ry;obtain⟨its,r,pl,hz⟩:=I.tuple hq;obtain⟨⟨cls,dd,data,sl⟩,ho,hc,n,hd⟩:=id pl;simp only at hc hd;subst hc hd;refine Y0i (T:="tuple") (U:="int") (by decide) ⟨_,ho,rfl⟩ (λs'=>Y0F s' 1 t) W6 F.fills_int_mul jv U1 F.slot_int_index.lookup
  (zL jv (Y0F s 1 t) F.entry_int_rmul (F.args_int_rmul_2 _ _) (Vi 1 t l its.toArray n dd sl)
   ⟨ho,rfl,⟨_,ho,rfl⟩,zL jh ⟨_,ho,rfl⟩ F.entry_tuple_mul (F.args_tuple_mul_2 _ _) (Lb l its.toArray n dd sl t) ⟨ho,?_⟩⟩)
 refine⟨.ref l,H,I,rfl,q l H (λ_ _ h=>h) ?_⟩;have:(List.replicate (1:Int).toNat xs).flatten=xs:=by simp
 rw[this];exact hq
end
end Sb
namespace Sv
structure Tab where
 b:Int
 own:Nat->Nat
 hd:Nat->Nat
 L:Nat->Nat->Int
def colOf (n:Nat)(col:Nat->Vec)(rhs:Vec)(T:Tab)(j:Nat):Vec:=if j<n then col (T.hd j) else rhs
def bas (col:Nat->Vec)(T:Tab):Mat:=λi=>col (T.own i)
structure Inv (m n:Nat)(col:Nat->Vec)(rhs:Vec)(T:Tab):Prop where
 pos:0<T.b
 dt:det m (bas col T)=T.b
 eqs:∀ j,j<=n->∀ r,r<m->T.b*colOf n col rhs T j r=sm m (λi=>T.L i j*bas col T i r)
 part:∀ f:Nat->Int,sm (n+m) f=sm m (λi=>f (T.own i))+sm n (λj=>f (T.hd j))
section
variable {m n:Nat}{col:Nat->Vec}{rhs:Vec}{T:Tab}
def newL (T:Tab)(p c i j:Nat):Int:=if i=p then (if j=c then T.b else T.L p j) else if j=c then - T.L i c else (T.L i j*T.L p c - T.L i c*T.L p j).fdiv T.b
def up (f:TX)(i v:Nat):Nat->Nat:=λk=>if k=i then v else f k
def piv (T:Tab)(p c:Nat):Tab:=⟨T.L p c,up T.own p (T.hd c),up T.hd c (T.own p),newL T p c⟩
def ind (v:Nat):Nat->Int:=λx=>if x=v then 1 else 0
end
end Sv
namespace Sv
section
variable {m n lk i0:Nat}{col:Nat->Vec}{rhs:Vec}{T:Tab}{p c:Nat}
structure Step (m n lk i0:Nat)(T:Tab)(p c:Nat):Prop where
 hp:p<m
 hc:c<n
 nl:T.hd c≠lk
 help:0<T.L i0 c
 first:∀ j,j<n->T.hd j≠lk->0<T.L i0 j->T.hd c<=T.hd j
 el:T.own p<=lk
 key:0<T.L p c
 least:∀ i,i<m->T.own i<=lk->0<T.L i c->T.L p n*T.L i c<T.L i n*T.L p c \/ (T.L p n*T.L i c=T.L i n*T.L p c/\T.own p<=T.own i)
def Feas (m n lk:Nat)(T:Tab):Prop:=∀ i,i<m->T.own i<=lk->0<=T.L i n
structure Run (m n lk i0:Nat)(col:Nat->Vec)(rhs:Vec)(K:Nat)(S:Nat->Tab)(P C:TX):Prop where
 h0:i0<m
 I0:Inv m n col rhs (S 0)
 F0:Feas m n lk (S 0)
 st:∀ k,k<K->Step m n lk i0 (S k) (P k) (C k)
 stay:∀ k,k<K->P k≠i0
 nx:∀ k,k<K->S (k+1)=piv (S k) (P k) (C k)
variable {K:Nat}{S:Nat->Tab}{P C:TX}
def isOwn (m:Nat)(T:Tab)(r:Nat):Prop:=∃ i,i<m/\T.own i=r
def code (N:Nat):Nat->(Nat->Nat)->Nat
 | 0,_=>0
 | k+1,f=>code N k f+f k*N ^ k
end
end Sv
namespace Sv
section
variable {m n:Nat}{col:Nat->Vec}{rhs:Vec}{T:Tab}
def numAt (n:Nat)(T:Tab)(i v:Nat):Int:=sm n (λj=>if T.hd j=v then T.L i j else 0)
def endOf (m n:Nat)(T:Tab)(v:Nat):Int:=sm m (λi=>if T.own i=v then T.L i n else 0)
def coef (n:Nat)(T:Tab)(i v:Nat):Int:=(if v=T.own i then T.b else 0)+numAt n T i v
end
section
variable {n g:Nat}{A:Nat->Nat->Int}{pap gl:TY}
def colS (n g:Nat)(A:Nat->Nat->Int)(pap gl:TY):Nat->Vec:=λv r=>if v<n then (if r<g then A r v else if r=g then pap v else gl v) else if v - n=r then 1 else 0
def rhsS (g:Nat):Vec:=λr=>if r=g then 1 else 0
def T0 (n g:Nat)(A:Nat->Nat->Int)(pap gl:TY):Tab:=⟨1,λi=>n+i,λj=>j,λi j=>if j<n then colS n g A pap gl j i else rhsS g i⟩
variable {T:Tab}
abbrev InvS (n g:Nat)(A:Nat->Nat->Int)(pap gl:TY)(T:Tab):Prop:=Inv (g+2) n (colS n g A pap gl) (rhsS g) T
structure Most (n g:Nat)(A:Nat->Nat->Int)(pap gl:TY)(T:Tab)(i:Nat):Prop where
 x0:∀ w,w<n->0<=endOf (g+2) n T w
 fit:∀ k,k<g->sm n (λw=>A k w*endOf (g+2) n T w)<=0
 lie:sm n (λw=>pap w*endOf (g+2) n T w)=T.b
 val:sm n (λw=>gl w*endOf (g+2) n T w)=- T.L i n
 y0:∀ k,k<g->numAt n T i (n+k)<=0
 show_:∀ w,w<n->gl w*T.b<=sm g (λk=>A k w * -numAt n T i (n+k))+pap w * -T.L i n
end
end Sv
namespace Sb
open PySem PySem.Spec PyProof.Rows L2
section
variable {X:Cx}{K:TR}
end
theorem Ry:∀ (names:List (Str × NameKind)) (n:Nat) (acc:List (Str × Addr)) (h:Heap),(names.filter λy=>y.2 == .cell)=[]->cellsFrom n names acc=acc/\pushCells h names=h
 | [],_,_,_,_=>⟨rfl,rfl⟩
 | (m,k)::r,n,acc,h,e=>by
  by_cases hk:(k == NameKind.cell)=true
  ·rw[Y0A (a:=(m,k)) (l:=r) (p:=λy:Str × NameKind=>y.2 == .cell) hk] at e
   cases e
  rw[Y0B (a:=(m,k)) (l:=r) (p:=λy:Str × NameKind=>y.2 == .cell) hk] at e;unfold cellsFrom pushCells;rw[XB hk,XB hk];exact Ry r n acc h e
theorem Tc {x:Str}:∀ (names:List (Str × NameKind)) (n:Nat) (acc:List (Str × Addr)) (h:Heap),(names.filter λy=>y.2 == .cell)=[(x,.cell)]->cellsFrom n names acc=(x,n)::acc/\pushCells h names=h.push { cls:=.type "cell",data:=.cell none }
 | [],_,_,_,e=>by cases e
 | (m,k)::r,n,acc,h,e=>by
  by_cases hk:(k == NameKind.cell)=true
  ·rw[Y0A (a:=(m,k)) (l:=r) (p:=λy:Str × NameKind=>y.2 == .cell) hk] at e;injection e with e1 e2
   cases e1;unfold cellsFrom pushCells;rw[XF hk,XF hk];exact Ry r _ _ _ e2
  rw[Y0B (a:=(m,k)) (l:=r) (p:=λy:Str × NameKind=>y.2 == .cell) hk] at e;unfold cellsFrom pushCells;rw[XB hk,XB hk];exact Tc r n acc h e
theorem Bb {M:Model}{A:Around}{E:TC}{s:Shared}{globals:Addr}{cl:List (Str × Addr)}{qual:Str}{func:TQ}{code:Value}{outer:Env}{builtins:Addr}{Q:Env->Shared->Prop}{x:Str}
  (hone:(scope.names.filter λy=>y.2 == .cell)=[(x,.cell)])
  (hQ:∀ h',h'=(s.heap.push { cls:=.type "dict",data:=.dict #[] }).push { cls:=.type "cell",data:=.cell none }->Q (newEnv scope s.heap.objs.size globals ((x,s.heap.objs.size+1)::cl) qual func code (some outer) builtins) { s with heap:=h' }) :
  wpAny M A (newFunctionEnv scope globals cl [] qual func code (some outer) builtins) Q E s:=by
 simp only [newFunctionEnv,Y1g,zx];refine YA (wpAny_alloc ?_);refine YA (wpAny_layCells _ (λname kind cells=>by cases hkc:kind == NameKind.cell <;> simp[hkc]) _ _ _ _ ?_);rw[show ({ s with heap:=s.heap.push { cls:=.type "dict",data:=.dict #[] } }:Shared).heap.objs.size=s.heap.objs.size+1 from XX ..];rw[(Tc scope.names (s.heap.objs.size+1) cl (s.heap.push { cls:=.type "dict",data:=.dict #[] }) hone).1,(Tc scope.names (s.heap.objs.size+1) cl (s.heap.push { cls:=.type "dict",data:=.dict #[] }) hone).2];refine YA ?_;rw[Y0a];exact YI (YI (hQ _ rfl))
theorem Wp {x:Str}{n:Addr}{cl:List (Str × Addr)}{y:Str}{c:Addr}(h:((x,n)::cl).lookup y=some c):(y=x/\c=n) \/ (y≠x/\cl.lookup y=some c):=by
 rw[XY] at h
 cases hb:y == x with
 | true=>rw[hb] at h;cases h;exact .inl ⟨zM.mp hb,rfl⟩
 | false=>rw[hb] at h;exact .inr ⟨GF.mp hb,h⟩
theorem Z2p {x:Str}{n:Addr}{cl:List (Str × Addr)}{y:Str}(h:y≠x):((x,n)::cl).lookup y=cl.lookup y:=by
 rw[XY,GF.mpr h]
theorem J7 {x:Str}{n:Addr}{cl:List (Str × Addr)}:((x,n)::cl).lookup x=some n:=by
 rw[XY,qK]
def compCxC (X:Cx)(N:TF)(scope:Scope)(x:Str)(cl:List (Str × Addr))(C:Addr)(fp:TJ)(s:Shared)(H:Hp):Cx :=
 { compCx X N scope ((x,C+1)::cl) C fp s H with fn:=λy=>y == x }
section
variable {X:Cx}{pins:TD}{σ:L2.St}{H:Hp}{s:Shared}{N:TF}{scope:Scope}{cl:List (Str × Addr)}{fp:TJ}{k:Nat}{fv:List Nat}{x:Str}
theorem Ci (hone:(scope.names.filter λy=>y.2 == .cell)=[(x,.cell)]){y:Str × NameKind}(hy:y∈scope.names)(hc:y.2=.cell):y.1=x:=by
 have:y∈scope.names.filter λy=>y.2 == .cell:=XI.mpr ⟨hy,by rw[hc];rfl⟩;rw[hone] at this;rw[XA.mp this]
theorem Z03 (I:Inv X pins σ H s)(hc:X.calm=true)(hf:∀ b∈fp,FpOk X pins H b)(hl:∀ b∈fp,b<s.heap.objs.size)(hkind:scope.kind=.function)(hone:(scope.names.filter λy=>y.2 == .cell)=[(x,.cell)])
  (h1:∀ y c,cl.lookup y=some c->X.env.cells.lookup y=some c) (h2:∀ y∈scope.names,y.2=.free->∃ c,cl.lookup y.1=some c):(compCxC X N scope x cl s.heap.objs.size fp s H).Ok where
 mod:=I.ok.mod
 kind:=hkind
 glob:=I.ok.glob
 blt:=I.ok.blt
 above:=YF _
 inj:=λy z c a b=>by
  have old:∀ {n:Str} {d:Addr},cl.lookup n=some d->d<s.heap.objs.size:=λ{n d} e=>by
   obtain⟨v,ic⟩:=I.cell n d (h1 n d e);exact ic.lt
  rcases Wp a with ⟨ey,ec⟩ | ⟨ny,a'⟩
  ·rcases Wp b with ⟨ez,_⟩ | ⟨nz,b'⟩
   ·rw[ey,ez]
   have:=old b';rw[ec] at this;exact absurd this (jf.mpr (zw _))
  rcases Wp b with ⟨ez,ec⟩ | ⟨nz,b'⟩
  ·have:=old a';rw[ec] at this;exact absurd this (jf.mpr (zw _))
  exact I.ok.inj y z c (h1 y c a') (h1 z c b')
 has:=λz hz=>by
  have:∃ y∈scope.names,y.1=z/\(y.2=.free \/ y.2=.cell):=by
   rcases hz with q | q
   ·exact Yy (.inl rfl) q
   exact Yy (.inr rfl) q
  obtain⟨y,hy,e,q⟩:=this;by_cases hx:z=x
  ·exact⟨_,by rw[hx];exact J7⟩
  rcases q with q | q
  ·obtain⟨c,hcl⟩:=h2 y hy q;exact⟨c,(Z2p hx).trans (by rw[<-e];exact hcl)⟩
  exact absurd (e.symm.trans (Ci hone hy q)) hx
 cab:=λy c z e=>by
  have hy:y=x:=zM.mp z;subst hy;have e':((y,s.heap.objs.size+1)::cl).lookup y=some c:=e;rw[J7] at e'
  cases e';exact zw _
 hd:=λ_=>I.ok.hd hc
 frames:=I.ok.frames
 stk:=.inl rfl
 exf:=λb hb=>⟨XE (hl b hb),λy c e=>by
  rcases Wp e with ⟨_,rfl⟩ | ⟨_,e⟩
  ·exact λz=>absurd (hl b hb) (jf.mpr (by rw[<-z];exact zw _))
  exact (hf b hb).2.2.2.2.1 y c (h1 y c e)⟩
 bs:=I.bs
 bsz:=XD I.ok.bsz I.sz
 noex:=λb o e hb=>by
  rcases (hf b hb).2.2.2.1 with z | z
  ·exact I.ok.noex b o e z
  exact absurd (YT (YL (I.ok.bs b o e).1) z) (JI _)
 exfs:=λb hb z=>(YK.mp (I.stkSub b z)).elim (λe=>(hf b hb).2.1 e) λe=>(hf b hb).2.2.1 e
 funs:=I.stack
 frf:=I.stkFree
 seen:=I.ok.seen
 dpt:=I.ok.dpt
theorem Fe (I:Inv X pins σ H s)(hc:X.calm=true)(hf:∀ b∈fp,FpOk X pins H b)(hl:∀ b∈fp,b<s.heap.objs.size)(hkind:scope.kind=.function)(hone:(scope.names.filter λy=>y.2 == .cell)=[(x,.cell)])(hx:scope.names.lookup x=some .cell)
  (h1:∀ y c,cl.lookup y=some c->X.env.cells.lookup y=some c) (h2:∀ y∈scope.names,y.2=.free->∃ c,cl.lookup y.1=some c)
  (hN:N.length=k+fv.length) (hfv:fv.map (λj=>X.N[j]?)=(N.drop k).map some) (hk:(N.drop k).map X.env.kindOf=(N.drop k).map λ_=>some .cell) (hfl:∀ y∈N.drop k,scope.names.lookup y=some .free)
  {h':Heap} {tk:Nat} (hn:h'.Ns s.heap.objs.size λ_=>none) (hcn:h'.IsCell (s.heap.objs.size+1) none) (hb:∀ b o,s.heap.get? b=some o->h'.get? b=some o) :
  Inv (compCxC X N scope x cl s.heap.objs.size fp s H) [] (comp0 k fv σ) H { s with heap:=h',toks:=tk } where
 ok:=Z03 I hc hf hl hkind hone h1 h2
 os:=rfl
 bare:=I.bare
 base:=Un.kept hb
 loc:=⟨_,hn,λi y v e1 e2 e3=>by
  have hik:k<=i:=by
   apply Y0y;intro z;have:(comp0 k fv σ)[i]?=some none:=by
    unfold comp0;rw[JV (by simpa using z)];simp[z]
   rw[this] at e2
   cases e2
  obtain⟨j,rfl⟩:∃ j,i=k+j:=⟨i - k,by omega⟩;have e2':(fv.map λj=>σ.getD j none)[j]?=some (some v):=by
   have:(comp0 k fv σ)[k+j]?=(fv.map λj=>σ.getD j none)[j]?:=by
    unfold comp0;rw[JT (by simp)];simp
   rw[<-this];exact e2
  rw[YE] at e2'
  cases hj:fv[j]? with
  | none=>rw[hj] at e2';cases e2'
  | some m =>
   rw[hj] at e2';have e4:σ.getD m none=some v:=YR e2';have e5:(N.drop k)[j]?=some y:=by rw[Y1e];exact e1
   have e6:X.N[m]?=some y:=by
    have a:=congrArg (λl=>l[j]?) hfv;simp only [YE,hj,e5,qJ] at a;exact YR a
   have e7:X.env.kindOf y=some .cell:=by
    have a:=congrArg (λl=>l[j]?) hk;simp only [YE,e5,qJ] at a;exact YR a
   have e8:σ[m]?=some (some v):=by
    cases q:σ[m]? with
    | none=>rw[List.getD,q] at e4;cases e4
    | some o=>rw[List.getD,q] at e4;rw[show o=some v from e4]
   obtain⟨m0,hm0,hl0⟩:=I.loc;obtain⟨u,ru,lk⟩:=hl0 m y v e6 e8 (.inr (.inl e7));refine⟨u,ru,?_⟩;rcases lk with ⟨z,_⟩ | ⟨_,c,hcc,ic⟩
   ·rw[e7] at z;cases z
   have mem:y∈N.drop k:=YD e5;have fr:=hfl y mem;have nyx:y≠x:=λz=>by rw[z,hx] at fr;cases fr
   obtain⟨c',hc'⟩:=h2 (y,.free) (Rg fr) rfl;have ec:=h1 y c' hc';rw[hcc] at ec
   cases ec;refine .inr ⟨.inl (Wg I.ok.kind fr e7),c,(Z2p nyx).trans hc',?_⟩;obtain⟨o,ho,hd⟩:=ic;exact⟨o,hb _ _ ho,hd⟩⟩
 cell:=λy c e=>by
  rcases Wp e with ⟨_,rfl⟩ | ⟨_,e⟩
  ·exact⟨_,hcn⟩
  obtain⟨v,o,ho,hd⟩:=I.cell y c (h1 y c e);exact⟨v,o,hb _ _ ho,hd⟩
 free:=I.hok.fresh (YF _)
 freeC:=λy c e=>by
  rcases Wp e with ⟨_,rfl⟩ | ⟨_,e⟩
  ·exact I.hok.fresh (zw _)
  exact I.freeC y c (h1 y c e)
 pin:=λp hp=>by
  obtain⟨a1,a2,a3,a4,a5⟩:=I.pin p (YJ _ ((XH.mp hp).elim id λz=>nomatch z));exact⟨hb _ _ a1,a2,XE (YL a1),λz=>(YK.mp (I.stkSub p.1 z)).elim a3 a4,a5⟩
 hok:=I.hok.kept hb
 len:=by
  show (comp0 k fv σ).length=N.length;unfold comp0;simp[hN]
end
section
variable {X:Cx}
theorem Ts {elt iter tg:Expr}{ifs:TL}{scope:Scope}{pos:Pos}{g:TG}{tt:TT}{te:TE}{N:TF}{k:Nat}{fv:List Nat}{cl:List (Str × Addr)}{x0:Str}
  {pins:TD} {σ:L2.St} {H:Hp} {s:Shared} {it:Addr} {fp:TJ} {tn:Nat->Heap->Prop} {J:It} {Q:VK} {RR:Value->Addr->Result->Shared->Prop} {E:TC}
  (hc:X.calm=true) (hg:∀ cl C fp s H,PG (compCxC X N scope x0 cl C fp s H) tg g) (ht:∀ cl C fp s H,PTs (compCxC X N scope x0 cl C fp s H) ifs tt) (he:∀ cl C fp s H,PE (compCxC X N scope x0 cl C fp s H) elt te)
  (hw:∀ r x H Q,g x (List.replicate k none++r) H Q->g x (List.replicate k none++r) H λσ4 H4=>Q σ4 H4/\Weaker σ4 (List.replicate k none++r))
  (hN:N.length=k+fv.length) (hfv:fv.map (λj=>X.N[j]?)=(N.drop k).map some) (hk:(N.drop k).map X.env.kindOf=(N.drop k).map λ_=>some .cell) (hfl:∀ y∈N.drop k,scope.names.lookup y=some .free)
  (hone:(scope.names.filter λy=>y.2 == .cell)=[(x0,.cell)]) (hx0:scope.names.lookup x0=some .cell) (hkind:scope.kind=.function) (h1:∀ y c,cl.lookup y=some c->X.env.cells.lookup y=some c) (h2:∀ y∈scope.names,y.2=.free->∃ c,cl.lookup y.1=some c)
  (I:Inv X pins σ H s) (T:Turn X.prog X.w X.K tg J fp it tn) (st:tn 0 s.heap) (f:∀ b∈fp,FpOk X pins H b)
  (body:∀ d,H d=none->∃ (n:Nat) (W:Nat->List V->Hp->Prop),n<=sizeLine/\W 0 [] (upd H d (.lst [])) ∧
   (∀ i ys H2,i<n->W i ys H2->H2 d=some (.lst ys)->J.go i H2/\∀ x H3,J.yld i H2 x H3->g x (comp0 k fv σ) H3 λσ4 H4=>tt σ4 H4 λb H5 =>
    if b=true then te σ4 H5 λy H6=>H6 d=some (.lst ys)/\W (i+1) (ys++[y]) (upd H6 d (.lst (ys++[y]))) else H5 d=some (.lst ys)/\W (i+1) ys H5) ∧
   (∀ ys H2,W n ys H2->H2 d=some (.lst ys)->J.stop n H2/\Q (.ref d) H2))
  (hR:∀ (D C:Addr) (H':Hp) (s':Shared),(∃ m,s'.heap.Ns C m)->FpOk X pins H' C->Q (.ref D) H'->(∀ h',Heap.SameBut C s'.heap h'->Inv X pins σ H' { s' with heap:=h' })->RR (.ref D) C (.ok .next) s') :
  wpAny (model X.prog X.w) X.A (newList []) (λacc s3=>wpAny (model X.prog X.w) X.A (newFunctionEnv scope X.env.globals cl [] X.env.qual none .none (some X.env)) (λcenv s4 =>
   codeAny (model X.prog X.w) X.A (.compStart (.ListComp elt [⟨tg,iter,ifs,0⟩] scope pos) 0 (.ref it) acc { cenv with scope:=relabel scope X.env }) (RR acc cenv.locals) s4) E s3) E s:=by
 refine zr ?_;have I3:=I.lnew (its:=[]) (ys:=[]) (t':=s.toks) .nil (JO _);have fresh:=I.fresh;generalize hD:s.heap.objs.size=D at I3 fresh ⊢;have f3:∀ b∈fp,FpOk X pins (upd H D (.lst [])) b:=λb hb=>by
  refine⟨?_,(f b hb).2⟩;have hne:b≠D:=by
   obtain⟨o,e,_⟩:=T.obj 0 _ st b hb;rw[<-hD];exact XE (YL e)
  rw[Ze hne];exact (f b hb).1
 have up3:∀ b o,s.heap.get? b=some o->(s.heap.push { cls:=.type "list",data:=.seq ([]:TH).toArray }).get? b=some o:=λb o e=>YB _ e;have st3:tn 0 (s.heap.push { cls:=.type "list",data:=.seq ([]:TH).toArray }):=T.keep 0 _ _ st λb _ o e=>up3 b o e;have hl3:∀ b∈fp,b<(s.heap.push { cls:=.type "list",data:=.seq ([]:TH).toArray }).objs.size:=λb hb=>by
  obtain⟨o,e,_⟩:=T.obj 0 _ st3 b hb;exact YL e
 obtain⟨n,W,hn,w0,step,fin⟩:=body D fresh;generalize hS3:({ s with heap:=s.heap.push { cls:=.type "list",data:=.seq ([]:TH).toArray },toks:=s.toks }:Shared)=s3 at I3;have eS3:s3.heap=s.heap.push { cls:=.type "list",data:=.seq ([]:TH).toArray }:=by rw[<-hS3]
 rw[<-eS3] at st3 hl3;refine Bb hone (λh4 eh4=>?_);have old:∀ b o,s3.heap.get? b=some o->h4.get? b=some o:=λb o e=>by rw[eh4];exact YB _ (YB _ e)
 have hns:h4.Ns s3.heap.objs.size (λ_=>none):=by rw[eh4];exact (Heap.Ns.new s3.heap (.type "dict")).keeps λb o e=>YB _ e
 have hcn:h4.IsCell (s3.heap.objs.size+1) none:=by
  rw[eh4];rw[<-XX s3.heap { cls:=.type "dict",data:=.dict #[] }];exact⟨_,YM _ rfl,rfl⟩
 clear eh4;have I4:=Fe (N:=N) (tk:=s3.toks) I3 hc f3 hl3 hkind hone hx0 h1 h2 hN hfv hk hfl (h':=h4) hns hcn old;have st4:tn 0 h4:=T.keep 0 _ _ st3 λb _ o e=>old b o e;have hCn:s3.heap.get? s3.heap.objs.size=none:=by
  cases e:s3.heap.get? s3.heap.objs.size with
  | none=>rfl
  | some o=>exact absurd (YL e) (JI _)
 generalize hC:s3.heap.objs.size=C at I4 hCn ⊢;have stat:∀ {H':Hp} {ps:TD},(∀ b∈fp,H' b=none)->(∀ p∈ps,p.1 ∉ fp)->∀ b∈fp,FpOk (compCxC X N scope x0 cl C fp s3 (upd H D (.lst []))) ps H' b:=λ{H' ps} hn hp b hb =>
  ⟨hn b hb,by rw[<-hC];exact XE (hl3 b hb),λz=>(YK.mp (I3.stkSub b z)).elim (λe=>(f3 b hb).2.1 e) λe=>(f3 b hb).2.2.1 e,.inl hb,λx c e=>(Wp e).elim (λz q=>absurd (hl3 b hb) (jf.mpr (by rw[<-q,z.2,<-hC];exact zw _))) (λz=>(f3 b hb).2.2.2.2.1 x c (h1 x c z.2)),λp q z=>(XH.mp q).elim (λq=>(f3 b hb).2.2.2.2.2 p (YJ _ q) z) λq=>hp p q (by rw[z];exact hb)⟩
 have loop:∀ s4:Shared,s4={ s3 with heap:=h4,toks:=s3.toks } →
   codeAny (model X.prog X.w) X.A (.compLoop (.ListComp elt [⟨tg,iter,ifs,0⟩] scope pos) 0 (.ref it) (.ref D) (compEnvC scope ((x0,C+1)::cl) C X.env)) (RR (.ref D) C) s4:=by
  rintro s4 rfl;refine Ql (λm s'=>∃ i ys H',Inv (compCxC X N scope x0 cl C fp s3 (upd H D (.lst []))) [] (comp0 k fv σ) H' s'/\tn i s'.heap/\(∀ b∈fp,H' b=none)/\i<=n/\m=n+1 - i/\ys.length<=i/\H' D=some (.lst ys)/\W i ys H') ?_ (n+1)
   ⟨0,[],_,I4,st4,λb hb=>(f3 b hb).1,JO _,rfl,YF _,Zb,w0⟩
  rintro m s5 ⟨i,ys,H5,I5,st5,fr5,hi,rfl,hys,hD5,w5⟩;by_cases hlt:i<n
  ·obtain⟨go,stp⟩:=step i ys H5 hlt w5 hD5;refine thn (T.item (compCxC X N scope x0 cl C fp s3 (upd H D (.lst []))) rfl rfl rfl rfl i [] s5 _ H5 noX I5 (stat fr5 (by simp)) st5 go) λr s6 ⟨u,er,h6⟩=>?_;subst er;refine thn h6 λ_ s7 ⟨x,H7,I7,r7,y7,st7,fr7⟩=>?_;have I7':=I7.pinned (stat fr7 (by simp)) (T.obj _ _ st7);refine thn (hg cl C fp s3 _ _ s7 _ H7 x u _ I7' r7 (hw _ x H7 _ (stp x H7 y7))) λ_ s8 ⟨σ8,H8,I8,q8,wk⟩=>?_;refine thn (ht cl C fp s3 _ _ s8 σ8 H8 _ I8 q8) λok s9 ⟨H9,I9,q9⟩=>?_;have back:∀ {σ':L2.St} {H':Hp} {s':Shared},Inv (compCxC X N scope x0 cl C fp s3 (upd H D (.lst []))) ([]++pinsAt fp s7.heap) σ' H' s'->Weaker σ' (comp0 k fv σ) →
     Inv (compCxC X N scope x0 cl C fp s3 (upd H D (.lst []))) [] (comp0 k fv σ) H' s'/\tn (i+1) s'.heap/\∀ b∈fp,H' b=none:=λ{σ' H' s'} I' wk'=>by
    refine⟨I'.unpinned.weak wk'.1 wk'.2,T.keep _ _ _ st7 λb hb o e=>(I'.pin (b,o) (YU _ (YU _ (X6 hb e)))).1,λb hb=>?_⟩;obtain⟨o,e,_⟩:=T.obj _ _ st7 b hb;exact (I'.pin (b,o) (YU _ (YU _ (X6 hb e)))).2.1
   cases ok with
   | false =>
    rw[XB YS] at q9 ⊢;obtain⟨hD9,w9⟩:=q9;obtain⟨a1,a2,a3⟩:=back I9 wk;exact⟨n+1 - (i+1),by omega,i+1,ys,H9,a1,a2,a3,hlt,rfl,Nat.le_succ_of_le hys,hD9,w9⟩
   | true =>
    rw[XF rfl] at q9 ⊢;refine thn (he cl C fp s3 _ _ s9 σ8 H9 _ I9 q9) λy s10 ⟨yv,H10,I10,r10,hD10,w10⟩=>?_;refine thn (Yt _ s10 σ8 H10 (.ref D) [yv] (.ref D) [y] (λ_ H'=>H'=upd H10 D (.lst (ys++[yv]))) I10 rfl (.cons r10 .nil) ⟨D,ys,yv,rfl,rfl,hD10,JJ hys (YT hlt hn),rfl⟩) λ_ s11 ⟨_,H11,I11,_,e11⟩=>?_;subst e11;obtain⟨a1,a2,a3⟩:=back I11 wk;exact⟨n+1 - (i+1),by omega,i+1,ys++[yv],_,a1,a2,a3,hlt,rfl,by rw[YX];show ys.length+1<=i+1;omega,Zb,w10⟩
  obtain rfl:i=n:=Nat.le_antisymm hi (jf.mp hlt);obtain⟨stop,q⟩:=fin ys H5 w5 hD5;refine thn (T.done (compCxC X N scope x0 cl C fp s3 (upd H D (.lst []))) rfl rfl rfl rfl i [] s5 _ H5 noX I5 (stat fr5 (by simp)) st5 stop) λr s6 ⟨er,I6⟩=>?_;subst er;refine hR D C H5 s6 ?_ (I3.fpOk (by rw[hC];exact YF _) I6.free) q λh' hs'=>?_
  ·obtain⟨m,hm,_⟩:=I6.loc;exact⟨m,hm⟩
  have hs2:∀ b,b≠C->h'.get? b=s6.heap.get? b:=λb hb=>hs'.2 b hb;refine I3.call' (s':={ s6 with heap:=h' }) (ch:=fp) ?_ (Fq I6.base hCn hs2) (Jf I6.hok I6.free hs2) I6.bare λb hb=>?_
  ·exact I6.os
  exact⟨(f3 b hb).2.2.2.1,(f3 b hb).2.1,(f3 b hb).2.2.2.2.1,(f3 b hb).2.2.2.2.2⟩
 exact codeAny_compStart_list (loop _ rfl) (T.self _ 0 _ _ _ st4 (loop _ rfl))
theorem Ca {pos:Pos}{g:TG}{N:TF}{k:Nat}{fv:List Nat}{x0:Str}
  (hc:X.calm=true) (hi:PI X tg iter wi) (hg:∀ cl C fp s H,PG (compCxC X N scope x0 cl C fp s H) tg g) (ht:∀ cl C fp s H,PTs (compCxC X N scope x0 cl C fp s H) ifs tt) (he:∀ cl C fp s H,PE (compCxC X N scope x0 cl C fp s H) elt te)
  (hw:∀ r x H Q,g x (List.replicate k none++r) H Q->g x (List.replicate k none++r) H λσ4 H4=>Q σ4 H4/\Weaker σ4 (List.replicate k none++r))
  (hN:N.length=k+fv.length:=by rfl) (hfv:fv.map (λj=>X.N[j]?)=(N.drop k).map some:=by rfl) (hk:(N.drop k).map X.env.kindOf=(N.drop k).map (λ_=>some .cell):=by rfl)
  (hfl:∀ y∈N.drop k,scope.names.lookup y=some .free:=by decide +kernel) (hfr:∀ y∈scope.names,y.2=.free->y.1∈N.drop k:=by decide +kernel)
  (hone:(scope.names.filter λy=>y.2 == .cell)=[(x0,.cell)]:=by decide +kernel) (hx0:scope.names.lookup x0=some .cell:=by decide +kernel) (hkind:scope.kind=.function:=by rfl) (hnames:∀ y∈scope.names,y.2=.local->scope.names.lookup y.1=some .local:=by decide +kernel)
  (hs:∀ x,foldedSetIterable iter X.env x=pure x:=by intro _;rfl):PE X (.ListComp elt [⟨tg,iter,ifs,0⟩] scope pos) (tComp wi g tt te k fv):=by
 intro pins s σ H Q I h;have kc:∀ y∈N.drop k,X.env.kindOf y=some .cell:=λy hy=>by
  obtain⟨j,hj⟩:=XL hy;have a:=congrArg (λl=>l[j]?) hk;simp only [YE,hj,qJ] at a;exact YR a
 obtain⟨cl,hclos,h1,h2⟩:=Xd (env:=X.env) (scope:=scope) λy hy hf=>I.ok.has y.1 (.inl (kc y.1 (hfr y hy hf)));rw[eval_ListComp];refine qV (use:=none) rfl hs hclos hkind hnames (thn (hi pins s σ H _ I h) λxv s1 h1'=>thn h1' λitv s2 h2'=>?_);obtain⟨it,fp,tn,J,H2,e,I2,T,st2,f2,body⟩:=h2';subst e;exact Ts (RR:=λacc C=>compPost (model X.prog X.w) X.A X.xe none (EP X pins σ Q) acc C) hc hg ht he hw hN hfv hk hfl hone hx0 hkind h1 h2 I2 T st2 f2 body λD C H' s' ⟨m,hm⟩ _ q iv=>⟨m,hm,λh' hs'=>⟨.ref D,H',iv h' hs',rfl,q⟩⟩
end
section
variable {X:Cx}{K:TR}{tg l:Expr}{tl:TE}
theorem Ss (hl:PE X l tl)(h:X.K=K:=by rfl):PI X tg l (iList K tl):=h ▸ Y6 hl
end
def TrD (h B:Heap)(e:Addr)(c:Value)(dd:TQ)(fl:Value):Prop :=
 ∃ (oe:Obj) (vs:Array Value) (T:Addr) (oT:Obj) (ts:Array Value),(h.get? e=some oe/\oe.cls=c/\oe.dict=dd/\oe.data=.fields vs/\vs[1]?=some (.ref T)/\vs[2]?=some .none)/\(B.get? T=none/\T≠e)/\(h.get? T=some oT/\oT.data=.fields ts/\ts[3]?=some fl)
section
variable {M:Model}{A:Around}{E:TC}{s:Shared}{B:Heap}{env:Env}{outer:TN}{L e:Addr}{c:Value}{dd:TQ}{Q:Unit->Shared->Prop}
end
section
variable {P:TU}{w:World}{A:Around}{E:TC}{h:Heap}{g:Array GenState}{d:Drawn}{tk:Nat}{os:OsState}
variable {nm q:Str}{C N fI:Addr}{bs tl bB:TH}{hdct:Bool}{sn:TF}{sub:TH}{ab:Bool}{col:Option Bool}{dd:TQ}{k0 k1 k2 k3 k5:Option Value}{B newId initId:String}{mN:TB}{vs:TH}{oI:Obj}
end
def excInI (K:TR)(C fI:Addr):Bool:=match K.lookup C with
 | some ⟨.type "type",_,.cls cd,sl⟩=>(match cd.mro,sl.toList with
  | .ref C'::bm,[_,_,_,_,some (.builtin n),_]=>C' == C && (cd.hasDict && (n == "ValueError.__new__" && (!cd.hasDel && (W.tailIn K bmV bm && (W.nsOkIn K cd.ns && W.nsIn K cd.ns "__init__" == some (some (.ref fI)))))))
  | _,_=>false)
 | _=>false
structure ExcI (K:TR)(mg:TB)(x:Str)(C fI:Addr):Prop where
 ok:excInI K C fI=true
 fn:W.isFn K (.ref fI)=true
 bd:mg x=some (.ref C)
section
variable {M:Model}{A:Around}{E:TC}{env:Env}
variable {nm q:Str}{C N:Addr}{bs tl:TH}{hdct:Bool}{sn:TF}{sub:TH}{ab:Bool}{col:Option Bool}{dd:TQ}{k0 k1 k2 k3 k5:Option Value}{newId:String}
end
section
variable {P:TU}{w:World}{K:TR}{mg:TB}{base:Heap}{N:TF}{qual:Str}{scope:Scope}{f:Addr}{cd:Value}{A:Around}{outer:TN}{s:Shared}{H:Hp}{E:XK}
end
section
variable {X:Cx}{k:Nat}{x:Str}{ps:TF}{sp:Sp}{e:Expr}{es:TL}{t:TA}{p pos:Pos}{EX:L2.St->XK}
end
section
variable {P:TU}{w:World}{K:TR}{mg:TB}{base:Heap}{N:TF}{qual:Str}{scope:Scope}{f:Addr}{cd:Value}{A:Around}{outer:TN}{s:Shared}{H:Hp}{E:XK}
end
section
variable {X:Cx}{pins:TD}{σ:L2.St}{H:Hp}{s:Shared}{a:Addr}
end
section
variable {X:Cx}{x n:Str}{i:Nat}{C D:Addr}{body:TM}{b₀:Stmt}{suite:TM}{np hp pos:Pos}{tb:(L2.St->XK)->TS}{ts:TS}
end
section
variable {X:Cx}{pins pins' pn:TD}{σ:L2.St}{H:Hp}{s:Shared}{E:TC}{a C:Addr}{dd:TQ}
end
section
variable {X:Cx}{x n:Str}{i:Nat}{C D:Addr}{body:TM}{b₀:Stmt}{suite:TM}{np hp pos:Pos}{tb:(L2.St->XK)->TS}{ts:Addr->Option Addr->TS}
end
open PySem.W (Looks findIn specialIn takesIn mroIn clsIn)
open Builtin Builtin.ObjectAttr
section
variable {P:TU}{w:World}{A:Around}{E:TC}
end
section
variable {X:Cx}{x:Str}{D:Addr}{e:Expr}{es:TL}{t:TA}{np apos pos:Pos}
end
section
variable {P:TU}{w:World}{A:Around}{E:TC}{h:Heap}{g:Array GenState}{d:Drawn}{t:Nat}{os:OsState}{K:TR}{mg:TB}{xn f:Str}{C fI x t0:Addr}{v:Value}
end
section
variable {X:Cx}{o value:Expr}{f:Str}{pos pos':Pos}{ta tv:TE}
end
end Sb
namespace Sb
open PySem PySem.Spec PyProof.Rows L2
open PySem.W (Looks findIn specialIn takesIn mroIn clsIn)
open Builtin Builtin.ObjectAttr
section
variable {K:TR}{C x dx:Addr}{P:TU}{w:World}{A:Around}{E:TC}{h:Heap}{g:Array GenState}{d:Drawn}{t:Nat}{os:OsState}{f:Str}{v:Value}{mA:TB}{ox:Obj}
end
section
variable {X:Cx}{e:Expr}{f:Str}{pos:Pos}{ta:TE}
end
end Sb
namespace Sb
open PySem PySem.Spec PyProof.Rows L2
section
variable {X:Cx}{K:TR}
end
open PySem.W (Looks findIn specialIn takesIn mroIn clsIn)
section
variable {X:Cx}{e:Expr}{f:Str}{pos:Pos}{ta:TE}
end
section
variable {X:Cx}{K:TR}
end
end Sb
namespace Sb
open PySem PySem.Spec PyProof.Rows PyProof.V L2
set_option maxRecDepth 100000
set_option maxHeartbeats 1000000
section
variable {M:Model}{A:Around}{E:TC}{s:Shared}
theorem Z1u {x y:Str}{c:Addr}{v:Value}{qual:Str}{f:Addr}{cd:Value}{Q:Env->Shared->Prop}(hk:scope.kind=.function)(hx:scope.names.lookup x=some .cell)
  (hcs:∀ n,cellsFrom n scope.names [(y,c)]=[(x,n),(y,c)]) (hpc:∀ h,pushCells h scope.names=h.push { cls:=.type "cell",data:=.cell none })
  (hQ:∀ h1 tk,h1.Ns s.heap.objs.size (λ_=>none)->h1.IsCell (s.heap.objs.size+1) (some v)->(∀ b o,s.heap.get? b=some o->h1.get? b=some o) →
   Q (W.envX qual scope s.heap.objs.size f cd [(x,s.heap.objs.size+1),(y,c)]) { s with heap:=h1,toks:=tk }) :
  wpAny M A (newFunctionEnv scope mainGlobals [(y,c)] [(x,v)] (qual++".<locals>.") (some f) cd none builtinsNs) Q E s:=by
 simp only [newFunctionEnv,Y1a,XV,GU];refine YA (wpAny_alloc ?_);refine YA (wpAny_layCells _ (λname kind cells=>by cases hkc:kind == NameKind.cell <;> simp) _ _ _ _ ?_);rw[hcs,show ({ s with heap:=s.heap.push { cls:=.type "frame",data:=.dict #[] } }:Shared).heap.objs.size=s.heap.objs.size+1 from XX ..];rw[hpc];have hL:((s.heap.push { cls:=.type "frame",data:=.dict #[] }).push { cls:=.type "cell",data:=.cell none }).Ns s.heap.objs.size (λ_=>none) :=
  (Heap.Ns.new s.heap (.type "frame")).keeps λb o e=>YB _ e
 have hC:((s.heap.push { cls:=.type "frame",data:=.dict #[] }).push { cls:=.type "cell",data:=.cell none }).IsCell (s.heap.objs.size+1) none:=by
  refine⟨{ cls:=.type "cell",data:=.cell none },?_,rfl⟩;have e:(s.heap.push { cls:=.type "frame",data:=.dict #[] }).objs.size=s.heap.objs.size+1:=XX ..;rw[<-e];exact YM _ rfl
 refine YA ?_;rw[zG];refine YA (YA (wpAny_storeName_cell (env:=W.envX qual scope s.heap.objs.size f cd [(x,s.heap.objs.size+1),(y,c)]) hk hx (c:=s.heap.objs.size+1) (by simp) hC λh' hc' hs'=>YI ?_));show wpAny M A (forIn [] PUnit.unit _) _ _ _;rw[Y0a];refine YI (YI ?_);refine hQ h' s.toks (hL.sameBut hs' (XE (Nat.lt_succ_self _))) hc' λb o e=>?_;have hb:b<s.heap.objs.size:=YL e;rw[hs'.2 b (XE (qQ hb))];exact YB _ (YB _ e)
end
structure LamScope (x y:Str)(sc:Scope):Prop where
 kind:sc.kind=.function
 co:sc.isCoroutine=false
 gen:sc.isGenerator=false
 ne:x≠y
 par:sc.names.lookup x=some .cell
 fre:sc.names.lookup y=some .free
 only:∀ z,sc.names.lookup z=some .cell \/ sc.names.lookup z=some .free->z=x \/ z=y
 cs:∀ n c,cellsFrom n sc.names [(y,c)]=[(x,n),(y,c)]
 pc:∀ h,pushCells h sc.names=h.push { cls:=.type "cell",data:=.cell none }
def cxLam (P:TU)(w:World)(K:TR)(mg:TB)(base:Heap)(x y:Str)(qual:Str)(scope:Scope)(f:Addr)(cd:Value)(c:Addr)(A:Around)(outer:TN)(s:Shared)(H:Hp):Cx where
 prog:=P
 w:=w
 K:=K
 mg:=mg
 base:=base
 A:=A.deeper (W.envX qual scope s.heap.objs.size f cd [(x,s.heap.objs.size+1),(y,c)])
 N:=[x,y]
 s₀:=s
 H₀:=H
 env:=W.envX qual scope s.heap.objs.size f cd [(x,s.heap.objs.size+1),(y,c)]
 outer:=outer
 stack:=W.envX qual scope s.heap.objs.size f cd [(x,s.heap.objs.size+1),(y,c)]::outer
 ex:=[]
 calm:=true
 fn:=λz=>z == x
 pn:=qpin A s.heap
 xe:=λ_ _=>False
theorem Mp {x y z:Str}{a b c:Addr}(h:([(x,a),(y,b)]:List (Str × Addr)).lookup z=some c):(z=x/\c=a) \/ (z=y/\c=b):=by
 rw[XY] at h
 cases hz:z == x with
 | true=>rw[hz] at h;cases h;exact .inl ⟨zM.mp hz,rfl⟩
 | false =>
  rw[hz] at h;have h:([(y,b)]:List (Str × Addr)).lookup z=some c:=h;rw[XY] at h
  cases hy:z == y with
  | true=>rw[hy] at h;cases h;exact .inr ⟨zM.mp hy,rfl⟩
  | false=>rw[hy] at h;cases h
theorem Z24 {P:TU}{w:World}{K:TR}{mg:TB}{base:Heap}{x y:Str}{qual:Str}{scope:Scope}{f:Addr}{cd:Value}{c:Addr}{A:Around}{outer:TN}{s:Shared}{H:Hp}{vx vy:V}{ux uy:Value}{h1:Heap}{tk:Nat}
  (S:LamScope x y scope) (e0:Env0 P w K mg base A outer s H) (hdp:A.depth+1+100<recursionLimit) (hc:s.heap.IsCell c (some uy)) (hcn:H c=none) (rx:RelV vx ux) (ry:RelV vy uy)
  (hL:h1.Ns s.heap.objs.size (λ_=>none)) (hC:h1.IsCell (s.heap.objs.size+1) (some ux)) (hk:∀ b o,s.heap.get? b=some o->h1.get? b=some o) :
  Inv (cxLam P w K mg base x y qual scope f cd c A outer s H) [] [some vx,some vy] H { s with heap:=h1,toks:=tk }:=by
 have hclt:c<s.heap.objs.size:=let ⟨_,e,_⟩:=hc;YL e;have noA:∀ b:Addr,b ∉ (cxLam P w K mg base x y qual scope f cd c A outer s H).ex:=λb z=>absurd (show b∈([]:TJ) from z) (by simp);have lx:([(x,s.heap.objs.size+1),(y,c)]:List (Str × Addr)).lookup x=some (s.heap.objs.size+1):=by simp
 have ly:([(x,s.heap.objs.size+1),(y,c)]:List (Str × Addr)).lookup y=some c:=by
  rw[XY,show (y == x)=false from GF.mpr (qi S.ne)];simp
 refine⟨⟨e0.mod,S.kind,rfl,rfl,YF _,λy' z c' h1 h2=>?_,λz hz=>?_,λz c' hf h=>?_,λ_=>e0.qt.pin,Around.frames_deeper e0.frames,.inr ⟨rfl,rfl⟩,λb z=>absurd z (noA b),e0.bs,e0.bsz,λb _ _=>noA b,λb z=>absurd z (noA b),e0.funs,e0.frf,⟨e0.tree,_,_,rfl,S.gen,S.co,rfl,rfl⟩,hdp⟩,
  rfl,e0.bare,Un.kept hk,⟨_,hL,λi z v h1 h2 h3=>?_⟩,λz c' h=>?_,e0.hok.fresh (YF _),λz c' h=>?_,λp hp=>?_,e0.hok.kept hk,rfl⟩
 ·rcases Mp h1 with ⟨a1,a2⟩ | ⟨a1,a2⟩ <;> rcases Mp h2 with ⟨b1,b2⟩ | ⟨b1,b2⟩
  ·rw[a1,b1]
  ·exact absurd (b2.symm.trans a2) (XE (qQ hclt))
  ·exact absurd (a2.symm.trans b2) (XE (qQ hclt))
  rw[a1,b1]
 ·rcases S.only z hz with rfl | rfl
  ·exact⟨_,lx⟩
  exact⟨_,ly⟩
 ·rcases Mp h with ⟨a1,a2⟩ | ⟨a1,a2⟩
  ·rw[a2];exact zw _
  have:(z == x)=true:=hf;rw[zM] at this;exact absurd (this.symm.trans a1) S.ne
 ·match i,h1,h2 with
  | 0,h1,h2 =>
   cases h1;cases h2;exact⟨ux,rx,.inr ⟨.inl S.par,_,lx,hC⟩⟩
  | 1,h1,h2 =>
   cases h1;cases h2;exact⟨uy,ry,.inr ⟨.inr S.fre,_,ly,hc.keeps hk⟩⟩
 ·rcases Mp h with ⟨a1,a2⟩ | ⟨a1,a2⟩
  ·rw[a2];exact⟨_,hC⟩
  rw[a2];exact⟨_,hc.keeps hk⟩
 ·rcases Mp h with ⟨a1,a2⟩ | ⟨a1,a2⟩
  ·rw[a2];exact e0.hok.fresh (zw _)
  rw[a2];exact hcn
 obtain⟨a1,a2,a3,a4⟩:=e0.qt.mem p ((XH.mp hp).elim id λz=>absurd z (by simp));exact⟨hk _ _ a1,a2,XE (YL a1),a3,a4⟩
theorem Bk {P:TU}{base:Heap}{k:Nat}{x y:Str}{name:Str}{params:Arguments}{body:Expr}{c c':Addr}{ctv:Value}{outer:TN}{s:Shared}{vx vy:V}{ux uy:Value}{Q:VK}
  (S:LamScope x y scope) (hr:Room (k+1) A) (e0:Env0 P w K mg base A outer s H) (ho:s.heap.get? f=some (W.kla_obj name qual params body scope [(y,c)] pm c' ctv)) (hcd:s.heap.CodeRec (.ref c') qual)
  (hbind:bindArgs (W.kla_fn name qual params body scope [(y,c)] pm (.ref c') ctv) ⟨[ux],[]⟩=pure [(x,ux)])
  (hc:s.heap.IsCell c (some uy)) (hcn:H c=none) (rx:RelV vx ux) (ry:RelV vy uy)
  (hb:∃ t,PE (cxLam P w K mg base x y qual scope f (.ref c') c A outer s H) body t/\t [some vx,some vy] H Q) :
  codeAny (model P w) A (.call (.ref f) ⟨[ux],[]⟩) (CR CX0 outer P w H s Q E0) s:=by
 have lim:s.heap.NoLimit:=e0.mod.nolimit.keeps λb o e=>(e0.bs b o e).1;refine W.kla_callFunE hr.depth ho rfl S.co S.gen rfl hcd ?_;rw[hbind];refine YI (Z1u S.kind S.par (S.cs · c) S.pc λh1 tk hL hC hk=>⟨lim.keeps hk,W.kla_codeExpr ?_⟩);obtain⟨t,ht,hq⟩:=hb;have I:=Z24 (qual:=qual) (f:=f) (cd:=.ref c') (tk:=tk) S e0 (by have:=hr.dp;omega) hc hcn rx ry hL hC hk;refine qL (ht [] _ _ H _ I hq) (λu s' hs=>?_) λe s' hs=>False.elim hs;obtain⟨v,H',J,rv,q⟩:=hs;exact⟨v,H',J.os,J.bare,J.base,J.hok,rv,q⟩
set_option maxRecDepth 100000
set_option maxHeartbeats 2000000
theorem M9 {α β:Type}{g:α->β}{l m:List β}(h:l.Perm m):∀ L:List α,m=L.map g->∃ L':List α,L'.Perm L/\l=L'.map g:=by
 induction h with
 | nil=>intro L e;exact⟨L,.refl _,e⟩
 | cons x _ ih =>
  intro L e
  cases L with
  | nil=>cases e
  | cons y L =>
   rw[GT] at e;injection e with e1 e2
   obtain⟨L',p,q⟩:=ih L e2;exact⟨y::L',p.cons y,by rw[GT,<-q,e1]⟩
 | swap x y l =>
  intro L e
  cases L with
  | nil=>cases e
  | cons a L =>
   cases L with
   | nil=>rw[GT] at e;injection e with e1 e2;cases e2
   | cons b L =>
    rw[GT,GT] at e;injection e with e1 e2
    injection e2 with e2 e3
    exact⟨b::a::L,List.Perm.swap ..,by rw[GT,GT,<-e1,<-e2,<-e3]⟩
 | trans _ _ ih1 ih2 =>
  intro L e;obtain⟨L',p,q⟩:=ih2 L e;obtain⟨L'',p',q'⟩:=ih1 L' q;exact⟨L'',p'.trans p,q'⟩
def SOut (kz:TV)(xs ys:TZ):Prop:=∃ ps:List (Int × V),ps.Perm (kz.zip xs)/\ys=ps.map Prod.snd/\ps.Pairwise (λp q=>p.1<=q.1)
theorem Nm:∀ {xs:TZ} {vs:TH},Vals xs vs->∀ p∈xs.zip vs,RelV p.1 p.2
 | _,_,.nil,_,h=>by cases h
 | _,_,.cons r rs,p,h=>by
  rcases YK.mp h with rfl | h
  ·exact r
  exact Nm rs p h
theorem Tf:∀ (L:List (Int × V × Value)),(∀ t∈L,RelV t.2.1 t.2.2)->Vals (L.map λt=>t.2.1) (L.map λt=>t.2.2)
 | [],_=>.nil
 | t::L,h=>.cons (h t YY) (Tf L λu hu=>h u (YQ _ hu))
theorem Z4b:∀ (kz:TV) (xs:TZ) (vs:TH),xs.length=vs.length->kz.zip vs=(kz.zip (xs.zip vs)).map (λt=>(t.1,t.2.2))/\kz.zip xs=(kz.zip (xs.zip vs)).map (λt=>(t.1,t.2.1))
 | [],_,_,_=>by simp
 | k::kz,[],[],_=>by simp
 | k::kz,x::xs,v::vs,h=>by
  obtain⟨a,b⟩:=Z4b kz xs vs (by simpa using h);simp only [Y0d,GT];exact⟨by rw[a],by rw[b]⟩
 | _::_,[],_::_,h=>by simp at h
 | _::_,_::_,[],h=>by simp at h
theorem Z0a {kz:TV}{vs out:TH}(r:Vals xs vs)(h:KskOut false kz vs out):∃ ys,SOut kz xs ys/\Vals ys out:=by
 obtain⟨ps,hp,ho,hs⟩:=h;obtain⟨z1,z2⟩:=Z4b kz xs vs r.length;obtain⟨L,pL,eL⟩:=M9 hp _ z1;refine⟨L.map λt=>t.2.1,⟨L.map (λt=>(t.1,t.2.1)),?_,?_,?_⟩,?_⟩
 ·rw[z2];exact pL.map _
 ·rw[GX];rfl
 ·rw[eL] at hs;rw[GL] at hs ⊢;exact hs.imp λ{a b} q=>by simpa using q
 rw[ho,eL,GX];refine Tf L λt ht=>?_;have:=pL.mem_iff.mp ht;obtain⟨k,p⟩:=t;exact Nm r p (js this).2
section
variable {prog:TU}{w:World}{A:Around}{E:TC}{s:Shared}{a kS:Addr}{vs:TH}{kz:TV}{keys:Array Value}{e e1:Nat}{P:PySem.Fin->Shared->Prop}
theorem Ft {st:SortSt}(hkS:s.heap.get? kS=some (seqObj "list" keys e))(ha:s.heap.get? a=some (seqObj "list" #[] e1))(hka:kS≠a)
  (hk:IntsAre keys.toList kz) (hlen:kz.length=vs.length) (h64:vs.length<64) (hp:(arrOf st).Perm (keys.zip vs.toArray)) (hs:SortedTo (arrOf st) (arrOf st).size) (hfl:failedOf st=none)
  (h:∀ h' out c,(∀ b,b≠kS->b≠a->h'.get? b=s.heap.get? b)->h'.get? a=some (seqObj "list" out c)->KskOut false kz vs out.toList->P (.done (.ret .none)) { s with heap:=h' }) :
  wpAny (model prog w) A (ksk_tail a false e1 (.ref kS) st) P E s:=by
 have hsz:keys.size=vs.length:=by
  have h1:=hk.length;rw[qY] at h1;omega
 have hsz2:(arrOf st).size=vs.length:=by rw[hp.size_eq,Array.size_zip,hsz,YN,Nat.min_self]
 have s1:=JD s.heap kS (Obj.mapSeq λ_=>(#[]:Array Value));have na1:(s.heap.update kS (Obj.mapSeq λ_=>(#[]:Array Value))).get? a=some (seqObj "list" #[] e1):=(s1.2 a hka.symm).trans ha;have s2:=JD (s.heap.update kS (Obj.mapSeq λ_=>(#[]:Array Value))) a (Obj.mapSeq λ_=>(arrOf st).map (·.2));obtain⟨c2,hc2⟩:∃ c2,((s.heap.update kS (Obj.mapSeq λ_=>(#[]:Array Value))).update a (Obj.mapSeq λ_=>(arrOf st).map (·.2))).get? a=some (seqObj "list" ((arrOf st).map (·.2)) c2) :=
  ⟨_,get?_update_seq na1 λ_=>(arrOf st).map (·.2)⟩
 unfold ksk_tail
 try dsimp only
 refine YA (Y0s hkS rfl ?_ (by rw[hsz,qR];omega) (JO _));refine YA (wpAny_letGo ?_);refine YA (seqEpoch_at na1 rfl ?_);refine YA (Y0s na1 rfl ?_ (JO _) (XD (Y1l (by simp[hsz2])) (show vs.length<=_ by rw[qR];omega)));rw[hfl];simp only [bne_self_eq_false,XV,GU];exact YI (h _ _ c2 (λb h1 h2=>(s2.2 b h2).trans (s1.2 b h1)) hc2 (ksk_out (b:=false) hk hp hs))
theorem Z5b (hkS:s.heap.get? kS=some (seqObj "list" keys e))(ha:s.heap.get? a=some (seqObj "list" #[] e1))(hka:kS≠a)
  (hk:IntsAre keys.toList kz) (hlen:kz.length=vs.length) (h64:vs.length<64)
  (h:∀ h' out c,(∀ b,b≠kS->b≠a->h'.get? b=s.heap.get? b)->h'.get? a=some (seqObj "list" out c)->KskOut false kz vs out.toList->P (.done (.ret .none)) { s with heap:=h' }) :
  wpAny (model prog w) A (ksk_end a false vs.toArray e1 (.ref kS) keys) P E s:=by
 have hsz:keys.size=vs.length:=by
  have h1:=hk.length;rw[qY] at h1;omega
 have hzs:(keys.zip vs.toArray).size=vs.length:=by rw[Array.size_zip,hsz,YN,Nat.min_self]
 unfold ksk_end
 try dsimp only
 simp only [XV,GU];by_cases h2:vs.toArray.size<2
 ·rw[XF h2,XF h2];refine YA (YI ?_);rw[StateT.run_pure];refine YA (YI ?_)
  try dsimp only
  refine Ft (st:=SortSt.mk' general' (keys.zip vs.toArray) #[] 7 none) hkS ha hka hk hlen h64 (Array.Perm.refl _) ?_ rfl h;intro i j hij hj;have hj2:j<(keys.zip vs.toArray).size:=hj;rw[hzs] at hj2;rw[YN] at h2;have:i=j:=by omega
  subst this;exact Y1n _
 rw[XB h2,XB h2];rw[YN] at h2;rw[ksk_kind hk (by rw[hsz];omega)];refine YA (YI ?_);refine YA (qL (wpS_sortRuns (a₀:=keys.zip vs.toArray) (st:=SortSt.mk' oneType' (keys.zip vs.toArray) #[] 7 none)
  (Q:=λ_ st'=>(arrOf st').Perm (keys.zip vs.toArray)/\failedOf st'=none/\SortedTo (arrOf st') (keys.zip vs.toArray).size)
  (ksk_intKeys hk) ⟨Array.Perm.refl _,rfl,rfl,rfl⟩ (by rw[hzs];omega) (by rw[hzs];exact h64) λst' a1 a2 a3=>⟨a1,a2,a3⟩) ?_ λ_ _ e=>e)
 rintro ⟨⟨⟩,st'⟩ s' ⟨rfl,hp,hf,hs⟩
 try dsimp only
 exact Ft hkS ha hka hk hlen h64 hp (by rw[hp.size_eq];exact hs) hf h
end
set_option maxRecDepth 100000
set_option maxHeartbeats 2000000
section
variable {X:Cx}{pins:TD}{σ:L2.St}{H:Hp}{s:Shared}{A:Around}{E:TC}{a kS f:Addr}{vs:TH}{xs:TZ}{kz:TV}{e1:Nat}{P:PySem.Fin->Shared->Prop}{R:Hp->Prop}
theorem Z38 (I:Inv X ((kS,seqObj "list" #[] 0)::(a,seqObj "list" #[] e1)::pins) σ H s)(hka:kS≠a)(h0k:X.s₀.heap.objs.size<=kS)(h0a:X.s₀.heap.objs.size<=a)(hpk:∀ p∈X.pn++pins,p.1≠kS/\p.1≠a)
  (rv:Vals xs vs) (hlen:kz.length=xs.length) (h64:xs.length<64) (hR:R H)
  (turn:∀ (i:Nat) (v:V) (u:Value) (k:Int) (pins':TD) (s':Shared) (H':Hp),xs[i]?=some v->kz[i]?=some k->RelV v u->(∀ p∈pins,p∈pins')->Inv X pins' σ H' s'->R H' →
   wpAny (model X.prog X.w) A (call (.ref f) [u]) (EP X pins' σ (λr H''=>r=.int k/\R H'')) (λ_ _=>False) s')
  (h:∀ (s':Shared) (H':Hp) (ys:TZ),Inv X pins σ (upd H' a (.lst ys)) s'->R H'->H' a=none->SOut kz xs ys->P (.done (.ret .none)) s') :
  wpAny (model X.prog X.w) A (ksk_rest a (.ref f) false vs.toArray e1 (.ref kS)) P E s:=by
 have lv:=rv.length;have cellNe:∀ {pl:TD} {H':Hp} {s':Shared} {p:Addr × Obj},Inv X pl σ H' s'->p∈pl->∀ x c,X.env.cells.lookup x=some c->c≠p.1:=λ{pl H' s' p} J hp x c hc q=>by
  obtain⟨v,o,ho,hd⟩:=J.cell x c hc;obtain⟨g1,_,_,_,g5⟩:=J.pin p (YU _ hp);rw[q,g1] at ho
  cases ho;exact g5 _ hd
 unfold ksk_rest;refine YA (qU ?_)
 first
  | rw[List.forIn_toArray]
  | (rw[<-zm];simp only [List.toList_toArray])
  | rw[<-zm]
 refine YA (ksk_fold (λi s'=>∃ H' kA e,Inv X ((kS,seqObj "list" kA e)::(a,seqObj "list" #[] e1)::pins) σ H' s'/\R H'/\IntsAre kA.toList (kz.take i)) vs 0 s
  ⟨H,#[],0,I,hR,by simpa using IntsAre.nil⟩ ?step ?done)
 case step =>
  rintro j x s' hx ⟨H',kA,e,J,rH,hk⟩;simp only [Nat.zero_add] at hk ⊢;have hj:j<vs.length:=(YH.mp hx).1;obtain⟨k,hkj⟩:∃ k,kz[j]?=some k:=⟨_,XC (by omega)⟩;obtain⟨v,hvj⟩:∃ v,xs[j]?=some v:=⟨_,XC (by omega)⟩;obtain⟨u,hu,ru⟩:=rv.get hvj;rw[hx] at hu
  cases hu;have hz:kA.size<=vs.length:=by
   have h1:=hk.length;rw[qY,JC] at h1;omega
  refine YA (qT (qL (turn j v x k _ s' H' hvj hkj ru (λp hp=>YQ _ (YQ _ hp)) J rH) (λr s'' he=>?_) λ_ _ hF=>hF.elim));obtain⟨r',H2,J2,rr,rfl,R2⟩:=he;obtain⟨t2,rfl⟩:∃ t,r=.int k t:=rr
  try dsimp only
  obtain⟨k1,k2,k3,k4,k5⟩:=J2.pin (kS,seqObj "list" kA e) (YU _ (.head _));obtain⟨a1,a2,a3,a4,a5⟩:=J2.pin (a,seqObj "list" #[] e1) (YU _ (.tail _ (.head _)));have s1:=JD s''.heap kS (Obj.mapSeq (·.push (.int k t2)));obtain⟨c2,hc2⟩:∃ c2,(s''.heap.update kS (Obj.mapSeq (·.push (.int k t2)))).get? kS=some (seqObj "list" (kA.push (.int k t2)) c2):=⟨_,get?_update_seq k1 (·.push (.int k t2))⟩;have ek:kz.take (j+1)=kz.take j++[k]:=by rw[GK,hkj];simp
  have ea:(kA.push (Value.int k t2)).toList=kA.toList++[Value.int k t2]:=by simp
  refine YA (Y0s k1 rfl ?_ (by rw[qR];omega) (XD (Y1l (Array.size_push ..)) (by rw[qR];omega)));have J3:Inv X ((a,seqObj "list" #[] e1)::pins) σ H2 s'':=J2.pins_of λp hp=>J2.pin p (YU _ (.tail _ hp));have J4:Inv X ((a,seqObj "list" #[] e1)::pins) σ H2 { s'' with heap:=s''.heap.update kS (Obj.mapSeq (·.push (.int k t2))) }:=by
   refine J3.turned (t':=s''.toks) (it:=kS) (λb o hb e=>(s1.2 b hb).trans e) k2 k3 (.inr h0k) (λx c hc=>cellNe J2 (.head _) x c hc) λp hp=>?_;rcases XH.mp hp with hp | hp
   ·exact (hpk p (YJ _ hp)).1
   rcases YK.mp hp with rfl | hp
   ·exact λq=>hka q.symm
   exact (hpk p (YU _ hp)).1
  refine YI ⟨rfl,H2,kA.push (.int k t2),c2,J4.pins_of λp hp=>?_,R2,by rw[ea,ek];exact ksk_snoc hk⟩;rcases YK.mp hp with rfl | hp
  ·exact⟨hc2,k2,k3,k4,λv z=>nomatch z⟩
  exact J4.pin p (YU _ hp)
 case done =>
  rintro s' ⟨H',kA,e,J,rH,hk⟩;have hk':IntsAre kA.toList kz:=by
   have e3:kz.take (0+vs.length)=kz:=YV (by omega);rw[e3] at hk;exact hk
  obtain⟨k1,k2,k3,k4,k5⟩:=J.pin (kS,seqObj "list" kA e) (YU _ (.head _));obtain⟨a1,a2,a3,a4,a5⟩:=J.pin (a,seqObj "list" #[] e1) (YU _ (.tail _ (.head _)))
  try dsimp only
  refine YA (listItems_at k1 rfl ?_);refine Z5b (vs:=vs) k1 a1 hka hk' (by omega) (by omega) λh' out c hsame hout ho=>?_;obtain⟨ys,so,ry⟩:=Z0a rv ho;have lo:ys.length<=sizeLine:=by
   obtain⟨ps,p1,p2,_⟩:=so;have:=p1.length_eq;rw[List.length_zip] at this;rw[p2,YC,qR];omega
  refine h _ H' ys ?_ rH a2 so;have J3:Inv X pins σ H' s':=J.pins_of λp hp=>J.pin p (YU _ (.tail _ (.tail _ hp)));have nA:∀ b u,H' b=some u->b≠a/\b≠kS:=λb u q=>by
   have a2':H' a=none:=a2;have k2':H' kS=none:=k2;constructor
   ·intro z;rw[z,a2'] at q;cases q
   intro z;rw[z,k2'] at q;cases q
  refine J3.step (g':=s'.gens) (d':=s'.drawn) (t':=s'.toks) (ch:=[kS,a]) (λb hb=>?_) (λb o _ _ hc e _=>?_) (λb o _ _ hc e _=>?_) (λb o hc _ n=>?_) (λb o hc e=>?_) (λb xs e=>?_) (λb o u e=>?_) (λb ps e=>?_) (λm hm=>?_) (λb u e=>?_) J3.bare
  ·rcases YK.mp hb with rfl | hb
   ·exact⟨.inr h0k,k3,λx c hc=>cellNe J (.head _) x c hc,λp hp=>(hpk p hp).1⟩
   rw[XA.mp hb];exact⟨.inr h0a,a3,λx c hc=>cellNe J (.tail _ (.head _)) x c hc,λp hp=>(hpk p hp).2⟩
  ·exact (hsame b (λz=>hc (by simp[z])) (λz=>hc (by simp[z]))).trans e
  ·exact⟨o.slots,(hsame b (λz=>hc (by simp[z])) (λz=>hc (by simp[z]))).trans e⟩
  ·rw[Ze (λz=>hc (by simp[z]))];exact n
  ·exact⟨o,(hsame b (λz=>hc (by simp[z])) (λz=>hc (by simp[z]))).trans e⟩
  ·rw[Ze (nA b _ e).1];exact e
  ·rw[Ze (nA b _ e).1];exact e
  ·exact⟨#[],by rw[Ze (nA b _ e).1,e];simp⟩
  ·obtain⟨o,es,ep,ho,r⟩:=hm;exact⟨o,es,ep,(hsame _ (qi k3) (qi a3)).trans ho,r⟩
  by_cases hb:b=a
  ·subst hb;rw[Zb] at e
   cases e;exact⟨lo,out.toList,c,ry,by rw[hout,Array.toArray_toList]⟩
  rw[Ze hb] at e;refine (J3.hok b u e).stay (λc v hc q=>?_) (λc q=>?_) λc xs q=>?_
  ·have hh:c≠kS/\c≠a:=by
    rcases hc with z | z
    ·rw[z];exact⟨(nA b u e).2,hb⟩
    exact⟨(nA c _ z).2,(nA c _ z).1⟩
   exact (hsame c hh.1 hh.2).trans q
  ·rw[Ze (nA c _ q).1];exact q
  rw[Ze (nA c _ q).1];exact q
end
set_option maxRecDepth 100000
set_option maxHeartbeats 2000000
section
variable {X:Cx}{pins:TD}{σ:L2.St}{H:Hp}{s:Shared}{A:Around}{E:TC}{l f:Addr}{vs:TH}{xs:TZ}{kz:TV}{Q:TC}{R:Hp->Prop}
theorem Fv (I:Inv X pins σ H s)(hl:s.heap.IsList l vs.toArray)(rv:Vals xs vs)(hlen:kz.length=xs.length)(h64:xs.length<64)(hR:R H)
  (turn:∀ (i:Nat) (v:V) (u:Value) (k:Int) (pins':TD) (s':Shared) (H':Hp),xs[i]?=some v->kz[i]?=some k->RelV v u->(∀ p∈pins,p∈pins')->Inv X pins' σ H' s'->R H' →
   wpAny (model X.prog X.w) A.in1.in1 (call (.ref f) [u]) (EP X pins' σ (λr H''=>r=.int k/\R H'')) (λ_ _=>False) s')
  (h:∀ (a:Addr) (s':Shared) (H':Hp) (ys:TZ),Inv X pins σ (upd H' a (.lst ys)) s'->R H'->H' a=none->SOut kz xs ys->Q (.ref a) s') :
  wpAny (model X.prog X.w) A (call (.builtin "sorted") [.ref l] [(Str.ofString "key",.ref f)]) Q E s:=by
 have lv:=rv.length;refine call_function_entry_kw kind_sorted plain_sorted entry_sorted (ksk_s1 _ _) ?_;unfold Builtin.«sorted»;refine YA (m:=checkCount "sorted" 1 1 _) (YI ?_);refine YA (collect_list hl ?_ (by rw[qR];omega));refine YA (wpAny_newList ?_ (by rw[qR];omega));have hsz:((s.heap.push (seqObj "list" #[] 0)).update s.heap.objs.size (Obj.mapSeq (·++vs.toArray))).objs.size=s.heap.objs.size+1:=by
  rw[Heap.size_update,size_push']
 have hoL:(((s.heap.push (seqObj "list" #[] 0)).update s.heap.objs.size (Obj.mapSeq (·++vs.toArray))).push (seqObj "list" vs.toArray 0)).get? (s.heap.objs.size+1)=some (seqObj "list" vs.toArray 0):=by
  rw[<-hsz];exact YM _ rfl
 have keep:∀ b o,s.heap.get? b=some o->(((s.heap.push (seqObj "list" #[] 0)).update s.heap.objs.size (Obj.mapSeq (·++vs.toArray))).push (seqObj "list" vs.toArray 0)).get? b=some o:=λb o q=>by
  have hlt:b<s.heap.objs.size:=YL q;rw[Heap.get?_push_ne _ _ _ (by rw[hsz];exact XE (qQ hlt)),Heap.get?_update_ne _ _ _ _ (XE hlt),Heap.get?_push_ne _ _ _ (XE hlt)];exact q
 show wpAny _ _ _ _ _ { s with heap:=((s.heap.push (seqObj "list" #[] 0)).update s.heap.objs.size (Obj.mapSeq (·++vs.toArray))).push (seqObj "list" vs.toArray 0) };rw[hsz];refine YA (GB (wpAny_call_entry_kw slot_list_sort ⟨_,hoL,rfl⟩ entry_list_sort ?body (ksk_l1 _ _)))
 case body =>
  show wpAny (model X.prog X.w) A.in1.in1 (Builtin.«list.sort» ⟨[.ref (s.heap.objs.size+1)],[(Str.ofString "key",.ref f)]⟩) _ _ _;rw[ksk_t1];have I1:Inv X pins σ H { s with heap:=((s.heap.push (seqObj "list" #[] 0)).update s.heap.objs.size (Obj.mapSeq (·++vs.toArray))).push (seqObj "list" vs.toArray 0) }:=I.kept (t':=s.toks) keep;have hs2:(((s.heap.push (seqObj "list" #[] 0)).update s.heap.objs.size (Obj.mapSeq (·++vs.toArray))).push (seqObj "list" vs.toArray 0)).objs.size=s.heap.objs.size+2:=by rw[size_push',hsz]
  generalize hg:((s.heap.push (seqObj "list" #[] 0)).update s.heap.objs.size (Obj.mapSeq (·++vs.toArray))).push (seqObj "list" vs.toArray 0)=g at hoL keep I1 hs2;have s1:=JD g (s.heap.objs.size+1) (Obj.mapSeq λ_=>(#[]:Array Value));obtain⟨e1,ho1⟩:∃ e1,(g.update (s.heap.objs.size+1) (Obj.mapSeq λ_=>(#[]:Array Value))).get? (s.heap.objs.size+1)=some (seqObj "list" #[] e1):=⟨_,get?_update_seq hoL λ_=>#[]⟩;unfold ksk_tree;refine YA (listItems_at hoL rfl ?_);refine YA (Y0s hoL rfl ?_ (by rw[YN,qR];omega) (JO _));refine YA (seqEpoch_at ho1 rfl ?_);refine YA (wpAny_newTuple ?_ (by show vs.length<=_;rw[qR];omega));refine YA (wpAny_newList ?_ (JO _));refine GB ?_;have hkS:((g.update (s.heap.objs.size+1) (Obj.mapSeq λ_=>(#[]:Array Value))).push (seqObj "tuple" vs.toArray 0)).objs.size=s.heap.objs.size+3:=by rw[size_push',Heap.size_update,hs2]
  have keep2:∀ b o,s.heap.get? b=some o->(((g.update (s.heap.objs.size+1) (Obj.mapSeq λ_=>(#[]:Array Value))).push (seqObj "tuple" vs.toArray 0)).push (seqObj "list" #[] 0)).get? b=some o:=λb o q =>
   YB _ (YB _ ((s1.2 b (XE (qQ (YL q)))).trans (keep b o q)))
  have I2:Inv X pins σ H { s with heap:=((g.update (s.heap.objs.size+1) (Obj.mapSeq λ_=>(#[]:Array Value))).push (seqObj "tuple" vs.toArray 0)).push (seqObj "list" #[] 0) }:=I.kept (t':=s.toks) keep2;have hk0:(((g.update (s.heap.objs.size+1) (Obj.mapSeq λ_=>(#[]:Array Value))).push (seqObj "tuple" vs.toArray 0)).push (seqObj "list" #[] 0)).get? (s.heap.objs.size+3)=some (seqObj "list" #[] 0):=by
   rw[<-hkS];exact YM _ rfl
  have ha0:(((g.update (s.heap.objs.size+1) (Obj.mapSeq λ_=>(#[]:Array Value))).push (seqObj "tuple" vs.toArray 0)).push (seqObj "list" #[] 0)).get? (s.heap.objs.size+1)=some (seqObj "list" #[] e1) :=
   YB _ (YB _ ho1)
  have hLl:=I.lt;have hz0:=I.sz;have hnew:∀ d:Nat,H (s.heap.objs.size+d)=none:=λd=>I.hok.fresh (XT _ _);refine Z38 (s:={ s with heap:=((g.update (s.heap.objs.size+1) (Obj.mapSeq λ_=>(#[]:Array Value))).push (seqObj "tuple" vs.toArray 0)).push (seqObj "list" #[] 0) }) (a:=s.heap.objs.size+1) (kS:=((g.update (s.heap.objs.size+1) (Obj.mapSeq λ_=>(#[]:Array Value))).push (seqObj "tuple" vs.toArray 0)).objs.size) (R:=R) (H:=H) (pins:=pins) (σ:=σ)
   ?_ (by rw[hkS];exact JW (Nat.add_lt_add_left (by decide) _)) (by rw[hkS];exact XD hz0 (XT _ _)) (XD hz0 (XT _ _)) (λp hp=>?_) rv hlen h64 hR turn λs' H' ys J r n o=>⟨_,rfl,YI ⟨_,rfl,h _ s' H' ys J r n o⟩⟩
  ·rw[hkS];refine I2.pins_of λp hp=>?_;rcases YK.mp hp with rfl | hp
   ·exact⟨hk0,hnew 3,JW (YT hLl (XT _ _)),I.nofs (XT _ _),λv z=>nomatch z⟩
   rcases YK.mp hp with rfl | hp
   ·exact⟨ha0,hnew 1,JW (YT hLl (XT _ _)),I.nofs (XT _ _),λv z=>nomatch z⟩
   exact I2.pin p (YU _ hp)
  have hlt:=YL (I.pin p hp).1;rw[hkS];exact⟨XE (YT hlt (XT _ _)),XE (YT hlt (XT _ _))⟩
end
set_option maxRecDepth 100000
set_option maxHeartbeats 2000000
def BltIn (mg:TB)(base:Heap):Prop:=∃ bm ob,mg "__builtins__"=some (.ref bm)/\bm≠builtinsNs/\base.get? bm=some ob/\ob.cls=.type "module"/\ob.dict=some builtinsNs/\ob.data=.plain
section
variable {X:Cx}{pins:TD}{σ:L2.St}{H:Hp}{s:Shared}{A:Around}{E:TC}{Q:TC}
def codeO (c:Addr)(q:Str):HO:=.ext λh=>h.CodeRec (.ref c) q
inductive TabAt (H:Hp) (P:Addr) (lp:Pos) (q:Str):Prop
 | fresh (h:H P=some (.tbl #[]))
 | made (c:Addr) (h:H P=some (.tbl #[rawInt lp.line,rawInt lp.col,.ref c])) (hc:H c=some (codeO c q))
theorem TabAt.tbl {H:Hp}{P:Addr}{lp:Pos}{q:Str}(t:TabAt H P lp q):∃ ps,H P=some (.tbl ps):=by
 cases t with
 | fresh h=>exact⟨_,h⟩
 | made c h hc=>exact⟨_,h⟩
theorem TabAt.same {H H':Hp}{P:Addr}{lp:Pos}{q:Str}(t:TabAt H P lp q)(S:∀ b o,H b=some o->H' b=some o):TabAt H' P lp q:=by
 cases t with
 | fresh h=>exact .fresh (S _ _ h)
 | made c h hc=>exact .made c (S _ _ h) (S _ _ hc)
theorem Inv.grown {P c':Addr}{ps more:Array Value}{φ:Heap->Prop}{t':Nat}(I:L2.Inv X pins σ H s)(hP:H P=some (.tbl ps))(hc:s.heap.objs.size<=c')(k:∀ b o,b≠P->s.heap.get? b=some o->h'.get? b=some o)(hn:h'.get? P=some { cls:=.none,data:=.fields (ps++more) })
  (p1:φ h') (p2:∃ o,h'.get? c'=some o) (p3:∀ h1 h2:Heap,φ h1->(∀ o,h1.get? c'=some o->h2.get? c'=some o)->φ h2) :
  L2.Inv X pins σ (upd (upd H P (.tbl (ps++more))) c' (.ext φ)) { s with heap:=h',toks:=t' }:=by
 have hf:H c'=none:=I.hok.fresh hc;have ne0:∀ b,H b=none->b≠P:=λb n z=>by rw[z,hP] at n;cases n
 have neT:∀ b u,H b=some u->(∀ q,u≠.tbl q)->b≠P:=λb u e n z=>by rw[z,hP] at e;cases e;exact n _ rfl
 have neC:∀ b u,H b=some u->b≠c':=λb u e z=>by rw[z,hf] at e;cases e
 have neS:∀ b o,s.heap.get? b=some o->b≠c':=λb o e=>XE (YT (YL e) hc);refine I.step (g':=s.gens) (d':=s.drawn) (ch:=[]) (λb z=>nomatch z) (λb o _ _ _ e n=>k b o (ne0 b n) e) (λb o _ _ _ e n=>⟨o.slots,k b o (ne0 b n) e⟩) (λb o _ e n=>by rw[Ze (neS b o e),Ze (ne0 b n)];exact n)
  (λb o _ e=>?_) (λb xs e=>by rw[Ze (neC b _ e),Ze (neT b _ e λq z=>nomatch z)];exact e) (λb o u e=>by rw[Ze (neC b _ e),Ze (neT b _ e λq z=>nomatch z)];exact e) (λb qs e=>?_) (λm hm=>?_) (λb u e=>?_) I.bare
 ·by_cases hb:b=P
  ·exact⟨_,hb ▸ hn⟩
  exact⟨o,k b o hb e⟩
 ·by_cases hb:b=P
  ·subst hb;have:=neC b _ e;rw[hP] at e
   cases e;exact⟨more,by rw[Ze this];exact Zb⟩
  exact⟨#[],by rw[Ze (neC b _ e),Ze hb,e];simp⟩
 ·obtain⟨o,es,ep,ho,r⟩:=hm;exact⟨o,es,ep,k _ o (ne0 _ I.free) ho,r⟩
 by_cases hb':b=c'
 ·subst hb';rw[Zb] at e
  cases e;exact⟨p1,p2,p3⟩
 rw[Ze hb'] at e;by_cases hb:b=P
 ·subst hb;rw[Zb] at e
  cases e;exact hn
 rw[Ze hb] at e;refine (I.hok b u e).stay (λc v hc q=>k c v ?_ q) (λc q=>?_) λc xs q=>?_
 ·rcases hc with z | z
  ·rw[z];exact hb
  exact neT c _ z λq z=>nomatch z
 ·rw[Ze (neC c _ q),Ze (neT c _ q λq z=>nomatch z)];exact q
 rw[Ze (neC c _ q),Ze (neT c _ q λq z=>nomatch z)];exact q
theorem Z57 {params:Arguments}{body:Expr}{scope:Scope}{pos:Pos}{cc P:Addr}{cl:List (Str × Addr)}(I:L2.Inv X pins σ H s)(hdef:defaultsOf params X.env=([],[]))(hcl:closureFor scope X.env=pure cl)
  (hcode:X.env.code=.ref cc) (C:W.CodeHd X.base cc P) (hT:TabAt H P pos (X.env.qual++"<lambda>")) (hb:BltIn X.mg X.base)
  (h:∀ f c' ctv H' s',L2.Inv X ((f,W.kla_obj "<lambda>" (X.env.qual++"<lambda>") params body scope cl ((X.mg "__name__").getD .none) c' ctv)::pins) σ H' s'->SameX P H H'->H' P=some (.tbl #[rawInt pos.line,rawInt pos.col,.ref c'])->H' c'=some (codeO c' (X.env.qual++"<lambda>"))->Q (.ref f) s') :
  wpAny (model X.prog X.w) A (eval (.Lambda params body scope pos) X.env) Q E s:=by
 obtain⟨ps0,hP0⟩:=hT.tbl;have hg:s.heap.Ns mainGlobals X.mg:=I.mod.glob.keeps I.bk;have hgP:mainGlobals≠P:=λq=>by
  obtain⟨o,es,ep,e,hd,_⟩:=I.mod.glob;have:=(I.bs _ _ e).2;rw[q,hP0] at this;cases this
 obtain⟨bm,ob,b1,b2,b3,b4,b5,b6⟩:=hb;have hbP:bm≠P:=λq=>by
  have:=(I.bs _ _ b3).2;rw[q,hP0] at this;cases this
 have hbG:bm≠mainGlobals:=λq=>by
  obtain⟨o,es,ep,e,hd,_⟩:=I.mod.glob;rw[q,e] at b3;cases b3;rw[hd] at b6;cases b6
 cases hT with
 | fresh hP =>
  have hPs:s.heap.get? P=some (W.tabObj #[]):=I.hok P _ hP;have hPlt:P<s.heap.objs.size:=YL hPs;refine W.kla_eval hdef (W.kla_makeFunction (mg:=X.mg) hcl I.ok.glob hg hcode (C.keeps I.bk) hPs trivial rfl hgP ⟨bm,ob,b1,b2,hbG,hbP,I.bk _ _ b3,b4,b5,b6⟩ λc' ctv h' tk hx hge hlt hrec htb=>?_);have hsz:s.heap.objs.size<=h'.objs.size:=XD hge (jy hlt);have I1:=Inv.grown (t':=tk) (c':=c') (φ:=λh=>h.CodeRec (.ref c') (X.env.qual++"<lambda>")) (h':=h'.push (W.kla_obj "<lambda>" (X.env.qual++"<lambda>") params body scope cl ((X.mg "__name__").getD .none) c' ctv)) (more:=#[rawInt pos.line,rawInt pos.col,.ref c']) I hP hge (λb o hb e=>YB _ (hx b o hb e)) (YB _ htb) (hrec.push _)
   (by obtain⟨c₂,oc,vs,t,e2,hoc,_⟩:=hrec;cases e2;exact⟨oc,YB _ hoc⟩) λh1 h2 ⟨c₂,oc,vs,t,e2,hoc,r⟩ k=>by cases e2;exact⟨c',oc,vs,t,rfl,k _ hoc,r⟩
  have hPc:P≠c':=XE (YT hPlt hge);have fr:∀ b,s.heap.objs.size<=b->b≠c'->upd (upd H P (.tbl (#[]++#[rawInt pos.line,rawInt pos.col,.ref c']))) c' (codeO c' (X.env.qual++"<lambda>")) b=none:=λb hb hbc=>by
   rw[Ze hbc,Ze (JW (YT hPlt hb))];exact I.hok.fresh hb
  refine h h'.objs.size c' ctv _ _ (I1.pins_of λp hp=>?_) (λb o e n=>?_) (by rw[Ze hPc];exact Zb) Zb
  ·rcases YK.mp hp with rfl | hp
   ·exact⟨YM _ rfl,fr _ hsz (JW hlt),JW (YT I.lt hsz),I.nofs hsz,λv z=>nomatch z⟩
   exact I1.pin p (YU _ hp)
  have hbc:b≠c':=λz=>by rw[z,I.hok.fresh hge] at e;cases e
  rw[Ze hbc,Ze n];exact e
 | made c' hP hc =>
  have hPs:s.heap.get? P=some (W.tabObj #[rawInt pos.line,rawInt pos.col,.ref c']):=I.hok P _ hP;refine W.kla_eval hdef (W.kla_makeFunctionHit (mg:=X.mg) hcl I.ok.glob hg hcode (C.keeps I.bk) hPs trivial (cv:=.ref c') (by exact codeAmong_snoc (pos:=pos) (c:=.ref c') [] trivial rfl) ⟨bm,ob,b1,b2,hbG,hbP,I.bk _ _ b3,b4,b5,b6⟩ λctv h' tk hk hsz=>?_);have I1:L2.Inv X pins σ H { s with heap:=h'.push (W.kla_obj "<lambda>" (X.env.qual++"<lambda>") params body scope cl ((X.mg "__name__").getD .none) c' ctv),toks:=tk }:=I.kept (t':=tk) λb o e=>YB _ (hk b o e);refine h h'.objs.size c' ctv _ _ (I1.pins_of λp hp=>?_) (λb o e n=>e) hP hc;rcases YK.mp hp with rfl | hp
  ·exact⟨YM _ rfl,I.hok.fresh hsz,JW (YT I.lt hsz),I.nofs hsz,λv z=>nomatch z⟩
  exact I1.pin p (YU _ hp)
end
set_option maxRecDepth 100000
set_option maxHeartbeats 2000000
inductive tSortL_i (K:TR) (tb:TE) (P:Addr) (lp:Pos) (q:Str) (iy:Nat) (σ:L2.St) (Q:VK) (v:V) (H1:Hp):Prop
 | i (l:Addr) (xs:TZ) (kz:TV) (vy:V) (z0:v=.ref l) (z1:H1 l=some (.lst xs)) (z2:kz.length=xs.length) (z3:xs.length<64) (z4:σ[iy]?=some (some vy)) (z5:TabAt H1 P lp q)
  (z9:∀ (i:Nat) (x:V) (k:Int) (H':Hp),xs[i]?=some x->kz[i]?=some k->SameX P H1 H'->tb [some x,some vy] H' (λr H''=>r=.int k/\Same H' H''))
  (za:∀ (a:Addr) (H':Hp) (ys:TZ),SameX P H1 H'->TabAt H' P lp q->H' a=none->SOut kz xs ys->Q (.ref a) (upd H' a (.lst ys)))
def tSortL (K:TR)(te tb:TE)(P:Addr)(lp:Pos)(q:Str)(iy:Nat):TE:=λσ H Q=>te σ H (tSortL_i K tb P lp q iy σ Q)
theorem C8 {X:Cx}{x y:Str}{params:Arguments}{body e:Expr}{scope:Scope}{p pos lp kp:Pos}{te tb:TE}{k iy:Nat}{c cc P:Addr}(S:LamScope x y scope)(hr:Room (k+3) X.A)(hg:Gl X "sorted")(hm:X.mg "sorted"=none)(he:PE X e te)
  (hdef:defaultsOf params X.env=([],[])) (hcl:closureFor scope X.env=pure [(y,c)]) (hcy:X.env.cells.lookup y=some c) (hky:X.env.kindOf y=some .cell) (hiy:X.N[iy]?=some y) (hcode:X.env.code=.ref cc) (C:W.CodeHd X.base cc P) (hb:BltIn X.mg X.base) (hc:X.calm=true)
  (hbind:∀ (c c':Addr) (pm ctv u:Value),bindArgs (W.kla_fn "<lambda>" (X.env.qual++"<lambda>") params body scope [(y,c)] pm (.ref c') ctv) ⟨[u],[]⟩=pure [(x,u)])
  (hbody:∀ (A:Around) (outer:TN) (s:Shared) (H:Hp) (f c':Addr),Room k (A.deeper (W.envX (X.env.qual++"<lambda>") scope s.heap.objs.size f (.ref c') [(x,s.heap.objs.size+1),(y,c)])) →
   PE (cxLam X.prog X.w X.K X.mg X.base x y (X.env.qual++"<lambda>") scope f (.ref c') c A outer s H) body tb)
  (hs:starEach [e] X.env=(false,eval e X.env)::starEach [] X.env:=by rfl) (hbk:backTo pos (starEach [e] X.env)=(false,eval e X.env)::backTo pos (starEach [] X.env):=by rfl) (hpl:(backTo pos (starEach [e] X.env)).any (·.1)=false:=by rfl) :
  PE X (.Call (.Name "sorted" p) [e] [⟨some "key",.Lambda params body scope lp,kp⟩] pos) (tSortL X.K te tb P lp (X.env.qual++"<lambda>") iy):=by
 intro pins s σ H Q I h;have rm:Room (k+1) X.A.in1.in1:=(Room.in1 (k:=k+2) hr).in1;refine zK (Wq I hg hm (u:=.builtin "sorted") (by decide +kernel) ?_ (by decide) (by decide));refine PyProof.Rows.callWith_kw ?_ hbk hpl rfl rfl;have ha:PA X [e] (tCons te tNil):=Z0 he Z7 hs;refine thn (ha pos pins s σ H (λvs H1=>∃ v,vs=[v]/\tSortL_i X.K tb P lp (X.env.qual++"<lambda>") iy σ Q v H1) I ?_) λus s1 ⟨vs,H1,I1,r1,v,ev,q1⟩=>?_
 ·exact (by
   have h':te σ H (tSortL_i X.K tb P lp (X.env.qual++"<lambda>") iy σ Q):=h;show te σ H _;have:(tSortL_i X.K tb P lp (X.env.qual++"<lambda>") iy σ Q)=(λx H1=>tNil σ H1 λxs H2=>∃ v,x::xs=[v]/\tSortL_i X.K tb P lp (X.env.qual++"<lambda>") iy σ Q v H2):=by
    funext x H1
    refine propext ⟨λz=>⟨x,rfl,z⟩,?_⟩;rintro ⟨v,e1,z⟩
    cases e1;exact z
   rw[this] at h';exact h')
 subst ev;obtain⟨u,rfl,ru⟩:=Wz r1;obtain⟨l,xs,kz,vy,rfl,z1,z2,z3,z4,z5,z9,za⟩:=q1;obtain rfl:u=.ref l:=ru;refine PyProof.Rows.kws_cons (thn (Q:=λv s₂=>wpAny (model X.prog X.w) X.A (call (.builtin "sorted") [.ref l] [(Str.ofString "key",v)]) (EP X pins σ Q) X.xe s₂) (Z57 I1 hdef hcl hcode C z5 hb λf c' ctv H2 s' I2 S2 hP2 hc2=>?_) λv s₂ h₂=>PyProof.Rows.kws_nil h₂);have hlP:l≠P:=λz=>by
  obtain⟨ps,e⟩:=z5.tbl;rw[z,e] at z1;cases z1
 obtain⟨its,rv,pl,_⟩:=I2.list (SqL.of (S2 _ _ z1 hlP));refine Fv I2 pl.isList rv z2 z3 (R:=λH'=>Same H2 H') (Same.refl _) (λi xv xu kk pins' s'' H' e1 e2 e3 hsub J rH=>?_) λa s'' H' ys J rH n so=>⟨.ref a,_,J.pins_of λp hp=>J.pin p (YU _ (.tail _ hp)),rfl,za a H' ys (S2.trans (SameX.of rH)) (.made c' (rH _ _ hP2) (rH _ _ hc2)) n so⟩;obtain⟨f1,f2,f3,f4,f5⟩:=J.pin _ (YU _ (hsub _ (.head _)));have g1:s''.heap.CodeRec (.ref c') (X.env.qual++"<lambda>"):=(J.hok c' _ (rH _ _ hc2)).1;obtain⟨m,hn,hl⟩:=J.loc;obtain⟨uy,ry,lk⟩:=hl iy y vy hiy z4 (.inr (.inl hky));have hcell:s''.heap.IsCell c (some uy):=by
  rcases lk with ⟨k1,_⟩ | ⟨_,c2,k2,k3⟩
  ·have k1':X.env.kindOf y=some .local:=k1;rw[hky] at k1';cases k1'
  rw[hcy] at k2;cases k2;exact k3
 refine wpAny_call (Y0E (Bk (k:=k) (vx:=xv) (Q:=λr H''=>r=.int kk/\Same H' H'') S rm (J.env0 hc).in1.in1 f1 g1 (hbind _ _ _ _ _) hcell (J.freeC y c hcy) e3 ry ⟨tb,hbody _ _ _ _ _ _ (rm.deeper _),z9 i xv kk H' e1 e2 (S2.trans (SameX.of rH))⟩) λr s3 hq=>?_)
 cases r with
 | error e=>exact hq
 | ok fl =>
  cases fl with
  | ret u =>
   obtain⟨v3,H3,J3,r3,q3,S3⟩:=J.after hq;exact⟨v3,H3,J3,r3,q3,rH.trans S3⟩
  | next=>exact False.elim hq
  | brk=>exact False.elim hq
  | cont=>exact False.elim hq
set_option maxRecDepth 100000
set_option maxHeartbeats 2000000
def OnlyT (P:Addr)(H:Hp):Prop:=H P=some (.tbl #[])/\∀ b,b≠P->H b=none \/ ∃ o xs,H b=some (.frz o (.lst xs))
theorem Gx {P:TU}{w:World}{K:TR}{mg mb:TB}{CX:CXT}{k:Nat}{fa a T cc:Addr}{fd:FuncData}{x:Str}{sp:Sp}{s₁:Shared}{vs:TH}{ns:TV}
  (KX:K.In s₁.heap) (hns:s₁.heap.Ns mainGlobals mg) (hb:s₁.heap.Ns builtinsNs mb) (hbb:∀ x:Str,x≠"__name__"->mb x=bootBuiltins x) (hlim:s₁.heap.NoLimit) (hsee:s₁.heap.NoSeer) (htree:P.given.tree=none) (hg:s₁.gens=#[])
  (hbm:BltIn mg s₁.heap) (hT:s₁.heap.get? T=some (W.tabObj #[])) (hTK:K.lookup T=none) (hcc:W.codeHdIn K cc T=true)
  (ha:s₁.heap.get? a=some { cls:=.type "list",data:=.seq vs.toArray }) (hi:IntsAre vs ns) (hl:ns.length<=sizeLine) {sr:Bool} (hr:Room k callerA sr)
  (F:∀ base:Heap,K.In base->base.Ns mainGlobals mg->BltIn mg base->FnOk P w K mg base CX k fa fd [x] sp sr) (hbind:∀ (s:Shared) (u:Value),BindsTo s fd ⟨[u],[]⟩ [(x,u)])
  (hsp:∀ H:Hp,OnlyT T H->SqL K H a (ns.map V.int)->sp [.ref a] H (λv _=>v=.bl true) λ_ _ _=>False)
  (hCX:∀ H e s',CX [] H s₁ (λ_ _ _=>False) e s'->False) :
  codeAny (model P w) callerA (.call (.ref fa) ⟨[.ref a],[]⟩) (λr s'=>r=.ok (.ret (.bool true))/\OldK s₁.heap s'.heap/\s'.os=s₁.os/\AllBare s'.gens) s₁:=by
 have rv:=Q5 hi;have lenV:=hi.length;have aT:a≠T:=λz=>by rw[z,hT] at ha;cases ha
 have core:∀ H:Hp,OnlyT T H->SqL K H a (ns.map V.int)->HOk P w H s₁.heap->(∀ b,H b≠none->b=a \/ b=T)->(H a≠none->K.lookup a=none) →
   codeAny (model P w) callerA (.call (.ref fa) ⟨[.ref a],[]⟩) (λr s'=>r=.ok (.ret (.bool true))/\OldK s₁.heap s'.heap/\s'.os=s₁.os/\AllBare s'.gens) s₁:=by
  intro H hO hS hok hA hK;have base_of:∀ {b:Addr} {o:Obj},s₁.heap.get? b=some o->H b=none->(hidT s₁.heap H).get? b=some o:=λe n=>Bo e n;have noB:∀ {b:Addr} {o:Obj},s₁.heap.get? b=some o->(∀ xs n,o.data≠.seq xs n)->(∀ ps,o.data≠.fields ps)->H b=none:=λ{b o} e d1 d2=>by
   cases q:H b with
   | none=>rfl
   | some u =>
    rcases hA b (by rw[q];simp) with e' | e'
    ·subst e';rw[ha] at e;cases e;exact absurd rfl (d1 _ _)
    subst e';rw[hT] at e;cases e;exact absurd rfl (d2 _)
  have noM:∀ {b:Addr} {o:Obj},s₁.heap.get? b=some o->o.cls=.type "module"->H b=none:=λ{b o} e d=>by
   cases q:H b with
   | none=>rfl
   | some u =>
    rcases hA b (by rw[q];simp) with e' | e'
    ·subst e';rw[ha] at e
     cases e;injection d with z
     exact absurd z (by decide)
    subst e';rw[hT] at e
    cases e
    cases d
  have nsK:∀ {b:Addr} {m:TB},s₁.heap.Ns b m->(hidT s₁.heap H).Ns b m:=λ{b m} ⟨o,es,ep,e,d,r⟩=>⟨o,es,ep,base_of e (noB e (λxs n z=>by rw[d] at z;cases z) λps z=>by rw[d] at z;cases z),d,r⟩;have hKb:K.In (hidT s₁.heap H):=λb o e=>base_of (KX b o e) (by
   cases q:H b with
   | none=>rfl
   | some u =>
    rcases hA b (by rw[q];simp) with e' | e'
    ·subst e';rw[hK (by rw[q];simp)] at e;cases e
    subst e';rw[hTK] at e;cases e)
  have hB:BltIn mg (hidT s₁.heap H):=by
   obtain⟨bm,ob,b1,b2,b3,b4,b5,b6⟩:=hbm;exact⟨bm,ob,b1,b2,base_of b3 (noB b3 (λxs n z=>by rw[b6] at z;cases z) λps z=>by rw[b6] at z;cases z),b4,b5,b6⟩
  have hM:Mod K mg (hidT s₁.heap H):=⟨hKb,nsK hns,⟨mb,nsK hb,hbb⟩,let ⟨mc,h1,h2⟩:=hlim;⟨mc,nsK h1,h2⟩,⟨let ⟨mc,a1,a2⟩:=hsee.statics;⟨mc,nsK a1,a2⟩,let ⟨mc,a1,a2⟩:=hsee.mods;⟨mc,nsK a1,a2⟩,let ⟨mc,a1,a2⟩:=hsee.imp;⟨mc,nsK a1,a2⟩,let ⟨mg',bm,ob,a1,a2,a3,a4,a5⟩:=hsee.main;⟨mg',bm,ob,nsK a1,a2,base_of a3 (noM a3 a4),a4,a5⟩⟩⟩;have e0:Env0 P w K mg (hidT s₁.heap H) callerA [] s₁ H:=⟨rfl,hM,λb o e=>Z1t e,Y1l (F3 _ _),trivial,λb hb=>absurd (show b∈([]:TJ) from hb) (by simp),hok,.of_eq hg,.inl rfl,htree⟩;refine Y0E ((F _ hKb (nsK hns) hB).run callerA [] s₁ H ⟨[.ref a],[]⟩ [.ref a] [.ref a] _ _ hr e0 (hbind s₁ (.ref a)) (.cons rfl .nil) (hsp H hO hS)) λr s' h=>?_
  cases r with
  | error e=>exact (hCX H e s' h).elim
  | ok fl =>
   cases fl with
   | next=>exact False.elim h
   | brk=>exact False.elim h
   | cont=>exact False.elim h
   | ret u =>
    obtain⟨v,H',os,bare,un,hok',r',q⟩:=h;have q':v=.bl true:=q;subst q';obtain rfl:u=Value.bool true:=r';have tabE:∃ more,s'.heap.get? T=some { cls:=.none,data:=.fields (#[]++more) }:=by
     obtain⟨more,e⟩:=un.tbls T #[] hO.1;exact⟨more,hok' T _ e⟩
    refine⟨rfl,⟨λb o e=>?_,λb o e=>un.there b o e (by simp)⟩,os,bare⟩;by_cases hbT:b=T
    ·subst hbT;rw[hT] at e
     cases e;obtain⟨more,e2⟩:=tabE;exact .inr (.inl ⟨((W.codeHd_of_K KX hcc).tab hT).isCodeTable,rfl,#[],more,rfl,e2⟩)
    refine .inl ?_
    cases q:H b with
    | none=>exact un.keep b o e q (by intro z;exact absurd (show b∈([]:TJ) from z) (by simp)) (by simp)
    | some u =>
     rcases hO.2 b hbT with z | ⟨ob,xs,z⟩
     ·rw[q] at z;cases z
     have z2:=un.frzs b ob _ z;obtain⟨e1,_⟩:=hok b _ z;obtain⟨e2,_⟩:=hok' b _ z2;rw[e] at e1;cases e1;exact e2
 cases hk:K.lookup a with
 | some o =>
  have e:=KX a o hk;rw[ha] at e
  cases e;refine core (upd (λ_=>none) T (.tbl #[])) ⟨Zb,λb hb=>.inl (by rw[Ze hb])⟩ (.inr ⟨_,vs.toArray,_,hk,rfl,rfl,rfl,by rw[YN,lenV];exact hl,by simpa using rv⟩) (λb u z=>?_) (λb z=>?_) λz=>absurd (by rw[Ze aT]) z
  ·by_cases hb:b=T
   ·subst hb;rw[Zb] at z;cases z;exact hT
   rw[Ze hb] at z;cases z
  by_cases hb:b=T
  ·exact .inr hb
  exact absurd (by rw[Ze hb]) z
 | none =>
  have hHa:upd (λb=>if b=a then some (.frz { cls:=.type "list",data:=.seq vs.toArray } (.lst (ns.map V.int))) else none) T (.tbl #[]) a=some (.frz { cls:=.type "list",data:=.seq vs.toArray } (.lst (ns.map V.int))):=by rw[Ze aT,XF rfl]
  refine core (upd (λb=>if b=a then some (.frz { cls:=.type "list",data:=.seq vs.toArray } (.lst (ns.map V.int))) else none) T (.tbl #[])) ⟨Zb,λb hbT=>?_⟩ (.inl (.inr ⟨{ cls:=.type "list",data:=.seq vs.toArray },hHa⟩)) (λb u z=>?_) (λb z=>?_) λ_=>hk
  ·rw[Ze hbT];by_cases hb:b=a
   ·exact .inr ⟨_,_,XF hb⟩
   exact .inl (XB hb)
  ·by_cases hbT:b=T
   ·subst hbT;rw[Zb] at z;cases z;exact hT
   rw[Ze hbT] at z;by_cases hb:b=a
   ·have z':=(XF hb).symm.trans z
    cases z';subst hb;exact⟨ha,by rw[YC];exact hl,vs,_,rv,ha⟩
   have z':=(XB hb).symm.trans z
   cases z'
  by_cases hbT:b=T
  ·exact .inr hbT
  rw[Ze hbT] at z;by_cases hb:b=a
  ·exact .inl hb
  exact absurd (XB hb) z
theorem Fp {l:W.OpenLaw}{n k:Nat}{q:TU}{loose:TF}{XP:(Str->Option Value)->Heap->Prop}{YP:World->Heap->Prop}{d:DefRec}{K:Params->W.Frag}{CX:World->CXT}{sp:World->Sp}{x:Str}
  (hn:l.most=some n) (hn2:n<=sizeLine) (hq:PyProof.Rows.importsNone q=true) (htr:l.prog.given.tree=none) (hdf:d.params.defaults=[]) {sr:Bool} (hr:Room k callerA sr)
  (hY:∀ (w:World) (h:Heap),YP w h->(K w.params).In h/\h.get? T=some (W.tabObj #[])) (hTK:∀ w:World,(K w.params).lookup T=none) (hcc:∀ w:World,∃ cc,W.codeHdIn (K w.params) cc T=true)
  (F:∀ (w:World) (mg:TB) (fa:Addr) (h:Heap),(K w.params).In h->h.Ns mainGlobals mg->mg d.name=some (.ref fa) →
   ∃ fd:FuncData,(∀ (s:Shared) (u:Value),BindsTo s fd ⟨[u],[]⟩ [(x,u)]) ∧
    ∀ base:Heap,(K w.params).In base->base.Ns mainGlobals mg->BltIn mg base->FnOk l.prog w (K w.params) mg base (CX w) k fa fd [x] (sp w) sr)
  (hsp:∀ (w:World) (H:Hp) (a:Addr) (ns:TV),ns.length<=n->OnlyT T H->SqL (K w.params) H a (ns.map V.int)->sp w [.ref a] H (λv _=>v=.bl true) λ_ _ _=>False)
  (hCX:∀ (w:World) (H:Hp) (s:Shared) (e:Value) (s':Shared),CX w [] H s (λ_ _ _=>False) e s'->False) :
  W.WalkO q loose XP YP l.row.toRowW d [] (λf vs=>PySem.call f vs):=by
 refine Att.attach_call hn hdf λw s₀ s₁ mg mb fa o pm cd doc a vs ns G Y ho hd hcd hmg hobj hints hlen hg=>?_;obtain⟨KX,hT⟩:=hY w _ Y;obtain⟨cc,hc1⟩:=hcc w;obtain⟨fd,hb,hF⟩:=F w mg fa _ KX G.T.g hmg;exact Gx KX G.T.g G.T.b G.T.builtins G.T.nolimit (G.T.seer hq) htr hg G.T.bmain hT (hTK w) hc1 hobj hints (XD hlen hn2) hr hF hb (λH hO hS=>hsp w H a ns hlen hO hS) λH e s'=>hCX w H s₁ e s'
end Sb
namespace Sb
open PySem PySem.Spec PyProof.Rows L2
open PySem.Sem (wp)
section
variable {prog:TU}{w:World}
def RowItems (prog:TU)(w:World)(h:Heap):List (List Int)->List Value->Prop:=Paired λk v=>∃ b,v=.ref b/\IsTupleKey (intKind prog w) h k b
def IsRowKey (prog:TU)(w:World)(h:Heap)(ks:List (List Int))(a:Addr):Prop:=∃ o items n,h.get? a=some o/\o.cls=.type "tuple"/\o.data=.seq items n/\RowItems prog w h ks items.toList
theorem IsRowKey.typeIs {s:Shared}{ks:List (List Int)}{a:Addr}(x:IsRowKey prog w s.heap ks a):s.TypeIs (.ref a) "tuple":=let ⟨o,_,_,ho,hc,_⟩:=x;⟨o,ho,hc⟩
theorem RowItems.inj {h:Heap}:∀ {x y:List (List Int)} {vs:TH},RowItems prog w h x vs->RowItems prog w h y vs->x=y:=by
 intro x y vs hx;unfold RowItems at *
 induction hx generalizing y with
 | nil=>intro hy;cases hy;rfl
 | cons h1 _ ih =>
  intro hy
  cases hy with
  | cons h2 t2 =>
   obtain⟨b,rfl,k1⟩:=h1;obtain⟨b',e,k2⟩:=h2
   cases e;rw[k1.inj k2,ih t2]
theorem IsRowKey.inj {h:Heap}{a:Addr}{x y:List (List Int)}(hx:IsRowKey prog w h x a)(hy:IsRowKey prog w h y a):x=y:=by
 obtain⟨o,items,n,ho,_,hd,hi⟩:=hx;obtain⟨o',items',n',ho',_,hd',hi'⟩:=hy;obtain rfl:o=o':=YR (ho.symm.trans ho');rw[hd] at hd';injection hd' with h1 _
 subst h1;exact hi.inj hi'
theorem RowItems.imp {h h':Heap}(f:∀ k b,IsTupleKey (intKind prog w) h k b->IsTupleKey (intKind prog w) h' k b){x:List (List Int)}{vs:TH}(hx:RowItems prog w h x vs):RowItems prog w h' x vs:=by
 unfold RowItems at *
 induction hx with
 | nil=>exact .nil
 | cons h1 _ ih =>
  obtain⟨b,e,k⟩:=h1;exact .cons ⟨b,e,f _ _ k⟩ ih
theorem IsRowKey.keeps {h h':Heap}{ks:List (List Int)}{a d:Addr}{o:Obj}{es ep}(x:IsRowKey prog w h ks a)(ho:h.get? d=some o)(hd:o.data=.dict es ep)(hs:Heap.SameBut d h h'):IsRowKey prog w h' ks a:=by
 obtain⟨o',items,n,ho',hc,hd',hi⟩:=x;have hne:a≠d:=by
  rintro rfl;obtain rfl:o'=o:=YR (ho'.symm.trans ho);rw[hd] at hd';exact nomatch hd'
 exact⟨o',items,n,(hs.2 a hne).trans ho',hc,hd',hi.imp λk b q=>q.keeps ho hd hs⟩
def rowKeyHash (prog:TU)(w:World)(ks:List (List Int)):Int:=reduceHash (Builtin.Tuple.tupleHashOf (ks.map (tupleKeyHash (intKind prog w))))
def rowDraws (ks:List (List Int)):Nat:=(ks.map λk=>k.length+1).sum+1
variable {A:Around}{E:TC}{s:Shared}
theorem Ui {ks:List (List Int)}{a:Addr}{Q:Int->Shared->Prop}(hu:A.units+4<cLine)(hk:IsRowKey prog w s.heap ks a)(h:Q (rowKeyHash prog w ks) { s with toks:=s.toks+rowDraws ks }) :
  wpAny (model prog w) A (pyHash (.ref a)) Q E s:=by
 have hT:=hk.typeIs;obtain⟨o,items,n,ho,_,hd,hi⟩:=hk;unfold pyHash
 first | unfold pyHashByItsType | skip
 first | refine YA (wpAny_cRoomFor_or (.inr (by omega)) ?_) | skip
 refine YA (zF hT zX.lookup ?_);show wpAny _ _ (if (some (Value.builtin "tuple.__hash__") == some Value.none)=true then _ else _) Q E s;rw[XB (by rw[beq_builtin_none];exact YS)];refine YA (zF hT zX.lookup ?_);show wpAny _ _ (callSpecialIfBoundUnlessNone? (.ref a) "__hash__" _ >>= _) Q E s;refine YA (wpAny_callSpecialIfBoundUnlessNone?_slot hT zX (JM zX hT F.entry_tuple_hash ?_ (F.args_tuple_hash_1 _)));show wpAny _ _ (Builtin.Tuple.tupleItemsOf (.ref a) >>= _) _ _ s;refine YA (Y0e ho hd ?_);refine YA ?_;rw[<-zm];refine jk _
  (λrest (b:Array Int) s'=>∃ done left,ks=done++left/\RowItems prog w s.heap left rest/\b.toList=done.map (tupleKeyHash (intKind prog w))/\s'={ s with toks:=s.toks+(done.map λk=>k.length+1).sum })
  _ ?_ ?_ _ _ ⟨[],ks,rfl,hi,rfl,rfl⟩
 ·rintro x rest b s' ⟨done,left,rfl,hl,hb,rfl⟩;unfold RowItems at hl
  cases hl with
  | @cons k _ ks' _ h1 hl' =>
   obtain⟨bb,rfl,k1⟩:=h1;refine YA (wpAny_pyHash_tuple (knd:=intKind prog w) ?_ k1 ?_)
   ·show A.units+1<cLine;omega
   first
   | exact YI ⟨done++[k],ks',by simp,hl',by simp[hb],by simp[Y0t]⟩
   | exact YA (YI (YI ⟨done++[k],ks',by simp,hl',by simp[hb],by simp[Y0t]⟩))
 rintro b s' ⟨done,left,rfl,hl,hb,rfl⟩;unfold RowItems at hl
 cases hl;rw[GN] at h;show wpAny _ _ (retInt (Builtin.Tuple.tupleHashOf b.toList)) _ _ _;rw[hb];refine wpAny_ret_mkInt ?_;show wpAny _ _ (if (decide (-(2:Int) ^ 63<=Builtin.Tuple.tupleHashOf (done.map (tupleKeyHash (intKind prog w)))) && decide (Builtin.Tuple.tupleHashOf (done.map (tupleKeyHash (intKind prog w)))<2 ^ 63))=true then _ else _) Q E _;unfold rowKeyHash rowDraws reduceHash at h;by_cases hr:(decide (-(2:Int) ^ 63<=Builtin.Tuple.tupleHashOf (done.map (tupleKeyHash (intKind prog w)))) && decide (Builtin.Tuple.tupleHashOf (done.map (tupleKeyHash (intKind prog w)))<2 ^ 63))=true
 ·rw[XF hr];rw[XF hr] at h;exact YI (by simpa [Y0t] using h)
 rw[XB hr];rw[XB hr] at h;exact YA (qU (YI (by simpa [Y0t] using h)))
theorem Nv {x y:List (List Int)}{a b:Addr}{P:Fin->Shared->Prop}(hu:A.units+2<cLine)(hx:IsRowKey prog w s.heap x a)(hy:IsRowKey prog w s.heap y b)(h:P (.done (.ret (.bool (decide (x=y))))) s) :
  wpAny (model prog w) A (Builtin.«tuple.__eq__» ⟨[.ref a,.ref b],[]⟩) P E s:=by
 have hTb:=hy.typeIs;obtain⟨oa,xs,na,hoa,_,hda,hia⟩:=hx;obtain⟨ob,ys,nb,hob,_,hdb,hib⟩:=hy;show wpAny _ _ (isInstance (.ref b) (.type "tuple") >>= _) _ _ s;refine YA (qq hTb jc ?_);simp only [zo,XV,GU];refine YA (Y0e hoa hda ?_);refine YA (Y0e hob hdb ?_);refine YA ?_;refine jk _
  (λrest r s'=>r.1=none/\s'=s/\∃ x' y' xs' ys',rest=List.zip xs' ys'/\RowItems prog w s.heap x' xs'/\RowItems prog w s.heap y' ys'/\decide (x'=y')=decide (x=y)/\(xs'.length == ys'.length)=(xs.size == ys.size))
  _ ?_ ?_ _ _ ⟨rfl,rfl,x,y,xs.toList,ys.toList,rfl,hia,hib,rfl,by simp⟩
 ·rintro ⟨u,v⟩ rest r s' ⟨hr,rfl,x',y',xs',ys',hz,hx',hy',hdec,hlen⟩;unfold RowItems at hx' hy'
  cases hx' with
  | nil=>simp at hz
  | @cons k1 u' x'' xs'' h1 hx'' =>
   cases hy' with
   | nil=>simp at hz
   | @cons k2 v' y'' ys'' h2 hy'' =>
    simp only [Y0d,List.cons.injEq,Prod.mk.injEq] at hz;obtain⟨⟨rfl,rfl⟩,rfl⟩:=hz;obtain⟨b1,rfl,q1⟩:=h1;obtain⟨b2,rfl,q2⟩:=h2;refine YA (wpAny_eqBool_tuple (knd:=intKind prog w) (by omega) q1 q2 ?_);by_cases hk:k1=k2
    ·subst hk;rw[XQ rfl];simp only [zo,XV,GU];refine YI ⟨rfl,rfl,x'',y'',xs'',ys'',rfl,hx'',hy'',?_,by simpa using hlen⟩;rw[<-hdec];by_cases hxy:x''=y''
     ·simp[hxy]
     simp[hxy]
    rw[XR hk];simp only [Bool.not_false,zx];have hf:decide (x=y)=false:=by rw[<-hdec];simp[hk]
    rw[hf] at h;exact YA (YI (YI (YI h)))
 rintro ⟨r1,r2⟩ s' ⟨hr,rfl,x',y',xs',ys',hz,hx',hy',hdec,hlen⟩;simp only at hr;subst hr;refine YI ?_;have hfin:(xs.size == ys.size)=decide (x=y):=by
  rw[<-hdec,<-hlen];unfold RowItems at hx' hy'
  cases hx' with
  | nil =>
   cases hy' with
   | nil=>simp
   | cons _ _=>simp
  | cons _ _ =>
   cases hy' with
   | nil=>simp
   | cons _ _=>simp at hz
 show P (.done (.ret (.bool (xs.size == ys.size)))) s';rw[hfin];exact h
theorem Uj {x y:List (List Int)}{a b:Addr}{Q:Bool->Shared->Prop}(hu:A.units+4<cLine)(hx:IsRowKey prog w s.heap x a)(hy:IsRowKey prog w s.heap y b)(h:Q (decide (x=y)) s) :
  wpAny (model prog w) A (eqBool (.ref a) (.ref b)) Q E s:=by
 unfold eqBool
 try with_reducible refine GB ?_
 show wpAny _ _ (if (Value.ref a == Value.ref b)=true then _ else _) Q E s;by_cases hab:(Value.ref a == Value.ref b)=true
 ·rw[XF hab];have e:a=b:=by have:=eq_of_beq hab;injection this
  subst e;obtain rfl:=hx.inj hy;exact YA (qU (YI (by simpa using h)))
 rw[XB hab];exact YA (wpAny_richCompare_same_room (op:=.Eq) hx.typeIs hy.typeIs jw
  (JM jw hx.typeIs F.entry_tuple_eq (Nv (by show A.units+1+2<cLine;omega) hx hy ⟨_,rfl,(λe=>nomatch e),GW h⟩) (F.args_tuple_eq_2 _ _)) (by omega))
theorem Vu {ks:TV}{a:Addr}{Q:Bool->Shared->Prop}(n:Nat)(hk:IsTupleKey (intKind prog w) s.heap ks a)(h:Q true s):wpAny (model prog w) A (eqIsQuiet (n+1) (.ref a)) Q E s:=by
 have hT:=hk.typeIs;obtain⟨o,items,n,ho,_,hd,hi⟩:=hk;unfold eqIsQuiet;refine YA (zF hT jw.lookup ?_);show wpAny _ _ (isInstance (.ref a) (.type "tuple") >>= _) _ _ s;refine YA (qq hT jc ?_);simp only [zo,XV,GU];refine YA (JZ ho hd ?_);refine YA ?_;show wpAny _ _ (forIn items _ _) _ _ s;rw[<-zm];refine jk _ (λrest r s'=>r.1=none/\s'=s/\∀ v∈rest,carriedByValue v=true) _ ?_ ?_ _ _ ⟨rfl,rfl,hi.byValue⟩
 ·rintro v rest r s' ⟨hr,rfl,hall⟩;rw[eqIsQuiet_byValue _ (hall v YY)];refine YA (YI ?_);simp only [zo,XV,GU];exact YI ⟨rfl,rfl,λu hu'=>hall u (YQ _ hu')⟩
 rintro ⟨r1,r2⟩ s' ⟨hr,rfl,_⟩;simp only at hr;subst hr;exact YI h
theorem Tv {ks:List (List Int)}{a:Addr}{Q:Bool->Shared->Prop}(hk:IsRowKey prog w s.heap ks a)(h:Q true s):wpAny (model prog w) A (eqIsQuiet 8 (.ref a)) Q E s:=by
 have hT:=hk.typeIs;obtain⟨o,items,n,ho,_,hd,hi⟩:=hk;unfold eqIsQuiet;refine YA (zF hT jw.lookup ?_);show wpAny _ _ (isInstance (.ref a) (.type "tuple") >>= _) _ _ s;refine YA (qq hT jc ?_);simp only [zo,XV,GU];refine YA (JZ ho hd ?_);refine YA ?_;show wpAny _ _ (forIn items _ _) _ _ s;rw[<-zm];refine jk _ (λrest r s'=>r.1=none/\s'=s/\∃ left,RowItems prog w s.heap left rest) _ ?_ ?_ _ _ ⟨rfl,rfl,ks,hi⟩
 ·rintro v rest r s' ⟨hr,rfl,left,hl⟩;unfold RowItems at hl
  cases hl with
  | @cons k _ ks' _ h1 hl' =>
   obtain⟨b,rfl,q⟩:=h1;refine YA (Vu 6 q ?_);simp only [zo,XV,GU];exact YI ⟨rfl,rfl,ks',hl'⟩
 rintro ⟨r1,r2⟩ s' ⟨hr,rfl,_⟩;simp only at hr;subst hr;exact YI h
end
def rowKind (prog:TU)(w:World):HeapKind prog w (List (List Int)) where
 is:=IsRowKey prog w
 hash:=rowKeyHash prog w
 draws:=rowDraws
 room:=λA=>A.units+4<cLine
 inj:=λhx hy=>hx.inj hy
 keeps:=λx ho hd hs=>x.keeps ho hd hs
 pyHash:=λhu hk h=>Ui hu hk h
 eqBool:=λhu hx hy h=>Uj hu hx hy h
 quiet:=λhk h=>Tv hk h
end Sb
namespace Sb
open PySem PySem.Spec PyProof.Rows L2
section
variable {prog:TU}{w:World}{A:Around}{E:TC}{s:Shared}
theorem Vr {a:Addr}{o:Obj}{xs:Array Value}{k:Nat}{name:Str}{Q:Option Value->Shared->Prop}
  (hx:s.heap.get? a=some o) (hc:o.cls=.type "list") (hdat:o.data=.seq xs k) (hd:o.dict=none) (hmiss:typeLookup (.type "list") name=pure none) (hname:(["__module__","__name__","__qualname__","__doc__","__annotations__"]:List Str).contains name=false) (hA:A.handled=none)
  (h:∀ h' tk e,Heap.NewExcOf s.heap h' e "AttributeError"->Q none { s with heap:=h',toks:=tk }) (hsz:name.length+100<=sizeLine:=by size_fits) :
  wpAny (model prog w) A (getAttr? (.ref a) name) Q E s:=by
 obtain⟨c,dct,dat,sl⟩:=o;simp only at hc hdat hd;subst hc hdat hd;obtain⟨hp,g,d,tk,os⟩:=s;have hT:∀ tk',(⟨hp,g,d,tk',os⟩:Shared).TypeIs (.ref a) "list":=λ_=>⟨_,hx,rfl⟩;have f1:=sub_AttributeError;have f3:=zE.lookup;have f4:=zE.bind (.ref a);have f5:=am_list_getattr_none;unfold getAttr? getAttrBy? getAttrBy
 repeat (any_goals (first | assumption | exact hT _ | ((with_reducible show wpAny _ _ (call (Value.builtin "list.__getattribute__") _ _) _ _ _);refine zL zE (hT _) am_entry_list_getattribute (F.args_list_getattribute_2 _ _) (meets_getattribute_miss_list a xs k sl name _ hmiss hname hsz) ⟨hx,hA,λh' tk' e hx'=>?_⟩) | wp_step))
 obtain⟨t',u',he⟩:=hx'.there;show wpAny _ _ (getattributeRaised _ _ _ _ _ _ _) _ _ _;unfold getattributeRaised
 repeat (any_goals (first | assumption | wp_step))
 exact h _ _ _ hx'.of
theorem Np {k:TV}{a:Addr}(f:∀ b o,h.get? b=some o->h'.get? b=some o)(x:IsTupleKey (intKind prog w) h k a):IsTupleKey (intKind prog w) h' k a:=by
 obtain⟨o,items,n,ho,hc,hd,hi⟩:=x;exact⟨o,items,n,f _ _ ho,hc,hd,hi⟩
theorem Tj {k:List (List Int)}{a:Addr}(f:∀ b o,h.get? b=some o->h'.get? b=some o)(x:IsRowKey prog w h k a):IsRowKey prog w h' k a:=by
 obtain⟨o,items,n,ho,hc,hd,hi⟩:=x;exact⟨o,items,n,f _ _ ho,hc,hd,hi.imp λk b q=>Np f q⟩
theorem Wx:entryFor table "dict.update.loop"=some Builtin.«dict.update.loop»:=entryFor_of_tree (by kernel_rfl)
theorem Yv:plainId "dict.update.loop"=true:=by decide +kernel
def PairAt (prog:TU)(w:World)(h:Heap)(v:Value)(x:List (List Int) × Addr × Value):Prop:=∃ t o n,v=.ref t/\h.get? t=some o/\o.cls=.type "tuple"/\o.data=.seq #[.ref x.2.1,x.2.2] n/\IsRowKey prog w h x.1 x.2.1
theorem Nq {xs:List (List (List Int) × Addr × Value)}(nd:(xs.map (·.1)).Nodup){i:Nat}{x:List (List Int) × Addr × Value}(hx:xs[i]?=some x):storedH (xs.take i) x.1 x.2.1 x.2.2=xs.take (i+1):=by
 rw[storedH_new (atKey_none_of_get λj p hj=>?_),List.take_succ,hx]
 ·rfl
 have hj':j<i:=by
  have:=(YH.mp hj).1;rw[JC] at this;omega
 rw[zC hj'] at hj;exact absurd (idxH_unique nd hj (q:=x.2) (by rw[hx])) (by omega)
theorem Nf {d:Addr}{xs:List (List (List Int) × Addr × Value)}(hm:h.DictOfH (rowKind prog w) d xs)(kd:∀ o,h.get? d=some o->h'.get? d=some o)(ks:∀ x∈xs,IsRowKey prog w h' x.1 x.2.1):h'.DictOfH (rowKind prog w) d xs:=by
 obtain⟨o,es,ep,ho,hX,hd,he,_,hn⟩:=hm;exact⟨o,es,ep,kd o ho,hX,hd,he,ks,hn⟩
theorem J9 {h h':Heap}{vs:TH}{xs:List (List (List Int) × Addr × Value)}(hx:Paired (PairAt prog w h) vs xs)(f:∀ b o,h.get? b=some o->h'.get? b=some o):∀ x∈xs,IsRowKey prog w h' x.1 x.2.1:=by
 induction hx with
 | nil=>intro x hx;cases hx
 | cons h1 _ ih =>
  intro x hx;rcases YK.mp hx with rfl | hx
  ·obtain⟨_,_,_,_,_,_,_,k⟩:=h1;exact Tj f k
  exact ih x hx
theorem Fa {R:Result->Shared->Prop}{h0:Heap}{l I d:Addr}{items:Array Value}{xs:List (List (List Int) × Addr × Value)}{res:Value}(hA:A.handled=none)(hu:A.units+10<cLine)(hI:h0.get? I=none)(hd:h0.get? d=none)(hdI:d≠I)(hl:h0.IsList l items)(hz:xs.length<=sizeLine)
  (hx:Paired (PairAt prog w h0) items.toList xs) (nd:(xs.map (·.1)).Nodup) :
  ∀ (k i:Nat) (s:Shared) (u:Tok),xs.length - i=k->i<=xs.length->s.heap.IsListIter I l i->s.heap.DictOfH (rowKind prog w) d (xs.take i)->(∀ b o,h0.get? b=some o->s.heap.get? b=some o) →
  (∀ h' tk,h'.DictOfH (rowKind prog w) d xs->(∀ b o,b≠I->b≠d->s.heap.get? b=some o->h'.get? b=some o)->R (.ok (.ret res)) { s with heap:=h',toks:=tk }) →
  codeAny (model prog w) A (.builtin "dict.update.loop" ⟨[.ref d,.ref I,.int i u,res],[]⟩) R s:=by
 have hlI:l≠I:=λe=>by
  obtain⟨o,ho,_⟩:=hl;rw[e,hI] at ho
  cases ho
 have hld:l≠d:=λe=>by
  obtain⟨o,ho,_⟩:=hl;rw[e,hd] at ho
  cases ho
 have len:items.size=xs.length:=by have:=YW hx;simpa using this
 intro k
 induction k with
 | zero =>
  intro i s u hk hi hit hm kp hR;have hin:i=xs.length:=by omega
  subst hin;refine Y0L Wx ?_;rw[Around.under_plainId Yv _];show wpAny _ A.in1 (pyNext (.ref I) >>= _) _ _ s;have W:=Walks.listQ (prog:=prog) (w:=w) (A:=A.in1) (qs:=[]) (.inl hA) I l hlI (by simp) items;refine YA (W.done s _ _ (by rw[len];exact⟨hit,hl.at λo e=>kp _ _ e,by simp⟩) λh' tk hk'=>?_);rw[JF] at hm;refine YA (YI (YI (hR h' tk ?_ λb o hb _ e=>hk' b o (by simpa using hb) e)));exact Nf hm (λo e=>hk' d o (by simpa using hdI) e) (J9 hx λb o e=>hk' b o (by simpa using λz:b=I=>by rw[z,hI] at e;cases e) (kp b o e))
 | succ k ih =>
  intro i s u hk hi hit hm kp hR;have hlt:i<xs.length:=by omega
  refine Y0L Wx ?_;rw[Around.under_plainId Yv _];show wpAny _ A.in1 (pyNext (.ref I) >>= _) _ _ s;have W:=Walks.listQ (prog:=prog) (w:=w) (A:=A.in1) (qs:=[]) (.inl hA) I l hlI (by simp) items;refine YA (W.item i s _ _ (by omega) ⟨hit,hl.at λo e=>kp _ _ e,by simp⟩ λv h' tk hv st hk'=>?_);have hpos:items.toList[i]?=some v:=by simpa using hv
  obtain⟨t,o,n,rfl,ho,hc,hdt,hkey⟩:=Paired.getB hx hpos (show xs[i]?=some xs[i] by simp[hlt]);have kp':∀ b o,h0.get? b=some o->h'.get? b=some o:=λb o e=>hk' b o (by simpa using λz:b=I=>by rw[z,hI] at e;cases e) (kp b o e);have hm':=Nf hm (λo e=>hk' d o (by simpa using hdI) e) λx hx'=>J9 hx kp' x (GS hx');have ht:=kp' _ _ ho;show wpAny _ _ (holding [.ref t] _ >>= _) _ _ _;refine YA (GB (YA (wpAny_tryCatch ?_)));unfold Builtin.Dict.pairItems;refine YA (wpAny_typeOf (T:="tuple") ⟨o,ht,hc⟩ ?_);rw[XF (by decide)];refine YA (JZ ht hdt (YI ?_));show wpAny _ _ (holding [.ref xs[i].2.1,xs[i].2.2] (dictSet d (.ref xs[i].2.1) xs[i].2.2)) _ _ _;refine GB (wpAny_dictSet_heap (knd:=rowKind prog w) (by show A.units+1+4<cLine;omega) (Tj kp' hkey) hm' (λh2 hm2 hs2=>?_) (by rw[JC];omega));rw[Nq nd (by simp[hlt])] at hm2;refine YI ⟨plainId_quiet Yv _,?_⟩;refine ih (i+1) _ _ (by omega) hlt (st.1.at λo e=>(hs2.2 I (qi hdI)).trans e) hm2 (λb o e=>(hs2.2 b (λz=>by rw[z,hd] at e;cases e)).trans (kp' b o e)) λh3 tk3 hm3 k3=>?_;exact hR h3 tk3 hm3 λb o bI bd e=>k3 b o bI bd ((hs2.2 b bd).trans (hk' b o (by simpa using bI) e))
theorem Tx {l:Addr}{items:Array Value}{xs:List (List (List Int) × Addr × Value)}{Q:TC}(hA:A.handled=none)(hu:A.units+14<cLine)(hl:PlainL s.heap l items)(hz:xs.length<=sizeLine)(hx:Paired (PairAt prog w s.heap) items.toList xs)(nd:(xs.map (·.1)).Nodup)
  (h:∀ h' tk,h'.DictOfH (rowKind prog w) s.heap.objs.size xs->(∀ b o,s.heap.get? b=some o->h'.get? b=some o)->Q (.ref s.heap.objs.size) { s with heap:=h',toks:=tk }) :
  wpAny (model prog w) A (call (.type "dict") [.ref l]) Q E s:=by
 refine callType_codes (Q₁:=λobj s₁=>obj=.ref s.heap.objs.size/\s₁={ s with heap:=s.heap.push { cls:=.type "dict",data:=.dict #[] } }) F.kt_called_dict (F.kt_typeCall_dict_1 _) F.entry_dict_init (kt_code_dict_new _ ⟨rfl,rfl⟩) ?_;rintro obj s₁ ⟨rfl,rfl⟩;have hnew:(s.heap.push { cls:=.type "dict",data:=.dict #[] }).DictOfH (rowKind prog w) s.heap.objs.size []:=Heap.DictOfH.new s.heap;refine⟨hnew.typeIs,F.args_dict_init_2 _ _,?_⟩;unfold Builtin.«dict.__init__»;refine YA ?_;unfold Builtin.Dict.selfAndRest;refine YA (wpAny_notOrdered_dict hnew.typeIs ?_);show wpAny _ _ (pure (s.heap.objs.size,[Value.ref l])) _ _ _;refine YI ?_;show wpAny _ _ (Builtin.Dict.updateFrom "dict.__init__" s.heap.objs.size (.ref l) [] .none) _ _ _;unfold Builtin.Dict.updateFrom;obtain⟨ol,nl,ho,hc,hdt,hdd⟩:=id hl;have ho':=YB { cls:=.type "dict",data:=.dict #[] } ho;refine YA (wpAny_typeOf (T:="list") ⟨_,ho',hc⟩ ?_);rw[XF (by decide)];refine YA (Vr (o:=ol) ho' hc hdd hdt (by rw[typeLookup_type,builtinLookup_eq_fast];kernel_rfl) (by decide +kernel) hA λh1 tk1 e1 hn1=>?_);rw[XF (show (none:Option Value).isNone=true from rfl)];refine YA (qU ?_);have kp1:∀ b o,s.heap.get? b=some o->h1.get? b=some o:=λb o e=>hn1.keeps b o (YB _ e);have hl1:h1.IsList l items:=hl.isList.at λo e=>kp1 _ _ e;refine YA (JU hl1 ?_);have hd1:h1.get? s.heap.objs.size=some { cls:=.type "dict",data:=.dict #[] }:=hn1.keeps _ _ (YM _ rfl);have gt:s.heap.objs.size<h1.objs.size:=YL hd1;have none_of:∀ b,s.heap.objs.size<=b->s.heap.get? b=none:=λb hb=>by
  cases e:s.heap.get? b with
  | none=>rfl
  | some o=>exact absurd (YL e) (jf.mpr hb)
 refine YI ⟨plainId_quiet Yv _,?_⟩;refine Fa (A:=A.in1) (h0:=s.heap) (items:=items) (xs:=xs) hA (by show A.units+1+10<cLine;omega) (none_of _ (by omega)) (none_of _ (YF _)) (XE gt) hl.isList hz hx nd xs.length 0 _ _ rfl (JO _) ?_ ?_ (λb o e=>YB _ (kp1 b o e)) λh' tk hm' k'=>?_
 ·exact⟨_,YM _ rfl,rfl,rfl⟩
 ·rw[Y0Z];exact Nf hnew (λo e=>YB _ (hn1.keeps _ _ e)) (by simp)
 exact⟨rfl,h h' tk hm' λb o e=>k' b o (λz=>by rw[z,none_of _ (by omega)] at e;cases e) (λz=>by rw[z,none_of _ (YF _)] at e;cases e) (YB _ (kp1 b o e))⟩
end
section
variable {prog:TU}{w:World}{A:Around}{E:TC}{s:Shared}{it d:Addr}{i ep:Nat}{od:Obj}{es:Array DictEntry}
theorem L1 {Q:TC}(hd:(d == sysModules)=false)(ho:s.heap.get? d=some od)(hX:od.ExactDict)(hD:od.data=.dict es ep)
  (hQ:Q (.ref s.heap.objs.size) { s with heap:=s.heap.push { cls:=.type "dict_keyiterator",data:=.fields #[.ref d,.int 0 0,.int es.size 0,.int ep 0] } }):wpAny (model prog w) A (pyIter (.ref d)) Q E s:=by
 have T:s.TypeIs (.ref d) "dict":=⟨od,ho,hX.1⟩;refine wpAny_pyIter_slot T F.slot_dict_iter (JM F.slot_dict_iter T F.entry_dict_iter ?_ (F.args_dict_iter_1 _));unfold Builtin.«dict.__iter__»;refine YA ?_;unfold Builtin.Dict.dictSlotNone;refine YA (wpAny_notOrdered_dict T (YI (show wpAny _ _ (Builtin.Dict.showsAll d >>= _) _ _ s from ?_)));unfold Builtin.Dict.showsAll;rw[XB (by rw[hd];exact YS)];refine YA (YI (YA (Y0n ho hD (YA (Y0M ho hD ?_)))));refine YA (zr (YI ⟨_,rfl,"dict_keyiterator",_,⟨_,YM _ rfl,rfl⟩,GO.lookup,?_⟩));simpa [rawInt] using hQ
theorem K5 {Q:Option Value->Shared->Prop}(hit:s.heap.IsKeyIter it d i es.size ep)(ho:s.heap.get? d=some od)(hD:od.data=.dict es ep)(lt:i<es.size)
  (hQ:∀ h',h'.IsKeyIter it d (i+1) es.size ep->Heap.SameBut it s.heap h'->Q (some es[i].key) { s with heap:=h' }):wpAny (model prog w) A (pyNext (.ref it)) Q E s:=by
 obtain⟨o,io,hc,hd⟩:=id hit;have ty:=hit.typeIs;unfold pyNext;refine YA (qT (JE (name:=Str.ofString "__next__") ty GO (JM GO ty jq ?_ (jl _))));refine YA (YI (YA (YA ?_)));(first | refine YA (qC ty (YI ?_)) | refine YA (qX ty (YI ?_)));refine YA (wpAny_fieldsOf io hd ?_);simp only [show Builtin.Dict_items.ownsTuple "dict_keyiterator"=false by decide,XV,GU];show wpAny _ _ (if (Value.ref d == Value.none)=true then _ else _) _ _ s;rw[XB (show ¬ ((Value.ref d == Value.none)=true) from YS)];refine YA (YI (YA (Y0n ho hD ?_)));rw[XB (by simp)];refine YA (YI (YA (Y0M ho hD ?_)));rw[XB (by simp)];refine YI ?_;simp only [show ¬ ((i:Int)<0) from by omega,GU,qF,qj lt];refine YA ?_;(first | refine YA (qC ty (YI ?_)) | refine YA (qX ty (YI ?_)));refine YA (wpAny_isOneOf_keyiter ty ?_);show wpAny _ _ (setField (.ref it) 1 (rawInt ((i:Int)+1)) >>= _) _ _ s;refine YA (zd io hd (by simp) ?_);have it':(s.heap.update it (Obj.mapFields (·.setIfInBounds 1 (rawInt ((i:Int)+1))))).IsKeyIter it d (i+1) es.size ep:=⟨_,zp _ io (jb (zi hd _)),(Y0k ..).trans hc,by rw[zi hd];simp[rawInt]⟩;refine YA (GB (YA (wpAny_isOneOf_keyiter (s:={ s with heap:=s.heap.update it (Obj.mapFields (·.setIfInBounds 1 (rawInt ((i:Int)+1)))) }) it'.typeIs (show wpAny _ _ (pure es[i].key) _ _ _ from ?_))));exact YI (YI ⟨_,rfl,YI (hQ _ it' (JD ..))⟩)
theorem Gz {Q:Option Value->Shared->Prop}(hq:Qt A s.heap)(hit:s.heap.IsKeyIter it d i es.size ep)(ho:s.heap.get? d=some od)(hD:od.data=.dict es ep)(ge:es.size<=i)
  (hQ:∀ h',Heap.ExtBut it s.heap h'->Q none { s with heap:=h' }):wpAny (model prog w) A (pyNext (.ref it)) Q E s:=by
 obtain⟨o,io,hc,hd⟩:=id hit;have ty:=hit.typeIs;unfold pyNext;refine YA (qT (JE (name:=Str.ofString "__next__") ty GO (JM GO ty jq ?_ (jl _))));refine YA (YI (YA (YA ?_)));(first | refine YA (qC ty (YI ?_)) | refine YA (qX ty (YI ?_)));refine YA (wpAny_fieldsOf io hd ?_);simp only [show Builtin.Dict_items.ownsTuple "dict_keyiterator"=false by decide,XV,GU];show wpAny _ _ (if (Value.ref d == Value.none)=true then _ else _) _ _ s;rw[XB (show ¬ ((Value.ref d == Value.none)=true) from YS)];refine YA (YI (YA (Y0n ho hD ?_)));rw[XB (by simp)];refine YA (YI (YA (Y0M ho hD ?_)));rw[XB (by simp)];refine YI ?_;simp only [show ¬ ((i:Int)<0) from by omega,GU,qF,Y0I ge];refine YA ?_;(first | refine YA (qC ty (YI ?_)) | refine YA (qX ty (YI ?_)));show wpAny _ _ (setField (.ref it) 0 .none >>= _) _ _ s;refine YA (zd io hd (by simp) ?_);refine Ur (hq:=(hq.but io λn=>?_)) λh' e k he=>?_
 ·obtain⟨vs,e1,e2⟩:=n;rw[hd] at e1
  cases e1;simp at e2
 obtain⟨oe,h1,h2⟩:=he;refine YA (qq (T:="StopIteration") (b:=true) ⟨_,h1,h2⟩ zQ (YI (hQ _ λb o hb e=>k b o ((JD ..).extBut b o hb e))))
end
def rowK (r:UB):List (List Int):=r.map λq=>[q.1,q.2]
theorem Sn:∀ {r s:UB},rowK r=rowK s->r=s
 | [],[],_=>rfl
 | [],_::_,h=>by cases h
 | _::_,[],h=>by cases h
 | a::r,b::s,h=>by
  have h:[a.1,a.2]::rowK r=[b.1,b.2]::rowK s:=h;injection h with h1 h2
  rw[Sn h2,show a=b from Y10 (Y19 h1).1 (Y19 (Y19 h1).2).1]
def dcO (P:TU)(w:World)(d:Addr)(es:List (List Rat × Addr × Addr))(ep:Nat):HO:=.ext λh=>∃ o ds,h.get? d=some o/\o.ExactDict/\o.data=.dict ds ep/\ds.toList=es.map (λe=>entryOfKey (rowKind P w) (rowK e.1,e.2.1,.ref e.2.2))/\(d == sysModules)=false
structure DcAt (P:TU)(w:World)(K:TR)(H:Hp)(d:Addr)(es:List (List Rat × Addr × Addr))(ep:Nat):Prop where
 ob:H d=some (dcO P w d es ep)
 ks:∀ e∈es,RowAt K H e.2.1 e.1
 nd:(es.map (·.1)).Nodup
theorem DcAt.same {P:TU}{w:World}{K:TR}{H H':Hp}{d:Addr}{es:List (List Rat × Addr × Addr)}{ep:Nat}(h:DcAt P w K H d es ep)(S:Same H H'):DcAt P w K H' d es ep:=⟨S _ _ h.ob,λe he=>(h.ks e he).ext (Ext.same S),h.nd⟩
section
variable {X:Cx}{pins:TD}{σ:L2.St}{H:Hp}{s:Shared}{K:TR}{tg:Expr}
theorem Z25 (I:Inv X pins σ H s):sysModules<s.heap.objs.size:=by
 have hg:mainGlobals<s.heap.objs.size:=(I.mod.glob.keeps I.bk).lt;exact Nat.lt_trans (show sysModules<mainGlobals by decide) hg
theorem Z2u (I:Inv X pins σ H s){a:Addr}{p q:Int}(h:SqT X.K H a [.int p,.int q]):IsTupleKey (intKind X.prog X.w) s.heap [p,q] a:=by
 obtain⟨its,r,⟨o,ho,hc,n,hd⟩,_⟩:=I.tuple h;refine⟨o,its.toArray,n,ho,hc,hd,?_⟩
 cases r with
 | cons r1 t =>
  cases t with
  | cons r2 t2 =>
   cases t2;obtain⟨t1,rfl⟩:=r1;obtain⟨t2,rfl⟩:=r2;exact .cons (by simp[intKind,Value.isInt]) (.cons (by simp[intKind,Value.isInt]) .nil)
theorem Pb (I:Inv X pins σ H s){a:Addr}{rs:UB}(h:RowAt X.K H a rs):IsRowKey X.prog X.w s.heap (rowK rs) a:=by
 obtain⟨xs,hx,hr⟩:=h;obtain⟨its,r,⟨o,ho,hc,n,hd⟩,_⟩:=I.tuple hx;refine⟨o,its.toArray,n,ho,hc,hd,?_⟩;have key:∀ {rs:UB} {xs:TZ} {its:TH},Rs X.K H rs xs->Vals xs its->RowItems X.prog X.w s.heap (rowK rs) its:=by
  intro rs xs its hr;unfold Rs at hr
  induction hr generalizing its with
  | nil=>intro v;cases v;exact .nil
  | cons h1 _ ih =>
   intro v
   cases v with
   | cons r1 t =>
    obtain⟨b,rfl,sq⟩:=h1
    cases r1;exact .cons ⟨b,rfl,Z2u I sq⟩ (ih t)
 exact key hr r
theorem Z2d (I:Inv X pins σ H s){d:Addr}{es:List (List Rat × Addr × Addr)}{ep:Nat}(h:DcAt X.prog X.w X.K H d es ep):s.heap.DictOfH (rowKind X.prog X.w) d (es.map λe=>(rowK e.1,e.2.1,Value.ref e.2.2))/\(d == sysModules)=false:=by
 obtain⟨⟨o,ds,ho,hX,hd,he,hs⟩,_⟩:=(show ObjOk X.prog X.w H s.heap d (dcO X.prog X.w d es ep) from I.hok d _ h.ob);refine⟨⟨o,ds,ep,ho,hX,hd,by rw[he,GX];rfl,λx hx=>?_,?_⟩,hs⟩
 ·obtain⟨e,he',rfl⟩:=YZ.mp hx;exact Pb I (h.ks e he')
 rw[GX,show ((λx:List (List Int) × Addr × Value=>x.1) ∘ λe:List Rat × Addr × Addr=>(rowK e.1,e.2.1,Value.ref e.2.2))=λe=>rowK e.1 from rfl];have:=h.nd;rw[XU,GL] at this ⊢;exact this.imp λhne z=>hne (Sn z)
inductive rDict (P:TU) (w:World) (K:TR) (xs:TZ) (H:Hp) (Q:VK):Prop
 | i (p:Addr) (ys:TZ) (es:List (List Rat × Addr × Addr)) (a0:xs=[.ref p]) (a1:SqL K H p ys) (a2:Paired (λv e=>∃ t,v=V.ref t/\SqT K H t [.ref e.2.1,.ref e.2.2]/\RowAt K H e.2.1 e.1) ys es) (a3:(es.map (·.1)).Nodup) (a4:∀ d ep,H d=none->Q (.ref d) (upd H d (dcO P w d es ep)))
theorem Rz (hA:X.A.handled=none)(hu:X.A.units+64<cLine)(hK:X.K=K:=by rfl):CallR X (.type "dict") (rDict X.prog X.w K):=by
 subst hK;intro pins s σ H xs us Q I r h;obtain⟨p,ys,es,rfl,hq,hp,nd,q⟩:=h;obtain⟨u,rfl,rx⟩:=Wz r
 cases rx;obtain⟨its,r',pl,hz⟩:=I.list hq;have lp:=YW hp;have lr:=r'.length;have pairs:Paired (PairAt X.prog X.w s.heap) its.toArray.toList (es.map λe=>(rowK e.1,e.2.1,Value.ref e.2.2)):=by
  have key:∀ {ys:TZ} {es:List (List Rat × Addr × Addr)} {its:TH},Paired (λv e=>∃ t,v=V.ref t/\SqT X.K H t [.ref e.2.1,.ref e.2.2]/\RowAt X.K H e.2.1 e.1) ys es->Vals ys its->Paired (PairAt X.prog X.w s.heap) its (es.map λe=>(rowK e.1,e.2.1,Value.ref e.2.2)):=by
   intro ys es its hp
   induction hp generalizing its with
   | nil=>intro v;cases v;exact .nil
   | cons h1 _ ih =>
    intro v
    cases v with
    | cons r1 t =>
     obtain⟨b,rfl,sq,row⟩:=h1
     cases r1;obtain⟨it2,r2,⟨o,ho,hc,n,hd⟩,_⟩:=I.tuple sq;obtain⟨u1,u2,rfl,e1,e2⟩:=Vals.two r2
     cases e1
     cases e2;exact .cons ⟨b,o,n,rfl,ho,hc,hd,Pb I row⟩ (ih t)
  exact key hp r'
 refine Tx hA (by omega) pl (by rw[YC];omega) pairs ?_ λh' tk hm kp=>?_
 ·rw[GX,show ((λx:List (List Int) × Addr × Value=>x.1) ∘ λe:List Rat × Addr × Addr=>(rowK e.1,e.2.1,Value.ref e.2.2))=λe=>rowK e.1 from rfl];rw[XU,GL] at nd ⊢;exact nd.imp λhne z=>hne (Sn z)
 obtain⟨o,ds,ep,ho,hX,hd,he,_,_⟩:=hm;have hsys:(s.heap.objs.size == sysModules)=false:=by
  have h:=Z25 I;exact beq_false_of_ne (JW h)
 refine⟨.ref s.heap.objs.size,_,I.laid (t':=tk) kp (YF _) (show ObjOk X.prog X.w _ h' _ (dcO X.prog X.w s.heap.objs.size es ep) from ⟨⟨o,ds,ho,hX,hd,by rw[he,GX];rfl,hsys⟩,⟨o,ho⟩,?_⟩),rfl,q _ _ (I.hok.fresh (YF _))⟩;rintro h1 h2 ⟨o,ds,ho,r⟩ k;exact⟨o,ds,k _ ho,r⟩
inductive rIxD (P:TU) (w:World) (K:TR) (x y:V) (H:Hp) (Q:VK):Prop
 | i (d a:Addr) (es:List (List Rat × Addr × Addr)) (i:Nat) (e:List Rat × Addr × Addr) (a0:x=.ref d) (a1:y=.ref a) (ep:Nat) (a2:DcAt P w K H d es ep) (a3:es[i]?=some e) (a4:RowAt K H a e.1) (a5:Q (.ref e.2.2) H)
theorem Z23 (hu:X.A.units+64<cLine)(hK:X.K=K:=by rfl):IxR X (rIxD X.prog X.w K):=by
 subst hK;intro value slice pins s σ H x y v u Q I rx ry h hs;obtain⟨d,a,es,i,e,rfl,rfl,ep,hd,he,ha,q⟩:=h
 cases rx
 cases ry;obtain⟨hm,_⟩:=Z2d I hd;have hn:((es.map λe=>(rowK e.1,e.2.1,Value.ref e.2.2)).map (·.1)).Nodup:=let ⟨_,_,_,_,_,_,_,_,hn⟩:=hm;hn;refine zR (x:=.ref e.2.2) hm.typeIs F.slot_dict_getitem.lookup (wpAny_getItem_heap (knd:=rowKind X.prog X.w) (by show X.A.units+1+4<cLine;omega) (Pb I ha) hm (atKey_of_get hn (i:=i) (p:=(e.2.1,.ref e.2.2)) (by rw[YE,he];rfl)) ?_) hs;exact⟨rfl,.ref e.2.2,H,I.tok _,rfl,q⟩
def Itd (P:TU)(w:World)(K:TR)(d:Addr)(es:List (List Rat × Addr × Addr))(ep:Nat):It:=⟨λi H=>DcAt P w K H d es ep/\i<es.length,λi H x H'=>H'=H/\∃ e,es[i]?=some e/\x=.ref e.2.1,λi H=>DcAt P w K H d es ep/\es.length<=i⟩
theorem G0 {P:TU}(d it:Addr)(es:List (List Rat × Addr × Addr))(ep:Nat):Turn P w K tg (Itd P w K d es ep) [it] it (λi h=>h.IsKeyIter it d i es.length ep) where
 mem:=by simp
 obj:=λi h st b hb=>by
  obtain rfl:b=it:=by simpa using hb
  obtain⟨o,e,c,q⟩:=st;exact⟨o,e,λv z=>by rw[q] at z;cases z⟩
 keep:=λi h h' st k=>let ⟨o,e,r⟩:=st;⟨o,k it (by simp) o e,r⟩
 item:=by
  intro X hP hw hK hc i pins s σ H E I hf st ⟨hd,lt⟩;subst hP hw hK;obtain⟨⟨o,ds,ho,hX,hD,he,hs⟩,_⟩:=(show ObjOk X.prog X.w H s.heap d (dcO X.prog X.w d es ep) from I.hok d _ hd.ob);have ln:ds.size=es.length:=by have:=congrArg List.length he;simpa using this
  obtain⟨f0,f1,f2,f3,f4,f5⟩:=hf it (by simp);refine K5 (es:=ds) (i:=i) (by rw[ln];exact st) ho hD (by omega) λh' st' sb=>?_;rw[ln] at st';have I1:Inv X pins σ H { s with heap:=h' }:=I.turned (t':=s.toks) (λb o hb e=>(sb.2 b hb).trans e) f0 f1 f3 f4 f5;obtain⟨oi,e,c,q⟩:=id st';have ek:ds[i].key=.ref (es[i]'lt).2.1:=by
   have h1:ds.toList[i]?=some ds[i]:=by simp
   rw[he,YE,XC lt] at h1;rw[<-YR h1];rfl
  exact⟨_,rfl,Jg (s:={ s with heap:=h' }) e c q (by decide) ⟨.ref (es[i]'lt).2.1,H,I1,ek,⟨rfl,_,XC lt,rfl⟩,st',λb hb=>(hf b hb).1⟩⟩
 done:=by
  intro X hP hw hK hc i pins s σ H E I hf st ⟨hd,ge⟩;subst hP hw hK;obtain⟨⟨o,ds,ho,hX,hD,he,hs⟩,_⟩:=(show ObjOk X.prog X.w H s.heap d (dcO X.prog X.w d es ep) from I.hok d _ hd.ob);have ln:ds.size=es.length:=by have:=congrArg List.length he;simpa using this
  obtain⟨f0,f1,f2,f3,f4,f5⟩:=hf it (by simp);exact Gz (es:=ds) (i:=i) (I.qt hc) (by rw[ln];exact st) ho hD (by omega) λh' eb=>⟨rfl,I.turned (t':=s.toks) (λb o hb e=>eb b o hb e) f0 f1 f3 f4 f5⟩
 self:=λ_ _ _ _ _ st h=>wpAny_pyIter_keyiter st h
inductive iDict_i (P:TU) (w:World) (K:TR) (R:It->Hp->Prop) (x:V) (H:Hp):Prop
 | i (d:Addr) (es:List (List Rat × Addr × Addr)) (ep:Nat) (a0:x=.ref d) (a1:DcAt P w K H d es ep) (a2:R (Itd P w K d es ep) H)
def iDict (P:TU)(w:World)(K:TR)(tl:TE):TI:=λσ H R=>tl σ H (iDict_i P w K R)
theorem Z11 {l:Expr}(hl:PE X l tl)(hK:X.K=K:=by rfl):PI X tg l (iDict X.prog X.w K tl):=by
 subst hK;intro pins s σ H R I h;refine thn (hl pins s σ H _ I h) λv s1 z=>?_;obtain⟨x,H1,I1,r1,d,es,ep,rfl,hd,q⟩:=z
 cases r1;obtain⟨⟨o,ds,ho,hX,hD,he,hs⟩,_⟩:=(show ObjOk X.prog X.w H1 s1.heap d (dcO X.prog X.w d es ep) from I1.hok d _ hd.ob);have ln:ds.size=es.length:=by have:=congrArg List.length he;simpa using this
 refine L1 hs ho hX hD ?_;refine⟨s1.heap.objs.size,[s1.heap.objs.size],_,_,H1,rfl,I1.kept (t':=s1.toks) λb o e=>YB _ e,G0 d _ es ep,⟨_,YM _ rfl,rfl,by rw[<-ln];rfl⟩,λb hb=>?_,q⟩;obtain rfl:b=s1.heap.objs.size:=by simpa using hb
 exact I1.fpOk (YF _) (I1.hok.fresh (YF _))
end
open PySem.Builtin PySem.Builtin.Str
theorem Fl (bs:List Bool):(List.range bs.length).all (λi=>bs.getD i false)=bs.all id:=by
 induction bs with
 | nil=>rfl
 | cons b r ih =>
  rw[XS,Y0H,Y0q,Y1j,Y0q,<-ih];rfl
section
variable {X:Cx}{K:TR}{tg:Expr}
inductive rAll (K:TR) (xs:TZ) (H:Hp) (Q:VK):Prop
 | i (p:Addr) (bs:List Bool) (a0:xs=[.ref p]) (a1:SqL K H p (bs.map V.bl)) (a2:Q (.bl (bs.all id)) H)
theorem Fj (hc:X.calm=true)(hK:X.K=K:=by rfl):CallR X (.builtin "all") (rAll K):=by
 subst hK;intro pins s σ H xs us Q I r h;obtain⟨p,bs,rfl,hs,q⟩:=h;obtain⟨u,e0,rx⟩:=Wz r
 cases (show u=Value.ref p from rx);subst e0;obtain⟨its,rv,pl,hz⟩:=I.list hs;have hl:=rv.length;rw[YC] at hl;have lp:s.heap.IsList p its.toArray:=pl.isList;have lt:p<s.heap.objs.size:=by
  obtain⟨o,e,_⟩:=lp;exact YL e
 have ip:∀ p∈X.pn,s.heap.get? p.1=some p.2:=λp hp=>(I.pin p (YJ _ hp)).1;refine call_all_walk (JU lp ?_);refine⟨s.heap.objs.size,_,_,_,_,_,λi=>bs.getD i false,rfl,Walks.listQ (A:=X.A.in1) (I.ok.hd hc) s.heap.objs.size p (XE lt) (λp hp=>XE (YL (ip p hp))) its.toArray,⟨⟨_,YM _ rfl,rfl,rfl⟩,lp.at λo e=>YB _ e,λp hp=>YB _ (ip p hp)⟩,?_,λh' tk k=>?_⟩
 ·intro i v s' Q' E' hP hQ;have hi:i<its.length:=by
   have:=(Y09.mp hP).1
   simpa using this
  have hb:i<bs.length:=by omega
  have e1:(bs.map V.bl)[i]?=some (V.bl bs[i]):=by simp[hb]
  obtain⟨w,e2,rw'⟩:=rv.get e1;have e3:its[i]?=some v:=by simpa using hP
  rw[e2] at e3
  cases e3
  cases (show v=Value.bool bs[i] from rw');have e4:bs.getD i false=bs[i]:=by simp[List.getD,hb]
  replace hQ:Q' (bs.getD i false) s':=hQ;rw[e4] at hQ;exact GW hQ
 have e:(List.range its.toArray.size).all (λi=>bs.getD i false)=bs.all id:=by
  rw[YN,<-hl];exact Fl bs
 rw[e];refine⟨.bl (bs.all id),H,?_,rfl,q⟩;exact I.kept (t':=tk) λb o z=>k b o (by
  intro m;have:b=s.heap.objs.size:=by simpa using m
  rw[this] at z;exact absurd (YL z) (JI _)) (YB _ z)
end
end Sb
namespace Sb
open PySem PySem.Spec PyProof.Rows L2
theorem Z2h (rs ss:UB):((List.range (min rs.length ss.length)).all (λj=>decide (rs.getD j (0,1)=ss.getD j (0,1))) && rs.length == ss.length)=decide (rs=ss):=by
 rw[JS];simp only [qu,GR,JA,zM,qS];constructor
 ·rintro ⟨h,l⟩;refine zz l λi h1 h2=>?_;have:=h i (by omega)
  simpa [List.getD,h1,h2] using this
 rintro rfl;exact⟨λ_ _=>rfl,rfl⟩
section
variable {X:Cx}{K:TR}{pins:TD}{σ:L2.St}{H:Hp}{s:Shared}{A:Around}{a b:Addr}
theorem Qv (I:Inv X pins σ H s){xs ys:TZ}(h1:SqT X.K H a xs)(h2:SqT X.K H a ys):xs=ys:=by
 obtain⟨i1,r1,p1,_⟩:=I.tuple h1;obtain⟨i2,r2,p2,_⟩:=I.tuple h2;obtain⟨o,e1,_,n,d1⟩:=p1;obtain⟨o',e1',_,n',d1'⟩:=p2;rw[e1] at e1'
 cases e1';rw[d1] at d1';injection d1' with d
 have e:i1=i2:=by simpa using d
 subst e;exact Vals.inj r1 r2
theorem Dq (I:Inv X pins σ H s):∀ {rs ss:UB} {xs:TZ},Rs X.K H rs xs->Rs X.K H ss xs->rs=ss
 | _,_,_,.nil,.nil=>rfl
 | r::_,q::_,_,.cons h t,.cons h' t'=>by
  rw[Dq I t t'];obtain⟨a,rfl,sq⟩:=h;obtain⟨b,e,sq'⟩:=h'
  cases e;have z:=Qv I sq sq';injection z with z1 z2
  injection z2 with z2 z3
  injection z1 with z1
  injection z2 with z2
  rw[show r=q from Y10 z1 z2]
theorem Ks (I:Inv X pins σ H s){rs ss:UB}(h1:RowAt X.K H a rs)(h2:RowAt X.K H a ss):rs=ss:=by
 obtain⟨xs,q1,r1⟩:=h1;obtain⟨ys,q2,r2⟩:=h2
 cases Qv I q1 q2;exact Dq I r1 r2
theorem Z2a (I:Inv X pins σ H s)(hu:A.units<cLine){ns ms:TV}(ha:SqT X.K H a (ns.map V.int))(hb:SqT X.K H b (ms.map V.int)):SeqAt.EqAt A s (.ref a) (.ref b) (decide (ns=ms)):=by
 by_cases e:a=b
 ·subst e;have z:=Qv I ha hb;have z':ns=ms:=by
   have:=congrArg (List.map λv=>match v with | V.int i=>i | _=>0) z
   simpa [GX,Function.comp_def] using this
  rw[XQ z'];exact qN _
 obtain⟨its,r1,p1,_⟩:=I.tuple ha;obtain⟨its2,r2,p2,_⟩:=I.tuple hb;have l1:=r1.length;have l2:=r2.length;rw[YC] at l1 l2;have h:=zW (A:=A) (s:=s) (e:=λj=>ns.getD j 0 == ms.getD j 0) p1 p2 hu (λj h1 h2=>by
  obtain⟨t,e1⟩:=Vh r1 (j:=j) (by simpa using h1);obtain⟨t',e2⟩:=Vh r2 (j:=j) (by simpa using h2);have e1':its.toArray[j]=Value.int (ns.getD j 0) t:=by simpa using e1
  have e2':its2.toArray[j]=Value.int (ms.getD j 0) t':=by simpa using e2
  rw[e1',e2'];exact zj _ _ _ _)
 rw[YN,YN,<-l1,<-l2,Ki] at h;exact Y0c e h
theorem Z29 (I:Inv X pins σ H s)(hu:A.units+1<cLine){rs ss:UB}(ha:RowAt X.K H a rs)(hb:RowAt X.K H b ss):SeqAt.EqAt A s (.ref a) (.ref b) (decide (rs=ss)):=by
 by_cases e:a=b
 ·subst e;rw[XQ (Ks I ha hb)];exact qN _
 obtain⟨xs,q1,hr⟩:=ha;obtain⟨ys,q2,hs⟩:=hb;obtain⟨its,r1,p1,_⟩:=I.tuple q1;obtain⟨its2,r2,p2,_⟩:=I.tuple q2;have l1:=r1.length;have l2:=r2.length;have k1:=hr.len;have k2:=hs.len;have h:=zW (A:=A) (s:=s) (e:=λj=>decide (rs.getD j (0,1)=ss.getD j (0,1))) p1 p2 (by omega) (λj h1 h2=>by
  have g1:j<rs.length:=by simp at h1;omega
  have g2:j<ss.length:=by simp at h2;omega
  have er:rs[j]?=some rs[j]:=by simp[g1]
  have es:ss[j]?=some ss[j]:=by simp[g2]
  obtain⟨x1,ex,c,rfl,sc⟩:=hr.at er;obtain⟨y1,ey,d,rfl,sd⟩:=hs.at es;obtain⟨u1,eu1,ru1⟩:=r1.get ex;obtain⟨u2,eu2,ru2⟩:=r2.get ey
  cases (show u1=Value.ref c from ru1)
  cases (show u2=Value.ref d from ru2);have e1':its.toArray[j]=Value.ref c:=by
   have:its.toArray[j]?=some (Value.ref c):=by simpa using eu1
   rw[qj h1] at this;exact YR this
  have e2':its2.toArray[j]=Value.ref d:=by
   have:its2.toArray[j]?=some (Value.ref d):=by simpa using eu2
   rw[qj h2] at this;exact YR this
  rw[e1',e2'];have q:=Z2a (A:=A.in1) I hu (ns:=[rs[j].1,rs[j].2]) (ms:=[ss[j].1,ss[j].2]) sc sd;have z:decide ([rs[j].1,rs[j].2]=[ss[j].1,ss[j].2])=decide (rs.getD j (0,1)=ss.getD j (0,1)):=by
   rw[zg];simp[List.getD,g1,g2,Prod.ext_iff]
  rw[z] at q;exact q)
 rw[YN,YN,<-l1,<-l2,<-k1,<-k2,Z2h] at h;exact Y0c e h
open Classical in
inductive rInR (K:TR) (neg:Bool) (x y:V) (H:Hp) (Q:VK):Prop
 | i (a l:Addr) (rs:UB) (as:TJ) (rss:UC) (z0:x=.ref a) (z1:y=.ref l) (z2:RowAt K H a rs) (z3:SqL K H l (as.map V.ref)) (z4:Paired (RowAt K H) as rss) (z5:Q (.bl (if neg then !decide (rs∈rss) else decide (rs∈rss))) H)
theorem L8 {I:Inv X pins σ H s}{rs:UB}(e:Value->Bool)(he:∀ (b:Addr) (ss:UB),RowAt X.K H b ss->e (.ref b)=decide (ss=rs)):∀ {as:TJ} {rss:UC} {us:TH},Paired (RowAt X.K H) as rss->Vals (as.map V.ref) us->us.any e=decide (rs∈rss)
 | _,_,_,.nil,.nil=>by simp
 | b::as,ss::rss,u::us,.cons h t,.cons r rt=>by
  cases (show u=Value.ref b from r);rw[jn,he b ss h,L8 (I:=I) e he t rt];rw[JS,Bool.or_eq_true,JY,JY,JY,YK];exact⟨λz=>z.imp Eq.symm id,λz=>z.imp Eq.symm id⟩
open Classical in
theorem Z27 (I:Inv X pins σ H s)(hu:X.A.units+64<cLine){l:Addr}{rs:UB}{as:TJ}{rss:UC}(h2:RowAt X.K H a rs)(h3:SqL X.K H l (as.map V.ref))(h4:Paired (RowAt X.K H) as rss) :
  ∃ (its:Array Value) (e:Value->Bool),s.heap.IsList l its/\(∀ y,y∈its->SeqAt.EqAt X.A.in1 s y (.ref a) (e y))/\its.any e=decide (rs∈rss):=by
 obtain⟨its,r,pl,_⟩:=I.list h3;have he:∀ (b:Addr) (ss:UB),RowAt X.K H b ss->(λu:Value=>match u with | .ref b=>decide (RowAt X.K H b rs) | _=>false) (.ref b)=decide (ss=rs):=λb ss h=>by
  rw[JS];simp only [qS];exact⟨λz=>Ks I h z,λz=>z ▸ h⟩
 refine⟨its.toArray,λu=>match u with | .ref b=>decide (RowAt X.K H b rs) | _=>false,pl.isList,λy hy=>?_,?_⟩
 ·have hy':y∈its:=by simpa using hy
  obtain⟨j,ej⟩:=XL hy';have lj:j<as.length:=by
   have:=(YH.mp ej).1;have z:=r.length;rw[YC] at z;omega
  have ea:(as.map V.ref)[j]?=some (V.ref as[j]):=by simp[lj]
  obtain⟨u,eu,ru⟩:=r.get ea;rw[ej] at eu
  cases eu
  cases (show y=Value.ref as[j] from ru);have l4:=YW h4;have hs:=Paired.getB h4 (show as[j]?=some as[j] by simp[lj]) (show rss[j]?=some rss[j] by simp);generalize rss[j]=ss at hs;rw[he _ ss hs];exact Z29 (A:=X.A.in1) I (by show X.A.units+1+1<cLine;omega) hs h2
 rw[show its.toArray.any (λu:Value=>match u with | .ref b=>decide (RowAt X.K H b rs) | _=>false)=its.any (λu:Value=>match u with | .ref b=>decide (RowAt X.K H b rs) | _=>false) by simp];exact L8 (I:=I) _ he h4 r
theorem Gf (hu:X.A.units+64<cLine)(hK:X.K=K:=by rfl):OpR X (compareOp .NotIn) (rInR K true):=by
 subst hK;intro pins s σ H x y v u Q I rx ry h;obtain⟨a,l,rs,as,rss,rfl,rfl,h2,h3,h4,q⟩:=h
 cases rx
 cases ry;obtain⟨its,e,h5,h6,h7⟩:=Z27 I hu h2 h3 h4;refine SeqAt.notIn_listAt e h5 h6 ⟨.bl _,H,I,rfl,?_⟩;rw[h7];exact q
end
end Sb
namespace Sb
open PySem PySem.Spec PyProof.Rows L2
/-- a def's promise by its body alone -/
theorem Def.h9 {P:TU}{base:Heap}{k:Nat}{x:Str}{N:TF}(D:Def K mg x st ps)(S:FnScope N ps (defScope st))
  (hbody:∀ {f:Addr} {cdv:Value} {A:Around} {outer:TN} {s:Shared} {vs:TZ} {E:XK} (H:Hp) (Q:VK),Room k (A.deeper (envOfC x (defScope st) s.heap.objs.size f cdv)) sr->sp vs H Q E->N.Nodup →
   ∃ t,PSs (cxOf CX0 P w K mg base N x (defScope st) f cdv A outer s H E).nox (defBody st) t/\t { nx:=λ_ H'=>Q .non H',rt:=Q } (start N vs) H)
  (len:∀ vs H Q E,sp vs H Q E->vs.length=ps.length:=by intro _ _ _ _ h;first | (cases h;subst_vars;rfl) | ((repeat (obtain⟨_,h⟩:=h));subst_vars;rfl)):Has P w K mg base (k+1) x ps sp sr :=
 D.has λ_ _ F=>F.ok S len λ_ _ _ _ H _ Q _ hr h=>hbody H Q hr h S.nd
end Sb
namespace Sb
open PySem L2
def top (i:Nat):Stmt:=PySem.Challenge.pw_surebook_k42_mixes.main.body.getD i (.Pass ⟨0,0,0,0⟩)
abbrev iF:Stmt:=top 6
abbrev iB:Stmt:=top 7
abbrev i7:Stmt:=top 8
abbrev iZ:Stmt:=top 9
abbrev jV:Stmt:=top 10
abbrev jL:Stmt:=top 11
abbrev jG:Stmt:=top 12
abbrev iO:Stmt:=top 13
abbrev jE:Stmt:=top 14
abbrev iD:Stmt:=top 15
abbrev iL:Stmt:=top 16
abbrev iR:Stmt:=top 17
abbrev jT:Stmt:=top 19
abbrev iE:Stmt:=top 20
abbrev iX:Stmt:=top 21
abbrev jF:Stmt:=top 22
abbrev jW:Stmt:=top 23
abbrev iH:Stmt:=top 24
abbrev jZ:Stmt:=top 25
abbrev j7:Stmt:=top 26
abbrev iP:Stmt:=top 27
abbrev j0:Stmt:=top 33
abbrev iK:Stmt:=top 34
abbrev jI:Stmt:=top 35
abbrev jR:Stmt:=top 36
abbrev iW:Stmt:=top 37
abbrev jC:Stmt:=top 38
abbrev iI:Stmt:=top 40
abbrev j1:Stmt:=top 42
abbrev iN:Stmt:=top 44
abbrev iC:Stmt:=top 45
abbrev iJ:Stmt:=top 46
abbrev jB:Stmt:=top 47
abbrev iT:Stmt:=top 48
abbrev iY:Stmt:=top 49
abbrev iV:Stmt:=top 50
abbrev jX:Stmt:=top 52
abbrev iU:Stmt:=top 53
abbrev i5:Stmt:=top 54
abbrev jK:Stmt:=top 55
abbrev j2:Stmt:=top 57
abbrev jD:Stmt:=top 58
abbrev j8:Stmt:=top 59
abbrev jU:Stmt:=top 60
abbrev j5:Stmt:=top 61
abbrev jM:Stmt:=top 62
abbrev i9:Stmt:=top 63
abbrev i8:Stmt:=top 64
abbrev iS:Stmt:=top 65
abbrev jQ:Stmt:=top 66
abbrev i3:Stmt:=top 68
abbrev jN:Stmt:=top 69
abbrev jY:Stmt:=top 70
abbrev jA:Stmt:=top 71
abbrev jP:Stmt:=top 72
abbrev jH:Stmt:=top 73
abbrev j3:Stmt:=top 74
abbrev iM:Stmt:=top 75
abbrev jS:Stmt:=top 76
abbrev j4:Stmt:=top 77
abbrev jJ:Stmt:=top 78
abbrev iG:Stmt:=top 79
abbrev jO:Stmt:=top 80
abbrev iQ:Stmt:=top 81
abbrev j6:Stmt:=top 82
structure Blt (mg:TB):Prop where
 len:mg "len"=none
 abs:mg "abs"=none
 isinstance:mg "isinstance"=none
 int:mg "int"=none
 bool:mg "bool"=none
 tuple:mg "tuple"=none
 range:mg "range"=none
 zip:mg "zip"=none
 enumerate:mg "enumerate"=none
 any:mg "any"=none
 sum:mg "sum"=none
 list:mg "list"=none
 min:mg "min"=none
theorem Jq {ns:TV}{k:Int}(h0:0<=k)(h1:k<((ns.map V.int).length:Int)):∃ z,atI (ns.map V.int) k=some (.int z):=by
 obtain⟨j,rfl⟩:=Y0C h0;rw[YC] at h1;have hj:j<ns.length:=by omega
 exact⟨ns[j],Y4 (by simp[hj])⟩
theorem Kh {k:Int}(h0:0<=k)(h1:k<(xs.length:Int)):∃ v,atI xs k=some v/\v∈xs:=by
 obtain⟨j,rfl⟩:=Y0C h0;have hj:j<xs.length:=by omega
 exact⟨xs[j],Y4 (by simp[hj]),XG hj⟩
theorem Z41 {n:Nat}{k:Int}(h0:0<=k)(h1:k<(n:Int)):ixN n k=some k.toNat:=by
 unfold ixN;rw[XF h0,XF h1]
theorem Tm {j:Int}(h:(0:Int)<j):(0:Int)<j:=h
theorem Z2f {j:Int}(h0:0<=j)(h1:j<=1000):CPow 10 j:=⟨h0,by omega,by decide⟩
theorem Vd (t:Int):-(2 ^ 64)<t % 65537/\t % 65537<2 ^ 64:=by omega
section
variable {P:TU}{w:World}{K:TR}{mg:TB}{base:Heap}
inductive spCell (K:TR) (vs:TZ) (H:Hp) (Q:VK) (_z3:XK):Prop
 | i (a:Addr) (k:Int) (ns:TV) (_:vs=[.ref a,.int k]) (_:SqL K H a (ns.map V.int)) (_:0<=k) (_:k<=100000) (_:∀ z:Int,Q (.int z) H)
theorem Z3q (D:Def K mg "_law_cell" j2 UE)(T:Blt mg):Has P w K mg base 1 "_law_cell" UE (spCell K):=by
 refine D.h9 (N:=["_law_script","_law_k","_law_seed","_law_some"]) fsc λH Q hr h nd=>?_;obtain⟨a,k,ns,rfl,hS,hk,hk2,q⟩:=h;refine⟨_,(Z9 (Yc (Zp Sz (pv 1) (Zq Zv rfl T.len qD (Z0 (pv 0) Z7)) (Zr _))
   (Za (Zg (Zi Yz (pv 0) (pv 1) (λ_ _=>rfl))))
   Zw)
  (Z9 (Zh (i:=2) nd rfl (Or.inl rfl) (Zm Zx (pv 1) Z8))
  (Z9 (Yc (Zp Ky (Zq Zv rfl T.len qD (Z0 (pv 0) Z7)) Z8 (Zr _))
   (Za (Zh (i:=2) nd rfl (Or.inl rfl) (Zm X3 (pv 2) (Zm Xq (Zi Yz (pv 0) (Zm Xq (pv 1) (Zq Zv rfl T.len qD (Z0 (pv 0) Z7))) (λ_ _=>rfl)) Z8))))
   Zw)
  (Z9 (Zh (i:=3) nd rfl (Or.inl rfl) (Zm Xq (Zm Zx (pv 2) Z8) Z8))
  (Za (Zg (Zm Xq (Zm Xv (Zm Zx (pv 3) (Zm X3 (Zm X3 (pv 3) (Zm Zx Z8 (pv 1))) Z8)) Z8) Z8))))))),?_⟩
 refine⟨_,rfl,_,rfl,a,_,rfl,.inl hS,_,_,rfl,rfl,_,rfl,?_⟩;refine V8 (λh=>?_) (λh=>?_)
 ·have h':=GH h;obtain⟨z,hz⟩:=Jq hk h';exact⟨_,rfl,_,rfl,a,_,_,_,rfl,rfl,hS,hz,q z⟩
 refine⟨_,rfl,_,_,rfl,rfl,Mi (by decide) (by decide),?_⟩;refine⟨_,rfl,a,_,rfl,.inl hS,_,_,rfl,rfl,_,rfl,?_⟩;refine V8 (λh2=>?_) (λh2=>?_)
 ·have h3:=GH h2;obtain⟨z,hz⟩:=Jq (ns:=ns) (k:=k % ((ns.map V.int).length:Int)) (zH _ (by omega)) (zN _ h3);refine⟨_,rfl,_,rfl,_,rfl,_,rfl,a,_,rfl,.inl hS,_,_,rfl,rfl,h3,a,_,_,_,rfl,rfl,hS,hz,_,_,rfl,rfl,Tm (by decide),_,_,rfl,rfl,?_⟩;refine⟨_,rfl,_,_,rfl,rfl,Mi (by decide) (by decide),_,_,rfl,rfl,Tm (by decide),?_⟩;exact⟨_,rfl,_,rfl,_,rfl,_,_,rfl,rfl,Mj (by decide) (by decide),_,_,rfl,rfl,_,_,rfl,rfl,_,_,rfl,rfl,Mj (Vd _).1 (Vd _).2,_,_,rfl,rfl,⟨by decide,by decide +kernel⟩,_,_,rfl,rfl,Tm (by decide),q _⟩
 refine⟨_,rfl,_,_,rfl,rfl,Mi (by decide) (by decide),_,_,rfl,rfl,Tm (by decide),?_⟩;exact⟨_,rfl,_,rfl,_,rfl,_,_,rfl,rfl,Mj (by decide) (by decide),_,_,rfl,rfl,_,_,rfl,rfl,_,_,rfl,rfl,Mj (Vd _).1 (Vd _).2,_,_,rfl,rfl,⟨by decide,by decide +kernel⟩,_,_,rfl,rfl,Tm (by decide),q _⟩
inductive spLow (vs:TZ) (H:Hp) (Q:VK) (_z3:XK):Prop
 | i (p q:Int) (_:vs=[.int p,.int q]) (_:0<q) (_:q.natAbs.log2<450000) (_:∀ a H',H a=none->Same H H'->H' a=some (.tup [.int (nT p q),.int (nB p q)])->Q (.ref a) H')
theorem Qy {p q:Int}(h:q≠0)(k:q.natAbs.log2<450000):(sg p q).natAbs.log2<450000:=by
 have h1:=Z4g (p:=p) h;have h0:=Q6 (p:=p) h;have h2:(sg p q).natAbs≠0:=by omega
 have h3:q.natAbs≠0:=by omega
 exact (Y0X h2).mpr (JJ h1 ((Y0X h3).mp k))
def muLow (σ:St)(_:Hp):Nat:=match σ with
 | [_,_,_,some (.int y),_]=>y.toNat
 | _=>0
abbrev Z1 (P:TU)(w:World)(K:TR)(mg:TB)(base:Heap):Prop:=Has P w K mg base 2 "_law_low" ["_law_top","_law_bottom"] spLow
theorem Z4x (D:Def K mg "_law_low" j5 ["_law_top","_law_bottom"])(T:Blt mg):Z1 P w K mg base:=by
 refine D.h9 (N:=["_law_top","_law_bottom","_law_one","_law_other","_law_rest"]) fsc λH Q hr h nd=>?_;obtain⟨p,q,rfl,hq,hlog,k⟩:=h;refine⟨_,(Z9 (Zh (i:=2) nd rfl (Or.inl rfl) (Zq L7 rfl T.abs Y0Q (Z0 (pv 0) Z7)))
  (Z9 (Zh (i:=3) nd rfl (Or.inl rfl) (pv 1))
  (Z9 (M3 XZ (Zp Ky (pv 3) Z8 (Zr _))
   (Z9 (Zh (i:=4) nd rfl (Or.inl rfl) (Zm Xq (pv 2) (pv 3)))
   (Z9 (Zh (i:=2) nd rfl (Or.inl rfl) (pv 3))
   (Za (Zh (i:=3) nd rfl (Or.inl rfl) (pv 4))))))
  (Za (Zg (Yp (Z0 (Zm Xv (pv 0) (pv 2)) (Z0 (Zm Xv (pv 1) (pv 2)) Z7)))))))),?_⟩
 refine⟨_,rfl,_,rfl,_,rfl,?_⟩;have hq':q≠0:=by omega
 have eg:Int.gcd (if p<0 then -p else p) q=Int.gcd p q:=by split <;> simp
 refine Nl (λσ H'=>H'=H/\∃ (x y:Int) (r:UA),σ=[some (.int p),some (.int q),some (.int x),some (.int y),r]/\0<=x/\0<=y/\Int.gcd x y=Int.gcd p q) muLow ⟨rfl,_,q,none,rfl,(by split <;> omega),by omega,eg⟩ ?_
  (λσ H Q Q' f ⟨v,e,i,j,e1,e2,k,e3,z⟩=>⟨v,e,i,j,e1,e2,k,e3,f _ _ z⟩)
 rintro σ H' ⟨rfl,x,y,r,rfl,hx,hy,hg⟩;refine⟨_,rfl,_,_,rfl,rfl,_,rfl,?_⟩;refine V8 (λh=>?_) (λh=>?_)
 ·have h':0<y:=GH h;refine⟨_,rfl,_,rfl,_,_,rfl,rfl,h',?_⟩;refine⟨_,rfl,_,rfl,⟨rfl,y,x % y,_,rfl,hy,zH _ (by omega),gcd_step.trans hg⟩,?_⟩;show (x % y).toNat<y.toNat;have:=zN x h';have:=zH x (show y≠0 by omega);omega
 have h':¬ 0<y:=λz=>h (XQ z);have e:=Z43 x y hx (by omega);rw[hg] at e;have es:x=sg p q:=by
  unfold sg gI;rw[XB (by omega),<-e]
 subst es;refine⟨_,rfl,_,rfl,_,_,rfl,rfl,⟨Q6 hq',Qy hq' hlog⟩,_,rfl,_,rfl,_,_,rfl,rfl,⟨Q6 hq',Qy hq' hlog⟩,sz2,λa ha=>?_⟩;exact k a _ ha (Same.new ha) Zb
inductive spBagA (K:TR) (vs:TZ) (H:Hp) (Q:VK) (_z3:XK):Prop
 | i (a:Addr) (at_:Nat) (ns:TV) (_:vs=[.ref a,.int (at_:Int)]) (_:SqL K H a (ns.map V.int)) (_:at_<=100) (_:∀ b H',H b=none->Same H H'->BagAt H' b 101->Q (.ref b) H')
theorem Z3r (D:Def K mg "_law_bag" j8 UF)(fA:Has P w K mg base 1 "_law_cell" UE (spCell K)):Has P w K mg base 2 "_law_bag" UF (spBagA K):=by
 refine D.h9 (N:=["_law_script","_law_at","_law_cell_here"]) fsc λH Q hr h nd=>?_;obtain⟨a,at_,ns,rfl,hS,hat,k⟩:=h;refine⟨_,(Z9 (Zh (i:=2) nd rfl (Or.inl rfl) (Zc fA hr (Z0 (pv 0) (Z0 (pv 1) Z7))))
  (Z9 (Yc (PW.pt (Vj (Zp Z4t (pv 2) (Zm Po Z8 Z8) (Zr _)) (Wh (Zp Z4s (pv 2) (Q8 Ul (Zm Po Z8 Z8)) (Zr _)))))
   (Za (Zg (X1 (Z0 (pv 2) (Z0 Z8 Z7)))))
   Zw)
  (Za (Zg (X1 (Z0 (Zm Xq (pv 2) Z8) (Z0 (Zm X3 (pv 1) Z8) Z7))))))),?_⟩
 refine⟨_,rfl,_,rfl,a,_,ns,rfl,hS,by omega,by omega,λz=>?_⟩;have fin:∀ (x y:Int),0<=y->y<=101->∀ d,H d=none->Q (.ref d) (upd H d (.lst [.int x,.int y])):=λx y y0 y1 d hd=>k d _ hd (Same.new hd) ⟨x,y,Zb,y0,by omega⟩;refine⟨_,rfl,_,_,rfl,rfl,Z2f (by decide) (by decide),_,_,rfl,rfl,_,rfl,?_⟩;refine V8 (λh1=>?_) (λh1=>?_)
 ·exact⟨_,rfl,sz2,λd hd=>fin _ _ (by decide) (by decide) d hd⟩
 refine⟨_,rfl,_,_,rfl,rfl,Z2f (by decide) (by decide),_,rfl,_,_,rfl,rfl,_,rfl,?_⟩;refine V8 (λh2=>?_) (λh2=>?_)
 ·exact⟨_,rfl,sz2,λd hd=>fin _ _ (by decide) (by decide) d hd⟩
 exact⟨_,rfl,_,_,rfl,rfl,Tm (by decide),_,rfl,_,_,rfl,rfl,sz2,λd hd=>fin _ _ (by omega) (by omega) d hd⟩
inductive spTake (vs:TZ) (H:Hp) (Q:VK) (_z3:XK):Prop
 | i (b:Addr) (m:Int) (n:Nat) (_:vs=[.ref b,.int m]) (_:BagAt H b n) (_:n<=1000000000) (_:0<m) (_:m.natAbs.log2<450000) (_:∀ (r:Int) (H':Hp),0<=r->r<m->BagAt H' b (n+1)->SameX b H H'->Q (.int r) H')
abbrev Z2 (P:TU)(w:World)(K:TR)(mg:TB)(base:Heap):Prop:=Has P w K mg base 1 "_law_take" ["_law_bag_here","_law_many"] spTake
theorem Z3h (D:Def K mg "_law_take" jU ["_law_bag_here","_law_many"]):Z2 P w K mg base:=by
 refine D.h9 (N:=["_law_bag_here","_law_many","_law_some"]) fsc λH Q hr h nd=>?_;obtain⟨b,m,n,rfl,⟨x,y,e,hy,hyn⟩,hn,hm,hlog,q⟩:=h;have hL:SqL K H b [.int x,.int y]:=SqL.of e;refine⟨_,(Z9 (Yc (Zp Wv (Zi Ja (pv 0) Z8 (λ_ _=>rfl)) Z8 (Zr _))
   (Z9 (Zh (i:=2) nd rfl (Or.inl rfl) (Zm Xq (Zi Jb (pv 0) Z8 (λ_ _=>rfl)) (pv 1)))
   (Z9 (Sr (Zm Xv (Zi Jb (pv 0) Z8 (λ_ _=>rfl)) (pv 1)) (Pl (pv 0) Z8 Vy))
   (Za (Zg (pv 2)))))
   Zw)
  (Z9 (Sr (Zm Xq (Zm X3 (Zm X3 (Zm Zx (Zi Jb (pv 0) Z8 (λ_ _=>rfl)) Z8) (Zm Zx (Zm Zx Z8 (Zi Ja (pv 0) Z8 (λ_ _=>rfl))) (Zi Ja (pv 0) Z8 (λ_ _=>rfl)))) Z8) Z8) (Pl (pv 0) Z8 Vy))
  (Z9 (Sr (Zm X3 (Zi Ja (pv 0) Z8 (λ_ _=>rfl)) Z8) (Pl (pv 0) Z8 Vy))
  (Za (Zg (Zm Xq (Zm Xq (Zm Zx (Zi Jb (pv 0) Z8 (λ_ _=>rfl)) Z8) Z8) (pv 1))))))),?_⟩
 refine⟨_,rfl,b,_,_,rfl,rfl,hL,rfl,_,rfl,?_⟩;refine V8 (λh=>?_) (λh=>?_)
 ·refine⟨_,rfl,b,_,_,rfl,rfl,hL,_,rfl,_,_,rfl,rfl,hm,?_⟩;refine⟨_,rfl,b,_,_,rfl,rfl,hL,_,rfl,_,_,rfl,rfl,⟨by omega,hlog⟩,_,rfl,b,_,_,0,rfl,rfl,e,rfl,?_⟩;refine⟨_,rfl,?_⟩;exact q _ _ (zH _ (by omega)) (zN _ hm) ⟨_,y,Zb,hy,by omega⟩ (SameX.upd b H _)
 refine⟨_,rfl,b,_,_,rfl,rfl,hL,_,_,rfl,rfl,Mi (by decide) (by decide),_,rfl,b,_,_,rfl,rfl,hL,_,_,rfl,rfl,Mj (by decide) (by decide),_,rfl,b,_,_,rfl,rfl,hL,_,_,rfl,rfl,Mi (by omega) (by omega),_,_,rfl,rfl,_,_,rfl,rfl,_,_,rfl,rfl,Tm (by decide),_,rfl,b,_,_,0,rfl,rfl,e,rfl,?_⟩;refine⟨_,rfl,b,_,_,rfl,rfl,SqL.of Zb,_,_,rfl,rfl,_,rfl,b,_,_,1,rfl,rfl,Zb,rfl,?_⟩;refine⟨_,rfl,b,_,_,rfl,rfl,SqL.of Zb,_,_,rfl,rfl,Mi (by decide) (by decide),_,_,rfl,rfl,Tm (by decide),_,rfl,_,_,rfl,rfl,hm,?_⟩;exact q _ _ (zH _ (by omega)) (zN _ hm) ⟨_,y+1,Zb,by omega,by omega⟩ ((SameX.upd b H _).trans (SameX.upd b _ _))
inductive spGcd (vs:TZ) (H:Hp) (Q:VK) (_z3:XK):Prop
 | i (a b:Int) (_:vs=[.int a,.int b]) (_:Q (.int (Int.gcd a b:Nat)) H)
theorem Z4l:FnScope ["one","other","rest"] UG (defScope iB):=fsc
def muGcd (σ:St)(_:Hp):Nat:=match σ with
 | [_,some (.int y),_]=>y.natAbs
 | _=>0
theorem Z1w {y:Int}(h:(!decide (V.int y=V.int 0))=true):y≠0:=by
 intro z;subst z;simp at h
theorem Z28 {y:Int}(h:¬ (!decide (V.int y=V.int 0))=true):y=0:=by
 apply YO;intro z;apply h;have:¬ V.int y=V.int 0:=λq=>z (V.int.inj q);simp[this]
theorem Z50 (D:Def K mg "common_divisor" iB UG)(T:Blt mg):Has P w K mg base 1 "common_divisor" UG spGcd:=by
 refine D.h9 Z4l λH Q hr h nd=>?_;obtain⟨a,b,rfl,q⟩:=h;refine⟨_,(Z9 (M3 XZ (Zp Me (pv 1) Z8 (Zr _))
   (Z9 (Zh (i:=2) nd rfl (Or.inl rfl) (Zm Z15 (pv 0) (pv 1)))
   (Z9 (Zh (i:=0) nd rfl (Or.inl rfl) (pv 1))
   (Za (Zh (i:=1) nd rfl (Or.inl rfl) (pv 2))))))
  (Za (Zg (Zq L7 rfl T.abs Y0Q (Z0 (pv 0) Z7))))),?_⟩
 refine Nl (λσ H'=>H'=H/\∃ (x y:Int) (r:UA),σ=[some (.int x),some (.int y),r]/\Int.gcd x y=Int.gcd a b) muGcd ⟨rfl,a,b,none,rfl,rfl⟩ ?_
  (λσ H Q Q' f ⟨v,e,e1,k,e3,z⟩=>⟨v,e,e1,k,e3,f _ _ z⟩)
 rintro σ H' ⟨rfl,x,y,r,rfl,hg⟩;refine⟨_,rfl,rfl,_,rfl,?_⟩;refine V8 (λh=>?_) (λh=>?_)
 ·have h':y≠0:=Z1w h;refine⟨_,rfl,_,rfl,_,_,rfl,rfl,h',?_⟩;refine⟨_,rfl,_,rfl,⟨rfl,y,x.fmod y,_,rfl,(F4 x y).trans hg⟩,?_⟩;exact Bq x h'
 have h':y=0:=Z28 h;subst h';refine⟨_,rfl,_,rfl,?_⟩;have e:(if x<0 then -x else x)=((Int.gcd a b:Nat):Int):=by
  rw[<-hg];simp;split <;> omega
 rw[e];exact q
inductive spLowest (vs:TZ) (H:Hp) (Q:VK) (_z3:XK):Prop
 | i (p q:Int) (_:vs=[.int p,.int q]) (_:q≠0) (_:q.natAbs.log2<450000) (_:∀ a H',H a=none->Same H H'->H' a=some (.tup [.int (nT p q),.int (nB p q)])->Q (.ref a) H')
abbrev Z6 (P:TU)(w:World)(K:TR)(mg:TB)(base:Heap):Prop:=Has P w K mg base 2 "lowest" UH spLowest
theorem Cp (D:Def K mg "lowest" i7 UH)(eI:Has P w K mg base 1 "common_divisor" UG spGcd):Z6 P w K mg base:=by
 refine D.h9 (N:=["top","bottom","divisor"]) fsc λH Q hr h nd=>?_;obtain⟨p,q,rfl,hq,hlog,k⟩:=h;refine⟨_,(Z9 (Zh (i:=2) nd rfl (Or.inl rfl) (Zc eI hr (Z0 (pv 0) (Z0 (pv 1) Z7))))
  (Z9 (Wi (Yc (Zp Sz (pv 1) Z8 (Zr _))
   (Za (Zh (i:=2) nd rfl (Or.inl rfl) (Q8 Ul (pv 2))))
   Zw))
  (Za (Zg (Yp (Z0 (Zm Xv (pv 0) (pv 2)) (Z0 (Zm Xv (pv 1) (pv 2)) Z7))))))),?_⟩
 refine⟨_,rfl,_,rfl,_,_,rfl,?_⟩;refine⟨λσ H'=>H'=H/\σ=[some (.int p),some (.int q),some (.int (sg p q))],?_,?_⟩
 ·refine⟨_,rfl,_,_,rfl,rfl,_,rfl,?_⟩;refine V8 (λh=>?_) (λh=>?_)
  ·have h':q<0:=GH h;refine⟨_,rfl,_,rfl,rfl,?_⟩;have e:sg p q=-((Int.gcd p q:Nat):Int):=by unfold sg gI;rw[XF h']
   rw[e];rfl
  have h':¬ q<0:=λz=>h (XQ z);refine⟨rfl,?_⟩;have e:sg p q=((Int.gcd p q:Nat):Int):=by unfold sg gI;rw[XB h']
  rw[e];rfl
 rintro σ H' ⟨rfl,rfl⟩;refine⟨_,rfl,_,rfl,_,_,rfl,rfl,⟨Q6 hq,Qy hq hlog⟩,_,rfl,_,rfl,_,_,rfl,rfl,⟨Q6 hq,Qy hq hlog⟩,sz2,λa ha=>?_⟩;exact k a _ ha (Same.new ha) Zb
inductive spTwo (K:TR) (op:Rat->Rat->Rat) (vs:TZ) (H:Hp) (Q:VK) (_z3:XK):Prop
 | i (a b:Addr) (r s:Rat) (n:Nat) (_:vs=[.ref a,.ref b]) (_:SqT K H a [.int r.1,.int r.2]) (_:SqT K H b [.int s.1,.int s.2]) (_:Good n r) (_:Good n s) (_:n<=200000) (_:∀ c H',H c=none->Same H H'->H' c=some (.tup [.int (op r s).1,.int (op r s).2])->Q (.ref c) H')
theorem Xx {n:Nat}{x y:Int}(h:Bd n x)(k:Bd n y)(hn:n<=200000):(x*y).natAbs.log2<450000:=Bd.log (h.mul k) (by omega)
abbrev Z3 (P:TU)(w:World)(K:TR)(mg:TB)(base:Heap):Prop:=Has P w K mg base 3 "_law_plus" UI (spTwo K addR)
theorem Z1k (D:Def K mg "_law_plus" jM UI)(eB:Z1 P w K mg base):Z3 P w K mg base:=by
 refine D.h9 (N:=UI) fsc λH Q hr h nd=>?_;obtain⟨a,b,r,s,n,rfl,hA,hB,gr,gs,hn,k⟩:=h;refine⟨_,(Za (Zg (Zc eB hr (Z0 (Zm X3 (Zm Zx (Zi Yq (pv 0) Z8 (λ_ _=>rfl)) (Zi Yg (pv 1) Z8 (λ_ _=>rfl))) (Zm Zx (Zi Yq (pv 1) Z8 (λ_ _=>rfl)) (Zi Yg (pv 0) Z8 (λ_ _=>rfl)))) (Z0 (Zm Zx (Zi Yg (pv 0) Z8 (λ_ _=>rfl)) (Zi Yg (pv 1) Z8 (λ_ _=>rfl))) Z7))))),?_⟩;exact⟨_,rfl,_,_,_,rfl,rfl,hA,_,rfl,_,_,_,rfl,rfl,hB,_,_,rfl,rfl,gr.b1.mulOk gs.b2 (by omega) (by omega),_,rfl,_,_,_,rfl,rfl,hB,_,rfl,_,_,_,rfl,rfl,hA,_,_,rfl,rfl,gs.b1.mulOk gr.b2 (by omega) (by omega),_,_,rfl,rfl,_,rfl,_,_,_,rfl,rfl,hA,_,rfl,_,_,_,rfl,rfl,hB,_,_,rfl,rfl,gr.b2.mulOk gs.b2 (by omega) (by omega),_,_,rfl,XN gr.pos gs.pos,Xx gr.b2 gs.b2 hn,k⟩
theorem Cs (D:Def K mg "_law_minus" i9 UI)(eB:Z1 P w K mg base):Has P w K mg base 3 "_law_minus" UI (spTwo K subR):=by
 refine D.h9 (N:=UI) fsc λH Q hr h nd=>?_;obtain⟨a,b,r,s,n,rfl,hA,hB,gr,gs,hn,k⟩:=h;refine⟨_,(Za (Zg (Zc eB hr (Z0 (Zm Ux (Zm Zx (Zi Yq (pv 0) Z8 (λ_ _=>rfl)) (Zi Yg (pv 1) Z8 (λ_ _=>rfl))) (Zm Zx (Zi Yq (pv 1) Z8 (λ_ _=>rfl)) (Zi Yg (pv 0) Z8 (λ_ _=>rfl)))) (Z0 (Zm Zx (Zi Yg (pv 0) Z8 (λ_ _=>rfl)) (Zi Yg (pv 1) Z8 (λ_ _=>rfl))) Z7))))),?_⟩;exact⟨_,rfl,_,_,_,rfl,rfl,hA,_,rfl,_,_,_,rfl,rfl,hB,_,_,rfl,rfl,gr.b1.mulOk gs.b2 (by omega) (by omega),_,rfl,_,_,_,rfl,rfl,hB,_,rfl,_,_,_,rfl,rfl,hA,_,_,rfl,rfl,gs.b1.mulOk gr.b2 (by omega) (by omega),_,_,rfl,rfl,_,rfl,_,_,_,rfl,rfl,hA,_,rfl,_,_,_,rfl,rfl,hB,_,_,rfl,rfl,gr.b2.mulOk gs.b2 (by omega) (by omega),_,_,rfl,XN gr.pos gs.pos,Xx gr.b2 gs.b2 hn,k⟩
theorem Cr (D:Def K mg "_law_times" i8 UI)(eB:Z1 P w K mg base):Has P w K mg base 3 "_law_times" UI (spTwo K mulR'):=by
 refine D.h9 (N:=UI) fsc λH Q hr h nd=>?_;obtain⟨a,b,r,s,n,rfl,hA,hB,gr,gs,hn,k⟩:=h;refine⟨_,(Za (Zg (Zc eB hr (Z0 (Zm Zx (Zi Yq (pv 0) Z8 (λ_ _=>rfl)) (Zi Yq (pv 1) Z8 (λ_ _=>rfl))) (Z0 (Zm Zx (Zi Yg (pv 0) Z8 (λ_ _=>rfl)) (Zi Yg (pv 1) Z8 (λ_ _=>rfl))) Z7))))),?_⟩;exact⟨_,rfl,_,_,_,rfl,rfl,hA,_,rfl,_,_,_,rfl,rfl,hB,_,_,rfl,rfl,gr.b1.mulOk gs.b1 (by omega) (by omega),_,rfl,_,_,_,rfl,rfl,hA,_,rfl,_,_,_,rfl,rfl,hB,_,_,rfl,rfl,gr.b2.mulOk gs.b2 (by omega) (by omega),_,_,rfl,XN gr.pos gs.pos,Xx gr.b2 gs.b2 hn,k⟩
end
theorem p6:(10:Int) ^ (6:Int).toNat=1000000:=by decide +kernel
theorem lg6:(2*(10:Int) ^ (6:Int).toNat+1).natAbs.log2<450000:=by decide +kernel
theorem Z4a {x:Int}(h1:-2000000<x)(h2:x<2000000):Bd 21 x:=by
 unfold Bd;have e:(2:Nat) ^ 21=2097152:=by decide
 rw[e];omega
theorem Zt {n:Nat}(h:n<=1000):n<=sizeLine:=XD h (by decide)
theorem B8 {r:Rat}(hp:0<r.2)(hc:Int.gcd r.1 r.2=1):nrm r.1 r.2=r:=by
 have e:=Xw r.1 r.2;have hq:r.2≠0:=by omega
 refine Vl (Pu hq) hp (Bf hq) hc ?_;exact e
section
variable {P:TU}{w:World}{K:TR}{mg:TB}{base:Heap}
inductive spWhole (vs:TZ) (H:Hp) (Q:VK) (_z3:XK):Prop
 | i (i:Int) (_:vs=[.int i]) (_:Q (.bl true) H)
theorem Z18 (D:Def K mg "_law_whole" jD UJ)(T:Blt mg):Has P w K mg base 1 "_law_whole" UJ spWhole:=by
 refine D.h9 (N:=UJ) fsc λH Q hr h nd=>?_;obtain⟨i,rfl,q⟩:=h;refine⟨_,(Za (Zg (Uw (Zq Xf rfl T.isinstance JB (Z0 (pv 0) (Z0 (U2 T.int jd) Z7))) (Vp (Su (Zq Xf rfl T.isinstance JB (Z0 (pv 0) (Z0 (U2 T.bool zY) Z7)))))))),?_⟩;refine⟨_,rfl,_,_,_,_,rfl,TyOf.int i,V7,_,rfl,Wy ?_⟩;exact⟨_,rfl,_,_,_,_,rfl,TyOf.int i,Uc,_,rfl,q⟩
inductive spIsRt (K:TR) (vs:TZ) (H:Hp) (Q:VK) (_z3:XK):Prop
 | i (a:Addr) (r:Rat) (n:Nat) (_:vs=[.ref a]) (_:SqT K H a [.int r.1,.int r.2]) (_:Good n r) (_:n<=400000) (_:∀ H',Same H H'->Q (.bl true) H')
theorem Z3n (D:Def K mg "_law_is_ratio" iS UJ)(T:Blt mg)(fE:Has P w K mg base 1 "_law_whole" UJ spWhole)(eB:Z1 P w K mg base):Has P w K mg base 3 "_law_is_ratio" UJ (spIsRt K):=by
 refine D.h9 (N:=UJ) fsc λH Q hr h nd=>?_;obtain⟨a,r,n,rfl,hA,g,hn,k⟩:=h;have hU:=GJ (Rk hr);refine⟨_,(Z9 (Yc (PW.pt (Vj (Xg (Yo (Zq Xl rfl T.isinstance JB (Z0 (pv 0) (Z0 (U2 T.tuple XO) Z7))))) (Wh (Zp Me (Zq Zv rfl T.len qD (Z0 (pv 0) Z7)) Z8 (Zr _)))))
   (Za (Zg Xu))
   Zw)
  (Z9 (Yc (PW.pt (Vj (Xg (Yo (Zc fE hr (Z0 (Zi Yq (pv 0) Z8 (λ_ _=>rfl)) Z7)))) (Vj (Xg (Yo (Zc fE hr (Z0 (Zi Yg (pv 0) Z8 (λ_ _=>rfl)) Z7)))) (Wh (Zp Sz (Zi Yg (pv 0) Z8 (λ_ _=>rfl)) Z8 (Zr _))))))
   (Za (Zg Xu))
   Zw)
  (Za (Zg (Xb (Pp (K:=K) hU) (Zc eB hr (Z0 (Zi Yq (pv 0) Z8 (λ_ _=>rfl)) (Z0 (Zi Yg (pv 0) Z8 (λ_ _=>rfl)) Z7))) (pv 0) (Zr _)))))),?_⟩
 refine⟨_,rfl,_,_,_,_,rfl,hA,V7,_,rfl,Yw ?_⟩;refine⟨_,rfl,a,_,rfl,.inr hA,rfl,_,rfl,Qf rfl ?_⟩;refine⟨_,rfl,_,_,_,rfl,rfl,hA,_,rfl,_,rfl,Yw ?_⟩;refine⟨_,rfl,_,_,_,rfl,rfl,hA,_,rfl,_,rfl,Yw ?_⟩;refine⟨_,rfl,_,_,_,rfl,rfl,hA,_,_,rfl,rfl,_,rfl,?_⟩;have pos:=g.pos;have e0:decide (r.2<1)=false:=XR (by omega);rw[e0];refine Yw ?_;refine⟨_,rfl,_,_,_,rfl,rfl,hA,_,rfl,_,_,_,rfl,rfl,hA,_,_,rfl,pos,g.b2.log (by omega),λc H2 fc S2 e2=>?_⟩;have en:=B8 pos g.cop;have e2':H2 c=some (.tup ([r.1,r.2].map V.int)):=by
  rw[e2];show some (HO.tup [.int (nrm r.1 r.2).1,.int (nrm r.1 r.2).2])=_;rw[en];rfl
 have hA2:SqT K H2 a ([r.1,r.2].map V.int):=Zn S2 hA;refine⟨_,rfl,c,a,[r.1,r.2],[r.1,r.2],rfl,rfl,SqT.of e2',hA2,?_⟩;rw[XQ rfl];exact k _ S2
inductive spParted (K:TR) (vs:TZ) (H:Hp) (Q:VK) (_z3:XK):Prop
 | i (a b:Addr) (r s:Rat) (n:Nat) (_:vs=[.ref a,.ref b]) (_:SqT K H a [.int r.1,.int r.2]) (_:SqT K H b [.int s.1,.int s.2]) (_:Good n r) (_:Good n s) (_:0<s.1) (_:n<=200000) (_:∀ c H',H c=none->Same H H'->H' c=some (.tup [.int (nrm (r.1*s.2) (r.2*s.1)).1,.int (nrm (r.1*s.2) (r.2*s.1)).2])->Q (.ref c) H')
theorem Cn (D:Def K mg "_law_parted" i3 UI)(eB:Z1 P w K mg base):Has P w K mg base 3 "_law_parted" UI (spParted K):=by
 refine D.h9 (N:=["_law_one","_law_other","_law_top","_law_bottom"]) fsc λH Q hr h nd=>?_;obtain⟨a,b,r,s,n,rfl,hA,hB,gr,gs,hs,hn,k⟩:=h;refine⟨_,(Z9 (Zh (i:=2) nd rfl (Or.inl rfl) (Zm Zx (Zi Yq (pv 0) Z8 (λ_ _=>rfl)) (Zi Yg (pv 1) Z8 (λ_ _=>rfl))))
  (Z9 (Zh (i:=3) nd rfl (Or.inl rfl) (Zm Zx (Zi Yg (pv 0) Z8 (λ_ _=>rfl)) (Zi Yq (pv 1) Z8 (λ_ _=>rfl))))
  (Z9 (Yc (Zp Sz (pv 3) Z8 (Zr _))
   (Za (Zg (Zc eB hr (Z0 (Q8 Ul (pv 2)) (Z0 (Q8 Ul (pv 3)) Z7)))))
   Zw)
  (Za (Zg (Zc eB hr (Z0 (pv 2) (Z0 (pv 3) Z7)))))))),?_⟩
 have hp:=XN gr.pos hs;refine⟨_,rfl,_,_,_,rfl,rfl,hA,_,rfl,_,_,_,rfl,rfl,hB,_,_,rfl,rfl,gr.b1.mulOk gs.b2 (by omega) (by omega),?_⟩;refine⟨_,rfl,_,_,_,rfl,rfl,hA,_,rfl,_,_,_,rfl,rfl,hB,_,_,rfl,rfl,gr.b2.mulOk gs.b1 (by omega) (by omega),?_⟩;refine⟨_,rfl,_,_,rfl,rfl,_,rfl,?_⟩;refine V8 (λh=>?_) (λh=>?_)
 ·have:=GH h;omega
 exact⟨_,rfl,_,rfl,_,_,rfl,hp,Xx gr.b2 gs.b1 hn,k⟩
end
section
variable {K:TR}{H:Hp}{Q:VK}{a b:Addr}{rs ss:UB}
theorem RowAt.same {H':Hp}(h:RowAt K H a rs)(S:Same H H'):RowAt K H' a rs:=h.ext (Ext.same S)
end
theorem Z54 {z m:Int}(h0:0<=z)(h1:z<m):∃ i:Nat,z=(i:Int)/\(i:Int)<m:=⟨z.toNat,by omega,by omega⟩
theorem Z1z {c:Nat}(h:c<=1000):(c:Int).natAbs.log2<450000:=by
 have e:(c:Int).natAbs=c:=by omega
 rw[e];rcases Y1c c with z | z
 ·subst z;decide
 exact JJ (Nat.log2_le_self c) (by omega)
theorem bdS {n:Nat}{x:Int}(h:x.natAbs<2 ^ n):Bd n x:=h
theorem Z3s {σ:L2.St}{Q:Option Int->Hp->Prop}(h:Q none H):tNoPart σ H Q:=h
section
variable {P:TU}{w:World}{K:TR}{mg:TB}{base:Heap}
theorem Gk (D:Def K mg "is_whole" iF ["value"])(T:Blt mg):Has P w K mg base 1 "is_whole" ["value"] spWhole:=by
 refine D.h9 (N:=["value"]) fsc λH Q hr h nd=>?_;obtain⟨i,rfl,q⟩:=h;refine⟨_,(Za (Zg (Uw (Zq Xf rfl T.isinstance JB (Z0 (pv 0) (Z0 (U2 T.int jd) Z7))) (Vp (Su (Zq Xf rfl T.isinstance JB (Z0 (pv 0) (Z0 (U2 T.bool zY) Z7)))))))),?_⟩;refine⟨_,rfl,_,_,_,_,rfl,TyOf.int i,V7,_,rfl,Wy ?_⟩;exact⟨_,rfl,_,_,_,_,rfl,TyOf.int i,Uc,_,rfl,q⟩
theorem Cm (D:Def K mg "ratio" iZ UH)(eV:Has P w K mg base 1 "is_whole" ["value"] spWhole)(eG:Z6 P w K mg base):Has P w K mg base 3 "ratio" UH spLowest:=by
 refine D.h9 (N:=UH) fsc λH Q hr h nd=>?_;obtain⟨p,q,rfl,hq,hlog,k⟩:=h;refine⟨_,(Z9 (Yc (PW.pt (Vj (Xg (Yo (Zc eV hr (Z0 (pv 0) Z7)))) (Wh (Xg (Yo (Zc eV hr (Z0 (pv 1) Z7)))))))
   (Za Sq)
   Zw)
  (Z9 (Yc (Zp Wv (pv 1) Z8 (Zr _))
   (Za Sq)
   Zw)
  (Za (Zg (Zc eG hr (Z0 (pv 0) (Z0 (pv 1) Z7))))))),?_⟩
 refine⟨_,rfl,p,rfl,_,rfl,Yw ⟨_,rfl,q,rfl,_,rfl,Yw ?_⟩⟩;refine⟨_,rfl,rfl,_,rfl,Ms (λz=>hq (V.int.inj z)) ?_⟩;exact⟨_,rfl,_,rfl,p,q,rfl,hq,hlog,k⟩
end
structure Six (r:Rat):Prop where
 g:Good 21 r
 d:r.2 ∣ 6
theorem Z3t (p q:Int):nB p q ∣ q:=⟨sg p q,(Uz p q).symm⟩
theorem Ty {p q:Int}(h1:-2000000<p)(h2:p<2000000)(hq:q=1 \/ q=2 \/ q=3):Six (nrm p q):=by
 refine⟨Xe (Z4a h1 h2) (Z4a (by omega) (by omega)) (by omega),Y18 (Z3t p q) ?_⟩;rcases hq with rfl | rfl | rfl
 ·exact⟨6,rfl⟩
 ·exact⟨3,rfl⟩
 exact⟨2,rfl⟩
theorem Six.rep {r:Rat}(h:Six r):r.1*6=(r.1*(6:Int).fdiv r.2)*r.2/\Bd 24 (r.1*(6:Int).fdiv r.2):=by
 refine⟨Wb h.d,?_⟩;have:Bd 3 ((6:Int).fdiv r.2):=by
  refine Bd.of_le (N0 (by decide) h.g.pos) ?_;show (6:Int).natAbs<2 ^ 3
  decide
 exact h.g.b1.mul this
theorem Te {n:Nat}{x:Int}(m:Nat)(h:x.natAbs<2 ^ m)(k:m<=n):Bd n x:=Bd.mono (m:=m) h k
theorem RepL.six (h:∀ r∈rs,Six r):RepL 24 6 (wholeB rs 6) rs:=by
 refine⟨by decide,Te 3 (by decide) (by decide),by unfold wholeB;rw[YC],λi W r hW hr=>?_⟩;unfold wholeB at hW;rw[YE,hr] at hW
 cases hW;have:=h r (YD hr);exact⟨this.rep.1,this.rep.2,this.g.low⟩
section
variable {P:TU}{w:World}{K:TR}{mg:TB}{base:Heap}
inductive spSmall6 (K:TR) (vs:TZ) (H:Hp) (Q:VK) (_z3:XK):Prop
 | i (b:Addr) (n:Nat) (_:vs=[.ref b]) (_:BagAt H b n) (_:n<=1000000) (_:∀ (a:Addr) (H':Hp) (r:Rat),BagAt H' b (n+3)->SameX b H H'->H' a=some (.tup [.int r.1,.int r.2])->Six r->Q (.ref a) H')
theorem Ck (D:Def K mg "_law_small" jH ["_law_bag_here"])(eA:Z2 P w K mg base)(eB:Z1 P w K mg base) :
  Has P w K mg base 3 "_law_small" ["_law_bag_here"] (spSmall6 K):=by
 refine D.h9 (N:=["_law_bag_here","_law_bottom"]) fsc λH Q hr h nd=>?_;obtain⟨b,n,rfl,hB,hn,k⟩:=h;refine⟨_,(Z9 (Zh (i:=1) nd rfl (Or.inl rfl) (Zi Yz (X1 (Z0 Z8 (Z0 Z8 (Z0 Z8 (Z0 Z8 Z7))))) (Zc eA hr (Z0 (pv 0) (Z0 Z8 Z7))) (λ_ _=>rfl)))
  (Z9 (Yc (Zp Wv (Zc eA hr (Z0 (pv 0) (Z0 Z8 Z7))) Z8 (Zr _))
   (Za (Zg (Zc eB hr (Z0 (Zm Ux (Zc eA hr (Z0 (pv 0) (Z0 (Zm X3 (Zm Zx Z8 (Zm Po Z8 Z8)) Z8) Z7))) (Zm Po Z8 Z8)) (Z0 (pv 1) Z7)))))
   Zw)
  (Za (Zg (Zc eB hr (Z0 (Zm Ux (Zc eA hr (Z0 (pv 0) (Z0 Z8 Z7))) Z8) (Z0 (pv 1) Z7))))))),?_⟩
 refine⟨sz4,λl hl=>?_⟩;have S0:Same H (upd H l (.lst [.int 1,.int 1,.int 2,.int 3])):=Same.new hl;have e0:upd H l (.lst [.int 1,.int 1,.int 2,.int 3]) l=some (.lst [.int 1,.int 1,.int 2,.int 3]):=Zb;generalize upd H l (.lst [.int 1,.int 1,.int 2,.int 3])=H0 at *
 have hbl:l≠b:=by
  obtain⟨ys,e⟩:=hB.lst;exact (Zd e hl).symm
 refine⟨_,rfl,b,_,n,rfl,hB.same S0,by omega,by decide,by decide +kernel,λr1 H1 r10 r11 B1 S1=>?_⟩;obtain⟨q,eq,hq⟩:∃ q:Int,atI [V.int 1,.int 1,.int 2,.int 3] r1=some (.int q)/\(q=1 \/ q=2 \/ q=3):=by
  have h:r1=0 \/ r1=1 \/ r1=2 \/ r1=3:=by omega
  rcases h with rfl | rfl | rfl | rfl
  ·exact⟨1,Y4 (j:=0) rfl,.inl rfl⟩
  ·exact⟨1,Y4 (j:=1) rfl,.inl rfl⟩
  ·exact⟨2,Y4 (j:=2) rfl,.inr (.inl rfl)⟩
  exact⟨3,Y4 (j:=3) rfl,.inr (.inr rfl)⟩
 refine⟨l,_,_,_,rfl,rfl,SqL.of (S1 _ _ e0 hbl),eq,?_⟩;have bq:Bd 21 q:=Z4a (by omega) (by omega);refine⟨_,rfl,b,_,n+1,rfl,B1,by omega,by decide,by decide +kernel,λr2 H2 r20 r21 B2 S2=>⟨rfl,_,rfl,?_⟩⟩;refine V8 (λh=>?_) (λh=>?_)
 ·refine⟨_,rfl,_,_,rfl,rfl,Z2f (by decide) (by decide),_,_,rfl,rfl,Mj (by decide) (by decide),_,_,rfl,rfl,b,_,n+1+1,rfl,B2,by omega,by rw[p6];decide,lg6,λr3 H3 r30 r31 B3 S3=>?_⟩;rw[p6] at r31;refine⟨_,_,rfl,rfl,Z2f (by decide) (by decide),_,_,rfl,rfl,_,rfl,_,_,rfl,by omega,bq.log (by decide),λa H4 fa S4 e=>?_⟩;rw[p6] at e;exact k a H4 (nrm (r3 - 1000000) q) (B3.same S4) (((((SameX.of S0).trans S1).trans S2).trans S3).trans (SameX.of S4)) e (Ty (by omega) (by omega) hq)
 refine⟨_,rfl,b,_,n+1+1,rfl,B2,by omega,by decide,by decide +kernel,λr3 H3 r30 r31 B3 S3=>⟨_,_,rfl,rfl,_,rfl,?_⟩⟩;refine⟨_,_,rfl,by omega,bq.log (by decide),λa H4 fa S4 e=>?_⟩;exact k a H4 (nrm (r3 - 8) q) (B3.same S4) (((((SameX.of S0).trans S1).trans S2).trans S3).trans (SameX.of S4)) e (Ty (by omega) (by omega) hq)
inductive spRow6 (K:TR) (vs:TZ) (H:Hp) (Q:VK) (_z3:XK):Prop
 | i (b:Addr) (c n:Nat) (_:vs=[.ref b,.int c]) (_:BagAt H b n) (_:n<=100000) (_:c<=1000) (_:∀ (a:Addr) (H':Hp) (rs:UB),BagAt H' b (n+3*c)->SameX b H H'->RowAt K H' a rs->rs.length=c->(∀ r∈rs,Six r)->Q (.ref a) H')
theorem D5:FnScope UK UK (defScope j3):=fsc
theorem Z3i (D:Def K mg "_law_row" j3 UK)(T:Blt mg)(fP:Has P w K mg base 3 "_law_small" ["_law_bag_here"] (spSmall6 K)):Has P w K mg base 4 "_law_row" UK (spRow6 K):=by
 refine D.has λf fd F=>F.ok D5 (λvs H Q E h=>?_) (λcdv A outer s H vs Q E hr h=>?_)
 ·obtain⟨b,c,n,rfl,_⟩:=h;rfl
 obtain⟨b,c,n,rfl,hB,hn,hc,k⟩:=h;have sc:=D5;have nd1:(UL:List Str).Nodup:=by decide +kernel
 refine⟨_,(Za (Zg (Y1 Y3 rfl T.tuple XO (Z0 (Y0 (N:=UL) (k:=1) (fv:=[0]) rfl (Yh rfl T.range (Z0 (pv 1) Z7))
  (λ_ _ _ _ _=>Zf (i:=0) nd1 rfl (Or.inl rfl)) (λ_ _ _ _ _=>Zy) (λ_ _ _ _ _=>(Zc fP hr (Z0 (pv 1) Z7))) Zj) Z7)))),?_⟩
 have hBl:=hB.lst;refine⟨_,rfl,(c:Int),rfl,(by omega),(by omega),λd hd=>?_⟩;have hdb:d≠b:=by
  obtain⟨ys,e⟩:=hBl;exact (Zd e hd).symm
 have et:(c:Int).toNat=c:=by omega
 rw[et];refine⟨c,λi ys H2=>∃ rs,Rs K H2 rs ys/\rs.length=i/\(∀ r∈rs,Six r)/\BagAt H2 b (n+3*i)/\SameX b H H2,Zt hc,?_,?_,?_⟩
 ·exact⟨[],.nil,rfl,(λ_ h=>nomatch h),hB.upd (qi hdb),SameX.of (Same.new hd)⟩
 ·rintro i ys H2 hi ⟨rs,h1,h2,h3,h4,h5⟩ hd2;refine⟨hi,?_⟩;rintro x H3 ⟨rfl,rfl⟩;refine Y2 ?_;refine⟨_,rfl,b,n+3*i,rfl,h4,by omega,λa H4 r B4 S4 e4 g4=>?_⟩;have E4:=Ext.bag S4 h4;have hd4:H4 d=some (.lst ys):=S4 _ _ hd2 hdb;have E5:Ext H4 (upd H4 d (.lst (ys++[.ref a]))):=Ext.upd hd4;refine⟨hd4,rs++[r],(h1.ext (E4.trans E5)).snoc ⟨a,rfl,E5.sq (SqT.of e4)⟩,by rw[YX,h2];rfl,λr' hr'=>?_,(B4.upd (qi hdb)).mono (by omega),?_⟩
  ·rcases XH.mp hr' with z | z
   ·exact h3 r' z
   rw[XA.mp z];exact g4
  exact λq o e ne=>by
   have e2:=S4 q o (h5 q o e ne) ne;rw[Ze (Zd e hd)];exact e2
 rintro ys H2 ⟨rs,h1,h2,h3,h4,h5⟩ hd2;refine⟨YF _,d,ys,rfl,.inl ⟨SqL.of hd2,λl hl=>?_⟩⟩;have E:=Ext.new (o:=.tup ys) hl;exact k l _ rs (h4.same (Same.new hl)) (h5.trans (SameX.of (Same.new hl))) ⟨ys,SqT.of Zb,h1.ext E⟩ h2 h3
structure WtsR (c:Nat)(Ws:TV)(rs:UB):Prop where
 len:rs.length=c
 nn:∀ W∈Ws,0<=W
 pos:0<Ws.sum
 rep:RepL 10 Ws.sum Ws rs
inductive spWeightsR (K:TR) (vs:TZ) (H:Hp) (Q:VK) (_z3:XK):Prop
 | i (b:Addr) (c n:Nat) (_:vs=[.ref b,.int c]) (_:BagAt H b n) (_:n<=100000) (_:1<=c) (_:c<=100) (_:∀ (a:Addr) (H':Hp) (Ws:TV) (rs:UB),BagAt H' b (n+c+1)->SameX b H H'->RowAt K H' a rs->WtsR c Ws rs->Q (.ref a) H')
theorem Lx (D:Def K mg "_law_weights" iM UK)(T:Blt mg)(eA:Z2 P w K mg base)(eB:Z1 P w K mg base) :
  Has P w K mg base 3 "_law_weights" UK (spWeightsR K):=by
 refine D.h9 (N:=["_law_bag_here","_law_count","_law_parts"]) fsc λH Q hr h nd=>?_;obtain⟨b,c,n,rfl,hB,hn,hc1,hc,k⟩:=h;have nd1:(UL:List Str).Nodup:=by decide +kernel
 have nd2:(["_law_part","_law_parts"]:List Str).Nodup:=by decide +kernel
 refine⟨_,(Z9 (Zh (i:=2) nd rfl (Or.inr rfl) (Y0 (N:=UL) (k:=1) (fv:=[0]) rfl (Yh rfl T.range (Z0 (pv 1) Z7))
  (λ_ _ _ _ _=>Zf (i:=0) nd1 rfl (Or.inl rfl)) (λ_ _ _ _ _=>Zy) (λ_ _ _ _ _=>(Zc eA hr (Z0 (pv 1) (Z0 Z8 Z7)))) Zj))
  (Z9 (Wi (Yc (Zp Wv (Zq (Td (K:=K) rfl) rfl T.sum je (Z0 (pv 2) Z7)) Z8 (Zr _))
   (Za (Sr Z8 (Pl (pv 2) (Zc eA hr (Z0 (pv 0) (Z0 (pv 1) Z7))) Vy)))
   Zw))
  (Za (Zg (Y1 Y3 rfl T.tuple XO (Z0 (Y0 (N:=["_law_part","_law_parts"]) (k:=1) (fv:=[2]) rfl (Y6 (pv 2))
  (λ_ _ _ _ _=>Zf (i:=0) nd2 rfl (Or.inl rfl)) (λ_ _ _ _ _=>Zy) (λ_ _ _ _ _=>(Zc eB hr (Z0 (pv 0) (Z0 (Zq (Td (K:=K) rfl) rfl T.sum je (Z0 (pv 1) Z7)) Z7)))) Zj) Z7)))))),?_⟩
 have hBl:=hB.lst;refine⟨_,rfl,(c:Int),rfl,(by omega),(by omega),λd hd=>?_⟩;have hdb:d≠b:=by
  obtain⟨ys,e⟩:=hBl;exact (Zd e hd).symm
 have et:(c:Int).toNat=c:=by omega
 rw[et];refine⟨c,λi ys H2=>∃ ns:List Int,ys=ns.map V.int/\ns.length=i/\(∀ z∈ns,0<=z/\z<=4)/\BagAt H2 b (n+i)/\SameX b H H2,Zt (by omega),?_,?_,?_⟩
 ·exact⟨[],rfl,rfl,(λ_ h=>nomatch h),hB.upd (qi hdb),SameX.of (Same.new hd)⟩
 ·rintro i ys H2 hi ⟨ns,rfl,h2,h3,B2,S2⟩ hd2;refine⟨hi,?_⟩;rintro x H3 ⟨rfl,rfl⟩;refine Y2 ?_;refine⟨_,rfl,b,_,_,rfl,B2,by omega,by decide,by decide +kernel,λr H4 r0 r1 B4 S4=>?_⟩;have hd4:H4 d=some (.lst (ns.map V.int)):=S4 _ _ hd2 hdb;refine⟨hd4,ns++[r],by rw[XM];rfl,by rw[YX,h2];rfl,λz hz=>?_,(B4.upd (qi hdb)).mono (by omega),?_⟩
  ·rcases XH.mp hz with z' | z'
   ·exact h3 z z'
   rw[XA.mp z'];omega
  exact λq o e ne=>by
   have e2:=S4 q o (S2 q o e ne) ne;rw[Ze (Zd e hd)];exact e2
 rintro ys H2 ⟨ns,rfl,h2,h3,B2,S2⟩ hd2;refine⟨YF _,?_⟩;refine⟨λσ H'=>σ=[some (.ref b),some (.int c),some (.ref d)]/\∃ ms:List Int,ms.length=c/\(∀ z∈ms,0<=z/\z<=4)/\1<=ms.sum/\H' d=some (.lst (ms.map V.int))/\BagAt H' b (n+c+1)/\SameX b H H',?_,?_⟩
 ·refine⟨_,rfl,d,ns,rfl,SqL.of hd2,rfl,_,rfl,?_⟩;refine V8 (λh=>?_) (λh=>?_)
  ·refine⟨_,rfl,_,rfl,_,rfl,b,_,_,rfl,B2,by omega,by omega,Z1z (by omega),λr H4 r0 r1 B4 S4=>?_⟩;obtain⟨j,rfl,hj⟩:=Z54 r0 r1;have hd4:H4 d=some (.lst (ns.map V.int)):=S4 _ _ hd2 hdb;have hjn:j<ns.length:=by omega
   refine⟨d,_,_,j,rfl,rfl,hd4,?_,?_⟩
   ·rw[YC];exact Z41 (by omega) (by omega)
   have em:(ns.map V.int).set j (V.int 1)=(ns.set j 1).map V.int:=by rw[List.map_set]
   rw[em];have h4:∀ z∈ns.set j 1,0<=z/\z<=4:=λz hz=>by
    rcases List.mem_or_eq_of_mem_set hz with e | e
    ·exact h3 z e
    omega
   refine⟨rfl,ns.set j 1,by rw[List.length_set];exact h2,h4,?_,Zb,(B4.upd (qi hdb)).mono (by omega),λq o e ne=>?_⟩
   ·exact Kn _ (λz hz=>(h4 z hz).1) ⟨1,by
     refine List.mem_iff_getElem?.mpr ⟨j,?_⟩;rw[GV (by simpa using hjn)],by omega⟩
   rw[Ze (Zd e hd)];exact S4 q o (S2 q o e ne) ne
  have h0:ns.sum≠0:=λz=>h (XQ (by rw[z]));have:=(Lc ns 4 h3).1;exact⟨rfl,ns,h2,h3,by omega,hd2,B2.mono (by omega),S2⟩
 rintro σ H5 ⟨rfl,ms,l4,h4,s1,hd5,B5,S5⟩;have s2:ms.sum<=4*(c:Int):=by
  have:=(Lc _ 4 h4).2;rw[l4] at this;exact this
 refine⟨_,rfl,d,rfl,⟨_,SqL.of hd5⟩,λe he=>?_⟩;have hed:d≠e:=Zd hd5 he;refine⟨c,λi ys H2=>Same H5 H2/\Rs K H2 ((ms.map λm=>nrm m ms.sum).take i) ys,Zt (by omega),⟨Same.new he,.nil⟩,?_,?_⟩
 ·rintro i ys H6 hi ⟨S6,R6⟩ he6;have him:i<ms.length:=by omega
  refine⟨⟨_,V.int ms[i],SqL.of (S6 _ _ hd5),by simp[him]⟩,?_⟩;rintro x H7 ⟨rfl,fx⟩;have ex:x=V.int ms[i]:=by
   have:=fx _ (SqL.of (S6 _ _ hd5));rw[YE,show ms[i]?=some ms[i] by simp[him]] at this;exact (YR this).symm
  subst ex;refine Y2 ?_;have b2:Bd 10 ms.sum:=bdS (by omega);refine⟨_,rfl,_,rfl,d,ms,rfl,SqL.of (S6 _ _ hd5),ms[i],ms.sum,rfl,by omega,b2.log (by decide),λa8 H8 f8 S8 e8=>?_⟩;have he8:=S8 _ _ he6;refine⟨he8,λq o' e'=>?_,?_⟩
  ·rw[Ze (Zd e' he)];exact S8 _ _ (S6 _ _ e')
  rw[Y8 (show (ms.map λm=>nrm m ms.sum)[i]?=some (nrm ms[i] ms.sum) by rw[YE,show ms[i]?=some ms[i] by simp[him]];rfl)];exact (R6.ext ((Ext.same S8).trans (Ext.upd he8))).snoc ⟨a8,rfl,(Ext.upd he8).sq (SqT.of e8)⟩
 rintro ys H6 ⟨S6,R6⟩ he6;refine⟨⟨_,SqL.of (S6 _ _ hd5),by rw[YC];omega⟩,e,ys,rfl,.inl ⟨SqL.of he6,λl hl'=>?_⟩⟩;rw[YV (by rw[YC];omega)] at R6;refine k l _ ms _ (((B5.same S6).same (Same.new hl')).mono (by omega)) ((S5.trans (SameX.of S6)).trans (SameX.of (Same.new hl'))) ⟨ys,SqT.of Zb,R6.ext (Ext.new hl')⟩ ⟨by rw[YC];exact l4,λW hW=>(h4 W hW).1,by omega,⟨by omega,bdS (by omega),by rw[YC],λi W r hW hr=>?_⟩⟩;rw[YE,hW] at hr
 cases hr;have:=h4 W (YD hW);exact⟨Pd (by omega),bdS (by omega),Yd (by omega)⟩
end
end Sb
namespace Sb
open Sv (sm Xn Qw Sk sm_zero Ve V4 Fw)
theorem Gg {c i:Nat}(h:i<c):(List.replicate c (1:Int)).getD i 0=1:=by simp[List.getD,h]
theorem Fx {c:Nat}{o:TW}(lW:Ws.length=c)(nn:∀ W∈Ws,0<=W):0<=(List.zipWith (·*·) Ws (cutZ o (List.replicate c 1))).sum ∧
  ∀ i,i<c->0<=Ws.getD i 0*(cutZ o (List.replicate c 1)).getD i 0:=by
 have h:∀ i,i<c->0<=Ws.getD i 0*(cutZ o (List.replicate c 1)).getD i 0:=λi hi=>by
  rw[Fb,Gg hi];have:0<=Ws.getD i 0:=by
   have e:Ws.getD i 0=Ws[i]'(by omega):=by simp[List.getD,show i<Ws.length by omega]
   rw[e];exact nn _ (XG _)
  split
  ·omega
  simp
 refine⟨?_,h⟩;rw[Kk c _ _ lW (by rw[L3];simp)];exact Ve h
end Sb
namespace Sb
open PySem L2
theorem RepL.scale {n:Nat}{D:Int}{Zs:TV}{rs:UB}(h:RepL n D Zs rs){k:Int}{m:Nat}(hk:0<k)(bk:Bd m k):RepL (n+m) (D*k) (Zs.map λz=>z*k) rs:=by
 refine⟨XN h.pos hk,h.bD.mul bk,by rw[YC,h.len],λi W r hW hr=>?_⟩;rw[YE] at hW
 cases e:Zs[i]? with
 | none=>rw[e] at hW;cases hW
 | some z =>
  rw[e] at hW
  cases hW;obtain⟨a1,a2,a3⟩:=h.at_ i z r e hr;exact⟨Uu k a1,a2.mul bk,a3⟩
section
variable {P:TU}{w:World}{K:TR}{mg:TB}{base:Heap}
inductive spIsIn (K:TR) (vs:TZ) (H:Hp) (Q:VK) (_z3:XK):Prop
 | i (i c:Nat) (o:TW) (v:V) (_:vs=[.int i,v]) (_:EvAt K H c o v) (_:i<c) (_:Q (.bl (inE o i)) H)
theorem Z58 {H:Hp}{c i:Nat}{o:TW}{v:V}{Q:VK}(h:EvAt K H c o v)(hi:i<c)(q:Q (.bl (inE o i)) H) :
  if decide (v=V.non)=true then Q (.bl true) H else rIn K false (.int i) v H Q:=by
 cases o with
 | none =>
  have e:v=.non:=h;exact Bl e q
 | some p =>
  obtain⟨a,rfl,h⟩:=h;refine Ms (by intro z;cases z) ⟨a,_,rfl,.inr h,rfl,Qj _,?_⟩;show Q (.bl (inV (.int (i:Int)) ((evI c p).map V.int))) H;rw[Mt];have e:decide ((i:Int)∈evI c p)=p i:=by
   rw[JS,qS,J0];simp[hi]
  rw[e];exact q
theorem Z3o (D:Def K mg "is_in" jZ UM):Has P w K mg base 1 "is_in" UM (spIsIn K):=by
 refine D.h9 (N:=UM) fsc λH Q hr h nd=>?_;obtain⟨i,c,o,v,rfl,hv,hi,q⟩:=h;refine⟨_,(Za (Zg (Z4r (Xb Cf (pv 1) Xp (Zr _)) (Vp (Xb Q9 (pv 0) (pv 1) rfl))))),?_⟩;refine⟨_,rfl,rfl,_,rfl,?_⟩;have:=Z58 (Q:=Q) hv hi q;refine Bm (λe=>?_) (λe=>?_)
 ·rw[e] at this;rw[XF rfl] at this;exact this
 rw[e] at this;rw[XB YS] at this;exact⟨_,rfl,_,rfl,this⟩
inductive spCut (K:TR) (vs:TZ) (H:Hp) (Q:VK) (_z3:XK):Prop
 | i (a:Addr) (v:V) (rs:UB) (o:TW) (_:vs=[.ref a,v]) (_:RowAt K H a rs) (_:EvAt K H rs.length o v) (_:rs.length<=1000) (_:∀ p H',Same H H'->RowAt K H' p (cutR o rs)->Q (.ref p) H')
theorem Z51 (D:Def K mg "cut" j7 UN)(T:Blt mg)(gZ:Has P w K mg base 1 "is_in" UM (spIsIn K))(eC:Con K mg "NOUGHT" (0,1)):Has P w K mg base 2 "cut" UN (spCut K):=by
 refine D.h9 (N:=UN) fsc λH Q hr h nd=>?_;obtain⟨a,v,rs,o,rfl,⟨xs,hA,hRs⟩,hv,hl,k⟩:=h;obtain⟨c_NOUGHT,m_NOUGHT,s_NOUGHT⟩:=eC;have nd1:(["world","worth","event"]:List Str).Nodup:=by decide +kernel
 refine⟨_,(Za (Zg (Y1 Y3 rfl T.tuple XO (Z0 (Y0 (N:=["world","worth","event"]) (k:=2) (fv:=[1]) rfl (Z10 rfl T.enumerate (Z0 (pv 0) Z7))
  (λ_ _ _ _ _=>Wk (n:=2) rfl (Y9 (Zf (i:=0) nd1 rfl (Or.inl rfl)) (Y9 (Zf (i:=1) nd1 rfl (Or.inl rfl)) Xi))) (λ_ _ _ _ _=>Zy) (λ_ _ _ _ _=>(Sw (Yo (Zc gZ hr (Z0 (pv 0) (Z0 (pv 2) Z7)))) (pv 1) (Yf (v:=.ref c_NOUGHT) rfl m_NOUGHT rfl))) W0) Z7)))),?_⟩
 refine⟨_,rfl,a,rfl,⟨_,hA⟩,λd hd=>?_⟩;have lx:=hRs.len;refine⟨rs.length,λi ys H2=>Same H H2/\Rs K H2 ((cutR o rs).take i) ys,Zt hl,⟨Same.new hd,.nil⟩,?_,?_⟩
 ·rintro i ys H2 hi ⟨S2,R2⟩ hd2;refine⟨⟨xs,Zn S2 hA,by omega⟩,?_⟩;rintro x H3 ⟨p,x0,rfl,hp,rfl,fx⟩;obtain⟨r,er,ix⟩:=hRs.back (fx xs (Zn S2 hA));have S3:Same H2 (upd H2 p (.tup [.int (i:Int),x0])):=Same.new hp;have ix3:=ix.ext ((Ext.same S2).trans (Ext.same S3));refine Tz (SqT.of Zb) ?_;refine⟨_,rfl,_,rfl,i,rs.length,o,v,rfl,(hv.same S2).same S3,hi,_,rfl,?_⟩;have hpd:d≠p:=Zd hd2 hp;have hd3:upd H2 p (.tup [.int (i:Int),x0]) d=some (.lst ys):=S3 _ _ hd2;have fin:∀ y,IsR K (upd H2 p (.tup [.int (i:Int),x0])) (if inE o i then r else (0,1)) y →
    upd H2 p (.tup [.int (i:Int),x0]) d=some (.lst ys)/\Same H (upd (upd H2 p (.tup [.int (i:Int),x0])) d (.lst (ys++[y])))/\Rs K (upd (upd H2 p (.tup [.int (i:Int),x0])) d (.lst (ys++[y]))) ((cutR o rs).take (i+1)) (ys++[y]):=λy hy=>by
   refine⟨hd3,λq o' e=>?_,?_⟩
   ·rw[Ze (Zd e hd)];exact S3 _ _ (S2 _ _ e)
   rw[Y8 (Ug er)];have E5:Ext (upd H2 p (.tup [.int (i:Int),x0])) (upd (upd H2 p (.tup [.int (i:Int),x0])) d (.lst (ys++[y]))):=Ext.upd hd3;exact (R2.ext ((Ext.same S3).trans E5)).snoc (hy.ext E5)
  refine Bm (λe=>?_) (λe=>?_)
  ·exact⟨_,rfl,fin _ (by rw[e,XF rfl];exact ix3)⟩
  exact fin _ (by rw[e,XB YS];exact⟨_,rfl,s_NOUGHT _⟩)
 rintro ys H2 ⟨S2,R2⟩ hd2;refine⟨⟨xs,Zn S2 hA,by omega⟩,d,ys,rfl,.inl ⟨SqL.of hd2,λl hl'=>?_⟩⟩;rw[YV (by rw[Yu];omega)] at R2;exact k l _ (S2.trans (Same.new hl')) ⟨ys,SqT.of Zb,R2.ext (Ext.new hl')⟩
inductive spLCut (K:TR) (vs:TZ) (H:Hp) (Q:VK) (_z3:XK):Prop
 | i (a:Addr) (v:V) (xs:TZ) (rs:UB) (o:TW) (_:vs=[.ref a,v]) (_:(SqL K H a xs \/ SqT K H a xs)) (_:Rs K H rs xs) (_:EvAt K H rs.length o v) (_:rs.length<=1000) (_:∀ p H',Same H H'->RowAt K H' p (cutR o rs)->Q (.ref p) H')
theorem Rt (rs:UB):cutR none rs=rs:=by
 apply List.ext_getElem?;intro i
 cases e:rs[i]? with
 | none=>rw[zq (by rw[Yu];exact (List.getElem?_eq_none_iff.mp e))]
 | some r=>rw[Ug e];rfl
theorem Z3m (D:Def K mg "_law_cut" jY UO)(T:Blt mg):Has P w K mg base 2 "_law_cut" UO (spLCut K):=by
 refine D.h9 (N:=UO) fsc λH Q hr h nd=>?_;obtain⟨a,v,xs,rs,o,rfl,hA,hRs,hv,hl,k⟩:=h;have nd1:(["_law_k","_law_row_here","_law_event_here"]:List Str).Nodup:=by decide +kernel
 refine⟨_,(Z9 (Yc (Zp Cf (pv 1) Xp (Zr _))
   (Za (Zg (Y1 Y3 rfl T.tuple XO (Z0 (pv 0) Z7))))
   Zw)
  (Za (Zg (Y1 Y3 rfl T.tuple XO (Z0 (Y0 (N:=["_law_k","_law_row_here","_law_event_here"]) (k:=1) (fv:=[0,1]) rfl (Yh rfl T.range (Z0 (Zq Zv rfl T.len qD (Z0 (pv 0) Z7)) Z7))
  (λ_ _ _ _ _=>Zf (i:=0) nd1 rfl (Or.inl rfl)) (λ_ _ _ _ _=>Zy) (λ_ _ _ _ _=>(Sw (Zp (Lv (K:=K)) (pv 0) (pv 2) rfl) (Zi (Z2r (K:=K)) (pv 1) (pv 0) (λ_ _=>rfl)) (Yp (Z0 Z8 (Z0 Z8 Z7))))) Zj) Z7))))),?_⟩
 have lx:=hRs.len;refine⟨_,rfl,rfl,_,rfl,?_⟩
 cases o with
 | none =>
  have e:v=.non:=hv;refine Bl e ?_;refine⟨_,rfl,a,xs,rfl,?_⟩;rcases hA with hA | hA
  ·exact .inl ⟨hA,λl hl'=>k l _ (Same.new hl') ⟨xs,SqT.of Zb,by rw[Rt];exact hRs.ext (Ext.new hl')⟩⟩
  exact .inr ⟨hA,k a H (Same.refl _) ⟨xs,hA,by rw[Rt];exact hRs⟩⟩
 | some p =>
  obtain⟨e9,rfl,he9⟩:=hv;refine Ms (by intro z;cases z) ?_;refine⟨_,rfl,a,xs,rfl,hA,(xs.length:Int),rfl,(by omega),(by omega),λd hd=>?_⟩;have et:(xs.length:Int).toNat=xs.length:=by omega
  rw[et];refine⟨xs.length,λi ys H2=>Same H H2/\Rs K H2 ((cutR (some p) rs).take i) ys,Zt (by omega),⟨Same.new hd,.nil⟩,?_,?_⟩
  ·rintro i ys H2 hi ⟨S2,R2⟩ hd2;refine⟨hi,?_⟩;rintro x H3 ⟨rfl,rfl⟩;have e0:(0+(i:Int))=((i:Nat):Int):=by omega
   rw[e0];refine Y2 ?_;have hir:i<rs.length:=by omega
   have er:rs[i]?=some rs[i]:=by simp[hir]
   obtain⟨x0,ex,ix⟩:=hRs.at er;have hA2:SqL K H3 a xs \/ SqT K H3 a xs:=hA.elim (λz=>.inl (Yr S2 z)) λz=>.inr (Zn S2 z);refine⟨_,rfl,_,rfl,e9,_,rfl,.inr (Zn S2 he9),rfl,Qj _,_,rfl,?_⟩;have ev:inV (.int (i:Int)) ((evI rs.length p).map V.int)=inE (some p) i:=by
    rw[Mt,JS,qS,J0];show _ ↔ p i=true;simp[hir]
   show if inV (.int (i:Int)) ((evI rs.length p).map V.int)=true then _ else _
   rw[ev];refine Bm (λe=>?_) (λe=>?_)
   ·refine⟨_,rfl,_,rfl,a,xs,_,_,rfl,rfl,hA2,Y4 ex,hd2,λq o' e=>?_,?_⟩
    ·rw[Ze (Zd e hd)];exact S2 _ _ e
    rw[Y8 (Ug er),e,XF rfl];exact (R2.ext (Ext.upd hd2)).snoc ((ix.ext (Ext.same S2)).ext (Ext.upd hd2))
   refine⟨sz2,λp hp=>?_⟩;have S3:Same H3 (upd H3 p (.tup [.int 0,.int 1])):=Same.new hp;have hd3:=S3 _ _ hd2;refine⟨hd3,λq o' e=>?_,?_⟩
   ·rw[Ze (Zd e hd)];exact S3 _ _ (S2 _ _ e)
   rw[Y8 (Ug er),e,XB YS];exact (R2.ext ((Ext.same S3).trans (Ext.upd hd3))).snoc ⟨p,rfl,(Ext.upd hd3).sq (SqT.of Zb)⟩
  rintro ys H2 ⟨S2,R2⟩ hd2;refine⟨YF _,d,ys,rfl,.inl ⟨SqL.of hd2,λl hl'=>?_⟩⟩;rw[YV (by rw[Yu];omega)] at R2;exact k l _ (S2.trans (Same.new hl')) ⟨ys,SqT.of Zb,R2.ext (Ext.new hl')⟩
inductive spPaper (K:TR) (vs:TZ) (H:Hp) (Q:VK) (_z3:XK):Prop
 | i (c:Nat) (v:V) (o:TW) (_:vs=[.int c,v]) (_:EvAt K H c o v) (_:1<=c) (_:c<=1000) (_:∀ p H',Same H H'->RowAt K H' p (cutR o (List.replicate c (1,1)))->Q (.ref p) H')
theorem Rs.rep {H:Hp}{r:Rat}{v:V}(h:IsR K H r v):∀ n:Nat,Rs K H (List.replicate n r) (List.replicate n v)
 | 0=>.nil
 | n+1=>.cons h (Rs.rep h n)
theorem Z1e (D:Def K mg "paper_of" iP UP)(gW:Has P w K mg base 2 "cut" UN (spCut K))(fY:Con K mg "ONE" (1,1)):Has P w K mg base 3 "paper_of" UP (spPaper K):=by
 refine D.h9 (N:=UP) fsc λH Q hr h nd=>?_;obtain⟨c,v,o,rfl,hv,h2,hl,k⟩:=h;obtain⟨c_ONE,m_ONE,s_ONE⟩:=fY;refine⟨_,(Za (Zg (Zc gW hr (Z0 (Zm Z13 (Yp (Z0 (Yf (v:=.ref c_ONE) rfl m_ONE rfl) Z7)) (pv 0)) (Z0 (pv 1) Z7))))),?_⟩;refine⟨sz1,λt ht=>⟨_,rfl,t,c,[.ref c_ONE],rfl,rfl,SqT.of Zb,by omega,by simp,by simpa using hl,λp H1 S1' sq=>?_⟩⟩;have S1:Same H (upd H t (.tup [.ref c_ONE])):=Same.new ht;have et:(c:Int).toNat=c:=by omega
 have ef:(List.replicate (c:Int).toNat [V.ref c_ONE]).flatten=List.replicate c (V.ref c_ONE):=by rw[et];simp
 rw[ef] at sq;have S2:=S1.trans S1';refine⟨_,rfl,p,v,List.replicate c (1,1),o,rfl,⟨_,sq,Rs.rep ⟨c_ONE,rfl,s_ONE _⟩ c⟩,?_,by simpa using hl,λp' H' S' R'=>k p' H' (S2.trans S') R'⟩;rw[ql];exact hv.same S2
inductive spCommon (K:TR) (vs:TZ) (H:Hp) (Q:VK) (_z3:XK):Prop
 | i (a:Addr) (xs:TZ) (rs:UB) (n:Nat) (D:Int) (Ws:TV) (_:vs=[.ref a]) (_:(SqL K H a xs \/ SqT K H a xs)) (_:Rs K H rs xs) (_:RepL n D Ws rs) (_:n<=200000) (_:Q (.int (lcmB rs)) H)
theorem Cw (D:Def K mg "common_bottom" iD UQ)(eI:Has P w K mg base 1 "common_divisor" UG spGcd):Has P w K mg base 2 "common_bottom" UQ (spCommon K):=by
 refine D.h9 (N:=["several","least","one"]) fsc λH Q hr h nd=>?_;obtain⟨a,xs,rs,n,D,Ws,rfl,hA,hRs,rep,hn,q⟩:=h;refine⟨_,(Z9 (Zh (i:=1) nd rfl (Or.inl rfl) Z8)
  (Z9 (Ys XZ rfl (C6 (pv 0)) (Zf (i:=2) nd rfl (Or.inl rfl))
   (Za (Zh (i:=1) nd rfl (Or.inl rfl) (Zm Xv (Zm Zx (pv 1) (Zi Yg (pv 2) Z8 (λ_ _=>rfl))) (Zc eI hr (Z0 (pv 1) (Z0 (Zi Yg (pv 2) Z8 (λ_ _=>rfl)) Z7)))))))
  (Za (Zg (pv 1))))),?_⟩
 have lx:=hRs.len;refine⟨_,rfl,Jh (K:=K) (a:=a) (xs:=xs) (λi σ H'=>H'=H/\∃ x:Option V,σ=[some (.ref a),some (.int (lcmB (rs.take i))),x]) hA ⟨rfl,none,rfl⟩ (λi σ H' _ h=>by rw[h.1];exact Same.refl _) ?_ ?_⟩
 ·rintro i x σ H1 hi ⟨rfl,x0,rfl⟩;obtain⟨r,er,b,rfl,hb⟩:=hRs.back hi;have g:=rep.good r (YD er);have lo:=(rep.take i).least;have hg:((Int.gcd (lcmB (rs.take i)) r.2:Nat):Int)≠0:=by
   have:=Y04 r.2 (show lcmB (rs.take i)≠0 by have:=lo.pos;omega);omega
  have hgb:Bd n ((Int.gcd (lcmB (rs.take i)) r.2:Nat):Int):=g.b2.of_le' (Xc g.pos (zU _ _));refine⟨_,rfl,_,rfl,b,_,_,rfl,rfl,hb,_,_,rfl,rfl,lo.bD.mulOk g.b2 (by omega) (by omega),_,rfl,_,rfl,b,_,_,rfl,rfl,hb,_,_,rfl,_,_,rfl,rfl,⟨hg,hgb.log (by omega)⟩,?_⟩;refine⟨rfl,some (.ref b),?_⟩;rw[Gv er];rfl
 rintro σ H1 ⟨rfl,x0,rfl⟩;rw[<-lx,YV (YF _)];exact⟨_,rfl,q⟩
inductive spWholeBy (K:TR) (vs:TZ) (H:Hp) (Q:VK) (_z3:XK):Prop
 | i (a:Addr) (D:Int) (xs:TZ) (rs:UB) (n:Nat) (_:vs=[.ref a,.int D]) (_:(SqL K H a xs \/ SqT K H a xs)) (_:Rs K H rs xs) (_:(∀ r∈rs,Good n r)) (_:Bd n D) (_:0<D) (_:n<=200000) (_:rs.length<=1000) (_:∀ (d:Addr) (H':Hp),H d=none->Same H H'->H' d=some (.lst ((wholeB rs D).map V.int))->Q (.ref d) H')
theorem Gh (D:Def K mg "whole_by" iL UR):Has P w K mg base 1 "whole_by" UR (spWholeBy K):=by
 refine D.h9 (N:=UR) fsc λH Q hr h nd=>?_;obtain⟨a,D,xs,rs,n,rfl,hA,hRs,g,bD,hD,hn,hl,k⟩:=h;have nd1:(["one","bottom"]:List Str).Nodup:=by decide +kernel
 refine⟨_,(Za (Zg (Y0 (N:=["one","bottom"]) (k:=1) (fv:=[1]) rfl (Z3d (pv 0))
  (λ_ _ _ _ _=>Zf (i:=0) nd1 rfl (Or.inl rfl)) (λ_ _ _ _ _=>Zy) (λ_ _ _ _ _=>(Zm Zx (Zi (Z40 (K:=K)) (pv 0) Z8 (λ_ _=>rfl)) (Zm Xv (pv 1) (Zi (Z3z (K:=K)) (pv 0) Z8 (λ_ _=>rfl))))) Zj))),?_⟩
 have lx:=hRs.len;refine⟨_,rfl,a,xs,rfl,hA,λJ G d hd=>?_⟩;refine⟨xs.length,λi ys H2=>Same H H2/\ys=((wholeB rs D).take i).map V.int,Zt (by omega),⟨Same.new hd,rfl⟩,?_,?_⟩
 ·rintro i ys H2 hi ⟨S2,rfl⟩ hd2;refine⟨G.go i H2 S2 hi,?_⟩;intro x H3 hy;obtain⟨rfl,ex⟩:=G.yld i H2 x H3 S2 hy;obtain⟨r,er,ix⟩:=hRs.back ex;obtain⟨b,rfl,hb⟩:=ix.ext (Ext.same S2);have gr:=g r (YD er);refine Y2 ?_;refine⟨_,rfl,b,_,_,rfl,rfl,hb,_,rfl,_,rfl,b,_,_,rfl,rfl,hb,_,_,rfl,rfl,⟨by have:=gr.pos;omega,gr.b2.log (by omega)⟩,_,_,rfl,rfl,gr.b1.mulOk (bD.of_le' (N0 hD gr.pos)) (by omega) (by omega),hd2,λq o' e=>?_,?_⟩
  ·rw[Ze (Zd e hd)];exact S2 _ _ e
  have:(wholeB rs D)[i]?=some (r.1*D.fdiv r.2):=by unfold wholeB;rw[YE,er];rfl
  rw[Y8 this,XM];rfl
 rintro ys H2 ⟨S2,rfl⟩ hd2;refine⟨G.stop H2 S2,?_⟩;rw[YV (by unfold wholeB;rw[YC];omega)] at hd2;exact k d H2 hd S2 hd2
end
inductive spMeanP (K:TR) (vs:TZ) (H:Hp) (Q:VK) (_z3:XK):Prop
 | i (a b:Addr) (xs us:TZ) (ws rs:UB) (n n':Nat) (D D':Int) (Ws Zs:TV) (_:vs=[.ref a,.ref b]) (_:(SqL K H a xs \/ SqT K H a xs)) (_:Rs K H ws xs) (_:(SqL K H b us \/ SqT K H b us)) (_:Rs K H rs us) (_:ws.length=rs.length) (_:rs.length<=1000) (_:RepL n D Ws ws) (_:RepL n' D' Zs rs) (_:n+n'+10<=200000) (_:∀ c H',Same H H'->SqT K H' c [.int (sumR (List.zipWith mulR' ws rs)).1,.int (sumR (List.zipWith mulR' ws rs)).2]->Q (.ref c) H')
section
variable {P:TU}{w:World}{K:TR}{mg:TB}{base:Heap}
theorem Ct (D:Def K mg "_law_mean" jN US)(T:Blt mg)(eF:Z3 P w K mg base)(eX:Has P w K mg base 3 "_law_times" UI (spTwo K mulR')) :
  Has P w K mg base 4 "_law_mean" US (spMeanP K):=by
 refine D.h9 (N:=["_law_weights_here","_law_row_here","_law_come","_law_k"]) fsc λH Q hr h nd=>?_;obtain⟨a,b,xs,us,ws,rs,n,n',D,D',Ws,Zs,rfl,hA,hWs,hB,hRs,hl,hl2,rw_,rr,hnn,k⟩:=h;refine⟨_,(Z9 (Zh (i:=2) nd rfl (Or.inl rfl) (Yp (Z0 Z8 (Z0 Z8 Z7))))
  (Z9 (Ys XZ rfl (Yh rfl T.range (Z0 (Zq Zv rfl T.len qD (Z0 (pv 1) Z7)) Z7)) (Zf (i:=3) nd rfl (Or.inl rfl))
   (Za (Zh (i:=2) nd rfl (Or.inl rfl) (Zc eF hr (Z0 (pv 2) (Z0 (Zc eX hr (Z0 (Zi K6 (pv 0) (pv 3) (λ_ _=>rfl)) (Z0 (Zi K6 (pv 1) (pv 3) (λ_ _=>rfl)) Z7))) Z7))))))
  (Za (Zg (pv 2))))),?_⟩
 refine⟨sz2,λp hp=>?_⟩;have lx:=hWs.len;have lu:=hRs.len;have S0:Same H (upd H p (.tup [.int 0,.int 1])):=Same.new hp;have rm:=rw_.mul rr hl;have lz:(List.zipWith mulR' ws rs).length=rs.length:=by rw[JL];omega
 have anyS:∀ {c:Addr} {ys:TZ} {H1:Hp},Same H H1->(SqL K H c ys \/ SqT K H c ys)->(SqL K H1 c ys \/ SqT K H1 c ys):=λS h=>h.elim (λz=>.inl (Yr S z)) λz=>.inr (Zn S z);refine⟨_,rfl,b,us,rfl,anyS S0 hB,(us.length:Int),rfl,(by omega),(by omega),?_⟩;have et:(us.length:Int).toNat=us.length:=by omega
 rw[et];refine T8 (lo:=0) (n:=us.length) (λi σ H'=>Same H H'/\∃ (c:Addr) (x:UA),σ=[some (.ref a),some (.ref b),some (.ref c),x]/\SqT K H' c [.int (sumR ((List.zipWith mulR' ws rs).take i)).1,.int (sumR ((List.zipWith mulR' ws rs).take i)).2]) ⟨S0,p,none,rfl,SqT.of Zb⟩ ?_ ?_
 ·rintro i σ H1 hi ⟨S1,c,x0,rfl,hc⟩;have e0:(0+(i:Int))=((i:Nat):Int):=by omega
  rw[e0];have hir:i<ws.length:=by omega
  have his:i<rs.length:=by omega
  have er:ws[i]?=some ws[i]:=by simp[hir]
  have es:rs[i]?=some rs[i]:=by simp[his]
  obtain⟨x1,ex,ix⟩:=hWs.at er;obtain⟨y1,ey,iy⟩:=hRs.at es;obtain⟨a1,rfl,sq1⟩:=ix.ext (Ext.same S1);obtain⟨b1,rfl,sq2⟩:=iy.ext (Ext.same S1);refine⟨_,rfl,_,rfl,_,rfl,a,xs,_,_,rfl,rfl,anyS S1 hA,Y4 ex,_,rfl,_,rfl,b,us,_,_,rfl,rfl,anyS S1 hB,Y4 ey,?_⟩;refine⟨a1,b1,ws[i],rs[i],n+n'+10,rfl,sq1,sq2,(rw_.good _ (XG hir)).mono (by omega),(rr.good _ (XG his)).mono (by omega),by omega,λc2 H2 f2 S2 e2=>?_⟩;have ez:(List.zipWith mulR' ws rs)[i]?=some (mulR' ws[i] rs[i]):=by rw[JK,er,es]
  refine⟨c,c2,_,mulR' ws[i] rs[i],n+n'+10,rfl,Zn S2 hc,SqT.of e2,(rm.take i).sumGood (k:=10) (by rw[JC];omega),(rm.good _ (YD ez)).mono (by omega),hnn,λc3 H3 f3 S3 e3=>?_⟩;refine⟨(S1.trans S2).trans S3,c3,_,rfl,?_⟩;rw[Vc ez];exact SqT.of e3
 rintro σ H1 ⟨S1,c,x0,rfl,hc⟩;rw[YV (by omega)] at hc;exact⟨_,rfl,k c H1 S1 hc⟩
inductive spEvent (K:TR) (vs:TZ) (H:Hp) (Q:VK) (_z3:XK):Prop
 | i (b:Addr) (c n:Nat) (_:vs=[.ref b,.int c]) (_:BagAt H b n) (_:n<=100000) (_:c<=1000) (_:∀ (v:V) (H':Hp) (o:TW),BagAt H' b (n+c+1)->SameX b H H'->EvAt K H' c o v->Q v H')
theorem Z1o (D:Def K mg "_law_event" jS UK)(T:Blt mg)(eA:Z2 P w K mg base):Has P w K mg base 2 "_law_event" UK (spEvent K):=by
 refine D.h9 (N:=UK) fsc λH Q hr h nd=>?_;obtain⟨b,c,n,rfl,hB,hn,hl,k⟩:=h;have nd1:(UL:List Str).Nodup:=by decide +kernel
 refine⟨_,(Z9 (Yc (Zp Wv (Zc eA hr (Z0 (pv 0) (Z0 Z8 Z7))) Z8 (Zr _))
   (Za (Zg Xp))
   Zw)
  (Za (Zg (Y1 Y3 rfl T.tuple XO (Z0 (Y0 (N:=UL) (k:=1) (fv:=[0]) rfl (Yh rfl T.range (Z0 (pv 1) Z7))
  (λ_ _ _ _ _=>Zf (i:=0) nd1 rfl (Or.inl rfl)) (λ_ _ _ _ _=>X8 (Zp Wv (Zc eA hr (Z0 (pv 1) (Z0 Z8 Z7))) Z8 (Zr _))) (λ_ _ _ _ _=>(pv 0)) Zj) Z7))))),?_⟩
 refine⟨_,rfl,b,_,_,rfl,hB,by omega,by decide,by decide +kernel,λz H1 z0 z1 B1 S1=>⟨rfl,_,rfl,?_⟩⟩;refine V8 (λh=>?_) (λh=>?_)
 ·exact k _ _ none (B1.mono (by omega)) S1 rfl
 have hBl:=B1.lst;refine⟨_,rfl,(c:Int),rfl,(by omega),(by omega),λd hd=>?_⟩;have hdb:d≠b:=by
  obtain⟨ys,e⟩:=hBl;exact (Zd e hd).symm
 have et:(c:Int).toNat=c:=by omega
 rw[et];refine⟨c,λi ys H2=>∃ p:Nat->Bool,ys=(evI i p).map V.int/\BagAt H2 b (n+1+i)/\SameX b H H2,Zt hl,?_,?_,?_⟩
 ·exact⟨λ_=>true,rfl,B1.upd (qi hdb),S1.trans (SameX.of (Same.new hd))⟩
 ·rintro i ys H2 hi ⟨p,rfl,B2,S2⟩ hd2;refine⟨hi,?_⟩;rintro x H3 ⟨rfl,rfl⟩;have e0:(0+(i:Int))=((i:Nat):Int):=by omega
  rw[e0];refine U7 ?_;refine⟨_,rfl,b,_,_,rfl,B2,by omega,by decide,by decide +kernel,λr H4 r0 r1 B4 S4=>⟨rfl,_,rfl,?_⟩⟩;have hd4:H4 d=some (.lst ((evI i p).map V.int)):=S4 _ _ hd2 hdb;have ep:evI i p=evI i (λj=>if j=i then decide (r=1) else p j):=F9 λj hj=>by rw[XB (by omega)]
  refine V8 (λh=>?_) (λh=>?_)
  ·have h0:r=1:=by
    have:=GH h;injection this
   refine⟨_,rfl,hd4,λj=>if j=i then decide (r=1) else p j,?_,(B4.upd (qi hdb)).mono (by omega),?_⟩
   ·rw[L0,XF (by simp[h0]),XM,<-ep];rfl
   exact λq o e ne=>by
    have e2:=S4 q o (S2 q o e ne) ne;rw[Ze (Zd (S1 q o e ne) hd)];exact e2
  have h0:¬ r=1:=λz=>h (XQ (by rw[z]));refine⟨hd4,λj=>if j=i then decide (r=1) else p j,?_,B4.mono (by omega),S2.trans S4⟩;rw[L0,XB (by simp[h0]),GN,<-ep]
 rintro ys H2 ⟨p,rfl,B2,S2⟩ hd2;refine⟨YF _,d,_,rfl,.inl ⟨SqL.of hd2,λl hl'=>?_⟩⟩;have S3:Same H2 (upd H2 l (.tup ((evI c p).map V.int))):=Same.new hl';exact k _ _ (some p) ((B2.same S3).mono (by omega)) (S2.trans (SameX.of S3)) ⟨l,rfl,SqT.of Zb⟩
end
end Sb
namespace Sb
open PySem PySem.Spec PyProof.Rows L2
section
variable {X:Cx}{K:TR}
inductive rNeI (K:TR) (x:V) (y:V) (H:Hp) (Q:VK):Prop
 | i (a b:Addr) (ns ms:TV) (_:x=.ref a) (_:y=.ref b) (_:SqT K H a (ns.map V.int)) (_:SqT K H b (ms.map V.int)) (_:Q (.bl (!decide (ns=ms))) H)
theorem Lu (hu:X.A.units<cLine)(hK:X.K=K:=by rfl):OpR X (compareOp .NotEq) (rNeI K):=by
 subst hK;intro pins s σ H x y v u Q I rx ry h;obtain⟨a,b,ns,ms,rfl,rfl,ha,hb,q⟩:=h
 cases rx
 cases ry;obtain⟨its,r1,p1,_⟩:=I.tuple ha;obtain⟨its2,r2,p2,_⟩:=I.tuple hb;have l1:=r1.length;have l2:=r2.length;rw[YC] at l1 l2;refine SeqAt.RcNeAt.tuples (A:=X.A) (e:=λj=>ns.getD j 0 == ms.getD j 0) p1 p2 hu (λj h1 h2=>?_) _ _ _ _ ?_
 ·obtain⟨t,e1⟩:=Vh r1 (j:=j) (by simpa using h1);obtain⟨t',e2⟩:=Vh r2 (j:=j) (by simpa using h2);have e1':its.toArray[j]=Value.int (ns.getD j 0) t:=by simpa using e1
  have e2':its2.toArray[j]=Value.int (ms.getD j 0) t':=by simpa using e2
  rw[e1',e2'];exact zj _ _ _ _
 rw[YN,YN,<-l1,<-l2,Ki];exact⟨.bl _,H,I,rfl,q⟩
end
end Sb
namespace Sb
open PySem L2
section
variable {P:TU}{w:World}{K:TR}{mg:TB}{base:Heap}
theorem Z1f (D:Def K mg "minus" jL UG)(eG:Z6 P w K mg base):Has P w K mg base 3 "minus" UG (spTwo K subR):=by
 refine D.h9 (N:=UG) fsc λH Q hr h nd=>?_;obtain⟨a,b,r,s,n,rfl,hA,hB,gr,gs,hn,k⟩:=h;refine⟨_,(Za (Zg (Zc eG hr (Z0 (Zm Ux (Zm Zx (Zi Yq (pv 0) Z8 (λ_ _=>rfl)) (Zi Yg (pv 1) Z8 (λ_ _=>rfl))) (Zm Zx (Zi Yq (pv 1) Z8 (λ_ _=>rfl)) (Zi Yg (pv 0) Z8 (λ_ _=>rfl)))) (Z0 (Zm Zx (Zi Yg (pv 0) Z8 (λ_ _=>rfl)) (Zi Yg (pv 1) Z8 (λ_ _=>rfl))) Z7))))),?_⟩;exact⟨_,rfl,_,_,_,rfl,rfl,hA,_,rfl,_,_,_,rfl,rfl,hB,_,_,rfl,rfl,gr.b1.mulOk gs.b2 (by omega) (by omega),_,rfl,_,_,_,rfl,rfl,hB,_,rfl,_,_,_,rfl,rfl,hA,_,_,rfl,rfl,gs.b1.mulOk gr.b2 (by omega) (by omega),_,_,rfl,rfl,_,rfl,_,_,_,rfl,rfl,hA,_,rfl,_,_,_,rfl,rfl,hB,_,_,rfl,rfl,gr.b2.mulOk gs.b2 (by omega) (by omega),_,_,rfl,Xh gr.pos gs.pos,Xx gr.b2 gs.b2 hn,k⟩
end
def ConI (mg:TB)(x:Str)(i:Int):Prop:=∃ t,mg x=some (Value.int i t)
theorem Sg {x:Str}{i:Int}{t:Tok}(X:K.In h)(G:h.Ns mainGlobals mg)(e:W.nsIn K mainGlobals x=some (some (.int i t))):ConI mg x i:=⟨t,W.mg_of X G e⟩
structure Offr where
 row:List Rat
 ask:Option Rat
 bid:Option Rat
 ev:Option (Nat->Bool)
abbrev _root_.UD:=List Offr
def MayAt (K:TR)(H:Hp)(o:Option Rat)(v:V):Prop:=match o with
 | none=>v=.non
 | some r=>IsR K H r v
theorem MayAt.ext {K:TR}{H H':Hp}{o:Option Rat}{v:V}(h:MayAt K H o v)(e:Ext H H'):MayAt K H' o v:=by
 cases o with
 | none=>exact h
 | some r=>exact IsR.ext h e
def OffAt (K:TR)(H:Hp)(c:Nat)(o:Offr)(v:V):Prop:=∃ (p a:Addr) (va vb ve:V),v=.ref p/\SqT K H p [.ref a,va,vb,ve]/\RowAt K H a o.row/\o.row.length=c/\MayAt K H o.ask va/\MayAt K H o.bid vb/\EvAt K H c o.ev ve
theorem OffAt.ext {K:TR}{H H':Hp}{c:Nat}{o:Offr}{v:V}(h:OffAt K H c o v)(e:Ext H H'):OffAt K H' c o v:=by
 obtain⟨p,a,va,vb,ve,h0,h1,h2,h3,h4,h5,h6⟩:=h;exact⟨p,a,va,vb,ve,h0,e.sq h1,h2.ext e,h3,h4.ext e,h5.ext e,h6.ext e⟩
theorem OffAt.same {K:TR}{H H':Hp}{c:Nat}{o:Offr}{v:V}(h:OffAt K H c o v)(e:Same H H'):OffAt K H' c o v:=h.ext (Ext.same e)
structure GoodO (n:Nat)(o:Offr):Prop where
 row:∀ r∈o.row,Good n r
 ask:∀ r,o.ask=some r->Good n r
 bid:∀ r,o.bid=some r->Good n r
def gainR (o:Offr)(buy:Bool):List Rat:=cutR o.ev (o.row.map λr=>if buy then subR r (o.ask.getD (0,1)) else subR (o.bid.getD (0,1)) r)
def priceO (o:Offr)(buy:Bool):Option Rat:=if buy then o.ask else o.bid
def wordO (buy:Bool):Str:=if buy then "buy" else "sell"
theorem F6 (o:Offr)(buy:Bool):(gainR o buy).length=o.row.length:=by unfold gainR;rw[Yu,YC]
section
variable {P:TU}{w:World}{K:TR}{mg:TB}{base:Heap}
inductive spGain (K:TR) (vs:TZ) (H:Hp) (Q:VK) (_z3:XK):Prop
 | i (v:V) (c n:Nat) (o:Offr) (buy:Bool) (pr:Rat) (_:vs=[v,.str (wordO buy)]) (_:OffAt K H c o v) (_:c<=1000) (_:GoodO n o) (_:n<=200000) (_:priceO o buy=some pr) (_:∀ p H',Same H H'->RowAt K H' p (gainR o buy)->Q (.ref p) H')
theorem Z3p (D:Def K mg "gain" j0 ["offer","word"])(T:Blt mg)(eS:Has P w K mg base 3 "minus" UG (spTwo K subR))(gW:Has P w K mg base 2 "cut" UN (spCut K))(iA:ConI mg "ROW" 0)(gY:ConI mg "ASK" 1)(gX:ConI mg "BID" 2)(gU:ConI mg "EVENT" 3) :
  Has P w K mg base 4 "gain" ["offer","word"] (spGain K):=by
 refine D.h9 (N:=["offer","word","worths"]) fsc λH Q hr h nd=>?_;obtain⟨v,c,n,o,buy,pr,rfl,⟨p,a,va,vb,ve,rfl,hp,hR,hl,hA,hB,hE⟩,hc,g,hn,hpr,k⟩:=h;obtain⟨t0,m_ROW⟩:=iA;obtain⟨t1,m_ASK⟩:=gY;obtain⟨t2,m_BID⟩:=gX;obtain⟨t3,m_EVENT⟩:=gU;obtain⟨xs,hxs,hrs⟩:=hR;have lx:=hrs.len;have nd1:(["worth","offer"]:List Str).Nodup:=by decide +kernel
 have nd2:(["worth","offer"]:List Str).Nodup:=by decide +kernel
 refine⟨_,(Z9 (Yc (Zp Wv (pv 1) Ls (Zr _))
   (Za (X9 (i:=2) (N:=["worth","offer"]) (k:=1) (fv:=[0]) nd rfl (Or.inl rfl) rfl (Wj (Zi Wt (pv 0) (Yf (v:=.int 0) rfl m_ROW ⟨_,rfl⟩) (λ_ _=>rfl)))
  (λ_ _ _ _ _=>Zf (i:=0) nd1 rfl (Or.inl rfl)) (λ_ _ _ _ _=>Zy) (λ_ _ _ _ _=>(Zc eS hr (Z0 (pv 0) (Z0 (Zi (Mr (K:=K)) (pv 1) (Yf (v:=.int 1) rfl m_ASK ⟨_,rfl⟩) (λ_ _=>rfl)) Z7)))) Zj))
   (Za (X9 (i:=2) (N:=["worth","offer"]) (k:=1) (fv:=[0]) nd rfl (Or.inl rfl) rfl (Wj (Zi Wt (pv 0) (Yf (v:=.int 0) rfl m_ROW ⟨_,rfl⟩) (λ_ _=>rfl)))
  (λ_ _ _ _ _=>Zf (i:=0) nd2 rfl (Or.inl rfl)) (λ_ _ _ _ _=>Zy) (λ_ _ _ _ _=>(Zc eS hr (Z0 (Zi (Mr (K:=K)) (pv 1) (Yf (v:=.int 2) rfl m_BID ⟨_,rfl⟩) (λ_ _=>rfl)) (Z0 (pv 0) Z7)))) Zj)))
  (Za (Zg (Zc gW hr (Z0 (Y1 Y3 rfl T.tuple XO (Z0 (pv 2) Z7)) (Z0 (Zi Wt (pv 0) (Yf (v:=.int 3) rfl m_EVENT ⟨_,rfl⟩) (λ_ _=>rfl)) Z7)))))),?_⟩
 cases buy with
 | true =>
  replace hpr:o.ask=some pr:=hpr;have kk:=k;unfold gainR at kk;rw[hpr] at hA kk;obtain⟨b,rfl,hb⟩:=hA;refine⟨_,rfl,rfl,_,rfl,Bl rfl ?_⟩;refine⟨_,rfl,p,_,_,_,rfl,rfl,hp,Y4 (j:=0) rfl,a,rfl,⟨_,hxs⟩,λd hd=>?_⟩;refine⟨o.row.length,λi ys H2=>Same H H2/\Rs K H2 ((o.row.map λr=>subR r pr).take i) ys,Zt (by omega),⟨Same.new hd,.nil⟩,?_,?_⟩
  ·rintro i ys H2 hi ⟨S2,R2⟩ hd2;refine⟨⟨xs,xs[i]'(by omega),Zn S2 hxs,by simp⟩,?_⟩;rintro x H3 ⟨rfl,fx⟩;obtain⟨r,er,ix⟩:=hrs.back (fx xs (Zn S2 hxs));obtain⟨a1,rfl,sq1⟩:=ix.ext (Ext.same S2);refine Y2 ?_;refine⟨_,rfl,_,rfl,p,_,_,_,rfl,rfl,Zn S2 hp,Y4 (j:=1) rfl,a1,b,r,pr,n,rfl,sq1,Zn S2 hb,g.row r (YD er),g.ask pr hpr,hn,λc4 H4 f4 S4 e4=>?_⟩;have hd4:=S4 _ _ hd2;refine⟨hd4,λq o' e=>?_,?_⟩
   ·rw[Ze (Zd e hd)];exact S4 _ _ (S2 _ _ e)
   rw[V0 _ er];exact (R2.ext ((Ext.same S4).trans (Ext.upd hd4))).snoc ⟨c4,rfl,(Ext.upd hd4).sq (SqT.of e4)⟩
  rintro ys H2 ⟨S2,R2⟩ hd2;rw[YV (by rw[YC];omega)] at R2;refine⟨⟨xs,Zn S2 hxs,by omega⟩,_,rfl,d,ys,rfl,.inl ⟨SqL.of hd2,λl hl'=>?_⟩⟩;have S3:Same H2 (upd H2 l (.tup ys)):=Same.new hl';refine⟨_,rfl,p,_,_,_,rfl,rfl,Zn (S2.trans S3) hp,Y4 (j:=3) rfl,l,ve,_,o.ev,rfl,⟨ys,SqT.of Zb,R2.ext (Ext.same S3)⟩,?_,by rw[YC];omega,λp' H' S' R'=>kk p' H' ((S2.trans S3).trans S') R'⟩;rw[YC,hl];exact hE.same (S2.trans S3)
 | false =>
  replace hpr:o.bid=some pr:=hpr;have kk:=k;unfold gainR at kk;rw[hpr] at hB kk;obtain⟨b,rfl,hb⟩:=hB;refine⟨_,rfl,rfl,_,rfl,Ms (by decide) ?_⟩;refine⟨_,rfl,p,_,_,_,rfl,rfl,hp,Y4 (j:=0) rfl,a,rfl,⟨_,hxs⟩,λd hd=>?_⟩;refine⟨o.row.length,λi ys H2=>Same H H2/\Rs K H2 ((o.row.map λr=>subR pr r).take i) ys,Zt (by omega),⟨Same.new hd,.nil⟩,?_,?_⟩
  ·rintro i ys H2 hi ⟨S2,R2⟩ hd2;refine⟨⟨xs,xs[i]'(by omega),Zn S2 hxs,by simp⟩,?_⟩;rintro x H3 ⟨rfl,fx⟩;obtain⟨r,er,ix⟩:=hrs.back (fx xs (Zn S2 hxs));obtain⟨a1,rfl,sq1⟩:=ix.ext (Ext.same S2);refine Y2 ?_;refine⟨_,rfl,p,_,_,_,rfl,rfl,Zn S2 hp,Y4 (j:=2) rfl,_,rfl,b,a1,pr,r,n,rfl,Zn S2 hb,sq1,g.bid pr hpr,g.row r (YD er),hn,λc4 H4 f4 S4 e4=>?_⟩;have hd4:=S4 _ _ hd2;refine⟨hd4,λq o' e=>?_,?_⟩
   ·rw[Ze (Zd e hd)];exact S4 _ _ (S2 _ _ e)
   rw[V0 _ er];exact (R2.ext ((Ext.same S4).trans (Ext.upd hd4))).snoc ⟨c4,rfl,(Ext.upd hd4).sq (SqT.of e4)⟩
  rintro ys H2 ⟨S2,R2⟩ hd2;rw[YV (by rw[YC];omega)] at R2;refine⟨⟨xs,Zn S2 hxs,by omega⟩,_,rfl,d,ys,rfl,.inl ⟨SqL.of hd2,λl hl'=>?_⟩⟩;have S3:Same H2 (upd H2 l (.tup ys)):=Same.new hl';refine⟨_,rfl,p,_,_,_,rfl,rfl,Zn (S2.trans S3) hp,Y4 (j:=3) rfl,l,ve,_,o.ev,rfl,⟨ys,SqT.of Zb,R2.ext (Ext.same S3)⟩,?_,by rw[YC];omega,λp' H' S' R'=>kk p' H' ((S2.trans S3).trans S') R'⟩;rw[YC,hl];exact hE.same (S2.trans S3)
end
def wordsO (o:Offr):List Bool:=(if o.ask.isSome then [true] else [])++if o.bid.isSome then [false] else []
def offD:Offr:=⟨[],none,none,none⟩
def sidesP (os:UD)(n:Nat):List (Nat × Bool):=(List.range n).flatMap λi=>(wordsO (os.getD i offD)).map λb=>(i,b)
def gainsP (os:UD)(n:Nat):List (List Rat):=(List.range n).flatMap λi=>(wordsO (os.getD i offD)).map λb=>gainR (os.getD i offD) b
theorem Ti (os:UD)(n:Nat):sidesP os (n+1)=sidesP os n++(wordsO (os.getD n offD)).map λb=>(n,b):=by
 unfold sidesP;rw[qP,zB];simp
theorem Tq (os:UD)(n:Nat):gainsP os (n+1)=gainsP os n++(wordsO (os.getD n offD)).map λb=>gainR (os.getD n offD) b:=by
 unfold gainsP;rw[qP,zB];simp
theorem V9 (os:UD)(n:Nat):(sidesP os n).map (λs=>gainR (os.getD s.1 offD) s.2)=gainsP os n:=by
 unfold sidesP gainsP;rw[List.map_flatMap]
 congr 1
 funext i
 rw[GX];rfl
theorem Le {os:UD}{n i:Nat}{b:Bool}(h:(i,b)∈sidesP os n):i<n/\∃ r,priceO (os.getD i offD) b=some r:=by
 unfold sidesP at h;rw[zA] at h;obtain⟨j,hj,hm⟩:=h;rw[YZ] at hm;obtain⟨b',hb,e⟩:=hm
 cases e;refine⟨JA.mp hj,?_⟩;unfold wordsO at hb;rcases XH.mp hb with z | z
 ·split at z
  ·rename_i hs
   rw[XA.mp z];exact qz.mp hs
  cases z
 split at z
 ·rename_i hs
  rw[XA.mp z];exact qz.mp hs
 cases z
theorem Si (o:Offr):(wordsO o).length<=2:=by
 unfold wordsO;split <;> split <;> decide
theorem Wd (os:UD):∀ n,(sidesP os n).length<=2*n
 | 0=>by unfold sidesP;simp
 | n+1=>by
  rw[Ti,YX,YC];have:=Wd os n;have:=Si (os.getD n offD);omega
section
variable {P:TU}{w:World}{K:TR}{mg:TB}{base:Heap}
def OffsAt (K:TR)(H:Hp)(l:Addr)(c:Nat)(os:UD):Prop:=∃ vs:List V,H l=some (.lst vs)/\Paired (λv o=>OffAt K H c o v) vs os
theorem Yk {c:Nat}{vs:TZ}{os:UD}(h:Paired (λv o=>OffAt K H c o v) vs os)(x:Ext H H'):Paired (λv o=>OffAt K H' c o v) vs os:=Paired.mapP h λ_ _ q=>q.ext x
theorem OffAt.asks {H:Hp}{c:Nat}{o:Offr}{v:V}(h:OffAt K H c o v):∃ (p a:Addr) (va vb ve:V),v=.ref p/\SqT K H p [.ref a,va,vb,ve]/\(va=.non ↔ o.ask=none)/\(vb=.non ↔ o.bid=none):=by
 obtain⟨p,a,va,vb,ve,rfl,hp,_,_,hA,hB,_⟩:=h;refine⟨p,a,va,vb,ve,rfl,hp,?_,?_⟩
 ·cases e:o.ask with
  | none=>rw[e] at hA;exact⟨λ_=>rfl,λ_=>hA⟩
  | some r=>rw[e] at hA;obtain⟨b,rfl,_⟩:=hA;exact⟨(λz=>nomatch z),λz=>nomatch z⟩
 cases e:o.bid with
 | none=>rw[e] at hB;exact⟨λ_=>rfl,λ_=>hB⟩
 | some r=>rw[e] at hB;obtain⟨b,rfl,_⟩:=hB;exact⟨(λz=>nomatch z),λz=>nomatch z⟩
inductive spWords (K:TR) (vs:TZ) (H:Hp) (Q:VK) (_z3:XK):Prop
 | i (v:V) (c:Nat) (o:Offr) (_:vs=[v]) (_:OffAt K H c o v) (_:∀ l H',H l=none->Same H H'->H' l=some (.lst ((wordsO o).map λb=>V.str (wordO b)))->Q (.ref l) H')
theorem Z17 (D:Def K mg "words_of" iK ["offer"])(gY:ConI mg "ASK" 1)(gX:ConI mg "BID" 2):Has P w K mg base 1 "words_of" ["offer"] (spWords K):=by
 refine D.h9 (N:=["offer","told"]) fsc λH Q hr h nd=>?_;obtain⟨v,c,o,rfl,hO,k⟩:=h;obtain⟨t1,m_ASK⟩:=gY;obtain⟨t2,m_BID⟩:=gX;obtain⟨p,a,va,vb,ve,rfl,hp,ha,hb⟩:=hO.asks;refine⟨_,(Z9 (Zh (i:=1) nd rfl (Or.inl rfl) (X1 Z7))
  (Z9 (Wi (Yc (Zp U5 (Zi Wt (pv 0) (Yf (v:=.int 1) rfl m_ASK ⟨_,rfl⟩) (λ_ _=>rfl)) Xp (Zr _))
   (Za (Xa (U3 JG GC GD Yt (pv 1) (Z0 Ls Z7))))
   Zw))
  (Z9 (Yc (Zp U5 (Zi Wt (pv 0) (Yf (v:=.int 2) rfl m_BID ⟨_,rfl⟩) (λ_ _=>rfl)) Xp (Zr _))
   (Za (Xa (U3 JG GC GD Yt (pv 1) (Z0 Ls Z7))))
   Zw)
  (Za (Zg (pv 1)))))),?_⟩
 refine⟨sz0,λl hl=>?_⟩;have S0:Same H (upd H l (.lst [])):=Same.new hl;have up:∀ (zs:TZ) (H1:Hp),Same H H1->Same H (upd H1 l (.lst zs)):=λzs H1 S1 q o e=>by
  rw[Ze (Zd e hl)];exact S1 _ _ e
 refine⟨λσ H'=>Same H H'/\σ=[some (.ref p),some (.ref l)]/\H' l=some (.lst ((if o.ask.isSome then [true] else []).map λb=>V.str (wordO b))),?_,?_⟩
 ·refine⟨_,rfl,p,_,_,_,rfl,rfl,Zn S0 hp,Y4 (j:=1) rfl,rfl,_,rfl,?_⟩
  cases e:o.ask with
  | none =>
   have:=ha.mpr e;subst this;exact Yw ⟨S0,rfl,Zb⟩
  | some r =>
   have hne:va≠V.non:=λz=>by rw[ha.mp z] at e;cases e
   refine Jd hne ?_;exact⟨_,rfl,.inl ⟨rfl,_,SqL.of Zb⟩,l,_,_,rfl,rfl,Zb,(by show 0<sizeLine;decide),up _ _ S0,rfl,Zb⟩
 rintro σ H1 ⟨S1,rfl,h1⟩;refine⟨_,rfl,p,_,_,_,rfl,rfl,Zn S1 hp,Y4 (j:=2) rfl,rfl,_,rfl,?_⟩
 cases e:o.bid with
 | none =>
  have:=hb.mpr e;subst this;refine Yw ⟨_,rfl,k l H1 hl S1 ?_⟩;rw[h1];unfold wordsO;rw[e];simp
 | some r =>
  have hne:vb≠V.non:=λz=>by rw[hb.mp z] at e;cases e
  refine Jd hne ⟨_,rfl,.inl ⟨rfl,_,SqL.of h1⟩,l,_,_,rfl,rfl,h1,?_,_,rfl,k l _ hl (up _ _ S1) ?_⟩
  ·refine Ut ?_;rw[YC];split <;> decide
  rw[Zb];unfold wordsO;rw[e];simp;rfl
def SideV (K:TR)(H:Hp)(v:V)(s:Nat × Bool):Prop:=∃ t:Addr,v=.ref t/\SqT K H t [.int (s.1:Int),.str (wordO s.2)]
theorem SideV.ext {s:Nat × Bool}(h:SideV K H v s)(x:Ext H H'):SideV K H' v s:=by
 obtain⟨t,e,q⟩:=h;exact⟨t,e,x.sq q⟩
inductive spSides (K:TR) (vs:TZ) (H:Hp) (Q:VK) (_z3:XK):Prop
 | i (l:Addr) (c:Nat) (os:UD) (_:vs=[.ref l]) (_:OffsAt K H l c os) (_:os.length<=100) (_:∀ (d:Addr) (ws:TZ) (H':Hp),H d=none->Same H H'->H' d=some (.lst ws)->Paired (SideV K H') ws (sidesP os os.length)->Q (.ref d) H')
theorem Z1c (D:Def K mg "sides" jI UT)(T:Blt mg)(fV:Has P w K mg base 1 "words_of" ["offer"] (spWords K)):Has P w K mg base 2 "sides" UT (spSides K):=by
 refine D.h9 (N:=["offers","told","number","offer"]) fsc λH Q hr h nd=>?_;obtain⟨l,c,os,rfl,⟨vs,hl,hO⟩,hlen,k⟩:=h;have nd1:(["word","number"]:List Str).Nodup:=by decide +kernel
 refine⟨_,(Z9 (Zh (i:=1) nd rfl (Or.inl rfl) (X1 Z7))
  (Z9 (Ys XZ rfl (M7 rfl T.enumerate (Z0 (pv 0) Z7)) (Wk (n:=2) rfl (Y9 (Zf (i:=2) nd rfl (Or.inr rfl)) (Y9 (Zf (i:=3) nd rfl (Or.inl rfl)) Xi)))
   (Za (Xa (U3 JG Y0u Y0v Qb (pv 1) (Z0 (Y0 (N:=["word","number"]) (k:=1) (fv:=[2]) rfl (Y6 (Zc fV hr (Z0 (pv 3) Z7)))
  (λ_ _ _ _ _=>Zf (i:=0) nd1 rfl (Or.inl rfl)) (λ_ _ _ _ _=>Zy) (λ_ _ _ _ _=>(Yp (Z0 (pv 1) (Z0 (pv 0) Z7)))) Zj) Z7)))))
  (Za (Zg (pv 1))))),?_⟩
 have lo:=YW hO;refine⟨sz0,λd hd=>?_⟩;have S0:Same H (upd H d (.lst [])):=Same.new hd;have up:∀ (zs:TZ) (H1:Hp),Same H H1->Same H (upd H1 d (.lst zs)):=λzs H1 S1 q o e=>by
  rw[Ze (Zd e hd)];exact S1 _ _ e
 refine⟨_,rfl,l,rfl,⟨_,SqL.of (S0 _ _ hl)⟩,F7 (K:=K) (a:=l) (xs:=vs) (λi σ H'=>Same H H'/\∃ (ws:TZ) (x y:UA),σ=[some (.ref l),some (.ref d),x,y]/\H' d=some (.lst ws)/\Paired (SideV K H') ws (sidesP os i)) ⟨S0,[],none,none,rfl,Zb,.nil⟩ (λi σ H' _ h=>SqL.of (h.1 _ _ hl)) ?_ ?_⟩
 ·rintro i v σ H1 p hi ⟨S1,ws,x,y,rfl,hd1,P1⟩ hp;have S2:Same H1 (upd H1 p (.tup [.int (i:Int),v])):=Same.new hp;have hd2:=S2 _ _ hd1;have hiv:i<vs.length:=(YH.mp hi).1;have hio:i<os.length:=by omega
  have eo:os[i]?=some (os.getD i offD):=by simp[List.getD,hio]
  have hv:=((Paired.getB hO hi eo).same S1).same S2;refine⟨p,_,rfl,SqT.of Zb,rfl,_,_,rfl,_,_,rfl,rfl,?_⟩;refine⟨_,rfl,.inl ⟨rfl,_,SqL.of hd2⟩,_,rfl,v,c,os.getD i offD,rfl,hv,λlw H3 f3 S3 e3=>?_⟩;generalize hw:wordsO (os.getD i offD)=wo at *
  have lwo:wo.length<=2:=by rw[<-hw];exact Si _
  refine⟨lw,rfl,⟨_,SqL.of e3⟩,λdc hdc=>?_⟩;refine⟨wo.length,λj ys H4=>Same H3 H4/\Paired (SideV K H4) ys ((wo.map λb=>(i,b)).take j),Zt (by omega),⟨Same.new hdc,.nil⟩,?_,?_⟩
  ·rintro j ys H4 hj ⟨S4,P4⟩ hd4;have ew:wo[j]?=some wo[j]:=by simp[hj]
   refine⟨⟨_,V.str (wordO wo[j]),SqL.of (S4 _ _ e3),by simp[hj]⟩,?_⟩;rintro x' H5 ⟨rfl,fx⟩;have ex:x'=V.str (wordO wo[j]):=by
    have:=fx _ (SqL.of (S4 _ _ e3));rw[YE,ew] at this;exact (YR this).symm
   subst ex;refine Y2 ?_;refine⟨_,rfl,_,rfl,sz2,λt ht=>?_⟩;have S6:Same H5 (upd H5 t (.tup [.int (i:Int),.str (wordO wo[j])])):=Same.new ht;have hd6:=S6 _ _ hd4;refine⟨hd6,λq o' e=>?_,?_⟩
   ·rw[Ze (Zd e hdc)];exact S6 _ _ (S4 _ _ e)
   rw[V0 _ ew];have x7:=(Ext.same S6).trans (Ext.upd (o:=.lst (ys++[.ref t])) hd6);exact Y0m (Paired.mapP P4 λ_ _ q=>q.ext x7) ⟨t,rfl,(Ext.upd hd6).sq (SqT.of Zb)⟩
  rintro ys H4 ⟨S4,P4⟩ hd4;rw[YV (by rw[YC];omega)] at P4;refine⟨⟨_,SqL.of (S4 _ _ e3),by rw[YC];omega⟩,?_⟩;have hd5:=S4 _ _ (S3 _ _ hd2);have lw1:=YW P1;have lw4:=YW P4;have sl:=Wd os i;rw[YC] at lw4;refine⟨d,dc,ws,ys,rfl,rfl,hd5,hd4,Zt (by omega),?_⟩;have S15:Same H1 H4:=(S2.trans S3).trans S4;refine⟨up _ _ (S1.trans S15),ws++ys,_,_,rfl,Zb,?_⟩;rw[Ti,hw];have xx:=Ext.upd (o:=.lst (ws++ys)) hd5;exact Paired.appP (Paired.mapP P1 λ_ _ q=>q.ext ((Ext.same S15).trans xx)) (Paired.mapP P4 λ_ _ q=>q.ext xx)
 rintro σ H1 ⟨S1,ws,x,y,rfl,hd1,P1⟩;rw[lo] at P1;exact⟨_,rfl,k d ws H1 hd S1 hd1 P1⟩
inductive spGainsP (K:TR) (vs:TZ) (H:Hp) (Q:VK) (_z3:XK):Prop
 | i (l:Addr) (c n:Nat) (os:UD) (_:vs=[.ref l]) (_:OffsAt K H l c os) (_:os.length<=100) (_:c<=1000) (_:n<=200000) (_:(∀ o∈os,GoodO n o)) (_:∀ (d:Addr) (H':Hp),H d=none->Same H H'->RowsAt K H' d (gainsP os os.length)->Q (.ref d) H')
theorem Cu (D:Def K mg "gains" jR UT)(gS:Has P w K mg base 2 "sides" UT (spSides K))(g0:Has P w K mg base 4 "gain" ["offer","word"] (spGain K)):Has P w K mg base 5 "gains" UT (spGainsP K):=by
 refine D.h9 (N:=UT) fsc λH Q hr h nd=>?_;obtain⟨l,c,n,os,rfl,⟨vs,hl,hO⟩,hlen,hc,hn,g,k⟩:=h;have nd1:(["number","word","offers"]:List Str).Nodup:=by decide +kernel
 refine⟨_,(Za (Zg (Y0 (N:=["number","word","offers"]) (k:=2) (fv:=[0]) rfl (Y6 (Zc gS hr (Z0 (pv 0) Z7)))
  (λ_ _ _ _ _=>Wk (n:=2) rfl (Y9 (Zf (i:=0) nd1 rfl (Or.inl rfl)) (Y9 (Zf (i:=1) nd1 rfl (Or.inl rfl)) Xi))) (λ_ _ _ _ _=>Zy) (λ_ _ _ _ _=>(Zc g0 hr (Z0 (Zi (Z2q (K:=K)) (pv 2) (pv 0) (λ_ _=>rfl)) (Z0 (pv 1) Z7)))) W0))),?_⟩
 have lo:=YW hO;refine⟨_,rfl,l,c,os,rfl,⟨vs,hl,hO⟩,hlen,λds ws H1 f1 S1 e1 P1=>?_⟩;have lp:=YW P1;have sl:=Wd os os.length;refine⟨ds,rfl,⟨_,SqL.of e1⟩,λd hd=>?_⟩;have hd0:H d=none:=by
  cases q:H d with
  | none=>rfl
  | some o=>rw[S1 _ _ q] at hd;cases hd
 refine⟨ws.length,λi ys H2=>Same H1 H2/\∃ as:List Addr,ys=as.map V.ref/\Paired (RowAt K H2) as ((gainsP os os.length).take i),Zt (by omega),⟨Same.new hd,[],rfl,.nil⟩,?_,?_⟩
 ·rintro i ys H2 hi ⟨S2,as,rfl,P2⟩ hd2;have ew:ws[i]?=some ws[i]:=by simp[hi]
  refine⟨⟨_,ws[i],SqL.of (S2 _ _ e1),by simp⟩,?_⟩;rintro x' H3 ⟨rfl,fx⟩;have ex:x'=ws[i]:=by
   have:=fx _ (SqL.of (S2 _ _ e1));rw[ew] at this;exact (YR this).symm
  subst ex;have his:i<(sidesP os os.length).length:=by omega
  have es:(sidesP os os.length)[i]?=some ((sidesP os os.length)[i]):=by simp[his]
  obtain⟨t,et,sqt⟩:=(Paired.getB P1 ew es).ext (Ext.same S2);have hmem:=XG his;generalize hsd:(sidesP os os.length)[i]=sd at *
  obtain⟨j,b⟩:=sd;obtain⟨hj,r,hr'⟩:=Le hmem;rw[et];refine Tz sqt ?_;have ej:os[j]?=some (os.getD j offD):=by simp[List.getD,hj]
  have hjv:j<vs.length:=by omega
  have ev:vs[j]?=some vs[j]:=by simp[hjv]
  have hov:=((Paired.getB hO ev ej).same S1).same S2;refine⟨_,rfl,_,rfl,l,vs,_,_,rfl,rfl,SqL.of (S2 _ _ (S1 _ _ hl)),Y4 ev,_,rfl,?_⟩;refine⟨vs[j],c,n,os.getD j offD,b,r,rfl,hov,hc,g _ (YD ej),hn,hr',λp H4 S4 R4=>?_⟩;have hd4:=S4 _ _ hd2;refine⟨hd4,λq o' e=>?_,as++[p],by rw[XM];rfl,?_⟩
  ·rw[Ze (Zd e hd)];exact S4 _ _ (S2 _ _ e)
  have eg:(gainsP os os.length)[i]?=some (gainR (os.getD j offD) b):=by rw[<-V9,YE,es];rfl
  rw[Y8 eg];exact Y0m (Zk P2 ((Ext.same S4).trans (Ext.upd hd4))) (R4.ext (Ext.upd hd4))
 rintro ys H2 ⟨S2,as,rfl,P2⟩ hd2;have lg:(gainsP os os.length).length=ws.length:=by rw[<-V9,YC,lp]
 rw[YV (by omega)] at P2;exact⟨⟨_,SqL.of (S2 _ _ e1),YF _⟩,k d H2 hd0 (S1.trans S2) ⟨as,hd2,P2⟩⟩
end
def papR (c:Nat)(o:TW):List Rat:=cutR o (List.replicate c (1,1))
theorem Gp {r:Rat}{W:Int}(hD:0<D)(hr:0<r.2)(h:r.1*D=W*r.2):(0<=r.1 ↔ 0<=W)/\(r.1<=0 ↔ W<=0)/\(r.1=0 ↔ W=0):=by
 have a1:0<r.1->0<W:=λz=>by
  have h1:=XN z hD;rw[h] at h1;apply YO;intro q;have:=Int.mul_nonpos_of_nonpos_of_nonneg (show W<=0 by omega) (show 0<=r.2 by omega);omega
 have a2:r.1<0->W<0:=λz=>by
  have h1:=XN (show 0 < -r.1 by omega) hD;rw[Y11,h] at h1;apply YO;intro q;have:=Int.mul_nonneg (show 0<=W by omega) (show 0<=r.2 by omega);omega
 have a3:r.1=0->W=0:=λz=>by
  rw[z,Y05] at h;rcases Int.mul_eq_zero.mp h.symm with q | q <;> omega
 omega
open Sv (sm Xn Qw Sk sm_zero Ve V4 Fw)
def mn (ls as:UB):Rat:=sumR (List.zipWith mulR' ls as)
def leR (r s:Rat):Prop:=r.1*s.2<=s.1*r.2
def negR (r:Rat):Rat:=(-r.1,r.2)
theorem negR.low {r:Rat}(h:Low r):Low (negR r):=⟨h.pos,by show Int.gcd (-r.1) r.2=1;rw[Int.neg_gcd];exact h.cop⟩
def RowR (c:Nat)(as:UB):Prop:=as.length=c/\∃ n D Zs,RepL n D Zs as
section
variable {c:Nat}{rss:UC}{ls as bs:UB}
end
end Sb
namespace Sb
open PySem L2
def gainsO (o:Offr):List (List Rat):=(wordsO o).map λb=>gainR o b
theorem Tp (os:UD):∀ n,n<=os.length->gainsP os n=(os.take n).flatMap gainsO
 | 0,_=>rfl
 | n+1,h=>by
  have e:os[n]?=some (os.getD n offD):=by simp[List.getD,show n<os.length by omega]
  rw[Tq,Tp os n (by omega),Y8 e,zB];simp[gainsO]
theorem Rl (os:UD):gainsP os os.length=os.flatMap gainsO:=by rw[Tp os _ (YF _),YV (YF _)]
structure OffRep (c:Nat)(o:Offr):Prop where
 len:o.row.length=c
 rep:∃ (D A B:Int) (Zs:TV),RepL 90 D Zs o.row/\(∀ r,o.ask=some r->Low r/\r.1*D=A*r.2/\Bd 90 A)/\∀ r,o.bid=some r->Low r/\r.1*D=B*r.2/\Bd 90 B
theorem OffRep.good {c:Nat}{o:Offr}(h:OffRep c o):GoodO 90 o:=by
 obtain⟨D,A,B,Zs,h1,h2,h3⟩:=h.rep;exact⟨h1.good,λr e=>Xy h1.pos (h2 r e).1.pos (h2 r e).1.cop (h2 r e).2.1 h1.bD (h2 r e).2.2,λr e=>Xy h1.pos (h3 r e).1.pos (h3 r e).1.cop (h3 r e).2.1 h1.bD (h3 r e).2.2⟩
theorem OffRep.gain {c:Nat}{o:Offr}(h:OffRep c o){b:Bool}{r:Rat}(hr:priceO o b=some r):(gainR o b).length=c/\∃ D Zs,RepL 91 D Zs (gainR o b):=by
 refine⟨by rw[F6];exact h.len,?_⟩;obtain⟨D,A,B,Zs,h1,h2,h3⟩:=h.rep;have key:∀ (f:Rat->Rat) (g:Int->Int),(∀ i W x,Zs[i]?=some W->o.row[i]?=some x->(f x).1*D=g W*(f x).2/\Bd 91 (g W)/\Low (f x))->RepL 91 D (Zs.map g) (o.row.map f):=λf g hf=>by
  refine⟨h1.pos,h1.bD.mono (by decide),by rw[YC,YC,h1.len],λi W x hW hx=>?_⟩;rw[YE] at hW hx
  cases e1:Zs[i]? with
  | none=>rw[e1] at hW;cases hW
  | some W' =>
   cases e2:o.row[i]? with
   | none=>rw[e2] at hx;cases hx
   | some x' =>
    rw[e1] at hW;rw[e2] at hx
    cases hW
    cases hx;exact hf i W' x' e1 e2
 unfold gainR
 cases b with
 | true =>
  have hr:o.ask=some r:=hr;obtain⟨lr,er,br⟩:=h2 r hr;rw[hr];refine⟨D,_,RepL.cut (key _ (λW=>W - A) λi W x e1 e2=>?_) o.ev⟩;obtain⟨a1,a2,a3⟩:=h1.at_ i W x e1 e2;exact⟨Ku a3.pos lr.pos a1 er,a2.sub br,J5 a3 lr⟩
 | false =>
  have hr:o.bid=some r:=hr;obtain⟨lr,er,br⟩:=h3 r hr;rw[hr];refine⟨D,_,RepL.cut (key _ (λW=>B - W) λi W x e1 e2=>?_) o.ev⟩;obtain⟨a1,a2,a3⟩:=h1.at_ i W x e1 e2;exact⟨Ku lr.pos a3.pos er a1,br.sub a2,J5 lr a3⟩
def PriceR (t:Int)(mid:Rat)(o:Option Rat):Prop:=∀ r,o=some r->∃ (sl:Rat) (s:Int),r=addR mid sl/\Low sl/\0<=s/\s<=18/\sl.1*6=(t*s)*sl.2
section
variable {c:Nat}{rs:UB}{ask bid:Option Rat}{ev:TW}{mid:Rat}{k C:Int}
theorem Q7 {t:Int}{o:Option Rat}{r:Rat}(hp:PriceR t mid o)(lm:Low mid)(hm:mid.1*(6*k)=C*mid.2)(bk:Bd 21 k)(bC:Bd 46 C)(ht:t=1 \/ t=-1)(hr:o=some r):∃ s,0<=s/\s<=18/\Low r/\r.1*(6*k)=(C+t*s*k)*r.2/\Bd 50 (C+t*s*k):=by
 obtain⟨sl,s,e,ls,s0,s1,es⟩:=hp r hr;refine⟨s,s0,s1,by rw[e];exact Sa lm ls,?_,?_⟩
 ·rw[e];exact Kv lm.pos ls.pos hm (Uu k es)
 have b1:Bd 6 (t*s):=Te 6 (show (t*s).natAbs<64 by rcases ht with rfl | rfl <;> omega) (by decide);exact ((bC.mono (show 46<=49 by decide)).add ((b1.mul bk).mono (by decide))).mono (by decide)
end
theorem Js (r s:Rat):subR r s=addR r (negR s):=by
 show nrm (r.1*s.2 - s.1*r.2) (r.2*s.2)=nrm (r.1*s.2 + -s.1*r.2) (r.2*s.2);rw[Y11,Int.sub_eq_add_neg]
theorem Ud {z:Int}:(nrm z 2).1*6=z*3*(nrm z 2).2:=by
 have:=Pd (p:=z) (show (2:Int)≠0 by decide);have e:=Uu 3 this;exact e
theorem C4 {z:Int}{mid:Rat}(h0:0<=z)(h1:z<=6):PriceR 1 mid (some (addR mid (nrm z 2))):=λr e=>by
 cases e;refine⟨nrm z 2,z*3,rfl,Yd (by decide),by omega,by omega,?_⟩;rw[Y0T];exact Ud
theorem Lr {z:Int}{mid:Rat}(h0:0<=z)(h1:z<=6):PriceR (-1) mid (some (subR mid (nrm z 2))):=λr e=>by
 cases e;refine⟨negR (nrm z 2),z*3,Js _ _,negR.low (Yd (by decide)),by omega,by omega,?_⟩;show -(nrm z 2).1*6=-1*(z*3)*(nrm z 2).2;rw[Y11,Ud];grind
theorem PriceR.non {t:Int}{mid:Rat}:PriceR t mid none:=λr e=>nomatch e
structure MidR (c:Nat)(Ws:TV)(rs:UB)(o:TW)(mid:Rat)(k C:Int):Prop where
 len:rs.length=c
 six:∀ r∈rs,Six r
 g:Good 100 mid
 pos:0<k
 eq:mid.1*(6*k)=C*mid.2
 bk:Bd 21 k
 bC:Bd 46 C
 at_:0<(List.zipWith (·*·) Ws (cutZ o (List.replicate c 1))).sum->k=(List.zipWith (·*·) Ws (cutZ o (List.replicate c 1))).sum/\C=(List.zipWith (·*·) Ws (cutZ o (wholeB rs 6))).sum
section
variable {P:TU}{w:World}{K:TR}{mg:TB}{base:Heap}
inductive spMid (K:TR) (vs:TZ) (H:Hp) (Q:VK) (_z3:XK):Prop
 | i (a g:Addr) (ve:V) (c:Nat) (Ws:TV) (ws rs:UB) (o:TW) (_:vs=[.ref a,.ref g,ve]) (_:RowAt K H a ws) (_:WtsR c Ws ws) (_:RowAt K H g rs) (_:rs.length=c) (_:(∀ r∈rs,Six r)) (_:EvAt K H c o ve) (_:1<=c) (_:c<=100) (_:∀ (am:Addr) (H':Hp) (mid:Rat) (k C:Int),Same H H'->SqT K H' am [.int mid.1,.int mid.2]->MidR c Ws rs o mid k C->Q (.ref am) H')
theorem Z4w (D:Def K mg "_law_mid" j4 UU)(T:Blt mg)(eT:Has P w K mg base 4 "_law_mean" US (spMeanP K))(eU:Has P w K mg base 2 "_law_cut" UO (spLCut K))(fL:Has P w K mg base 3 "_law_parted" UI (spParted K)) :
  Has P w K mg base 5 "_law_mid" UU (spMid K):=by
 refine D.h9 (N:=["_law_weights_here","_law_row_here","_law_event_here","_law_share"]) fsc λH Q hr h nd=>?_;obtain⟨a,g,ve,c,Ws,ws,rs,o,rfl,⟨xs,hxs,hws⟩,wt,⟨us,hus,hrs⟩,l1,six,E0,hc1,hc,k⟩:=h;have nd1:(["_law_one"]:TF).Nodup:=by decide +kernel
 refine⟨_,(Z9 (Zh (i:=3) nd rfl (Or.inl rfl) (Zc eT hr (Z0 (pv 0) (Z0 (Zc eU hr (Z0 (Y0 (N:=["_law_one"]) (k:=1) (fv:=[]) rfl (Wj (pv 1))
  (λ_ _ _ _ _=>Zf (i:=0) nd1 rfl (Or.inl rfl)) (λ_ _ _ _ _=>Zy) (λ_ _ _ _ _=>(Yp (Z0 Z8 (Z0 Z8 Z7)))) Zj) (Z0 (pv 2) Z7))) Z7))))
  (Z9 (Yc (Zp Wv (Zi Yq (pv 3) Z8 (λ_ _=>rfl)) Z8 (Zr _))
   (Za (Zg (Yp (Z0 Z8 (Z0 Z8 Z7)))))
   Zw)
  (Za (Zg (Zc fL hr (Z0 (Zc eT hr (Z0 (pv 0) (Z0 (Zc eU hr (Z0 (pv 1) (Z0 (pv 2) Z7))) Z7))) (Z0 (pv 3) Z7))))))),?_⟩
 have lus:=hrs.len;refine⟨_,rfl,_,rfl,g,rfl,⟨_,hus⟩,λd hd=>?_⟩;refine⟨c,λj ys H'=>Same H H'/\Rs K H' (List.replicate j (1,1)) ys,Zt (by omega),⟨Same.new hd,.nil⟩,?_,?_⟩
 ·rintro j ys H10 hj ⟨S10,R10⟩ hd10;refine⟨⟨us,us[j]'(by omega),Zn S10 hus,by simp⟩,?_⟩;rintro x' H3 ⟨rfl,fx⟩;refine Y2 ?_;refine⟨sz2,λp hp=>?_⟩;have S11:Same H3 (upd H3 p (.tup [.int 1,.int 1])):=Same.new hp;have hd11:=S11 _ _ hd10;refine⟨hd11,λq o' e=>?_,?_⟩
  ·rw[Ze (Zd e hd)];exact S11 _ _ (S10 _ _ e)
  rw[Y12];exact (R10.ext ((Ext.same S11).trans (Ext.upd hd11))).snoc ⟨p,rfl,(Ext.upd hd11).sq (SqT.of Zb)⟩
 rintro ys H10 ⟨S10,R10⟩ hd10;refine⟨⟨us,Zn S10 hus,by omega⟩,_,rfl,d,ve,ys,List.replicate c (1,1),o,rfl,.inl (SqL.of hd10),R10,by rw[ql];exact E0.same S10,by rw[ql];omega,λp11 H11 S11 R11=>?_⟩;obtain⟨ys11,h11,r11⟩:=R11;have S011:=S10.trans S11;have ro:=(RepL.ones c).cut o;have lo:(cutR o (List.replicate c (1,1))).length=c:=by rw[Yu,ql]
 refine⟨a,p11,xs,ys11,ws,_,10,1,_,_,_,_,rfl,.inr (Zn S011 hxs),hws.ext (Ext.same S011),.inr h11,r11,by rw[lo];exact wt.len,by rw[lo];omega,wt.rep,ro,by decide,λash H12 S12 e12=>?_⟩;have S012:=S011.trans S12;have lWs:Ws.length=c:=by rw[wt.rep.len];exact wt.len
 obtain⟨shE,shL⟩:=(wt.rep.mul ro (by rw[lo];exact wt.len)).sum;have shG:=(wt.rep.mul ro (by rw[lo];exact wt.len)).sumGood (k:=10) (by rw[JL,lo];omega);replace shE:(sumR (List.zipWith mulR' ws (cutR o (List.replicate c (1,1))))).1*(Ws.sum*1)=(List.zipWith (·*·) Ws (cutZ o (List.replicate c 1))).sum*(sumR (List.zipWith mulR' ws (cutR o (List.replicate c (1,1))))).2:=shE;replace shL:Low (sumR (List.zipWith mulR' ws (cutR o (List.replicate c (1,1))))):=shL;replace shG:Good (10+1+10) (sumR (List.zipWith mulR' ws (cutR o (List.replicate c (1,1))))):=shG;generalize sumR (List.zipWith mulR' ws (cutR o (List.replicate c (1,1))))=sh at *
 have bS:Bd 21 (List.zipWith (·*·) Ws (cutZ o (List.replicate c 1))).sum:=Bx (m:=10) (n:=1) (k:=10) (λW hW=>wt.rep.bdW W hW) (λz hz=>ro.bdW z hz) (by rw[lWs];omega);have r6:=RepL.six six;have bM:Bd 44 (List.zipWith (·*·) Ws (cutZ o (wholeB rs 6))).sum:=Bx (m:=10) (n:=24) (k:=10) (λW hW=>wt.rep.bdW W hW) (λz hz=>(r6.cut o).bdW z hz) (by rw[lWs];omega);have Snn:0<=(List.zipWith (·*·) Ws (cutZ o (List.replicate c 1))).sum:=(Fx lWs wt.nn).1;have wp:=wt.pos;refine⟨_,rfl,ash,_,_,rfl,rfl,e12,rfl,_,rfl,?_⟩;refine V8 (λh=>?_) (λh=>?_)
 ·have h0:sh.1=0:=by
   have:=GH h;injection this
  have S0:¬ 0<(List.zipWith (·*·) Ws (cutZ o (List.replicate c 1))).sum:=λz=>by
   have h1:=XN z shL.pos;rw[h0,Y05] at shE;omega
  refine⟨sz2,λp hp=>?_⟩;exact k p _ (0,1) 1 0 (S012.trans (Same.new hp)) (SqT.of Zb) ⟨l1,six,⟨bd0 _,Te 1 (by decide) (by decide),by decide,by decide⟩,by decide,by decide,Te 1 (by decide) (by decide),bd0 _,λz=>absurd z S0⟩
 have h0:sh.1≠0:=λz=>h (XQ (by rw[z]));have hpos:0<sh.1:=by
  have:0<=sh.1:=((Gp (show 0<Ws.sum*1 by omega) shL.pos shE).1).mpr Snn;omega
 have Spos:0<(List.zipWith (·*·) Ws (cutZ o (List.replicate c 1))).sum:=by
  apply YO;intro z;have:(List.zipWith (·*·) Ws (cutZ o (List.replicate c 1))).sum=0:=by omega
  rw[this,Y05] at shE;have:=XN hpos (show 0<Ws.sum*1 by omega);omega
 refine⟨_,rfl,_,rfl,_,rfl,g,ve,us,rs,o,rfl,.inr (Zn S012 hus),hrs.ext (Ext.same S012),by rw[l1];exact E0.same S012,by omega,λp13 H13 S13 R13=>?_⟩;obtain⟨ys13,h13,r13⟩:=R13;have rc:=r6.cut o;have lc:(cutR o rs).length=c:=by rw[Yu];exact l1
 refine⟨a,p13,xs,ys13,ws,_,10,24,_,_,_,_,rfl,.inr (Zn (S012.trans S13) hxs),hws.ext (Ext.same (S012.trans S13)),.inr h13,r13,by rw[lc];exact wt.len,by rw[lc];omega,wt.rep,rc,by decide,λam2 H14 S14 e14=>?_⟩;obtain⟨miE,miL⟩:=(wt.rep.mul rc (by rw[lc];exact wt.len)).sum;have miG:=(wt.rep.mul rc (by rw[lc];exact wt.len)).sumGood (k:=10) (by rw[JL,lc];omega);replace miE:(sumR (List.zipWith mulR' ws (cutR o rs))).1*(Ws.sum*6)=(List.zipWith (·*·) Ws (cutZ o (wholeB rs 6))).sum*(sumR (List.zipWith mulR' ws (cutR o rs))).2:=miE;replace miL:Low (sumR (List.zipWith mulR' ws (cutR o rs))):=miL;replace miG:Good (10+24+10) (sumR (List.zipWith mulR' ws (cutR o rs))):=miG;generalize sumR (List.zipWith mulR' ws (cutR o rs))=mi at *
 have S1214:=S13.trans S14;replace e12:=Zn S1214 e12;refine⟨_,rfl,am2,ash,mi,sh,44,rfl,e14,e12,miG,shG.mono (by decide),hpos,by decide,λaq H15 f15 S15 e15=>?_⟩;have qE:=Ds (q:=nrm (mi.1*sh.2) (mi.2*sh.1)) miL.pos shL.pos miE shE (Xw (mi.1*sh.2) (mi.2*sh.1));have hne:mi.2*sh.1≠0:=Xh miL.pos hpos;have qG:Good 65 (nrm (mi.1*sh.2) (mi.2*sh.1)):=Xe (miG.b1.mul shG.b2) (miG.b2.mul shG.b1) hne;exact k aq H15 _ _ _ ((S012.trans S1214).trans S15) (SqT.of e15) ⟨l1,six,qG.mono (by decide),Spos,qE,bS,bM.mono (by decide),λ_=>⟨rfl,rfl⟩⟩
theorem Mv {z:Int}{mid:Rat}(h0:-6<=z)(h1:z<=6):∃ t:Int,(t=1 \/ t=-1)/\PriceR t mid (some (addR mid (nrm z 2)))/\PriceR (-t) mid (some (subR mid (nrm z 2))):=by
 by_cases h:0<=z
 ·exact⟨1,.inl rfl,C4 h h1,Lr h h1⟩
 refine⟨-1,.inr rfl,λr e=>?_,λr e=>?_⟩
 ·cases e;refine⟨nrm z 2,-z*3,rfl,Yd (by decide),by omega,by omega,?_⟩;rw[Ud];grind
 cases e;refine⟨negR (nrm z 2),-z*3,Js _ _,negR.low (Yd (by decide)),by omega,by omega,?_⟩;show -(nrm z 2).1*6=- -1*(-z*3)*(nrm z 2).2;rw[Y11,Ud];grind
theorem K0 {c:Nat}{rs:UB}{ask bid:Option Rat}{ev:TW}{mid:Rat}{k C t u:Int}(six:∀ r∈rs,Six r)(lr:rs.length=c)(lm:Low mid)(hk:0<k)(hm:mid.1*(6*k)=C*mid.2)(bk:Bd 21 k)(bC:Bd 46 C)(ht:t=1 \/ t=-1)(hu:u=1 \/ u=-1)(ha:PriceR t mid ask)(hb:PriceR u mid bid):OffRep c ⟨rs,ask,bid,ev⟩:=by
 refine⟨lr,?_⟩;have r6:=(RepL.six six).scale hk bk;have A:∃ A:Int,∀ r,ask=some r->Low r/\r.1*(6*k)=A*r.2/\Bd 90 A:=by
  cases ask with
  | none=>exact⟨0,λr e=>nomatch e⟩
  | some x =>
   obtain⟨s,_,_,l,e,b⟩:=Q7 ha lm hm bk bC ht rfl;exact⟨_,λr er=>by cases er;exact⟨l,e,b.mono (by decide)⟩⟩
 have B:∃ A:Int,∀ r,bid=some r->Low r/\r.1*(6*k)=A*r.2/\Bd 90 A:=by
  cases bid with
  | none=>exact⟨0,λr e=>nomatch e⟩
  | some x =>
   obtain⟨s,_,_,l,e,b⟩:=Q7 hb lm hm bk bC hu rfl;exact⟨_,λr er=>by cases er;exact⟨l,e,b.mono (by decide)⟩⟩
 obtain⟨A,hA⟩:=A;obtain⟨B,hB⟩:=B;exact⟨6*k,A,B,_,r6.mono (by decide),hA,hB⟩
inductive spOfferL (K:TR) (vs:TZ) (H:Hp) (Q:VK) (_z3:XK):Prop
 | i (b a:Addr) (c n:Nat) (lo:Int) (Ws:TV) (ws:UB) (_:vs=[.ref b,.ref a,.int lo]) (_:0<=lo) (_:lo<=2) (_:BagAt H b n) (_:n<=50000) (_:RowAt K H a ws) (_:WtsR c Ws ws) (_:1<=c) (_:c<=100) (_:∀ (v:V) (H':Hp) (o:Offr),SameX b H H'->OffAt K H' c o v->OffRep c o->Q v H')
theorem Co (D:Def K mg "_law_offer" jJ UV)(T:Blt mg)(eA:Z2 P w K mg base)(fT:Has P w K mg base 2 "_law_event" UK (spEvent K))(fH:Has P w K mg base 4 "_law_row" UK (spRow6 K))(gL:Has P w K mg base 5 "_law_mid" UU (spMid K))
  (eB:Z1 P w K mg base) (eF:Z3 P w K mg base) (eQ:Has P w K mg base 3 "_law_minus" UI (spTwo K subR)) :
  Has P w K mg base 6 "_law_offer" UV (spOfferL K):=by
 refine D.h9 (N:=["_law_bag_here","_law_weights_here","_law_loose","_law_event_here","_law_row_here","_law_mid_here","_law_ask","_law_bid","_law_way"]) fsc λH Q hr h nd=>?_;obtain⟨b,a,c,n,lo,Ws,ws,rfl,lo0,lo2,hB,hn,⟨xs,hxs,hws⟩,wt,hc1,hc,k⟩:=h;refine⟨_,(Z9 (Zh (i:=3) nd rfl (Or.inl rfl) (Zc fT hr (Z0 (pv 0) (Z0 (Zq Zv rfl T.len qD (Z0 (pv 1) Z7)) Z7))))
  (Z9 (Zh (i:=4) nd rfl (Or.inl rfl) (Zc fH hr (Z0 (pv 0) (Z0 (Zq Zv rfl T.len qD (Z0 (pv 1) Z7)) Z7))))
  (Z9 (Zh (i:=5) nd rfl (Or.inl rfl) (Zc gL hr (Z0 (pv 1) (Z0 (pv 4) (Z0 (pv 3) Z7)))))
  (Z9 (Zh (i:=6) nd rfl (Or.inl rfl) (Zc eF hr (Z0 (pv 5) (Z0 (Zc eB hr (Z0 (Zm Ux (Zc eA hr (Z0 (pv 0) (Z0 Z8 Z7))) (pv 2)) (Z0 Z8 Z7))) Z7))))
  (Z9 (Zh (i:=7) nd rfl (Or.inl rfl) (Zc eQ hr (Z0 (pv 5) (Z0 (Zc eB hr (Z0 (Zm Ux (Zc eA hr (Z0 (pv 0) (Z0 Z8 Z7))) (pv 2)) (Z0 Z8 Z7))) Z7))))
  (Z9 (Zh (i:=8) nd rfl (Or.inl rfl) (Zc eA hr (Z0 (pv 0) (Z0 Z8 Z7))))
  (Z9 (Wi (Yc (Zp Wv (pv 8) Z8 (Zr _))
   (Za (Zh (i:=6) nd rfl (Or.inl rfl) Xp))
   Zw))
  (Z9 (Wi (Yc (Zp Wv (pv 8) Z8 (Zr _))
   (Za (Zh (i:=7) nd rfl (Or.inl rfl) Xp))
   Zw))
  (Za (Zg (Yp (Z0 (pv 4) (Z0 (pv 6) (Z0 (pv 7) (Z0 (pv 3) Z7))))))))))))))),?_⟩
 have lx:=hws.len;obtain rfl:c=xs.length:=by have:=wt.len;omega
 generalize hcc:xs.length=c at *
 refine⟨_,rfl,_,rfl,a,xs,rfl,.inr hxs,?_⟩;rw[hcc];refine⟨b,c,n,rfl,hB,by omega,by omega,λve H1 o B1 S1 E1=>?_⟩;have hxs1:SqT K H1 a xs:=(Ext.bag S1 hB).sq hxs;have hws1:=hws.ext (Ext.bag S1 hB);refine⟨_,rfl,_,rfl,a,xs,rfl,.inr hxs1,?_⟩;rw[hcc];refine⟨b,c,_,rfl,B1,by omega,by omega,λa1 H2 rs B2 S2 R2 l1 six=>?_⟩;have x12:=Ext.bag S2 B1;refine⟨_,rfl,_,rfl,_,rfl,a,a1,ve,c,Ws,ws,rs,o,rfl,⟨xs,x12.sq hxs1,hws1.ext x12⟩,wt,R2,l1,six,E1.ext x12,hc1,hc,λam H3 mid kk C S3 sqm mr=>?_⟩;have B3:=B2.same S3;have E3:=(E1.ext x12).same S3;have R3:=R2.same S3;have S03:SameX b H H3:=(S1.trans S2).trans (SameX.of S3);clear S1 S2 S3 B1 B2 hxs1 hws1 x12 E1 R2;refine⟨_,rfl,_,rfl,b,_,_,rfl,B3,by omega,by decide,by decide +kernel,λz H4 z0 z1 B4 S4=>⟨_,rfl,_,_,rfl,rfl,?_⟩⟩;refine⟨_,_,rfl,by decide,by decide,λasl H5 f5 S5 e5=>?_⟩;have g5:Good 100 (nrm (z - lo) 2):=(Ty (by omega) (by omega) (.inr (.inl rfl))).g.mono (by decide);have x35:=(Ext.bag S4 B3).trans (Ext.same S5);refine⟨am,asl,mid,nrm (z - lo) 2,100,rfl,x35.sq sqm,SqT.of e5,mr.g,g5,by decide,λaA H6 f6 S6 e6=>?_⟩;have S36:SameX b H3 H6:=(S4.trans (SameX.of S5)).trans (SameX.of S6);have B6:=(B4.same S5).same S6;have x36:=Ext.bag S36 B3;clear S4 S5 S6 e5 x35 f5 f6 B4;refine⟨_,rfl,_,rfl,b,_,_,rfl,B6,by omega,by decide,by decide +kernel,λy H7 y0 y1 B7 S7=>⟨_,rfl,_,_,rfl,rfl,?_⟩⟩;refine⟨_,_,rfl,by decide,by decide,λasl H8 f8 S8 e8=>?_⟩;have g8:Good 100 (nrm (y - lo) 2):=(Ty (by omega) (by omega) (.inr (.inl rfl))).g.mono (by decide);have x68:=(Ext.bag S7 B6).trans (Ext.same S8);refine⟨am,asl,mid,nrm (y - lo) 2,100,rfl,x68.sq (x36.sq sqm),SqT.of e8,mr.g,g8,by decide,λaB H9 f9 S9 e9=>?_⟩;have S69:SameX b H6 H9:=(S7.trans (SameX.of S8)).trans (SameX.of S9);have B9:=(B7.same S8).same S9;have x69:=Ext.bag S69 B6;have sqA:=x69.sq (SqT.of (K:=K) e6);have sqB:=SqT.of (K:=K) e9;have x39:=x36.trans x69;have S09:=(S03.trans S36).trans S69;clear S7 S8 S9 e8 x68 f8 f9 B7 e6 e9;refine⟨_,rfl,b,_,_,rfl,B9,by omega,by decide,by decide +kernel,λwy H10 w0 w1 B10 S10=>?_⟩;have x910:=Ext.bag S10 B9;obtain⟨ta,hta,pu,_⟩:=Mv (z:=z - lo) (mid:=mid) (by omega) (by omega);obtain⟨tb',htb',_,pd⟩:=Mv (z:=y - lo) (mid:=mid) (by omega) (by omega);obtain⟨tb,etb⟩:∃ tb,tb=-tb':=⟨_,rfl⟩;have htb:tb=1 \/ tb=-1:=by omega
 rw[<-etb] at pd;have fin:∀ (oa ob:Option Rat) (va vb:V),MayAt K H10 oa va->MayAt K H10 ob vb->PriceR ta mid oa->PriceR tb mid ob->∀ p,H10 p=none->Q (.ref p) (upd H10 p (.tup [.ref a1,va,vb,ve])):=λoa ob va vb Ma Mb pa pb p hp=>by
  have S11:Same H10 (upd H10 p (.tup [.ref a1,va,vb,ve])):=Same.new hp;have x11:=Ext.same S11;have x311:=(x39.trans x910).trans x11;have lWs:Ws.length=c:=by rw[wt.rep.len];exact wt.len
  exact k _ _ ⟨rs,oa,ob,o⟩ ((S09.trans S10).trans (SameX.of S11)) ⟨p,a1,va,vb,ve,rfl,SqT.of Zb,R3.ext x311,l1,Ma.ext x11,Mb.ext x11,E3.ext x311⟩ (K0 six l1 mr.g.low mr.pos mr.eq mr.bk mr.bC hta htb pa pb)
 refine⟨λσ H'=>H'=H10/\∃ (oa:Option Rat) (va:V),σ=[some (.ref b),some (.ref a),some (.int lo),some ve,some (.ref a1),some (.ref am),some va,some (.ref aB),some (.int wy)]/\MayAt K H10 oa va/\PriceR ta mid oa,?_,?_⟩
 ·refine⟨_,rfl,rfl,_,rfl,?_⟩;refine V8 (λh=>?_) (λh=>?_)
  ·exact⟨rfl,none,.non,rfl,rfl,PriceR.non⟩
  exact⟨rfl,some _,.ref aA,rfl,⟨aA,rfl,x910.sq sqA⟩,pu⟩
 rintro σ H11 ⟨rfl,oa,va,rfl,Ma,pa⟩;refine⟨λσ H'=>H'=H11/\∃ (ob:Option Rat) (vb:V),σ=[some (.ref b),some (.ref a),some (.int lo),some ve,some (.ref a1),some (.ref am),some va,some vb,some (.int wy)]/\MayAt K H11 ob vb/\PriceR tb mid ob,?_,?_⟩
 ·refine⟨_,rfl,rfl,_,rfl,?_⟩;refine V8 (λh=>?_) (λh=>?_)
  ·exact⟨rfl,none,.non,rfl,rfl,PriceR.non⟩
  exact⟨rfl,some _,.ref aB,rfl,⟨aB,rfl,x910.sq sqB⟩,pd⟩
 rintro σ H12 ⟨rfl,ob,vb,rfl,Mb,pb⟩;exact⟨_,rfl,_,rfl,_,rfl,_,rfl,sz4,λp hp=>fin oa ob va vb Ma Mb pa pb p hp⟩
theorem Gm (D:Def K mg "_law_gains" jA ["_law_offers"])(eQ:Has P w K mg base 3 "_law_minus" UI (spTwo K subR))(eU:Has P w K mg base 2 "_law_cut" UO (spLCut K)):Has P w K mg base 4 "_law_gains" ["_law_offers"] (spGainsP K):=by
 refine D.h9 (N:=["_law_offers","_law_rows","_law_row_here","_law_ask","_law_bid","_law_event_here"]) fsc λH Q hr h nd=>?_;obtain⟨l,c,n,os,rfl,⟨vs,hl,hO⟩,hlen,hc,hn,g,k⟩:=h;have nd1:(["_law_worth","_law_ask"]:List Str).Nodup:=by decide +kernel
 have nd2:(["_law_worth","_law_bid"]:List Str).Nodup:=by decide +kernel
 refine⟨_,(Z9 (Zh (i:=1) nd rfl (Or.inl rfl) (X1 Z7))
  (Z9 (Ys XZ rfl (Y6 (pv 0)) (Wk (n:=4) rfl (Y9 (Zf (i:=2) nd rfl (Or.inl rfl)) (Y9 (Zf (i:=3) nd rfl (Or.inr rfl)) (Y9 (Zf (i:=4) nd rfl (Or.inr rfl)) (Y9 (Zf (i:=5) nd rfl (Or.inl rfl)) Xi)))))
   (Z9 (Wi (Yc (Zp U5 (pv 3) Xp (Zr _))
    (Za (Xa (U3 JG GC GD Yt (pv 1) (Z0 (Zc eU hr (Z0 (Y0 (N:=["_law_worth","_law_ask"]) (k:=1) (fv:=[3]) rfl (Wj (pv 2))
  (λ_ _ _ _ _=>Zf (i:=0) nd1 rfl (Or.inl rfl)) (λ_ _ _ _ _=>Zy) (λ_ _ _ _ _=>(Zc eQ hr (Z0 (pv 0) (Z0 (pv 1) Z7)))) Zj) (Z0 (pv 5) Z7))) Z7))))
    Zw))
   (Za (Yc (Zp U5 (pv 4) Xp (Zr _))
    (Za (Xa (U3 JG GC GD Yt (pv 1) (Z0 (Zc eU hr (Z0 (Y0 (N:=["_law_worth","_law_bid"]) (k:=1) (fv:=[4]) rfl (Wj (pv 2))
  (λ_ _ _ _ _=>Zf (i:=0) nd2 rfl (Or.inl rfl)) (λ_ _ _ _ _=>Zy) (λ_ _ _ _ _=>(Zc eQ hr (Z0 (pv 1) (Z0 (pv 0) Z7)))) Zj) (Z0 (pv 5) Z7))) Z7))))
    Zw))))
  (Za (Zg (pv 1))))),?_⟩
 have lo:=YW hO;refine⟨sz0,λd hd=>?_⟩;have S0:Same H (upd H d (.lst [])):=Same.new hd;have up:∀ (zs:TZ) (H1:Hp),Same H H1->Same H (upd H1 d (.lst zs)):=λzs H1 S1 q o e=>by
  rw[Ze (Zd e hd)];exact S1 _ _ e
 have glen:∀ i,i<=os.length->(gainsP os i).length<=2*i:=λi _=>by rw[<-V9,YC];exact Wd os i
 refine⟨_,rfl,l,rfl,⟨_,SqL.of (S0 _ _ hl)⟩,X0 (K:=K) (a:=l) (xs:=vs) (λi σ H'=>Same H H'/\∃ (as:TJ) (x1 x2 x3 x4:UA),σ=[some (.ref l),some (.ref d),x1,x2,x3,x4]/\H' d=some (.lst (as.map V.ref))/\Paired (RowAt K H') as (gainsP os i)) ⟨S0,[],none,none,none,none,rfl,Zb,.nil⟩ (λi σ H' _ h=>SqL.of (h.1 _ _ hl)) ?_ ?_⟩
 ·rintro i v σ H1 hi ⟨S1,as,x1,x2,x3,x4,rfl,hd1,P1⟩;have hiv:i<vs.length:=(YH.mp hi).1;have hio:i<os.length:=by omega
  have eo:os[i]?=some (os.getD i offD):=by simp[List.getD,hio]
  have hv:=(Paired.getB hO hi eo).same S1;have go:=g _ (YD eo);have gl:=glen i (by omega);have ga:=Tq os i;generalize os.getD i offD=o at *
  obtain⟨p,ar,va,vb,ve,rfl,hp,hR,hrl,hA,hB,hE⟩:=hv;have la1:=YW P1;refine⟨p,_,rfl,hp,rfl,_,_,rfl,_,_,rfl,_,_,rfl,_,_,rfl,rfl,?_⟩;obtain⟨xs,hxs,hrs⟩:=hR;have lx:=hrs.len;refine⟨λσ H'=>SameX d H1 H'/\Same H H'/\∃ as':List Addr,σ=[some (.ref l),some (.ref d),some (.ref ar),some va,some vb,some ve]/\H' d=some (.lst (as'.map V.ref))/\Paired (RowAt K H') as' (gainsP os i++(if o.ask.isSome then [gainR o true] else [])),?_,?_⟩
  ·refine⟨_,rfl,rfl,_,rfl,?_⟩
   cases e:o.ask with
   | none =>
    rw[e] at hA;have z:va=V.non:=hA;subst z;exact Yw ⟨SameX.refl _ _,S1,as,rfl,hd1,by simpa using P1⟩
   | some r =>
    rw[e] at hA;obtain⟨ab,rfl,hab⟩:=hA;refine Jd (λz=>nomatch z) ?_;refine⟨_,rfl,.inl ⟨rfl,_,SqL.of hd1⟩,_,rfl,ar,rfl,⟨_,hxs⟩,λdd hdd=>?_⟩;refine⟨o.row.length,λj ys H2=>Same H1 H2/\Rs K H2 ((o.row.map λx=>subR x r).take j) ys,Zt (by omega),⟨Same.new hdd,.nil⟩,?_,?_⟩
    ·rintro j ys H2 hj ⟨S2,R2⟩ hd2;refine⟨⟨xs,xs[j]'(by omega),Zn S2 hxs,by simp⟩,?_⟩;rintro x H3 ⟨rfl,fx⟩;obtain⟨x0,er,ix⟩:=hrs.back (fx xs (Zn S2 hxs));obtain⟨a1,rfl,sq1⟩:=ix.ext (Ext.same S2);refine Y2 ?_;refine⟨_,rfl,_,rfl,a1,ab,x0,r,n,rfl,sq1,Zn S2 hab,go.row x0 (YD er),go.ask r e,hn,λc4 H4 f4 S4 e4=>?_⟩;have hd4:=S4 _ _ hd2;refine⟨hd4,λq o' e=>?_,?_⟩
     ·rw[Ze (Zd e hdd)];exact S4 _ _ (S2 _ _ e)
     rw[V0 _ er];exact (R2.ext ((Ext.same S4).trans (Ext.upd hd4))).snoc ⟨c4,rfl,(Ext.upd hd4).sq (SqT.of e4)⟩
    rintro ys H2 ⟨S2,R2⟩ hd2;rw[YV (by rw[YC];omega)] at R2;refine⟨⟨xs,Zn S2 hxs,by omega⟩,_,rfl,dd,ve,ys,_,o.ev,rfl,.inl (SqL.of hd2),R2,by rw[YC,hrl];exact hE.same S2,by rw[YC];omega,λp' H' S' R'=>?_⟩;have S1':=S2.trans S';have hd':=S1' _ _ hd1;refine⟨d,_,_,rfl,rfl,hd',Ut (by rw[YC];omega),(SameX.of S1').trans (SameX.upd d H' _),up _ _ (S1.trans S1'),as++[p'],rfl,by rw[Zb,XM];rfl,?_⟩;have hg:cutR o.ev (o.row.map λx=>subR x r)=gainR o true:=by unfold gainR;rw[e];rfl
    rw[hg] at R';simp only [Y1g,zx];exact Y0m (Zk P1 ((Ext.same S1').trans (Ext.upd hd'))) (R'.ext (Ext.upd hd'))
  rintro σ H2 ⟨SX,S2,as',rfl,hd2,P2⟩;have x2:Ext H1 H2:=Ext.x SX hd1;replace hxs:=x2.sq hxs;replace hrs:=hrs.ext x2;replace hE:=hE.ext x2;replace hB:=hB.ext x2;have la2:=YW P2;have la3:(gainsP os i++(if o.ask.isSome then [gainR o true] else [])).length<=2*i+1:=by
   rw[YX];have:(if o.ask.isSome then [gainR o true] else []).length<=1:=by split <;> simp
   omega
  refine⟨_,rfl,rfl,_,rfl,?_⟩
  cases e:o.bid with
  | none =>
   rw[e] at hB;have z:vb=V.non:=hB;subst z;refine Yw ⟨S2,as',_,_,_,_,rfl,hd2,?_⟩;rw[ga];unfold wordsO;rw[e]
   cases ea:o.ask with
   | none=>rw[ea] at P2;simpa using P2
   | some r=>rw[ea] at P2;simpa using P2
  | some r =>
   rw[e] at hB;obtain⟨ab,rfl,hab⟩:=hB;refine Jd (λz=>nomatch z) ?_;refine⟨_,rfl,.inl ⟨rfl,_,SqL.of hd2⟩,_,rfl,ar,rfl,⟨_,hxs⟩,λdd hdd=>?_⟩;refine⟨o.row.length,λj ys H3=>Same H2 H3/\Rs K H3 ((o.row.map λx=>subR r x).take j) ys,Zt (by omega),⟨Same.new hdd,.nil⟩,?_,?_⟩
   ·rintro j ys H3 hj ⟨S3,R3⟩ hd3;refine⟨⟨xs,xs[j]'(by omega),Zn S3 hxs,by simp⟩,?_⟩;rintro x H4 ⟨rfl,fx⟩;obtain⟨x0,er,ix⟩:=hrs.back (fx xs (Zn S3 hxs));obtain⟨a1,rfl,sq1⟩:=ix.ext (Ext.same S3);refine Y2 ?_;refine⟨_,rfl,_,rfl,ab,a1,r,x0,n,rfl,Zn S3 hab,sq1,go.bid r e,go.row x0 (YD er),hn,λc4 H5 f4 S4 e4=>?_⟩;have hd4:=S4 _ _ hd3;refine⟨hd4,λq o' e=>?_,?_⟩
    ·rw[Ze (Zd e hdd)];exact S4 _ _ (S3 _ _ e)
    rw[V0 _ er];exact (R3.ext ((Ext.same S4).trans (Ext.upd hd4))).snoc ⟨c4,rfl,(Ext.upd hd4).sq (SqT.of e4)⟩
   rintro ys H3 ⟨S3,R3⟩ hd3;rw[YV (by rw[YC];omega)] at R3;refine⟨⟨xs,Zn S3 hxs,by omega⟩,_,rfl,dd,ve,ys,_,o.ev,rfl,.inl (SqL.of hd3),R3,by rw[YC,hrl];exact hE.same S3,by rw[YC];omega,λp' H' S' R'=>?_⟩;have S2':=S3.trans S';have hd':=S2' _ _ hd2;refine⟨d,_,_,rfl,rfl,hd',Ut (by rw[YC];omega),up _ _ (S2.trans S2'),as'++[p'],_,_,_,_,rfl,by rw[Zb,XM];rfl,?_⟩;have hg:cutR o.ev (o.row.map λx=>subR r x)=gainR o false:=by unfold gainR;rw[e];rfl
   rw[hg] at R';have P3:=Y0m (Zk P2 ((Ext.same S2').trans (Ext.upd (o:=.lst (as'.map V.ref++[.ref p'])) hd'))) (R'.ext (Ext.upd hd'));rw[ga];unfold wordsO;rw[e]
   cases ea:o.ask with
   | none=>rw[ea] at P3;simpa using P3
   | some r=>rw[ea] at P3;simpa using P3
 rintro σ H1 ⟨S1,as,x1,x2,x3,x4,rfl,hd1,P1⟩;rw[lo] at P1;exact⟨_,rfl,k d H1 hd S1 ⟨as,hd1,P1⟩⟩
end
theorem RowR.low8 {c:Nat}{as:UB}(ra:RowR c as){x:Rat}(h:x∈as):Low x:=by
 obtain⟨_,n,D,Z,r⟩:=ra;exact (r.good x h).low
theorem RowR.cut {c:Nat}{as:UB}(ra:RowR c as)(ev:TW):RowR c (cutR ev as):=by
 obtain⟨l,n,D,Z,r⟩:=ra;exact⟨by rw[Yu];exact l,n,_,_,r.cut ev⟩
def gP (o:TW)(as:UB)(p:Rat):List Rat:=cutR o (as.map λx=>subR x p)
theorem Bj {r:Rat}(l:Low r):∃ m,Good m r:=⟨r.1.natAbs+r.2.natAbs,YT Y16 (zu (by decide) (by omega)),YT Y16 (zu (by decide) (by omega)),l.pos,l.cop⟩
theorem U4 (c:Nat)(o:TW):(papR c o).length=c:=by unfold papR;rw[Yu,ql]
abbrev QQ:=_root_.Rat
def qv (r:Rat):QQ:=(r.1:QQ) / (r.2:QQ)
theorem Yx {z:Int}(h:0<z):(z:QQ)≠0:=λe=>by
 have:z=0:=_root_.Rat.intCast_inj.mp (e.trans _root_.Rat.intCast_zero.symm);omega
theorem Vo {z:Int}(h:0<z):0<(z:QQ):=_root_.Rat.intCast_pos.mpr h
theorem C0 {a b:QQ}(h:0<=a*b)(p:0<b):0<=a:=by
 by_cases q:0<=a
 ·exact q
 have:=_root_.Rat.mul_pos (show 0 < -a by grind) p;grind
theorem Z4p {r:Rat}{p q:Int}(hr:0<r.2)(hq:0<q)(e:r.1*q=p*r.2):qv r=(p:QQ) / q:=by
 unfold qv;have h1:=Yx hr;have h2:=Yx hq;have e':(r.1:QQ)*q=p*r.2:=by rw[<-_root_.Rat.intCast_mul,<-_root_.Rat.intCast_mul,e]
 grind
theorem Lp {p q:Int}(h:0<q):qv (nrm p q)=(p:QQ) / q:=Z4p (Yd (by omega)).pos h (Xw p q)
theorem Pj {r:Rat}(lr:Low r)(ls:Low s):qv (addR r s)=qv r+qv s:=by
 have h1:=Yx lr.pos;have h2:=Yx ls.pos;rw[show addR r s=nrm (r.1*s.2+s.1*r.2) (r.2*s.2) from rfl,Lp (XN lr.pos ls.pos)];unfold qv;rw[_root_.Rat.intCast_add,_root_.Rat.intCast_mul,_root_.Rat.intCast_mul,_root_.Rat.intCast_mul];grind
theorem Pi {r:Rat}(lr:Low r)(ls:Low s):qv (subR r s)=qv r - qv s:=by
 have h1:=Yx lr.pos;have h2:=Yx ls.pos;rw[show subR r s=nrm (r.1*s.2 - s.1*r.2) (r.2*s.2) from rfl,Lp (XN lr.pos ls.pos)];unfold qv;rw[_root_.Rat.intCast_sub,_root_.Rat.intCast_mul,_root_.Rat.intCast_mul,_root_.Rat.intCast_mul];grind
theorem Uv {r:Rat}(lr:Low r)(ls:Low s):qv (mulR' r s)=qv r*qv s:=by
 have h1:=Yx lr.pos;have h2:=Yx ls.pos;rw[show mulR' r s=nrm (r.1*s.1) (r.2*s.2) from rfl,Lp (XN lr.pos ls.pos)];unfold qv;rw[_root_.Rat.intCast_mul,_root_.Rat.intCast_mul];grind
theorem Vm {r:Rat}(h:0<r.2):qv r*(r.2:QQ)=r.1:=by
 have:=Yx h;unfold qv;grind
theorem So {r:Rat}(h:0<r.2):0<=r.1 ↔ 0<=qv r:=by
 have e:=Vm h;have p:=Vo h;constructor
 ·intro q;have:(0:QQ)<=(r.1:QQ):=_root_.Rat.intCast_nonneg.mpr q;rw[<-e] at this;exact C0 this p
 intro q;have:=_root_.Rat.mul_nonneg q (_root_.Rat.le_of_lt p);rw[e] at this;exact _root_.Rat.intCast_nonneg.mp this
theorem Dx {r:Rat}(h:0<r.2):r.1<=0 ↔ qv r<=0:=by
 have a:=So (r:=(-r.1,r.2)) h;have e:qv (-r.1,r.2)=- qv r:=by
  unfold qv;rw[show ((-r.1,r.2):Rat).1=-r.1 from rfl,_root_.Rat.intCast_neg];grind
 rw[e] at a;constructor
 ·intro q;have:=a.mp (show 0<=-r.1 by omega);grind
 intro q;have:0<=-r.1:=a.mpr (by grind);omega
theorem Lo {r:Rat}(h:0<r.2):0<r.1 ↔ 0<qv r:=by
 have:=Dx h;constructor
 ·intro q;by_cases z:qv r<=0
  ·have:=this.mpr z;omega
  grind
 intro q;by_cases z:r.1<=0
 ·have:=this.mp z;grind
 omega
theorem Vn {r:Rat}(lr:Low r)(ls:Low s)(h:qv r=qv s):r=s:=by
 refine Vl lr.pos ls.pos lr.cop ls.cop ?_;have h1:=Vm lr.pos;have h2:=Vm ls.pos;have:(r.1:QQ)*s.2=s.1*r.2:=by rw[<-h1,<-h2,h];grind
 rw[<-_root_.Rat.intCast_mul,<-_root_.Rat.intCast_mul] at this;exact _root_.Rat.intCast_inj.mp this
theorem M0:qv (0,1)=0:=by
 show ((0:Int):QQ) / ((1:Int):QQ)=0;rw[_root_.Rat.intCast_zero,_root_.Rat.intCast_one];grind
theorem Dz:qv (1,1)=1:=by
 show ((1:Int):QQ) / ((1:Int):QQ)=1;rw[_root_.Rat.intCast_one];grind
def sQ:Nat->(Nat->QQ)->QQ
 | 0,_=>0
 | n+1,f=>sQ n f+f n
theorem Zo {f g:Nat->QQ}:∀ {n:Nat},(∀ k,k<n->f k=g k)->sQ n f=sQ n g
 | 0,_=>rfl
 | n+1,h=>by
  show sQ n f+f n=sQ n g+g n;rw[Zo λk hk=>h k (by omega),h n (by omega)]
theorem Xo (f g:Nat->QQ):∀ (n:Nat),sQ n (λk=>f k+g k)=sQ n f+sQ n g
 | 0=>by show (0:QQ)=0+0;grind
 | n+1=>by
  show sQ n (λk=>f k+g k)+(f n+g n)=(sQ n f+f n)+(sQ n g+g n);rw[Xo f g n];grind
theorem Yi (a:QQ)(f:Nat->QQ):∀ (n:Nat),sQ n (λk=>a*f k)=a*sQ n f
 | 0=>by show 0=a*0;grind
 | n+1=>by
  show sQ n (λk=>a*f k)+a*f n=a*(sQ n f+f n);rw[Yi a f n];grind
theorem Vg {f:Nat->QQ}{n:Nat}(h:∀ k,k<n->f k=0):sQ n f=0:=by
 rw[Zo h];have:∀ n,sQ n (λ_=>0)=0:=λn=>by
  induction n with
  | zero=>rfl
  | succ n ih=>show sQ n _+0=0;rw[ih];grind
 exact this n
theorem U0 {f:Nat->QQ}:∀ {n:Nat},(∀ k,k<n->0<=f k)->0<=sQ n f
 | 0,_=>by show (0:QQ)<=0;grind
 | n+1,h=>by
  show 0<=sQ n f+f n;have h1:=U0 (f:=f) λk (hk:k<n)=>h k (by omega);have h2:=h n (by omega);grind
theorem Z4o {f g:Nat->QQ}{n:Nat}(h:∀ k,k<n->f k<=g k):sQ n f<=sQ n g:=by
 have:=U0 (f:=λk=>g k + -1*f k) λk (hk:k<n)=>by have:=h k hk;grind
 rw[Xo,Yi] at this;grind
theorem Qz (f:Nat->Nat->QQ)(m:Nat):∀ (n:Nat),sQ n (λi=>sQ m (λj=>f i j))=sQ m (λj=>sQ n (λi=>f i j))
 | 0=>(Vg λ_ _=>rfl).symm
 | n+1=>by
  show sQ n (λi=>sQ m (λj=>f i j))+sQ m (λj=>f n j)=sQ m (λj=>sQ n (λi=>f i j)+f n j);rw[Qz f m n,Xo]
theorem Sl (f:Nat->QQ):∀ (n:Nat),sQ (n+1) f=f 0+sQ n (λk=>f (k+1))
 | 0=>by show 0+f 0=f 0+0;grind
 | n+1=>by
  show sQ (n+1) f+f (n+1)=f 0+(sQ n (λk=>f (k+1))+f (n+1));rw[Sl f n];grind
def qr (l:UB)(k:Nat):QQ:=qv (l.getD k (0,1))
def Lows (l:UB):Prop:=∀ r∈l,Low r
theorem RowR.lows {c:Nat}(h:RowR c l):Lows l:=λr hr=>h.low8 hr
theorem Lows.row {l:UB}(h:Lows l):RowR l.length l:=by
 have:∃ n,∀ r∈l,Good n r:=by
  induction l with
  | nil=>exact⟨0,λr hr=>nomatch hr⟩
  | cons a t ih =>
   obtain⟨n,hn⟩:=ih λr hr=>h r (YQ _ hr);obtain⟨m,hm⟩:=Bj (h a YY);refine⟨n+m,λr hr=>?_⟩;rcases YK.mp hr with rfl | hr
   ·exact hm.mono (by omega)
   exact (hn r hr).mono (by omega)
 obtain⟨n,hn⟩:=this;exact⟨rfl,_,_,_,RepL.of_good hn⟩
theorem Sj:∀ {l:UB} {x:Rat},Low x->Lows l->Low (l.foldl addR x)/\qv (l.foldl addR x)=qv x+sQ l.length (qr l)
 | [],x,lx,_=>⟨lx,by show qv x=qv x+0;grind⟩
 | a::t,x,lx,h=>by
  have la:=h a YY;obtain⟨h1,h2⟩:=Sj (x:=addR x a) (Sa lx la) λr hr=>h r (YQ _ hr);refine⟨h1,?_⟩;show qv (t.foldl addR (addR x a))=qv x+sQ (t.length+1) (qr (a::t));rw[h2,Sl,Pj lx la];have e:sQ t.length (λk=>qr (a::t) (k+1))=sQ t.length (qr t):=Zo λk _=>rfl;rw[e];show qv x+qv a+_=qv x+(qv a+_);grind
theorem Va (h:Lows l):Low (sumR l):=(Sj Tn h).1
theorem Ph (h:Lows l):qv (sumR l)=sQ l.length (qr l):=by
 have:=(Sj Tn h).2;rw[M0] at this;show qv (l.foldl addR (0,1))=_;rw[this];grind
theorem Xj {l:UB}(h:Lows l)(k:Nat):Low (l.getD k (0,1)):=by
 rw[YG]
 cases e:l[k]? with
 | none=>exact Tn
 | some x=>exact h x (YD e)
theorem Ub {l m:UB}(h:Lows l)(h':Lows m):Lows (List.zipWith mulR' l m):=λr hr=>by
 obtain⟨i,hi⟩:=XL hr;rw[JK] at hi
 cases e1:l[i]? with
 | none=>rw[e1] at hi;simp at hi
 | some x =>
  cases e2:m[i]? with
  | none=>rw[e1,e2] at hi;simp at hi
  | some y =>
   rw[e1,e2] at hi
   cases hi;exact J6 (h x (YD e1)) (h' y (YD e2))
theorem Z3b {m:UB}(h:Lows l)(h':Lows m){k:Nat}(h1:k<l.length)(h2:k<m.length):qr (List.zipWith mulR' l m) k=qr l k*qr m k:=by
 unfold qr;have e:(List.zipWith mulR' l m).getD k (0,1)=mulR' (l.getD k (0,1)) (m.getD k (0,1)):=by
  rw[YG,JK,YG,YG,XC h1,XC h2];rfl
 rw[e,Uv (Xj h k) (Xj h' k)]
theorem Wn {m:UB}(h:Lows l)(h':Lows m):Low (mn l m):=Va (Ub h h')
theorem Dy {m:UB}{c:Nat}(h:Lows l)(h':Lows m)(h1:l.length=c)(h2:m.length=c):qv (mn l m)=sQ c (λk=>qr l k*qr m k):=by
 show qv (sumR _)=_;rw[Ph (Ub h h')];have:(List.zipWith mulR' l m).length=c:=by rw[JL,h1,h2];omega
 rw[this];exact Zo λk hk=>Z3b h h' (by omega) (by omega)
theorem Bi {o:TW}(h:Lows l):Lows (cutR o l):=(h.row.cut o).lows
theorem Z3c {o:TW}{l:UB}{k:Nat}:qr (cutR o l) k=if inE o k then qr l k else 0:=by
 unfold qr cutR;rw[YG,jo,YG]
 cases l[k]? with
 | none=>show qv (0,1)=if inE o k then qv (0,1) else 0;rw[M0];cases inE o k <;> rfl
 | some x =>
  show qv (if inE o k then x else (0,1))=if inE o k then qv x else 0
  cases inE o k
  ·exact M0
  rfl
theorem Z0w {c k:Nat}(h:k<c):qr (List.replicate c (1,1)) k=1:=by
 unfold qr;rw[YG,zf,XF h];exact Dz
theorem Gs (c:Nat):Lows (List.replicate c (1,1)):=λr hr=>by rw[qW hr];exact Mo
theorem Z3a {c k:Nat}{o:TW}(h:k<c):qr (papR c o) k=if inE o k then 1 else 0:=by
 unfold papR;rw[Z3c,Z0w h]
theorem Ua (c:Nat)(o:TW):Lows (papR c o):=Bi (Gs c)
open Sv (sm)
theorem RepL.each {n:Nat}{D:Int}(hD:0<D)(bD:Bd n D):∀ {rs:UB},(∀ r∈rs,∃ W,r.1*D=W*r.2/\Bd n W/\Low r)->∃ Ws,RepL n D Ws rs
 | [],_=>⟨[],hD,bD,rfl,λi W r h=>by simp at h⟩
 | r::t,h=>by
  obtain⟨Ws,p⟩:=RepL.each hD bD (rs:=t) λx hx=>h x (YQ _ hx);obtain⟨W,e⟩:=h r YY;refine⟨W::Ws,hD,bD,by simp[p.len],λi V x hV hx=>?_⟩
  cases i with
  | zero=>cases hV;cases hx;exact e
  | succ i=>exact p.at_ i V x (by simpa using hV) (by simpa using hx)
theorem Ch {n:Nat}{W:Int}{r:Rat}(hD:0<D)(bD:Bd n D)(e:r.1*D=W*r.2)(b:Bd n W)(l:Low r):Good n r:=by
 obtain⟨Ws,p⟩:=RepL.each hD bD (rs:=[r]) λx hx=>by
  obtain rfl:=XA.mp hx;exact⟨W,e,b,l⟩
 exact p.good r (by simp)
theorem Pa {f:Nat->QQ}:∀ {n:Nat},(∀ k,k<n->0<=f k)->sQ n f=0->∀ k,k<n->f k=0
 | 0,_,_=>λk hk=>absurd hk (by omega)
 | n+1,h,e=>λk hk=>by
  have e':sQ n f+f n=0:=e;have a:=U0 (n:=n) (f:=f) λk hk=>h k (by omega);have b:=h n (by omega);by_cases z:k=n
  ·rw[z];grind
  exact Pa (n:=n) (λk hk=>h k (by omega)) (by grind) k (by omega)
end Sb
namespace Sb
open PySem L2
section
variable {n:Nat}
abbrev Pt:=Nat->QQ
def dq (n:Nat)(x e:Pt):QQ:=sQ n λk=>x k*e k
theorem Yj (x d e:Pt)(t:QQ):dq n (λk=>x k+t*d k) e=dq n x e+t*dq n d e:=by
 unfold dq;rw[<-Yi,<-Xo];exact Zo λk _=>by grind
theorem Ya {x y e:Pt}(h:∀ k,k<n->x k=y k):dq n x e=dq n y e:=Zo λk hk=>by rw[h k hk]
theorem Vb (x d:Pt)(t:QQ):sQ n (λk=>x k+t*d k)=sQ n x+t*sQ n d:=by
 rw[<-Yi,<-Xo]
structure Bnds (n m:Nat)(c:Nat->Pt):Prop where
 le:n<=m
 un:∀ i,i<n->∀ x:Pt,dq n x (c i)=-x i
structure InP (n m:Nat)(c:Nat->Pt)(x:Pt):Prop where
 le:∀ k,k<m->dq n x (c k)<=0
 one:sQ n x=1
def Stuck (n m:Nat)(c:Nat->Pt)(x:Pt):Prop:=∀ d:Pt,sQ n d=0->(∀ k,k<m->dq n x (c k)=0->dq n d (c k)=0)->∀ i,i<n->d i=0
structure Vx (n m:Nat)(c:Nat->Pt)(x:Pt):Prop where
 inn:InP n m c x
 st:Stuck n m c x
theorem To (a b:Nat->QQ):∀ m:Nat,(∃ k,k<m/\0<b k)->(∀ k,k<m->0<b k->0<a k)->∃ k,k<m/\0<b k/\∀ j,j<m->0<b j->a k / b k<=a j / b j
 | 0,⟨k,h,_⟩,_=>absurd h (by omega)
 | m+1,⟨k,hk,bk⟩,pos=>by
  by_cases h:∃ k,k<m/\0<b k
  ·obtain⟨k0,h0,b0,l0⟩:=To a b m h λk hk=>pos k (by omega);by_cases bm:0<b m
   ·by_cases le:a k0 / b k0<=a m / b m
    ·refine⟨k0,by omega,b0,λj hj bj=>?_⟩;by_cases e:j=m
     ·subst e;exact le
     exact l0 j (by omega) bj
    refine⟨m,by omega,bm,λj hj bj=>?_⟩;by_cases e:j=m
    ·subst e;grind
    have:=l0 j (by omega) bj;grind
   refine⟨k0,by omega,b0,λj hj bj=>?_⟩;by_cases e:j=m
   ·subst e;exact absurd bj bm
   exact l0 j (by omega) bj
  refine⟨k,hk,bk,λj hj bj=>?_⟩;have e1:k=m:=by
   by_cases z:k=m
   ·exact z
   exact absurd ⟨k,by omega,bk⟩ h
  have e2:j=m:=by
   by_cases z:j=m
   ·exact z
   exact absurd ⟨j,by omega,bj⟩ h
  rw[e1,e2];grind
variable {m:Nat}{c:Nat->Pt}{x d:Pt}
theorem Lk {d:Pt}(h:sQ n d=0){i:Nat}(hi:i<n)(ne:d i≠0):∃ j,j<n/\d j<0:=by
 by_cases q:∃ j,j<n/\d j<0
 ·exact q
 have nn:∀ k,k<n->0<=d k:=λk hk=>by
  by_cases z:0<=d k
  ·exact z
  exact absurd ⟨k,hk,by grind⟩ q
 exact absurd (Pa nn h i hi) ne
theorem Nd {a b:QQ}(h:0<b):a / b*b=a:=by
 have:b≠0:=by grind
 grind
theorem InP.go (B:Bnds n m c)(I:InP n m c x)(s0:sQ n d=0)(al:∀ k,k<m->dq n x (c k)=0->dq n d (c k)=0){i:Nat}(hi:i<n)(ne:d i≠0) :
  ∃ t:QQ,0<t/\InP n m c (λk=>x k+t*d k)/\(∀ k,k<m->dq n x (c k)=0->dq n (λk=>x k+t*d k) (c k)=0)/\∃ k,k<m/\dq n x (c k)≠0/\dq n (λk=>x k+t*d k) (c k)=0:=by
 obtain⟨j,hj,nj⟩:=Lk s0 hi ne;have bj:0<dq n d (c j):=by rw[B.un j hj];grind
 have le:=B.le;obtain⟨k,hk,bk,lk⟩:=To (λk=>-dq n x (c k)) (λk=>dq n d (c k)) m ⟨j,by omega,bj⟩ λk hk bk=>by
  have:=I.le k hk;have:dq n x (c k)≠0:=λz=>by have:=al k hk z;grind
  grind
 have nk:dq n x (c k)≠0:=λz=>by have:=al k hk z;grind
 have lk0:=I.le k hk;have e:=Nd (a:=-dq n x (c k)) bk;have tp:0 < -dq n x (c k) / dq n d (c k):=by
  by_cases z:0 < -dq n x (c k) / dq n d (c k)
  ·exact z
  have:0<=-(-dq n x (c k) / dq n d (c k)):=by grind
  have:=_root_.Rat.mul_nonneg this (show 0<=dq n d (c k) by grind);grind
 refine⟨-dq n x (c k) / dq n d (c k),tp,⟨λq hq=>?_,?_⟩,λq hq z=>?_,k,hk,nk,?_⟩
 ·rw[Yj];have:=I.le q hq;by_cases bq:0<dq n d (c q)
  ·have h:=lk q hq bq;have e2:=Nd (a:=-dq n x (c q)) bq;have:=_root_.Rat.mul_le_mul_of_nonneg_right h (show 0<=dq n d (c q) by grind);grind
  have:=_root_.Rat.mul_nonneg (show 0<=-dq n x (c k) / dq n d (c k) by grind) (show 0<=-dq n d (c q) by grind);grind
 ·rw[Vb,s0,I.one];grind
 ·rw[Yj,z,al q hq z];grind
 rw[Yj,e];grind
def nz:Nat->(Nat->QQ)->Nat
 | 0,_=>0
 | m+1,f=>nz m f+if f m=0 then 0 else 1
theorem Z2m {f g:Nat->QQ}:∀ {m:Nat},(∀ k,k<m->f k=0->g k=0)->nz m g<=nz m f
 | 0,_=>YF _
 | m+1,h=>by
  have:=Z2m (m:=m) λk hk=>h k (by omega);unfold nz;by_cases e:f m=0
  ·rw[XF e,XF (h m (by omega) e)];omega
  rw[XB e];split <;> omega
theorem Cz {f g:Nat->QQ}:∀ {m:Nat},(∀ k,k<m->f k=0->g k=0)->(∃ k,k<m/\f k≠0/\g k=0)->nz m g<nz m f
 | 0,_,⟨k,h,_⟩=>absurd h (by omega)
 | m+1,h,⟨k,hk,fk,gk⟩=>by
  unfold nz;by_cases e:k=m
  ·subst e;have:=Z2m (m:=k) λj hj=>h j (by omega);rw[XB fk,XF gk];omega
  have:=Cz (m:=m) (λj hj=>h j (by omega)) ⟨k,by omega,fk,gk⟩;by_cases e:f m=0
  ·rw[XF e,XF (h m (by omega) e)];omega
  rw[XB e];split <;> omega
theorem Qa (h:¬ Stuck n m c x):∃ d:Pt,sQ n d=0/\(∀ k,k<m->dq n x (c k)=0->dq n d (c k)=0)/\∃ i,i<n/\d i≠0:=by
 refine YO λq=>h λd s0 al i hi=>?_;refine YO λne=>q ⟨d,s0,al,i,hi,ne⟩
theorem T9 (d e:Pt):dq n (λk=>-d k) e=-dq n d e:=by
 have:=Yj (n:=n) (λ_=>0) d e (-1);have z:dq n (λ_=>0) e=0:=Vg λk _=>by grind
 rw[z] at this;rw[show (λk=>-d k)=λk=>(0:QQ) + -1*d k by funext k;grind,this];grind
theorem Qu (d:Pt):sQ n (λk=>-d k)=-sQ n d:=by
 have:=Yi (-1) d n;rw[show (λk=>-d k)=λk=>(-1:QQ)*d k by funext k;grind,this];grind
theorem InP.top (B:Bnds n m c)(f:Pt):∀ (N:Nat) (x:Pt),nz m (λk=>dq n x (c k))<=N->InP n m c x->∃ w,Vx n m c w/\(∀ k,k<m->dq n x (c k)=0->dq n w (c k)=0)/\dq n x f<=dq n w f
 | N,x,hN,I=>by
  by_cases st:Stuck n m c x
  ·exact⟨x,⟨I,st⟩,λ_ _ h=>h,by grind⟩
  obtain⟨d,s0,al,i,hi,ne⟩:=Qa st;have key:∀ d:Pt,sQ n d=0->(∀ k,k<m->dq n x (c k)=0->dq n d (c k)=0)->d i≠0->0<=dq n d f->∃ w,Vx n m c w/\(∀ k,k<m->dq n x (c k)=0->dq n w (c k)=0)/\dq n x f<=dq n w f:=λd s0 al ne h0=>by
   obtain⟨t,tp,I',al',k,hk,nk,ek⟩:=I.go B s0 al hi ne;have lt:=Cz (m:=m) (f:=λk=>dq n x (c k)) (g:=λk=>dq n (λk=>x k+t*d k) (c k)) al' ⟨k,hk,nk,ek⟩
   cases N with
   | zero=>omega
   | succ N =>
    obtain⟨w,vw,tw,fw⟩:=InP.top B f N _ (by omega) I';refine⟨w,vw,λk hk z=>tw k hk (al' k hk z),?_⟩;rw[Yj] at fw;have:=_root_.Rat.mul_nonneg (show 0<=t by grind) h0;grind
  by_cases h0:0<=dq n d f
  ·exact key d s0 al ne h0
  refine key (λk=>-d k) (by rw[Qu,s0];grind) (λk hk z=>by rw[T9,al k hk z];grind) (by grind) (by rw[T9];grind)
theorem InP.corner (B:Bnds n m c)(f:Pt)(I:InP n m c x):∃ w,Vx n m c w/\(∀ k,k<m->dq n x (c k)=0->dq n w (c k)=0)/\dq n x f<=dq n w f:=InP.top B f _ x (YF _) I
theorem InP.congr {y:Pt}(h:∀ k,k<n->x k=y k)(I:InP n m c x):InP n m c y:=⟨λk hk=>by rw[<-Ya h];exact I.le k hk,by rw[<-I.one];exact (Zo h).symm⟩
theorem Vx.congr {y:Pt}(h:∀ k,k<n->x k=y k)(v:Vx n m c x):Vx n m c y:=⟨v.inn.congr h,λd s0 al=>v.st d s0 λk hk z=>al k hk (by rw[<-Ya h];exact z)⟩
theorem Vx.mid {p q:QQ}(v:Vx n m c x)(s0:sQ n d=0)(pp:0<p)(qp:0<q)(I1:InP n m c λk=>x k+p*d k)(I2:InP n m c λk=>x k + -q*d k):∀ i,i<n->d i=0:=by
 refine v.st d s0 λk hk z=>?_;have h1:=I1.le k hk;have h2:=I2.le k hk;rw[Yj,z] at h1 h2;by_cases a:0<dq n d (c k)
 ·have:=_root_.Rat.mul_pos pp a;grind
 by_cases b:dq n d (c k)<0
 ·have:=_root_.Rat.mul_pos qp (show 0 < -dq n d (c k) by grind);grind
 grind
theorem Sd (x e e':Pt)(a b:QQ):dq n x (λk=>a*e k+b*e' k)=a*dq n x e+b*dq n x e':=by
 unfold dq;rw[<-Yi,<-Yi,<-Xo];exact Zo λk _=>by grind
def Near (n m:Nat)(c:Nat->Pt)(V:List Pt)(u v:Pt):Prop:=∀ w∈V,(∀ k,k<m->dq n u (c k)=0->dq n v (c k)=0->dq n w (c k)=0)->(∀ i,i<n->w i=u i) \/ ∀ i,i<n->w i=v i
def crs (n:Nat)(g u v:Pt):Pt:=λk=>u k+dq n u g / (dq n u g - dq n v g)*(v k - u k)
structure Cors (n m:Nat)(c:Nat->Pt)(V:List Pt):Prop where
 vx:∀ v∈V,Vx n m c v
 all:∀ x,Vx n m c x->∃ v∈V,∀ i,i<n->v i=x i
variable {V:List Pt}{u v:Pt}
theorem Rv {g:Pt}(hu:dq n u g<0)(hv:0<dq n v g):∃ t:QQ,0<t/\t<1/\t=dq n u g / (dq n u g - dq n v g)/\t*(dq n v g - dq n u g)=-dq n u g:=by
 have e:=Nd (a:=-dq n u g) (b:=dq n v g - dq n u g) (by grind);have e2:dq n u g / (dq n u g - dq n v g)=-dq n u g / (dq n v g - dq n u g):=by
  have h1:dq n u g - dq n v g≠0:=by grind
  have h2:dq n v g - dq n u g≠0:=by grind
  grind
 refine⟨_,?_,?_,e2.symm,e⟩
 ·by_cases z:0 < -dq n u g / (dq n v g - dq n u g)
  ·exact z
  have:=_root_.Rat.mul_nonneg (show 0<=-(-dq n u g / (dq n v g - dq n u g)) by grind) (show 0<=dq n v g - dq n u g by grind);grind
 by_cases z:-dq n u g / (dq n v g - dq n u g)<1
 ·exact z
 have:=_root_.Rat.mul_nonneg (show 0<=-dq n u g / (dq n v g - dq n u g) - 1 by grind) (show 0<=dq n v g - dq n u g by grind);grind
theorem Rq (a b e:Pt):dq n (λk=>a k - b k) e=dq n a e - dq n b e:=by
 have:=Yj (n:=n) a b e (-1);rw[show (λk=>a k - b k)=λk=>a k + -1*b k by funext k;grind,this];grind
theorem Vw (a b:Pt):sQ n (λk=>a k - b k)=sQ n a - sQ n b:=by
 have:=Vb (n:=n) a b (-1);rw[show (λk=>a k - b k)=λk=>a k + -1*b k by funext k;grind,this];grind
theorem Nc {g:Pt}(e:Pt):dq n (crs n g u v) e=dq n u e+dq n u g / (dq n u g - dq n v g)*(dq n v e - dq n u e):=by
 show dq n (λk=>u k+_*(v k - u k)) e=_;rw[Yj u (λk=>v k - u k),Rq]
theorem Ni {g:Pt}(Iu:InP n m c u)(Iv:InP n m c v)(hu:dq n u g<0)(hv:0<dq n v g){k:Nat}(hk:k<m):dq n (crs n g u v) (c k)=0 ↔ dq n u (c k)=0/\dq n v (c k)=0:=by
 obtain⟨t,t0,t1,et,_⟩:=Rv hu hv;rw[Nc,<-et];have a:=Iu.le k hk;have b:=Iv.le k hk;constructor
 ·intro z;have h1:=_root_.Rat.mul_nonneg (show 0<=t by grind) (show 0<=-dq n v (c k) by grind);have h2:=_root_.Rat.mul_nonneg (show 0<=1 - t by grind) (show 0<=-dq n u (c k) by grind);have e:(1 - t) * -dq n u (c k)+t * -dq n v (c k)=0:=by grind
  have z1:t * -dq n v (c k)=0:=by grind
  have z2:(1 - t) * -dq n u (c k)=0:=by grind
  have n1:t≠0:=by grind
  have n2:1 - t≠0:=by grind
  constructor
  ·rcases _root_.Rat.mul_eq_zero.mp z2 with h | h
   ·exact absurd h n2
   grind
  rcases _root_.Rat.mul_eq_zero.mp z1 with h | h
  ·exact absurd h n1
  grind
 rintro ⟨z1,z2⟩;rw[z1,z2];grind
theorem Z48 {g:Pt}(Iu:InP n m c u)(Iv:InP n m c v)(hu:dq n u g<0)(hv:0<dq n v g):InP n m c (crs n g u v):=by
 obtain⟨t,t0,t1,et,_⟩:=Rv hu hv;refine⟨λk hk=>?_,?_⟩
 ·rw[Nc,<-et];have h1:=_root_.Rat.mul_nonneg (show 0<=t by grind) (show 0<=-dq n v (c k) by have:=Iv.le k hk;grind);have h2:=_root_.Rat.mul_nonneg (show 0<=1 - t by grind) (show 0<=-dq n u (c k) by have:=Iu.le k hk;grind);grind
 show sQ n (λk=>u k+_*(v k - u k))=1;rw[Vb u (λk=>v k - u k),Vw,Iu.one,Iv.one];grind
theorem Z47 {g:Pt}(hu:dq n u g<0)(hv:0<dq n v g):dq n (crs n g u v) g=0:=by
 obtain⟨t,t0,t1,et,e⟩:=Rv hu hv;rw[Nc,<-et];grind
theorem Cors.cross (B:Bnds n m c)(C:Cors n m c V)(hu:u∈V)(hv:v∈V)(lu:dq n u (c m)<0)(lv:0<dq n v (c m))(nr:Near n m c V u v):Vx n (m+1) c (crs n (c m) u v):=by
 have Iu:=(C.vx u hu).inn;have Iv:=(C.vx v hv).inn;have I:=Z48 Iu Iv lu lv;have on:=Z47 (n:=n) lu lv;refine⟨⟨λk hk=>?_,I.one⟩,λd s0 al=>?_⟩
 ·by_cases e:k=m
  ·subst e;rw[on];grind
  exact I.le k (by omega)
 refine YO λq=>?_;obtain⟨i,hi,ne⟩:∃ i,i<n/\d i≠0:=YO λz=>q λi hi=>YO λy=>z ⟨i,hi,y⟩;have al':∀ k,k<m->dq n (Sb.crs n (c m) u v) (c k)=0->dq n d (c k)=0:=λk hk=>al k (by omega);obtain⟨t,tp,I',t',_⟩:=I.go B s0 al' hi ne;have half:∀ f:Pt,dq n u f=dq n v f->dq n d f<=0:=λf ef=>by
  obtain⟨w,vw,tw,fw⟩:=I'.corner B f;obtain⟨w',hw',ew⟩:=C.all w vw;have cl:=nr w' hw' λk hk z1 z2=>by
   rw[Ya ew];exact tw k hk (t' k hk ((Ni Iu Iv lu lv hk).mpr ⟨z1,z2⟩))
  have e:dq n w f=dq n u f:=by
   rw[<-Ya ew];rcases cl with h | h
   ·exact Ya h
   rw[ef];exact Ya h
  rw[Yj,Nc,ef,e,ef] at fw;by_cases z:0<dq n d f
  ·have:=_root_.Rat.mul_pos tp z;grind
  grind
 have zero:∀ f:Pt,dq n u f=dq n v f->dq n d f=0:=λf ef=>by
  have h1:=half f ef;have ng:∀ x:Pt,dq n x (λk=>(-1)*f k+0*f k)=-dq n x f:=λx=>by rw[Sd];grind
  have h2:=half (λk=>(-1)*f k+0*f k) (by rw[ng,ng,ef]);rw[ng] at h2;grind
 obtain⟨i0,h0,n0⟩:∃ i,i<n/\u i≠v i:=by
  refine YO λz=>?_;have:dq n u (c m)=dq n v (c m):=Ya λk hk=>YO λy=>z ⟨k,hk,y⟩;grind
 have un:=B.un;have prop:∀ j,j<n->(v i0 - u i0)*d j=(v j - u j)*d i0:=λj hj=>by
  have h:=zero (λk=>(v i0 - u i0)*c j k + -(v j - u j)*c i0 k) (by rw[Sd,Sd,un j hj,un i0 h0,un j hj,un i0 h0];grind);rw[Sd,un j hj,un i0 h0] at h;grind
 have eg:=al m (by omega) on;have:(v i0 - u i0)*dq n d (c m)=(dq n v (c m) - dq n u (c m))*d i0:=by
  rw[<-Rq];unfold dq;rw[<-Yi,show ∀ z:QQ,z*d i0=d i0*z from λz=>by grind,<-Yi];exact Zo λk hk=>by have:=prop k hk;grind
 rw[eg] at this;have di0:d i0=0:=by
  have h:(dq n v (c m) - dq n u (c m))*d i0=0:=by grind
  rcases _root_.Rat.mul_eq_zero.mp h with h | h
  ·grind
  exact h
 have:=prop i hi;rw[di0] at this;have h:(v i0 - u i0)*d i=0:=by grind
 rcases _root_.Rat.mul_eq_zero.mp h with h | h
 ·exact n0 (by grind)
 exact ne h
theorem Cors.kept (C:Cors n m c V)(hv:v∈V)(h:dq n v (c m)<=0):Vx n (m+1) c v:=by
 have x:=C.vx v hv;refine⟨⟨λk hk=>?_,x.inn.one⟩,λd s0 al=>x.st d s0 λk hk=>al k (by omega)⟩;by_cases e:k=m
 ·subst e;exact h
 exact x.inn.le k (by omega)
theorem Vx.along {g:QQ}(v:Vx n (m+1) c x)(s0:sQ n d=0)(al:∀ k,k<m->dq n x (c k)=0->dq n d (c k)=0)(nd:dq n d (c m)≠0){b:Pt}(sb:sQ n b=0)(ab:∀ k,k<m->dq n x (c k)=0->dq n b (c k)=0)(eg:g=dq n b (c m) / dq n d (c m)):∀ i,i<n->b i=g*d i:=by
 have e:g*dq n d (c m)=dq n b (c m):=by rw[eg];grind
 have h:=v.st (λk=>b k + -g*d k) (by rw[Vb,sb,s0];grind) λk hk z=>by
  rw[Yj];by_cases q:k=m
  ·subst q;grind
  rw[ab k (by omega) z,al k (by omega) z];grind
 intro i hi;have:=h i hi;grind
theorem Cors.new (B:Bnds n m c)(C:Cors n m c V)(X:Vx n (m+1) c x):(∃ v∈V,(∀ i,i<n->v i=x i)/\dq n v (c m)<=0) \/ ∃ u∈V,∃ v∈V,dq n u (c m)<0/\0<dq n v (c m)/\Near n m c V u v/\∀ i,i<n->crs n (c m) u v i=x i:=by
 have I:InP n m c x:=⟨λk hk=>X.inn.le k (by omega),X.inn.one⟩;by_cases st:Stuck n m c x
 ·obtain⟨v,hv,ev⟩:=C.all x ⟨I,st⟩;exact .inl ⟨v,hv,ev,by rw[Ya ev];exact X.inn.le m (by omega)⟩
 refine .inr ?_;obtain⟨d0,s00,al0,i,hi,ne0⟩:=Qa st;have on:dq n x (c m)=0:=YO λq=>ne0 (X.st d0 s00 (λk hk z=>by
  by_cases e:k=m
  ·subst e;exact absurd z q
  exact al0 k (by omega) z) i hi)
 have nd0:dq n d0 (c m)≠0:=λq=>ne0 (X.st d0 s00 (λk hk z=>by
  by_cases e:k=m
  ·subst e;exact q
  exact al0 k (by omega) z) i hi)
 obtain⟨d,s0,al,ne,pd⟩:∃ d:Pt,sQ n d=0/\(∀ k,k<m->dq n x (c k)=0->dq n d (c k)=0)/\d i≠0/\0<dq n d (c m):=by
  by_cases p:0<dq n d0 (c m)
  ·exact⟨d0,s00,al0,ne0,p⟩
  exact⟨λk=>-d0 k,by rw[Qu,s00];grind,λk hk z=>by rw[T9,al0 k hk z];grind,by grind,by rw[T9];grind⟩
 have nd:dq n d (c m)≠0:=by grind
 have neg_al:∀ k,k<m->dq n x (c k)=0->dq n (λk=>-d k) (c k)=0:=λk hk z=>by rw[T9,al k hk z];grind
 have end_vx:∀ (b:Pt) (t:QQ),t≠0->(∀ k,b k=x k+t*d k)->InP n m c b->(∃ k,k<m/\dq n x (c k)≠0/\dq n b (c k)=0)->Vx n m c b:=λb t t0 eb Ib ⟨k,hk,nk,zk⟩=>by
  refine⟨Ib,λb' s' al'=>?_⟩;have eb':b=λk=>x k+t*d k:=funext eb;have sub:∀ k,k<m->dq n x (c k)=0->dq n b' (c k)=0:=λk hk z=>al' k hk (by rw[eb',Yj,z,al k hk z];grind);have pr:=X.along s0 al nd s' sub rfl;have e1:=al' k hk zk;rw[Ya pr] at e1;have e2:dq n (λi=>dq n b' (c m) / dq n d (c m)*d i) (c k)=dq n b' (c m) / dq n d (c m)*dq n d (c k):=by
   have:=Yj (n:=n) (λ_=>0) d (c k) (dq n b' (c m) / dq n d (c m));rw[show (λk=>(0:QQ)+dq n b' (c m) / dq n d (c m)*d k)=λi=>dq n b' (c m) / dq n d (c m)*d i by funext k;grind,show dq n (λ_=>0) (c k)=0 from Vg λk _=>by grind] at this;grind
  rw[e2] at e1;have nk2:dq n d (c k)≠0:=λq=>by rw[eb',Yj,q] at zk;grind
  intro j hj;rw[pr j hj];rcases _root_.Rat.mul_eq_zero.mp e1 with h | h
  ·rw[h];grind
  exact absurd h nk2
 obtain⟨t1,p1,I1,a1,w1⟩:=I.go B s0 al hi ne;obtain⟨t2,p2,I2,a2,w2⟩:=I.go B (d:=λk=>-d k) (by rw[Qu,s0];grind) neg_al hi (by grind);obtain⟨v,hv,ev⟩:=C.all _ (end_vx _ t1 (by grind) (λ_=>rfl) I1 w1);obtain⟨u,hu,eu⟩:=C.all _ (end_vx _ (-t2) (by grind) (λk=>by grind) I2 w2);have dv:∀ e,dq n v e=dq n x e+t1*dq n d e:=λe=>by rw[Ya ev,Yj]
 have du:∀ e,dq n u e=dq n x e - t2*dq n d e:=λe=>by rw[Ya eu,Yj x λk=>-d k,T9];grind
 have lu:dq n u (c m)<0:=by rw[du,on];have:=_root_.Rat.mul_pos p2 pd;grind
 have lv:0<dq n v (c m):=by rw[dv,on];have:=_root_.Rat.mul_pos p1 pd;grind
 refine⟨u,hu,v,hv,lu,lv,λw hw al'=>?_,λj hj=>?_⟩
 ·have vw:=C.vx w hw;have sub:∀ k,k<m->dq n x (c k)=0->dq n (λk=>w k - x k) (c k)=0:=λk hk z=>by
   rw[Rq,z,al' k hk (by rw[du,z,al k hk z];grind) (by rw[dv,z,al k hk z];grind)];grind
  have pr:=X.along s0 al nd (by rw[Vw,vw.inn.one,I.one];grind) sub rfl;generalize dq n (λk=>w k - x k) (c m) / dq n d (c m)=s at pr;have ew:∀ k,k<n->w k=x k+s*d k:=λk hk=>by have:=pr k hk;grind
  have at_:∀ t:QQ,t=s->∀ k,k<n->w k=x k+t*d k:=λt e=>e ▸ ew;by_cases e1:s=t1
  ·exact .inr λk hk=>by rw[ew k hk,ev k hk,e1]
  by_cases e2:s=-t2
  ·exact .inl λk hk=>by rw[ew k hk,eu k hk,e2];grind
  exfalso;by_cases h1:t1<s
  ·have V1:=(C.vx v hv).congr ev;exact ne (V1.mid s0 (p:=s - t1) (q:=t1) (by grind) p1 (vw.inn.congr λk hk=>by rw[ew k hk];grind) (I.congr λk hk=>by grind) i hi)
  by_cases h2:s < -t2
  ·have V2:=(C.vx u hu).congr eu;exact ne (V2.mid s0 (p:=t2) (q:=-t2 - s) p2 (by grind) (I.congr λk hk=>by grind) (vw.inn.congr λk hk=>by rw[ew k hk];grind) i hi)
  have V3:=vw.congr ew;exact ne (V3.mid s0 (p:=t1 - s) (q:=s+t2) (by grind) (by grind) (I1.congr λk hk=>by grind) (I2.congr λk hk=>by grind) i hi)
 obtain⟨t,t0,tl,et,e⟩:=Rv (n:=n) lu lv;show u j+dq n u (c m) / (dq n u (c m) - dq n v (c m))*(v j - u j)=x j;rw[<-et];rw[du,dv,on] at e;have q:t*(t1+t2)=t2:=by
  have:(t*(t1+t2) - t2)*dq n d (c m)=0:=by grind
  rcases _root_.Rat.mul_eq_zero.mp this with h | h
  ·grind
  exact absurd h nd
 have:=ev j hj;have:=eu j hj;have:t*(v j - u j)=t*(t1+t2)*d j:=by grind
 grind
theorem Cors.fresh (C:Cors n m c V)(hu:u∈V)(hv:v∈V)(lu:dq n u (c m)<0)(lv:0<dq n v (c m)){w:Pt}(hw:w∈V):¬ ∀ i,i<n->w i=crs n (c m) u v i:=λh=>by
 obtain⟨t,t0,tl,et,_⟩:=Rv (n:=n) lu lv;have W:=(C.vx w hw).congr h;have Iu:=(C.vx u hu).inn;have Iv:=(C.vx v hv).inn;have:=W.mid (d:=λk=>v k - u k) (p:=1 - t) (q:=t) (by rw[Vw,Iu.one,Iv.one];grind) (by grind) t0 (Iv.congr λk hk=>by show v k=u k+_*(v k - u k)+_;rw[<-et];grind) (Iu.congr λk hk=>by show u k=u k+_*(v k - u k)+_;rw[<-et];grind);have:dq n v (c m)=dq n u (c m):=Ya λk hk=>by have:=this k hk;grind
 grind
theorem Cors.apart (C:Cors n m c V){u' v':Pt}(hu:u∈V)(hv:v∈V)(hu':u'∈V)(hv':v'∈V)(lu:dq n u (c m)<0)(lv:0<dq n v (c m))(lu':dq n u' (c m)<0)(lv':0<dq n v' (c m))(nr:Near n m c V u v)(e:∀ i,i<n->crs n (c m) u v i=crs n (c m) u' v' i):(∀ i,i<n->u' i=u i)/\∀ i,i<n->v' i=v i:=by
 have Iu:=(C.vx u hu).inn;have Iv:=(C.vx v hv).inn;have Iu':=(C.vx u' hu').inn;have Iv':=(C.vx v' hv').inn;have met:∀ k,k<m->dq n u (c k)=0->dq n v (c k)=0->dq n u' (c k)=0/\dq n v' (c k)=0:=λk hk z1 z2=>(Ni Iu' Iv' lu' lv' hk).mp (by rw[<-Ya e];exact (Ni Iu Iv lu lv hk).mpr ⟨z1,z2⟩);constructor
 ·rcases nr u' hu' λk hk z1 z2=>(met k hk z1 z2).1 with h | h
  ·exact h
  have:dq n u' (c m)=dq n v (c m):=Ya h;grind
 rcases nr v' hv' λk hk z1 z2=>(met k hk z1 z2).2 with h | h
 ·have:dq n v' (c m)=dq n u (c m):=Ya h;grind
 exact h
end
section
variable {P:TU}{w:World}{K:TR}{mg:TB}{base:Heap}
inductive spUnder (K:TR) (vs:TZ) (H:Hp) (Q:VK) (_z3:XK):Prop
 | i (a b:Addr) (p q r s:Int) (_:vs=[.ref a,.ref b]) (_:SqT K H a [.int p,.int q]) (_:SqT K H b [.int r,.int s]) (_:IntMulOk p s) (_:IntMulOk r q) (_:Q (.bl (decide (p*s<r*q))) H)
abbrev Z5 (P:TU)(w:World)(K:TR)(mg:TB)(base:Heap):Prop:=Has P w K mg base 1 "under" UG (spUnder K)
theorem Z19 (D:Def K mg "under" jE UG):Z5 P w K mg base:=by
 refine D.h9 (N:=UG) fsc λH Q hr h nd=>?_;obtain⟨a,b,p,q,r,s,rfl,hA,hB,m1,m2,k⟩:=h;refine⟨_,(Za (Zg (Xb Sz (Zm Zx (Zi Yq (pv 0) Z8 (λ_ _=>rfl)) (Zi Yg (pv 1) Z8 (λ_ _=>rfl))) (Zm Zx (Zi Yq (pv 1) Z8 (λ_ _=>rfl)) (Zi Yg (pv 0) Z8 (λ_ _=>rfl))) (Zr _)))),?_⟩;exact⟨_,rfl,_,_,_,rfl,rfl,hA,_,rfl,_,_,_,rfl,rfl,hB,_,_,rfl,rfl,m1,_,rfl,_,_,_,rfl,rfl,hB,_,rfl,_,_,_,rfl,rfl,hA,_,_,rfl,rfl,m2,_,_,rfl,rfl,k⟩
end
theorem Bp {t u:Addr}{g:TG}{D:Ends}{σ:L2.St}(Pv:Nat->L2.St->Hp->Prop)(le:xs.length=ys.length)(h0:Pv 0 σ H)(hl:∀ i σ H,i<=xs.length->Pv i σ H->SqT K H t xs/\SqT K H u ys)
  (hs:∀ i x y σ H p,xs[i]?=some x->ys[i]?=some y->Pv i σ H->H p=none->g (.ref p) σ (upd H p (.tup [x,y])) λσ2 H2=>tb { D with nx:=Pv (i+1),ct:=Pv (i+1),bk:=D.nx } σ2 H2) (hd:∀ σ H,Pv xs.length σ H->D.nx σ H) :
  ∃ W:Nat->Nat->L2.St->Hp->Prop,(∃ m,W 0 m σ H)/\∀ i m σ H,W i m σ H →
   ((Itz K t u).stop i H/\D.nx σ H) \/ ((Itz K t u).go i H/\∃ N:L2.St->Hp->Prop,(∀ σ' H',N σ' H'->∃ m',m'<m/\W (i+1) m' σ' H')/\∀ x H',(Itz K t u).yld i H x H'->g x σ H' λσ2 H2=>tb { D with nx:=N,ct:=N,bk:=D.nx } σ2 H2):=by
 refine⟨λi m σ H=>m=xs.length - i/\i<=xs.length/\Pv i σ H,⟨xs.length,by simp,JO _,h0⟩,?_⟩;rintro i m σ H ⟨rfl,hi,p⟩;obtain⟨q1,q2⟩:=hl i σ H hi p;by_cases hlt:i<xs.length
 ·refine .inr ⟨⟨xs,ys,q1,q2,hlt,by omega⟩,Pv (i+1),λσ' H' p'=>⟨xs.length - (i+1),by omega,rfl,hlt,p'⟩,λx H' y=>?_⟩;obtain⟨pp,x0,y0,rfl,hp,rfl,fx,fy⟩:=y;exact hs i x0 y0 σ H pp (fx xs q1) (fy ys q2) p hp
 have e:i=xs.length:=by omega
 subst e;exact .inl ⟨⟨xs,ys,q1,q2,rfl⟩,hd σ H p⟩
section
variable {P:TU}{w:World}{K:TR}{mg:TB}{base:Heap}
def aheadR:List Rat->List Rat->Bool
 | r::rs,s::ss=>if r=s then aheadR rs ss else decide (r.1*s.2<s.1*r.2)
 | _,_=>false
theorem Kj {ss:UB}{i:Nat}{r:Rat}(h1:rs[i]?=some r)(h2:ss[i]?=some s):aheadR (rs.drop i) (ss.drop i)=if r=s then aheadR (rs.drop (i+1)) (ss.drop (i+1)) else decide (r.1*s.2<s.1*r.2):=by
 obtain⟨a,rfl⟩:=YH.mp h1;obtain⟨b,rfl⟩:=YH.mp h2;rw[Y0j a,Y0j b];rfl
inductive spAhead (K:TR) (vs:TZ) (H:Hp) (Q:VK) (_z3:XK):Prop
 | i (a b:Addr) (rs ss:UB) (n:Nat) (_:vs=[.ref a,.ref b]) (_:RowAt K H a rs) (_:RowAt K H b ss) (_:rs.length=ss.length) (_:rs.length<=1000) (_:(∀ r∈rs,Good n r)) (_:(∀ r∈ss,Good n r)) (_:n<=200000) (_:∀ H',Same H H'->Q (.bl (aheadR rs ss)) H')
theorem Z1r (D:Def K mg "is_ahead" iT UG)(T:Blt mg)(eM:Z5 P w K mg base):Has P w K mg base 2 "is_ahead" UG (spAhead K):=by
 refine D.h9 (N:=["one","other","mine","theirs"]) fsc λH Q hr h nd=>?_;obtain⟨a,b,rs,ss,n,rfl,⟨xs,hA,hRs⟩,⟨us,hB,hSs⟩,hl,hl2,gr,gs,hn,k⟩:=h;have hU:=GJ (Rk hr);refine⟨_,(Z9 (Ys XZ rfl (C5 rfl T.zip (Z0 (pv 0) (Z0 (pv 1) Z7))) (Wk (n:=2) rfl (Y9 (Zf (i:=2) nd rfl (Or.inl rfl)) (Y9 (Zf (i:=3) nd rfl (Or.inl rfl)) Xi)))
   (Za (Yc (Zp (Lu (K:=K) hU) (pv 2) (pv 3) (Zr _))
    (Za (Zg (Zc eM hr (Z0 (pv 2) (Z0 (pv 3) Z7)))))
    Zw)))
  (Za (Zg Xu))),?_⟩
 have lx:=hRs.len;have lu:=hSs.len;refine⟨_,rfl,_,rfl,a,b,rfl,⟨_,hA⟩,⟨_,hB⟩,?_⟩;refine Bp (K:=K) (xs:=xs) (ys:=us) (λi σ H'=>Same H H'/\aheadR rs ss=aheadR (rs.drop i) (ss.drop i)/\∃ x y,σ=[some (.ref a),some (.ref b),x,y]) (by omega) ⟨Same.refl H,rfl,none,none,rfl⟩ (λi σ H' _ h=>⟨Zn h.1 hA,Zn h.1 hB⟩) ?_ ?_
 ·rintro i x y σ H1 p hx hy ⟨S1,ea,x1,y1,rfl⟩ hp;have t4:SqT K (upd H1 p (.tup [x,y])) p [x,y]:=SqT.of Zb;have S4:=S1.trans (Same.new (o:=.tup [x,y]) hp);obtain⟨r,er,a1,rfl,sq1⟩:=(Rs.ext hRs (Ext.same S4)).back hx;obtain⟨s',es,b1,rfl,sq2⟩:=(Rs.ext hSs (Ext.same S4)).back hy;generalize upd H1 p (.tup [V.ref a1,V.ref b1])=H4 at *
  have g1:=gr r (YD er);have g2:=gs s' (YD es);rw[Kj er es] at ea;refine⟨_,_,rfl,t4,rfl,_,_,rfl,_,_,rfl,rfl,?_⟩;refine⟨_,rfl,_,rfl,a1,b1,[r.1,r.2],[s'.1,s'.2],rfl,rfl,sq1,sq2,?_⟩;refine⟨_,rfl,?_⟩;by_cases e:r=s'
  ·have e2:[r.1,r.2]=[s'.1,s'.2]:=by rw[e]
   rw[XF e] at ea;show if (!decide ([r.1,r.2]=[s'.1,s'.2]))=true then _ else _
   rw[XQ e2];exact Yw ⟨S4,ea,_,_,rfl⟩
  have e2:¬ [r.1,r.2]=[s'.1,s'.2]:=λz=>by
   injection z with z1 z2
   injection z2 with z2 _
   exact e (Y10 z1 z2)
  rw[XB e] at ea;show if (!decide ([r.1,r.2]=[s'.1,s'.2]))=true then _ else _
  rw[XR e2];refine Wy ⟨_,rfl,_,rfl,a1,b1,r.1,r.2,s'.1,s'.2,rfl,sq1,sq2,g1.b1.mulOk g2.b2 (by omega) (by omega),g2.b1.mulOk g1.b2 (by omega) (by omega),?_⟩;rw[<-ea];exact k _ S4
 rintro σ H1 ⟨S1,ea,x1,y1,rfl⟩;have e0:aheadR rs ss=false:=by rw[ea,List.drop_of_length_le (by omega)];rfl
 rw[e0] at k;exact k H1 S1
end
end Sb
namespace Sb
open PySem
abbrev lamP:Pos:=⟨140,28,140,94⟩
end Sb
namespace Sb
open PySem PySem.Spec PyProof.Rows L2
theorem Fi {K:TR}(h:X.K=K:=by rfl):CallR X (.builtin "len") (λxs H Q=>∃ p ys,xs=[V.ref p]/\(SqL K H p ys \/ SqT K H p ys)/\Q (V.int ↑ys.length) H):=h ▸ Zv
end Sb
namespace Sb
open PySem L2
theorem Yb {g:TG}{D:Ends}{σ:L2.St}(h:te σ H λx H1=>g x σ H1 D.nx):tAsg te g D σ H:=h
theorem Ta {t:TA}{σ:L2.St}{Q:List V->Hp->Prop}(h:te σ H λx H1=>t σ H1 λxs H2=>Q (x::xs) H2):tCons te t σ H Q:=h
theorem Z06 {r:List V->Hp->VK->Prop}{t:TA}{σ:L2.St}{Q:VK}(h:t σ H λvs H1=>r vs H1 Q):tCB r t σ H Q:=h
theorem Z2o {t:TA}{σ:L2.St}{Q:VK}(h:t σ H λxs H1=>xs.length<=sizeLine/\∀ l,H1 l=none->Q (.ref l) (upd H1 l (.lst xs))):tLst t σ H Q:=h
theorem Nw {D:Ends}{σ:L2.St}(h:te σ H D.rt):tRet te D σ H:=h
theorem Cc {p:Addr}{u:V}{σ:L2.St}{A B:L2.St->Hp->Prop}{t:TT}(hp:SqT K H p [u,v])(h:t ((σ.set 0 (some u)).set 1 (some v)) H λb H5=>if b=true then A ((σ.set 0 (some u)).set 1 (some v)) H5 else B ((σ.set 0 (some u)).set 1 (some v)) H5) :
  gTup K 2 (gCons (gName 0) (gCons (gName 1) gNil)) (.ref p) σ H λσ4 H4=>t σ4 H4 λb H5=>if b=true then A σ4 H5 else B σ4 H5 :=
 ⟨p,[u,v],rfl,hp,rfl,u,[v],rfl,v,[],rfl,rfl,h⟩
section
variable {K:TR}{α:Type}
theorem Y7 {d:Addr}(S:Same H H1)(hd:H d=none):Same H (upd H1 d o):=λb ob e=>by
 rw[Ze (Zd e hd)];exact S b ob e
theorem Ye {zs:List α}{i:Nat}{z:α}(h:zs[i]?=some z):zs.take (i+1)=zs.take i++[z]:=by
 rw[GK,h];rfl
theorem Xm {l:Addr}{as:TJ}{zs:List α}{q:α->Bool}{k:Nat}{fv:List Nat}{σ:L2.St}{Q:VK}(R:Hp->Addr->α->Prop)(hext:∀ H1 H2 a z,Ext H1 H2->R H1 a z->R H2 a z)
  (htl:∀ G:VK,G (.ref l) H->tl σ H G) (hl:SqL K H l (as.map V.ref)) (hz:as.length<=1000) (hp:Paired (R H) as zs)
  (test:∀ (i:Nat) (a:Addr) (z:α) (H1:Hp) (G:Bool->Hp->Prop),as[i]?=some a->zs[i]?=some z->Same H H1->R H1 a z->(∀ H2,Same H1 H2->G (q z) H2)->tt ((comp0 k fv σ).set 0 (some (.ref a))) H1 G)
  (h0:((comp0 k fv σ).length≠0))
  (fin:∀ (d:Addr) (H2:Hp) (bs:TJ),H d=none->Same H H2->H2 d=some (.lst (bs.map V.ref))->Paired (R H2) bs (zs.filter q)->(∀ b∈bs,b∈as)->Q (.ref d) H2) :
  tComp (iList K tl) (gName 0) tt (tVar 0) k fv σ H Q:=by
 refine htl _ ⟨l,rfl,⟨_,hl⟩,λd hd=>?_⟩;have lp:=YW hp;refine⟨as.length,λi ys H2=>Same H H2/\∃ bs:List Addr,ys=bs.map V.ref/\Paired (R H2) bs ((zs.take i).filter q)/\∀ b∈bs,b∈as,XD hz (by decide),⟨Same.new hd,[],rfl,by simpa using Paired.nil,λb hb=>by cases hb⟩,?_,?_⟩
 ·rintro i ys H2 hi ⟨S2,bs,rfl,P2,M2⟩ hd2;have hl2:=Yr S2 hl;have ea:as[i]?=some as[i]:=by simp[hi]
  have ez:zs[i]?=some (zs[i]'(by omega)):=by simp
  generalize as[i]=a at ea;generalize (zs[i]'(by omega))=z at ez;have ex:(as.map V.ref)[i]?=some (V.ref a):=by rw[YE,ea];rfl
  refine⟨⟨_,V.ref a,hl2,ex⟩,?_⟩;rintro x H3 ⟨rfl,fx⟩;have e:=fx _ hl2;rw[ex] at e
  cases e;refine U7 ?_;refine test i a z H3 _ ea ez S2 (hext _ _ _ _ (Ext.same S2) (Paired.getB hp ea ez)) λH4 S4=>?_;have hd4:=S4 _ _ hd2;have S24:=S2.trans S4;by_cases e:q z=true
  ·rw[e];have hgd:((comp0 k fv σ).set 0 (some (V.ref a)))[0]?=some (some (V.ref a)):=by
    rw[GV (by omega)]
   refine Wy ⟨V.ref a,hgd,hd4,Y7 S24 hd,bs++[a],by simp,?_,?_⟩
   ·rw[Ye ez,qw,GE,XF e,zI];have E5:Ext H4 (upd H4 d (.lst (bs.map V.ref++[V.ref a]))):=Ext.upd hd4;exact Paired.appP (Paired.mapP P2 λb y h=>hext _ _ _ _ ((Ext.same S4).trans E5) h) (.cons (hext _ _ _ _ ((Ext.same S24).trans E5) (Paired.getB hp ea ez)) .nil)
   intro b hb;rcases XH.mp hb with hb | hb
   ·exact M2 b hb
   rw[XA.mp hb];exact YD ea
  have e':q z=false:=by simpa using e
  rw[e'];refine Yw ⟨hd4,S24,bs,rfl,?_,M2⟩;rw[Ye ez,qw,GE,XB e,zI,GN];exact Paired.mapP P2 λb y h=>hext _ _ _ _ (Ext.same S4) h
 rintro ys H2 ⟨S2,bs,rfl,P2,M2⟩ hd2;rw[lp,JF] at P2;exact⟨⟨_,Yr S2 hl,by simp⟩,fin d H2 bs hd S2 hd2 P2 M2⟩
end
end Sb
namespace Sb
open PySem PySem.Spec PyProof.Rows L2
theorem Gy {x y:Str}{sc:Scope}(kind:sc.kind=.function)(co:sc.isCoroutine=false)(gen:sc.isGenerator=false)(ne:x≠y)(par:sc.names.lookup x=some .cell)(fre:sc.names.lookup y=some .free)
  (only:∀ p∈sc.names,p.2=.cell \/ p.2=.free->p.1=x \/ p.1=y) (cs:∀ n c,cellsFrom n sc.names [(y,c)]=[(x,n),(y,c)]) (pc:∀ h,pushCells h sc.names=h.push { cls:=.type "cell",data:=.cell none }):LamScope x y sc :=
 ⟨kind,co,gen,ne,par,fre,λz h=>h.elim (λh=>only _ (GZ h) (.inl rfl)) (λh=>only _ (GZ h) (.inr rfl)),cs,pc⟩
def DefC (K:TR)(mg:TB)(x:Str)(st:Stmt)(ps:TF)(cc:Addr):Prop :=
 ∃ (f:Addr) (fd:FuncData),Fun K x x st f fd/\mg x=some (.ref f)/\Binds K fd ps []/\fd.code=.ref cc
section
variable {P:TU}{w:World}{K:TR}{mg:TB}{base:Heap}
theorem DefC.has {k:Nat}{x:Str}(D:DefC K mg x st ps cc)
  (h:∀ (f:Addr) (fd:FuncData),Fun K x x st f fd->fd.code=.ref cc->FnOk P w K mg base CX0 k f fd ps sp sr):Has P w K mg base k x ps sp sr:=by
 obtain⟨f,fd,F,hm,b,c⟩:=D;exact⟨f,fd,h f fd F c,hm,F.kp,b⟩
theorem Fun.okC {x:Str}{N:TF}{k:Nat}(F:Fun K x qual st f fd)(hc:fd.code=.ref cc)(S:FnScope N ps (defScope st))(len:∀ vs H Q E,sp vs H Q E->vs.length=ps.length)
  (hbody:∀ (A:Around) (outer:TN) (s:Shared) (H:Hp) (vs:TZ) (Q:VK) (E:XK),Room k (A.deeper (envOfC qual (defScope st) s.heap.objs.size f (.ref cc))) sr->sp vs H Q E →
   ∃ t,PSs (cxOf CX0 P w K mg base N qual (defScope st) f (.ref cc) A outer s H E).nox (defBody st) t/\t { nx:=λ_ H'=>Q .non H',rt:=Q } (start N vs) H):FnOk P w K mg base CX0 (k+1) f fd ps sp sr:=by
 obtain⟨oc,od,kV,doc,pm,an,cdv,ct,osl,rfl,lk,hcd⟩:=F.ex
 cases (show cdv=.ref cc from hc);refine Z2s lk hcd S len λA outer s H vs Q E hr hsp=>?_;obtain⟨t,h,q⟩:=hbody A outer s H vs Q E hr hsp;exact⟨t,h.nox,q⟩
theorem Kl (f:List Rat->Int):∀ (as:TJ) (rss:UC),as.length=rss.length->(rss.map f).zip (as.map V.ref)=(as.zip rss).map λq=>(f q.2,V.ref q.1)
 | [],[],_=>rfl
 | _::as,_::rss,h=>by
  have:=Kl f as rss (by simpa using h);simp only [GT,Y0d,this]
 | [],_::_,h=>by simp at h
 | _::_,[],h=>by simp at h
theorem Sy {α β:Type}{R:α->β->Prop}:∀ (L:List (α × β)),(∀ q∈L,R q.1 q.2)->Paired R (L.map Prod.fst) (L.map Prod.snd)
 | [],_=>.nil
 | q::L,h=>.cons (h q YY) (Sy L λz hz=>h z (YQ _ hz))
theorem Sx {α β:Type}{R:α->β->Prop}:∀ {xs:List α} {ys:List β},Paired R xs ys->∀ {q:α × β},q∈xs.zip ys->R q.1 q.2
 | _,_,.nil,_,h=>by cases h
 | _,_,.cons r t,q,h=>by
  rcases YK.mp h with rfl | h
  ·exact r
  exact Sx t h
abbrev Tab1 (H:Hp)(T:Addr):Prop:=TabAt H T lamP (((("rising":Str)++".<locals>."))++"<lambda>")
def cntR (rss:UC)(r:UB):Int:=((rss.filter λo=>aheadR o r).length:Nat)
inductive spRising (K:TR) (T:Addr) (vs:TZ) (H:Hp) (Q:VK) (_z3:XK):Prop
 | i (l:Addr) (as:TJ) (rss:UC) (c n:Nat) (_:vs=[.ref l]) (_:H l=some (.lst (as.map V.ref))) (_:Paired (RowAt K H) as rss) (_:rss.length<64) (_:∀ r∈rss,r.length=c) (_:c<=1000) (_:∀ r∈rss,∀ x∈r,Good n x) (_:n<=200000) (_:Tab1 H T)
  (_:∀ (d:Addr) (H':Hp) (as':TJ) (rss':UC),SameX T H H'->Tab1 H' T->H' d=some (.lst (as'.map V.ref))->Paired (RowAt K H') as' rss'->rss'.Perm rss->rss'.Pairwise (λa b=>cntR rss a<=cntR rss b)->Q (.ref d) H')
theorem Nt:FnScope ["rows"] ["rows"] (defScope iY):=fsc
theorem Cl (D:DefC K mg "rising" iY ["rows"] cc)(T0:Blt mg)(hso:mg "sorted"=none)(KB:K.In base)(hcc:W.codeHdIn K cc T=true)(hB:BltIn mg base)(gE:Has P w K mg base 2 "is_ahead" UG (spAhead K)) :
  Has P w K mg base 6 "rising" ["rows"] (spRising K T):=by
 refine D.has λf fd F hc=>Sb.Fun.okC F hc Nt (λvs H Q E h=>?_) (λA outer s H vs Q E hr h=>?_)
 ·obtain⟨l,as,rss,c,n,rfl,_⟩:=h;rfl
 obtain⟨l,as,rss,c,n,rfl,hl,hp,h64,hlen,hc1,hg,hn,hT,k⟩:=h;have sc:=Nt;have nd1:(["other","row"]:List Str).Nodup:=by decide +kernel
 refine⟨_,Za (Zg (C8 (x:="row") (y:="rows") (k:=2) (iy:=0) (c:=s.heap.objs.size+1) (cc:=cc) (P:=T) ?S hr rfl hso (pv 0) rfl rfl rfl rfl rfl rfl (W.codeHd_of_K KB hcc) hB rfl (λ_ _ _ _ _=>rfl) (λA' outer' s' H' f' c' hr'=>Zq (Fi (K:=K)) rfl T0.len qD (Z0 (Y0 (N:=["other","row"]) (k:=1) (fv:=[0]) rfl (Ss (K:=K) (pv 1))
   (λ_ _ _ _ _=>Zf (i:=0) nd1 rfl (Or.inl rfl)) (λ_ _ _ _ _=>X8 (Yo (Pm gE (hr'.mono (by decide)) rfl (Z0 (pv 0) (Z0 (pv 1) Z7))))) (λ_ _ _ _ _=>(pv 0)) Zj) Z7)))),?_⟩
 case S=>exact Gy rfl rfl rfl (by decide) rfl rfl (by decide +kernel) (λ_ _=>rfl) (λ_=>rfl)
 have lp:=YW hp;obtain⟨ps0,hT0⟩:=hT.tbl;refine⟨_,rfl,l,as.map V.ref,rss.map (cntR rss),.ref l,rfl,hl,by simp[lp],by rw[YC];omega,rfl,hT,?_,?_⟩
 ·intro i x kk H' hx hk S1;have hi:i<as.length:=by have:=(YH.mp hx).1;simpa using this
  have ea:as[i]?=some as[i]:=by simp[hi]
  have er:rss[i]?=some (rss[i]'(by omega)):=by simp
  generalize as[i]=a at ea;generalize (rss[i]'(by omega))=r at er;rw[YE,ea] at hx;rw[YE,er] at hk
  cases hx
  cases hk;have nT:∀ b u,H b=some u->(∀ q,u≠.tbl q)->b≠T:=λb u e n z=>by rw[z,hT0] at e;cases e;exact n _ rfl
  have E1:Ext H H':=⟨λb xs e=>S1 b _ e (nT b _ e λq z=>nomatch z),λb o u e=>S1 b _ e (nT b _ e λq z=>nomatch z)⟩;have hl1:H' l=some (.lst (as.map V.ref)):=S1 l _ hl (nT l _ hl λq z=>nomatch z);have P1:=Zk hp E1;have mr:r∈rss:=YD er;refine Z06 (Ta ?_);refine Xm (K:=K) (α:=List Rat) (tl:=tVar 1) (tt:=tB (tCall (spAhead K) [] E0 (tCons (tVar 0) (tCons (tVar 1) tNil)))) (k:=1) (fv:=[0]) (σ:=[some (V.ref a),some (V.ref l)]) (H:=H') (l:=l) (as:=as) (zs:=rss) (q:=λo=>aheadR o r) (λH' a r=>RowAt K H' a r) (λ_ _ _ _ e h=>h.ext e) (λG g=>⟨_,rfl,g⟩) (SqL.of hl1) (by omega) P1 (λj b o H2 G eb eo S2 hb hG=>?_) (by simp[comp0]) λd H2 bs hd S2 hd2 P2 _=>?_
  ·have mo:o∈rss:=YD eo;exact⟨_,rfl,_,rfl,b,a,o,r,n,rfl,hb,((Paired.getB P1 ea er).ext (Ext.same S2)),by rw[hlen o mo,hlen r mr],by rw[hlen o mo];exact hc1,hg o mo,hg r mr,hn,λH3 S3=>⟨_,rfl,hG H3 S3⟩⟩
  refine⟨d,bs.map V.ref,rfl,.inl (SqL.of hd2),?_,S2⟩;rw[YC,YW P2];rfl
 intro d H' ys S1 tb' hd so;obtain⟨ps,pp,rfl,po⟩:=so;have nT:∀ b u,H b=some u->(∀ q,u≠.tbl q)->b≠T:=λb u e n z=>by rw[z,hT0] at e;cases e;exact n _ rfl
 have E1:Ext H H':=⟨λb xs e=>S1 b _ e (nT b _ e λq z=>nomatch z),λb o u e=>S1 b _ e (nT b _ e λq z=>nomatch z)⟩;have P1:=Zk (Zk hp E1) (Ext.new (o:=.lst (ps.map Prod.snd)) hd);obtain⟨L,pL,eL⟩:=M9 pp _ (Kl (cntR rss) as rss lp);rw[eL] at po;rw[GL] at po;have e1:ps.map Prod.snd=(L.map Prod.fst).map V.ref:=by rw[eL,GX,GX];rfl
 refine k d _ (L.map Prod.fst) (L.map Prod.snd) ?_ (tb'.same (Same.new hd)) (by rw[e1,Zb]) ?_ ?_ ?_
 ·intro b o e n;by_cases z:b=d
  ·have q:=S1 b o e n;rw[z,hd] at q
   cases q
  rw[Ze z];exact S1 b o e n
 ·refine Sy L λq hq=>?_;exact Sx P1 (pL.mem_iff.mp hq)
 ·have:=pL.map Prod.snd
  rwa [List.map_snd_zip (by omega)] at this
 rw[GL];exact po
inductive spMeanW (K:TR) (vs:TZ) (H:Hp) (Q:VK) (_z3:XK):Prop
 | i (a b:Addr) (xs us:TZ) (ws rs:UB) (n n':Nat) (D D':Int) (Ws Zs:TV) (_:vs=[.ref a,.ref b]) (_:(SqL K H a xs \/ SqT K H a xs)) (_:Rs K H ws xs) (_:(SqL K H b us \/ SqT K H b us)) (_:Rs K H rs us) (_:ws.length=rs.length) (_:rs.length<=1000) (_:RepL n D Ws ws) (_:RepL n' D' Zs rs) (_:n<=200000) (_:n'<=200000) (_:n+n'+10<=400000) (_:∀ c H',Same H H'->SqT K H' c [.int (sumR (List.zipWith mulR' ws rs)).1,.int (sumR (List.zipWith mulR' ws rs)).2]->Q (.ref c) H')
abbrev Z4 (P:TU)(w:World)(K:TR)(mg:TB)(base:Heap):Prop:=Has P w K mg base 4 "mean" ["weights","row"] (spMeanW K)
theorem Z1g (D:Def K mg "mean" jW ["weights","row"])(T:Blt mg)(eR:Has P w K mg base 2 "common_bottom" UQ (spCommon K))(fJ:Has P w K mg base 1 "whole_by" UR (spWholeBy K))(gT:Has P w K mg base 3 "ratio" UH spLowest):Z4 P w K mg base:=by
 refine D.h9 (N:=["weights","row","mine","theirs","products"]) fsc λH Q hr h nd=>?_;obtain⟨a,b,xs,us,ws,rs,n,n',D,D',Ws,Zs,rfl,hA,hWs,hB,hRs,hl,hl2,rw_,rr,hn,hn',hnn,k⟩:=h;have nd1:(UG:List Str).Nodup:=by decide +kernel
 refine⟨_,(Z9 (Zh (i:=2) nd rfl (Or.inl rfl) (Zc eR hr (Z0 (pv 0) Z7)))
  (Z9 (Zh (i:=3) nd rfl (Or.inl rfl) (Zc eR hr (Z0 (pv 1) Z7)))
  (Z9 (X9 (i:=4) (N:=UG) (k:=2) (fv:=[]) nd rfl (Or.inl rfl) rfl (Z0z rfl T.zip (Z0 (Zc fJ hr (Z0 (pv 0) (Z0 (pv 2) Z7))) (Z0 (Zc fJ hr (Z0 (pv 1) (Z0 (pv 3) Z7))) Z7)))
  (λ_ _ _ _ _=>Wk (n:=2) rfl (Y9 (Zf (i:=0) nd1 rfl (Or.inl rfl)) (Y9 (Zf (i:=1) nd1 rfl (Or.inl rfl)) Xi))) (λ_ _ _ _ _=>Zy) (λ_ _ _ _ _=>(Zm Zx (pv 0) (pv 1))) W0)
  (Za (Zg (Zc gT hr (Z0 (Zq (Td (K:=K) rfl) rfl T.sum je (Z0 (pv 4) Z7)) (Z0 (Zm Zx (pv 2) (pv 3)) Z7)))))))),?_⟩
 have lw:=rw_.least;have lr:=rr.least;refine⟨_,rfl,a,xs,ws,n,D,Ws,rfl,hA,hWs,rw_,hn,?_⟩;refine⟨_,rfl,b,us,rs,n',D',Zs,rfl,hB,hRs,rr,hn',?_⟩;refine⟨_,rfl,_,rfl,a,_,xs,ws,n,rfl,hA,hWs,lw.good,lw.bD,lw.pos,hn,by omega,λd1 H1 f1 S1 e1=>?_⟩;have hB1:SqL K H1 b us \/ SqT K H1 b us:=hB.elim (λz=>.inl (Yr S1 z)) λz=>.inr (Zn S1 z);refine⟨_,rfl,_,rfl,b,_,us,rs,n',rfl,hB1,hRs.ext (Ext.same S1),lr.good,lr.bD,lr.pos,hn',hl2,λd2 H2 f2 S2 e2=>?_⟩;replace e1:=S2 _ _ e1;refine⟨d1,d2,rfl,⟨_,SqL.of e1⟩,⟨_,SqL.of e2⟩,λd hd=>?_⟩;have ll:(wholeB ws (lcmB ws)).length=rs.length:=by rw[lw.len,hl]
 have ll2:(wholeB rs (lcmB rs)).length=rs.length:=lr.len;generalize hX:wholeB ws (lcmB ws)=As at *
 generalize hY:wholeB rs (lcmB rs)=Bs at *
 have bA:∀ z∈As,Bd n z:=λz hz=>by
  obtain⟨i,hi⟩:=XL hz;have hl':i<As.length:=(YH.mp hi).1;exact (lw.at_ i z (ws[i]'(by omega)) hi (by simp)).2.1
 have bB:∀ z∈Bs,Bd n' z:=λz hz=>by
  obtain⟨i,hi⟩:=XL hz;have hl':i<Bs.length:=(YH.mp hi).1;exact (lr.at_ i z (rs[i]'(by omega)) hi (by simp)).2.1
 refine⟨rs.length,λi ys H3=>Same H2 H3/\ys=((List.zipWith (·*·) As Bs).take i).map V.int,Zt hl2,⟨Same.new hd,rfl⟩,?_,?_⟩
 ·rintro i ys H3 hi ⟨S3,rfl⟩ hd3;refine⟨⟨_,_,SqL.of (S3 _ _ e1),SqL.of (S3 _ _ e2),by rw[YC];omega,by rw[YC];omega⟩,?_⟩;rintro x H4 ⟨p,x0,y0,rfl,hp,rfl,fx,fy⟩;have ea:As[i]?=some (As[i]'(by omega)):=by simp
  have eb:Bs[i]?=some (Bs[i]'(by omega)):=by simp
  have ex0:x0=V.int (As[i]'(by omega)):=by
   have:=fx _ (SqL.of (S3 _ _ e1));rw[YE,ea] at this;exact (YR this).symm
  have ey0:y0=V.int (Bs[i]'(by omega)):=by
   have:=fy _ (SqL.of (S3 _ _ e2));rw[YE,eb] at this;exact (YR this).symm
  subst ex0 ey0;refine Tz (SqT.of Zb) ?_;have hpd:d≠p:=Zd hd3 hp;refine⟨_,rfl,_,rfl,_,_,rfl,rfl,(bA _ (XG _)).mulOk (bB _ (XG _)) (by omega) (by omega),by rw[Ze hpd];exact hd3,λq o e=>?_,?_⟩
  ·have:=S3 _ _ e;rw[Ze (Zd e hd),Ze (Zd this hp)];exact this
  have:(List.zipWith (·*·) As Bs)[i]?=some (As[i]'(by omega)*Bs[i]'(by omega)):=by rw[JK,ea,eb]
  rw[Y8 this,XM];rfl
 rintro ys H3 ⟨S3,rfl⟩ hd3;rw[YV (by rw[JL];omega)] at hd3;refine⟨⟨_,_,SqL.of (S3 _ _ e1),SqL.of (S3 _ _ e2),by rw[YC];omega⟩,?_⟩;refine⟨_,rfl,d,_,rfl,SqL.of hd3,_,rfl,_,rfl,_,_,rfl,rfl,lw.bD.mulOk lr.bD (by omega) (by omega),_,_,rfl,by have:=XN lw.pos lr.pos;omega,(lw.bD.mul lr.bD).log (by omega),λc H4 f4 S4 e4=>?_⟩;have me:=Z1y lw lr hl;have e5:sumR (List.zipWith mulR' ws rs)=nrm (List.zipWith (·*·) As Bs).sum (lcmB ws*lcmB rs):=me.symm;refine k c H4 (((S1.trans S2).trans S3).trans S4) ?_;rw[e5];exact SqT.of e4
def natL (us:List Nat):List V:=us.map λk=>V.int ((k:Nat):Int)
def touR (ess:UC)(r:UB):List Nat:=(List.range ess.length).filter λk=>decide (mn r (ess.getD k [])=(0,1))
def MeanOk (r e:UB):Prop:=r.length=e.length/\r.length<=1000/\∃ n n' D D' Ws Zs,RepL n D Ws r/\RepL n' D' Zs e/\n+n'+10<=200000
inductive spTouched (K:TR) (vs:TZ) (H:Hp) (Q:VK) (_z3:XK):Prop
 | i (l a:Addr) (as:TJ) (ess:UC) (r:UB) (_:vs=[.ref l,.ref a]) (_:H l=some (.lst (as.map V.ref))) (_:Paired (RowAt K H) as ess) (_:RowAt K H a r) (_:ess.length<=1000) (_:∀ e∈ess,MeanOk r e)
  (_:∀ (d:Addr) (H':Hp),H d=none->Same H H'->H' d=some (.lst (natL (touR ess r)))->Q (.ref d) H')
theorem Gi (D:Def K mg "touched" iN UW)(T:Blt mg)(eH:Z4 P w K mg base)(eC:Con K mg "NOUGHT" (0,1)):Has P w K mg base 5 "touched" UW (spTouched K):=by
 refine D.h9 (N:=UW) fsc λH Q hr h nd=>?_;obtain⟨l,a,as,ess,r,rfl,hl,hp,hA,hz,hm,k⟩:=h;have hU:=GJ (Rk hr);obtain⟨c_NOUGHT,m_NOUGHT,s_NOUGHT⟩:=eC;have nd1:(["place","edge","corner"]:List Str).Nodup:=by decide +kernel
 refine⟨_,(Za (Zg (Y0 (N:=["place","edge","corner"]) (k:=2) (fv:=[1]) rfl (M7 rfl T.enumerate (Z0 (pv 0) Z7))
  (λ_ _ _ _ _=>Wk (n:=2) rfl (Y9 (Zf (i:=0) nd1 rfl (Or.inl rfl)) (Y9 (Zf (i:=1) nd1 rfl (Or.inl rfl)) Xi))) (λ_ _ _ _ _=>X8 (Zp (Pp (K:=K) hU) (Zc eH hr (Z0 (pv 2) (Z0 (pv 1) Z7))) (Yf (v:=.ref c_NOUGHT) rfl m_NOUGHT rfl) (Zr _))) (λ_ _ _ _ _=>(pv 0)) W0))),?_⟩
 have lp:=YW hp;refine Nw ?_;refine⟨_,rfl,l,rfl,⟨_,SqL.of hl⟩,λd hd=>?_⟩;refine⟨as.length,λi ys H2=>Same H H2/\ys=natL ((List.range i).filter λk=>decide (mn r (ess.getD k [])=(0,1))),XD (show as.length<=1000 by omega) (by decide),⟨Same.new hd,rfl⟩,?_,?_⟩
 ·rintro i ys H2 hi ⟨S2,rfl⟩ hd2;have hl2:=S2 _ _ hl;refine⟨⟨_,SqL.of hl2,by simpa using hi⟩,?_⟩;rintro x H3 ⟨p,x0,rfl,hp3,rfl,fx⟩;have ea:as[i]?=some as[i]:=by simp[hi]
  have ee:ess[i]?=some (ess[i]'(by omega)):=by simp
  have hgd:ess.getD i []=ess[i]'(by omega):=by simp[List.getD,show i<ess.length by omega]
  have eb:=Paired.getB hp ea ee;have me:=hm _ (YD ee);rw[<-hgd] at eb me;have ex:x0=V.ref as[i]:=by
   have:=fx _ (SqL.of hl2);rw[YE,ea] at this;exact (YR this).symm
  subst ex;generalize as[i]=b at *
  have S3:=S2.trans (Same.new (o:=.tup [V.int ((i:Nat):Int),V.ref b]) hp3);have hd3:(upd H2 p (.tup [V.int ((i:Nat):Int),V.ref b])) d=_:=(Same.new (o:=.tup [V.int ((i:Nat):Int),V.ref b]) hp3) _ _ hd2;have t3:SqT K (upd H2 p (.tup [V.int ((i:Nat):Int),V.ref b])) p [V.int ((i:Nat):Int),V.ref b]:=SqT.of Zb;generalize upd H2 p (.tup [V.int ((i:Nat):Int),V.ref b])=H3 at *
  obtain⟨xb,qb,rb⟩:=eb.ext (Ext.same S3);obtain⟨xa,qa,ra⟩:=hA.ext (Ext.same S3);obtain⟨m1,m2,n,n',D1,D2,Ws,Zs,r1,r2,m3⟩:=me;refine Cc t3 ?_;refine⟨_,rfl,_,rfl,a,b,xa,xb,r,ess.getD i [],n,n',D1,D2,Ws,Zs,rfl,.inr qa,ra,.inr qb,rb,m1,by omega,r1,r2,by omega,by omega,by omega,λc4 H4 S4 q4=>?_⟩;refine⟨c4,c_NOUGHT,[_,_],[0,1],rfl,rfl,q4,s_NOUGHT _,_,rfl,?_⟩;have e1:decide ([(sumR (List.zipWith mulR' r (ess.getD i []))).1,(sumR (List.zipWith mulR' r (ess.getD i []))).2]=[0,1])=decide (mn r (ess.getD i [])=(0,1)):=by
   rw[zg];constructor
   ·intro z;injection z with z1 z2
    injection z2 with z2 _
    exact Y10 z1 z2
   intro z;show [(mn r (ess.getD i [])).1,(mn r (ess.getD i [])).2]=_;rw[z]
  show if decide _=true then _ else _
  rw[e1];have hd4:=S4 _ _ hd3;have ru:(List.range (i+1)).filter (λk=>decide (mn r (ess.getD k [])=(0,1)))=(List.range i).filter (λk=>decide (mn r (ess.getD k [])=(0,1)))++(if decide (mn r (ess.getD i [])=(0,1))=true then [i] else []):=by
   rw[qP,qw,GE,zI]
  by_cases e:mn r (ess.getD i [])=(0,1)
  ·rw[XQ e];refine Wy ⟨_,rfl,hd4,Y7 (S3.trans S4) hd,?_⟩;rw[ru,XQ e,XF rfl];unfold natL;rw[XM];rfl
  rw[XR e];refine Yw ⟨hd4,S3.trans S4,?_⟩;rw[ru,XR e,XB YS,GN]
 rintro ys H2 ⟨S2,rfl⟩ hd2;refine⟨⟨_,SqL.of (S2 _ _ hl),by simp⟩,k d H2 hd S2 ?_⟩;rw[hd2,lp];rfl
theorem Z3j (D:Def K mg "plus" jV UG)(eG:Z6 P w K mg base):Has P w K mg base 3 "plus" UG (spTwo K addR):=by
 refine D.h9 (N:=UG) fsc λH Q hr h nd=>?_;obtain⟨a,b,r,s,n,rfl,hA,hB,gr,gs,hn,k⟩:=h;refine⟨_,(Za (Zg (Zc eG hr (Z0 (Zm X3 (Zm Zx (Zi Yq (pv 0) Z8 (λ_ _=>rfl)) (Zi Yg (pv 1) Z8 (λ_ _=>rfl))) (Zm Zx (Zi Yq (pv 1) Z8 (λ_ _=>rfl)) (Zi Yg (pv 0) Z8 (λ_ _=>rfl)))) (Z0 (Zm Zx (Zi Yg (pv 0) Z8 (λ_ _=>rfl)) (Zi Yg (pv 1) Z8 (λ_ _=>rfl))) Z7))))),?_⟩;exact⟨_,rfl,_,_,_,rfl,rfl,hA,_,rfl,_,_,_,rfl,rfl,hB,_,_,rfl,rfl,gr.b1.mulOk gs.b2 (by omega) (by omega),_,rfl,_,_,_,rfl,rfl,hB,_,rfl,_,_,_,rfl,rfl,hA,_,_,rfl,rfl,gs.b1.mulOk gr.b2 (by omega) (by omega),_,_,rfl,rfl,_,rfl,_,_,_,rfl,rfl,hA,_,rfl,_,_,_,rfl,rfl,hB,_,_,rfl,rfl,gr.b2.mulOk gs.b2 (by omega) (by omega),_,_,rfl,Xh gr.pos gs.pos,Xx gr.b2 gs.b2 hn,k⟩
theorem Z1b (D:Def K mg "times" jG UG)(eG:Z6 P w K mg base):Has P w K mg base 3 "times" UG (spTwo K mulR'):=by
 refine D.h9 (N:=UG) fsc λH Q hr h nd=>?_;obtain⟨a,b,r,s,n,rfl,hA,hB,gr,gs,hn,k⟩:=h;refine⟨_,(Za (Zg (Zc eG hr (Z0 (Zm Zx (Zi Yq (pv 0) Z8 (λ_ _=>rfl)) (Zi Yq (pv 1) Z8 (λ_ _=>rfl))) (Z0 (Zm Zx (Zi Yg (pv 0) Z8 (λ_ _=>rfl)) (Zi Yg (pv 1) Z8 (λ_ _=>rfl))) Z7))))),?_⟩;exact⟨_,rfl,_,_,_,rfl,rfl,hA,_,rfl,_,_,_,rfl,rfl,hB,_,_,rfl,rfl,gr.b1.mulOk gs.b1 (by omega) (by omega),_,rfl,_,_,_,rfl,rfl,hA,_,rfl,_,_,_,rfl,rfl,hB,_,_,rfl,rfl,gr.b2.mulOk gs.b2 (by omega) (by omega),_,_,rfl,Xh gr.pos gs.pos,Xx gr.b2 gs.b2 hn,k⟩
inductive spAdded (K:TR) (vs:TZ) (H:Hp) (Q:VK) (_z3:XK):Prop
 | i (a b:Addr) (rs ss:UB) (n:Nat) (_:vs=[.ref a,.ref b]) (_:RowAt K H a rs) (_:RowAt K H b ss) (_:rs.length=ss.length) (_:rs.length<=1000) (_:(∀ r∈rs,Good n r)) (_:(∀ r∈ss,Good n r)) (_:n<=200000) (_:∀ c H' ys,Same H H'->H' c=some (.tup ys)->Rs K H' (List.zipWith addR rs ss) ys->Q (.ref c) H')
theorem Kr:FnScope UG UG (defScope jT):=fsc
theorem Z1s (D:Def K mg "added" jT UG)(T:Blt mg)(fX:Has P w K mg base 3 "plus" UG (spTwo K addR)):Has P w K mg base 4 "added" UG (spAdded K):=by
 refine D.has λf fd F=>F.ok Kr (λvs H Q E h=>?_) (λcdv A outer s H vs Q E hr h=>?_)
 ·obtain⟨a,b,rs,ss,n,rfl,_⟩:=h;rfl
 obtain⟨a,b,rs,ss,n,rfl,⟨xs,hA,hRs⟩,⟨us,hB,hSs⟩,hl,hl2,gr,gs,hn,k⟩:=h;have sc:=Kr;have nd:(["mine","theirs"]:List Str).Nodup:=by decide +kernel
 refine⟨_,(Za (Zg (Y1 Y3 rfl T.tuple XO (Z0 (Y0 (N:=["mine","theirs"]) (k:=2) (fv:=[]) rfl (C5 rfl T.zip (Z0 (pv 0) (Z0 (pv 1) Z7)))
  (λ_ _ _ _ _=>Wk (n:=2) rfl (Y9 (Zf (i:=0) nd rfl (Or.inl rfl)) (Y9 (Zf (i:=1) nd rfl (Or.inl rfl)) Xi))) (λ_ _ _ _ _=>Zy) (λ_ _ _ _ _=>Pm fX (hr.mono (by decide)) rfl (Z0 (pv 0) (Z0 (pv 1) Z7))) W0) Z7)))),?_⟩
 refine⟨_,rfl,_,rfl,a,b,rfl,⟨_,hA⟩,⟨_,hB⟩,λd hd=>?_⟩;have lx:=hRs.len;have lu:=hSs.len;refine⟨rs.length,λi ys H2=>Same H H2/\Rs K H2 (zipR addR rs ss i) ys,Zt hl2,⟨Same.new hd,.nil⟩,?_,?_⟩
 ·rintro i ys H2 hi ⟨S2,R2⟩ hd2;refine⟨⟨xs,us,Zn S2 hA,Zn S2 hB,by omega,by omega⟩,?_⟩;rintro x H3 ⟨p,x0,y0,rfl,hp,rfl,fx,fy⟩;obtain⟨r,er,ix⟩:=hRs.back (fx xs (Zn S2 hA));obtain⟨s',es,iy⟩:=hSs.back (fy us (Zn S2 hB));obtain⟨a1,rfl,sq1⟩:=ix.ext ((Ext.same S2).trans (Ext.new (o:=.tup [x0,y0]) hp));obtain⟨b1,rfl,sq2⟩:=iy.ext ((Ext.same S2).trans (Ext.new (o:=.tup [.ref a1,y0]) hp));refine Tz (SqT.of Zb) ?_;refine⟨_,rfl,_,rfl,a1,b1,r,s',n,rfl,sq1,sq2,gr r (YD er),gs s' (YD es),hn,λc H4 fc S4 e4=>?_⟩;have hpd:d≠p:=Zd hd2 hp;have hd4:H4 d=some (.lst ys):=S4 _ _ (by rw[Ze hpd];exact hd2);have E4:Ext H2 H4:=(Ext.new hp).trans (Ext.same S4);have E5:Ext H4 (upd H4 d (.lst (ys++[.ref c]))):=Ext.upd hd4;refine⟨hd4,λq o e=>?_,?_⟩
  ·rw[Ze (Zd e hd)];exact S4 _ _ (by rw[Ze (Zd (S2 _ _ e) hp)];exact S2 _ _ e)
  rw[Ju addR er es];exact (R2.ext (E4.trans E5)).snoc ⟨c,rfl,E5.sq (SqT.of e4)⟩
 rintro ys H2 ⟨S2,R2⟩ hd2;refine⟨⟨xs,us,Zn S2 hA,Zn S2 hB,lx⟩,d,ys,rfl,.inl ⟨SqL.of hd2,λl hl'=>?_⟩⟩;rw[Fo addR rfl hl.symm] at R2;exact k l _ ys (S2.trans (Same.new hl')) Zb (R2.ext (Ext.new hl'))
inductive spMultiplied (K:TR) (vs:TZ) (H:Hp) (Q:VK) (_z3:XK):Prop
 | i (a b:Addr) (rs:UB) (s:Rat) (n:Nat) (_:vs=[.ref a,.ref b]) (_:RowAt K H a rs) (_:SqT K H b [.int s.1,.int s.2]) (_:rs.length<=1000) (_:(∀ r∈rs,Good n r)) (_:Good n s) (_:n<=200000) (_:∀ c H' ys,Same H H'->H' c=some (.tup ys)->Rs K H' (rs.map λr=>mulR' r s) ys->Q (.ref c) H')
theorem Vz:FnScope UX UX (defScope iE):=fsc
theorem Pr (D:Def K mg "multiplied" iE UX)(T:Blt mg)(gR:Has P w K mg base 3 "times" UG (spTwo K mulR')):Has P w K mg base 4 "multiplied" UX (spMultiplied K):=by
 refine D.has λf fd F=>F.ok Vz (λvs H Q E h=>?_) (λcdv A outer s H vs Q E hr h=>?_)
 ·obtain⟨a,b,rs,s,n,rfl,_⟩:=h;rfl
 obtain⟨a,b,rs,s,n,rfl,⟨xs,hA,hRs⟩,hB,hl2,gr,gs,hn,k⟩:=h;have sc:=Vz;have nd:(["worth","by"]:List Str).Nodup:=by decide +kernel
 refine⟨_,(Za (Zg (Y1 Y3 rfl T.tuple XO (Z0 (Y0 (N:=["worth","by"]) (k:=1) (fv:=[1]) rfl (Wj (pv 0))
  (λ_ _ _ _ _=>Zf (i:=0) nd rfl (Or.inl rfl)) (λ_ _ _ _ _=>Zy) (λ_ _ _ _ _=>Pm gR (hr.mono (by decide)) rfl (Z0 (pv 0) (Z0 (pv 1) Z7))) Zj) Z7)))),?_⟩
 refine⟨_,rfl,a,rfl,⟨_,hA⟩,λd hd=>?_⟩;have lx:=hRs.len;refine⟨rs.length,λi ys H2=>Same H H2/\Rs K H2 (mapR (λr=>mulR' r s) rs i) ys,Zt hl2,⟨Same.new hd,.nil⟩,?_,?_⟩
 ·rintro i ys H2 hi ⟨S2,R2⟩ hd2;refine⟨⟨xs,xs[i]'(by omega),Zn S2 hA,by simp⟩,?_⟩;rintro x H3 ⟨rfl,fx⟩;obtain⟨r,er,ix⟩:=hRs.back (fx xs (Zn S2 hA));obtain⟨a1,rfl,sq1⟩:=ix.ext (Ext.same S2);refine Y2 ?_;refine⟨_,rfl,_,rfl,a1,b,r,s,n,rfl,sq1,Zn S2 hB,gr r (YD er),gs,hn,λc H4 fc S4 e4=>?_⟩;have hd4:H4 d=some (.lst ys):=S4 _ _ hd2;have E5:Ext H4 (upd H4 d (.lst (ys++[.ref c]))):=Ext.upd hd4;refine⟨hd4,λq o e=>?_,?_⟩
  ·rw[Ze (Zd e hd)];exact S4 _ _ (S2 _ _ e)
  rw[Qc _ er];exact (R2.ext ((Ext.same S4).trans E5)).snoc ⟨c,rfl,E5.sq (SqT.of e4)⟩
 rintro ys H2 ⟨S2,R2⟩ hd2;refine⟨⟨xs,Zn S2 hA,by omega⟩,d,ys,rfl,.inl ⟨SqL.of hd2,λl hl'=>?_⟩⟩;rw[Mm _ rfl] at R2;exact k l _ ys (S2.trans (Same.new hl')) Zb (R2.ext (Ext.new hl'))
end
end Sb
namespace Sb
open PySem L2
def parR (r s:Rat):Rat:=nrm (r.1*s.2) (r.2*s.1)
theorem Pn {r:Rat}(hr:0<r.2)(hs:s.1≠0):r.2*s.1≠0:=Y0N (by omega) hs
theorem Mc {n m:Nat}{r:Rat}(h:Good n r)(k:Good m s)(h0:s.1≠0):Good (n+m) (parR r s):=Xe (h.b1.mul k.b2) (h.b2.mul k.b1) (Pn h.pos h0)
theorem W7 {n m:Nat}{r:Rat}(h:Good n r)(k:Good m s):Good (n+m) (mulR' r s):=Xe (h.b1.mul k.b1) (h.b2.mul k.b2) (GP (XN h.pos k.pos))
theorem Up {n m:Nat}{r:Rat}(h:Good n r)(k:Good m s):Good (n+m+1) (subR r s):=by
 have a:=h.b1.mul k.b2;have b:=k.b1.mul h.b2;rw[jz m n] at b;exact Xe (Bd.sub a b) ((h.b2.mul k.b2).mono (by omega)) (GP (XN h.pos k.pos))
theorem Fm {n m:Nat}{r:Rat}(h:Good n r)(k:Good m s):Good (n+m+1) (addR r s):=by
 have a:=h.b1.mul k.b2;have b:=k.b1.mul h.b2;rw[jz m n] at b;exact Xe (Bd.add a b) ((h.b2.mul k.b2).mono (by omega)) (GP (XN h.pos k.pos))
def byR (one other row:UB):Rat:=parR (mn one row) (subR (mn one row) (mn other row))
def crR (one other row:UB):List Rat:=List.zipWith addR (one.map λr=>mulR' r (subR (1,1) (byR one other row))) (other.map λr=>mulR' r (byR one other row))
theorem Wo {n n':Nat}{D':Int}{r:UB}(h:RepL n D Ws r)(k:RepL n' D' Zs e)(hl:r.length=e.length)(h10:r.length<=1000):Good (n+n'+10) (mn r e):=(h.mul k hl).sumGood (k:=10) (by rw[JL];omega)
section
variable {P:TU}{w:World}{K:TR}{mg:TB}{base:Heap}
inductive spPart0 (K:TR) (vs:TZ) (H:Hp) (Q:VK) (_z3:XK):Prop
 | i (a b:Addr) (r s:Rat) (n:Nat) (_:vs=[.ref a,.ref b]) (_:SqT K H a [.int r.1,.int r.2]) (_:SqT K H b [.int s.1,.int s.2]) (_:Good n r) (_:Good n s) (_:n<=200000) (_:s.1≠0) (_:∀ c H',H c=none->Same H H'->H' c=some (.tup [.int (parR r s).1,.int (parR r s).2])->Q (.ref c) H')
theorem Z1d (D:Def K mg "parted" iO UG)(eG:Z6 P w K mg base):Has P w K mg base 3 "parted" UG (spPart0 K):=by
 refine D.h9 (N:=UG) fsc λH Q hr h nd=>?_;obtain⟨a,b,r,s,n,rfl,hA,hB,gr,gs,hn,h0,k⟩:=h;refine⟨_,(Z9 (Yc (Zp Wv (Zi Yq (pv 1) Z8 (λ_ _=>rfl)) Z8 (Zr _))
   (Za Sq)
   Zw)
  (Za (Zg (Zc eG hr (Z0 (Zm Zx (Zi Yq (pv 0) Z8 (λ_ _=>rfl)) (Zi Yg (pv 1) Z8 (λ_ _=>rfl))) (Z0 (Zm Zx (Zi Yg (pv 0) Z8 (λ_ _=>rfl)) (Zi Yq (pv 1) Z8 (λ_ _=>rfl))) Z7)))))),?_⟩
 refine⟨_,rfl,b,_,_,rfl,rfl,hB,rfl,_,rfl,Ms (λz=>h0 (V.int.inj z)) ?_⟩;exact⟨_,rfl,_,_,_,rfl,rfl,hA,_,rfl,_,_,_,rfl,rfl,hB,_,_,rfl,rfl,gr.b1.mulOk gs.b2 (by omega) (by omega),_,rfl,_,_,_,rfl,rfl,hA,_,rfl,_,_,_,rfl,rfl,hB,_,_,rfl,rfl,gr.b2.mulOk gs.b1 (by omega) (by omega),_,_,rfl,Pn gr.pos h0,Xx gr.b2 gs.b1 hn,k⟩
inductive spCrossing (K:TR) (vs:TZ) (H:Hp) (Q:VK) (_z3:XK):Prop
 | i (a b e:Addr) (one other row:UB) (n:Nat) (D D' D2:Int) (Ws Us Zs:TV) (_:vs=[.ref a,.ref b,.ref e]) (_:RowAt K H a one) (_:RowAt K H b other) (_:RowAt K H e row) (_:one.length=row.length) (_:other.length=row.length) (_:row.length<=1000) (_:RepL n D Ws one) (_:RepL n D' Us other) (_:RepL n D2 Zs row) (_:n<=20000) (_:(subR (mn one row) (mn other row)).1≠0)
  (_:∀ c H',Same H H'->RowAt K H' c (crR one other row)->Q (.ref c) H')
theorem Lz (D:Def K mg "crossing" iJ UY)(eH:Z4 P w K mg base)(eS:Has P w K mg base 3 "minus" UG (spTwo K subR))(fF:Has P w K mg base 3 "parted" UG (spPart0 K))(fN:Has P w K mg base 4 "added" UG (spAdded K))(eD:Has P w K mg base 4 "multiplied" UX (spMultiplied K))(fY:Con K mg "ONE" (1,1)):Has P w K mg base 5 "crossing" UY (spCrossing K):=by
 refine D.h9 (N:=["one","other","row","spare","by"]) fsc λH Q hr h nd=>?_;obtain⟨a,b,e,one,other,row,n,D,D',D2,Ws,Us,Zs,rfl,⟨xa,qa,ra⟩,⟨xb,qb,rb⟩,⟨xe,qe,re⟩,l1,l2,l3,r1,r2,r3,hn,h0,k⟩:=h;obtain⟨c_ONE,m_ONE,s_ONE⟩:=fY;refine⟨_,(Z9 (Zh (i:=3) nd rfl (Or.inl rfl) (Zc eH hr (Z0 (pv 0) (Z0 (pv 2) Z7))))
  (Z9 (Zh (i:=4) nd rfl (Or.inl rfl) (Zc fF hr (Z0 (pv 3) (Z0 (Zc eS hr (Z0 (pv 3) (Z0 (Zc eH hr (Z0 (pv 1) (Z0 (pv 2) Z7))) Z7))) Z7))))
  (Za (Zg (Zc fN hr (Z0 (Zc eD hr (Z0 (pv 0) (Z0 (Zc eS hr (Z0 (Yf (v:=.ref c_ONE) rfl m_ONE rfl) (Z0 (pv 4) Z7))) Z7))) (Z0 (Zc eD hr (Z0 (pv 1) (Z0 (pv 4) Z7))) Z7))))))),?_⟩
 have g1:=Wo r1 r3 l1 (by omega);have g2:=Wo r2 r3 l2 (by omega);have g3:=Up g1 g2;have g4:=Mc g1 g3 h0;have one1:Good 1 ((1,1):Rat):=⟨(by show (1:Int).natAbs<2 ^ 1;decide),(by show (1:Int).natAbs<2 ^ 1;decide),by decide,by decide⟩;have g5:=Up one1 g4;refine⟨_,rfl,_,rfl,a,e,xa,xe,one,row,n,n,D,D2,Ws,Zs,rfl,.inr qa,ra,.inr qe,re,l1,l3,r1,r3,by omega,by omega,by omega,λc1 H1 S1 q1=>?_⟩;have qa1:=Zn S1 qa;have qb1:=Zn S1 qb;have qe1:=Zn S1 qe;refine⟨_,rfl,_,rfl,_,rfl,_,rfl,b,e,xb,xe,other,row,n,n,D',D2,Us,Zs,rfl,.inr qb1,rb.ext (Ext.same S1),.inr qe1,re.ext (Ext.same S1),l2,l3,r2,r3,by omega,by omega,by omega,λc2 H2 S2 q2=>?_⟩;refine⟨c1,c2,mn one row,mn other row,2*n+10,rfl,Zn S2 q1,q2,g1.mono (by omega),g2.mono (by omega),by omega,λc3 H3 f3 S3 q3=>?_⟩;refine⟨c1,c3,mn one row,subR (mn one row) (mn other row),4*n+21,rfl,Zn (S2.trans S3) q1,SqT.of q3,g1.mono (by omega),g3.mono (by omega),by omega,h0,λc4 H4 f4 S4 q4=>?_⟩;have S14:=(S1.trans S2).trans (S3.trans S4);have q4':SqT K H4 c4 [.int (byR one other row).1,.int (byR one other row).2]:=SqT.of q4;refine⟨_,rfl,_,rfl,c_ONE,c4,(1,1),byR one other row,6*n+40,rfl,s_ONE _,q4',one1.mono (by omega),g4.mono (by omega),by omega,λc5 H5 f5 S5 q5=>?_⟩;have S15:=S14.trans S5;have gA:∀ r∈one,Good (6*n+45) r:=λr hr=>(r1.good r hr).mono (by omega);have gB:∀ r∈other,Good (6*n+45) r:=λr hr=>(r2.good r hr).mono (by omega);refine⟨a,c5,one,subR (1,1) (byR one other row),6*n+45,rfl,⟨xa,Zn S15 qa,ra.ext (Ext.same S15)⟩,SqT.of q5,by omega,gA,g5.mono (by omega),by omega,λc6 H6 ys6 S6 q6 R6=>?_⟩;have S16:=S15.trans S6;refine⟨_,rfl,_,rfl,b,c4,other,byR one other row,6*n+45,rfl,⟨xb,Zn S16 qb,rb.ext (Ext.same S16)⟩,Zn (S5.trans S6) q4',by omega,gB,g4.mono (by omega),by omega,λc7 H7 ys7 S7 q7 R7=>?_⟩;refine⟨c6,c7,_,_,7*n+60,rfl,⟨ys6,SqT.of (S7 _ _ q6),R6.ext (Ext.same S7)⟩,⟨ys7,SqT.of q7,R7⟩,by rw[YC,YC];omega,by rw[YC];omega,λr hr=>?_,λr hr=>?_,by omega,λc8 H8 ys8 S8 q8 R8=>?_⟩
 ·obtain⟨z,hz,rfl⟩:=YZ.mp hr;exact (W7 (r1.good z hz) g5).mono (by omega)
 ·obtain⟨z,hz,rfl⟩:=YZ.mp hr;exact (W7 (r2.good z hz) g4).mono (by omega)
 exact k c8 H8 (S16.trans (S7.trans S8)) ⟨ys8,SqT.of q8,R8⟩
end
end Sb
namespace Sb
open PySem PySem.Spec PyProof.Rows L2
section
variable {X:Cx}
theorem C3 {i:Nat}{x:Str}{pos' spos:Pos}{pos:Pos}{g:TG}{N:TF}{k:Nat}{fv:List Nat}{x0:Str}
  (hXN:X.N.Nodup) (hix:X.N[i]?=some x) (hx:Loc X.env.scope x)
  (hc:X.calm=true) (hi:PI X tg iter wi) (hg:∀ cl C fp s H,PG (compCxC X N scope x0 cl C fp s H) tg g) (ht:∀ cl C fp s H,PTs (compCxC X N scope x0 cl C fp s H) ifs tt) (he:∀ cl C fp s H,PE (compCxC X N scope x0 cl C fp s H) elt te)
  (hw:∀ r x H Q,g x (List.replicate k none++r) H Q->g x (List.replicate k none++r) H λσ4 H4=>Q σ4 H4/\Weaker σ4 (List.replicate k none++r))
  (hN:N.length=k+fv.length:=by rfl) (hfv:fv.map (λj=>X.N[j]?)=(N.drop k).map some:=by rfl) (hk:(N.drop k).map X.env.kindOf=(N.drop k).map (λ_=>some .cell):=by rfl)
  (hfl:∀ y∈N.drop k,scope.names.lookup y=some .free:=by decide +kernel) (hfr:∀ y∈scope.names,y.2=.free->y.1∈N.drop k:=by decide +kernel)
  (hone:(scope.names.filter λy=>y.2 == .cell)=[(x0,.cell)]:=by decide +kernel) (hx0:scope.names.lookup x0=some .cell:=by decide +kernel) (hkind:scope.kind=.function:=by rfl) (hnames:∀ y∈scope.names,y.2=.local->scope.names.lookup y.1=some .local:=by decide +kernel)
  (hs:∀ x,foldedSetIterable iter X.env x=pure x:=by intro _;rfl)
  (hsw:swapsWith (.ListComp elt [⟨tg,iter,ifs,0⟩] scope pos) (some (.Name x pos')) spos.line X.env=pure true:=by rfl)
  (hf:X.fn x=true \/ X.env.scope.names.lookup x=some .local:=by first | exact .inl rfl | exact .inr rfl | assumption) :
  PS X (.Assign [.Name x pos'] (.ListComp elt [⟨tg,iter,ifs,0⟩] scope pos) spos) (tAsg (tComp wi g tt te k fv) (gName i)):=by
 intro pins s σ H D I h;have kc:∀ y∈N.drop k,X.env.kindOf y=some .cell:=λy hy=>by
  obtain⟨j,hj⟩:=XL hy;have a:=congrArg (λl=>l[j]?) hk;simp only [YE,hj,qJ] at a;exact YR a
 obtain⟨cl,hclos,h1,h2⟩:=Xd (env:=X.env) (scope:=scope) λy hy hf=>I.ok.has y.1 (.inl (kc y.1 (hfr y hy hf)));rw[exec_Assign_Name_used _ _ _ _ hsw];refine YA (jm (YA ?_));unfold evalThenUse;refine YA (qV (use:=some (assign (.Name x pos') X.env)) rfl hs hclos hkind hnames (thn (hi pins s σ H _ I h) λxv s1 h1'=>thn h1' λitv s2 h2'=>?_));obtain⟨it,fp,tn,J,H2,e,I2,T,st2,f2,body⟩:=h2';subst e;refine Ts (Q:=λv H1=>gName i v σ H1 D.nx) (RR:=λacc C=>compPost (model X.prog X.w) X.A X.xe (some (assign (.Name x pos') X.env)) _ acc C) hc hg ht he hw hN hfv hk hfl hone hx0 hkind h1 h2 I2 T st2 f2 body λDd C H' s' ⟨m,hm⟩ fpC q iv=>?_;show wpAny _ _ (assign (.Name x pos') X.env (.ref Dd)) _ _ s';have I':Inv X pins σ H' s':=iv s'.heap ⟨rfl,λ_ _=>rfl⟩;refine Y0l (Uq I' hXN hix hx (v:=.ref Dd) rfl (λs3 I3 ⟨a,sb,ha⟩=>⟨m,?_,λh' hs'=>?_⟩) hf)
 ·have hne:C≠a:=by
   rcases ha with rfl | ha
   ·exact fpC.2.1
   exact λz=>fpC.2.2.2.2.1 x a ha z.symm
  obtain⟨o,es,ep,ho,r⟩:=hm;exact⟨o,es,ep,by rw[sb.2 C hne];exact ho,r⟩
 refine YI (YI ?_);have I4:=W8 (ch:=[C]) (h':=h') (t':=s3.toks) I3 (λb hb=>by rw[XA.mp hb];exact fpC) λb o hb e=>by
  rw[hs'.2 b (λz=>hb (by rw[z];exact XA.mpr rfl))];exact e
 exact⟨_,H',I4,q⟩
theorem Rj {P:TU}{w:World}{K:TR}(hu:X.A.units+64<cLine)(hP:X.prog=P:=by rfl)(hw:X.w=w:=by rfl)(hK:X.K=K:=by rfl):IxR X (rIxD P w K):=by
 subst hP hw;exact Z23 hu hK
theorem Kg {P:TU}{w:World}{K:TR}(hA:X.A.handled=none)(hu:X.A.units+64<cLine)(hP:X.prog=P:=by rfl)(hw:X.w=w:=by rfl)(hK:X.K=K:=by rfl):CallR X (.type "dict") (rDict P w K):=by
 subst hP hw;exact Rz hA hu hK
theorem C7 {P:TU}{w:World}{K:TR}{l tg:Expr}(hl:PE X l tl)(hP:X.prog=P:=by rfl)(hw:X.w=w:=by rfl)(hK:X.K=K:=by rfl):PI X tg l (iDict P w K tl):=by
 subst hP hw;exact Z11 hl hK
end
end Sb
namespace Sb
open PySem L2
theorem Zu {i:Nat}{x:V}{σ:L2.St}{Q:L2.St->Hp->Prop}(h:Q (σ.set i (some x)) H):gName i x σ H Q:=h
theorem Zz {a b:TS}{D:Ends}{σ:L2.St}{H:Hp}(h:a { D with nx:=λσ' H'=>b D σ' H' } σ H):tSeq a b D σ H:=h
section
variable {K:TR}
theorem F8 {p:V->Bool}{i:Nat}{x:V}(h:xs[i]?=some x):(xs.take (i+1)).filter p=(xs.take i).filter p++(if p x=true then [x] else []):=by
 rw[GK,h];simp only [Y1h,qw,GE,zI]
theorem Kc {l:Addr}{p:V->Bool}{k:Nat}{fv:List Nat}{σ:L2.St}{Q:VK}
  (htl:∀ G:VK,G (.ref l) H->tl σ H G) (hl:SqL K H l xs) (hz:xs.length<=1000)
  (test:∀ (i:Nat) (x:V) (H1:Hp) (G:Bool->Hp->Prop),xs[i]?=some x->Same H H1->(∀ H2,Same H1 H2->G (p x) H2)->tt ((comp0 k fv σ).set 0 (some x)) H1 G)
  (h0:((comp0 k fv σ).length≠0))
  (fin:∀ (d:Addr) (H2:Hp),H d=none->Same H H2->H2 d=some (.lst (xs.filter p))->Q (.ref d) H2) :
  tComp (iList K tl) (gName 0) tt (tVar 0) k fv σ H Q:=by
 refine htl _ ⟨l,rfl,⟨_,hl⟩,λd hd=>?_⟩;refine⟨xs.length,λi ys H2=>Same H H2/\ys=(xs.take i).filter p,XD hz (by decide),⟨Same.new hd,rfl⟩,?_,?_⟩
 ·rintro i ys H2 hi ⟨S2,rfl⟩ hd2;have hl2:=Yr S2 hl;have ex:xs[i]?=some xs[i]:=by simp[hi]
  generalize xs[i]=x at ex;refine⟨⟨_,x,hl2,ex⟩,?_⟩;rintro y H3 ⟨rfl,fx⟩;have e:=fx _ hl2;rw[ex] at e
  cases e;refine U7 ?_;refine test i x H3 _ ex S2 λH4 S4=>?_;have hd4:=S4 _ _ hd2;have S24:=S2.trans S4;have fs:=F8 (p:=p) ex;by_cases e:p x=true
  ·rw[e];rw[XF e] at fs;have hgd:((comp0 k fv σ).set 0 (some x))[0]?=some (some x):=by
    rw[GV (by omega)]
   exact Wy ⟨x,hgd,hd4,Y7 S24 hd,fs.symm⟩
  have e':p x=false:=by simpa using e
  rw[e'];rw[XB e,GN] at fs;exact Yw ⟨hd4,S24,fs.symm⟩
 rintro ys H2 ⟨S2,rfl⟩ hd2;rw[JF] at hd2;exact⟨⟨_,Yr S2 hl,YF _⟩,fin d H2 hd S2 hd2⟩
theorem Fc {l:Addr}{f:V->V}{k:Nat}{fv:List Nat}{σ:L2.St}{Q:VK}
  (htl:∀ G:VK,G (.ref l) H->tl σ H G) (hl:SqL K H l xs) (hz:xs.length<=1000)
  (elt:∀ (i:Nat) (x:V) (H1:Hp) (G:VK),xs[i]?=some x->Same H H1->(∀ H2,Same H1 H2->G (f x) H2)->te ((comp0 k fv σ).set 0 (some x)) H1 G)
  (fin:∀ (d:Addr) (H2:Hp),H d=none->Same H H2->H2 d=some (.lst (xs.map f))->Q (.ref d) H2) :
  tComp (iList K tl) (gName 0) tYes te k fv σ H Q:=by
 refine htl _ ⟨l,rfl,⟨_,hl⟩,λd hd=>?_⟩;refine⟨xs.length,λi ys H2=>Same H H2/\ys=(xs.take i).map f,XD hz (by decide),⟨Same.new hd,rfl⟩,?_,?_⟩
 ·rintro i ys H2 hi ⟨S2,rfl⟩ hd2;have hl2:=Yr S2 hl;have ex:xs[i]?=some xs[i]:=by simp[hi]
  generalize xs[i]=x at ex;refine⟨⟨_,x,hl2,ex⟩,?_⟩;rintro y H3 ⟨rfl,fx⟩;have e:=fx _ hl2;rw[ex] at e
  cases e;refine Y2 ?_;refine elt i x H3 _ ex S2 λH4 S4=>?_;have hd4:=S4 _ _ hd2;refine⟨hd4,Y7 (S2.trans S4) hd,?_⟩;rw[GK,ex];simp
 rintro ys H2 ⟨S2,rfl⟩ hd2;rw[JF] at hd2;exact⟨⟨_,Yr S2 hl,YF _⟩,fin d H2 hd S2 hd2⟩
theorem Kd {P:TU}{d0:Addr}{es:List (List Rat × Addr × Addr)}{ep:Nat}{p:List Rat->Bool}{k:Nat}{fv:List Nat}{σ:L2.St}{Q:VK}
  (htl:∀ G:VK,G (.ref d0) H->tl σ H G) (hl:DcAt P w K H d0 es ep) (hz:es.length<=1000)
  (test:∀ (i:Nat) (e:List Rat × Addr × Addr) (H1:Hp) (G:Bool->Hp->Prop),es[i]?=some e->Same H H1->(∀ H2,Same H1 H2->G (p e.1) H2)->tt ((comp0 k fv σ).set 0 (some (.ref e.2.1))) H1 G)
  (h0:((comp0 k fv σ).length≠0))
  (fin:∀ (d:Addr) (H2:Hp),H d=none->Same H H2->H2 d=some (.lst ((es.filter λe=>p e.1).map λe=>V.ref e.2.1))->Q (.ref d) H2) :
  tComp (iDict P w K tl) (gName 0) tt (tVar 0) k fv σ H Q:=by
 refine htl _ ⟨d0,es,ep,rfl,hl,λd hd=>?_⟩;refine⟨es.length,λi ys H2=>Same H H2/\ys=((es.take i).filter λe=>p e.1).map λe=>V.ref e.2.1,XD hz (by decide),⟨Same.new hd,rfl⟩,?_,?_⟩
 ·rintro i ys H2 hi ⟨S2,rfl⟩ hd2;refine⟨⟨hl.same S2,hi⟩,?_⟩;rintro y H3 ⟨rfl,e,ee,rfl⟩;refine U7 ?_;refine test i e H3 _ ee S2 λH4 S4=>?_;have hd4:=S4 _ _ hd2;have S24:=S2.trans S4;have fs:((es.take (i+1)).filter λe=>p e.1).map (λe=>V.ref e.2.1)=((es.take i).filter λe=>p e.1).map (λe=>V.ref e.2.1)++(if p e.1=true then [V.ref e.2.1] else []):=by
   rw[GK,ee];simp only [Y1h,qw,GE,zI,XM];split <;> rfl
  by_cases z:p e.1=true
  ·rw[z];rw[XF z] at fs;have hgd:((comp0 k fv σ).set 0 (some (V.ref e.2.1)))[0]?=some (some (V.ref e.2.1)):=by
    rw[GV (by omega)]
   exact Wy ⟨_,hgd,hd4,Y7 S24 hd,fs.symm⟩
  have z':p e.1=false:=by simpa using z
  rw[z'];rw[XB z,GN] at fs;exact Yw ⟨hd4,S24,fs.symm⟩
 rintro ys H2 ⟨S2,rfl⟩ hd2;rw[JF] at hd2;exact⟨⟨hl.same S2,YF _⟩,fin d H2 hd S2 hd2⟩
end
theorem Fd {α:Type}{l:Addr}{as:TJ}{zs:List α}{g:α->List Rat}{k:Nat}{fv:List Nat}{σ:L2.St}{Q:VK}(R:Hp->Addr->α->Prop)(hext:∀ H1 H2 a z,Ext H1 H2->R H1 a z->R H2 a z)
  (htl:∀ G:VK,G (.ref l) H->tl σ H G) (hl:SqL K H l (as.map V.ref)) (hz:as.length<=1000) (hp:Paired (R H) as zs)
  (elt:∀ (i:Nat) (a:Addr) (z:α) (H1:Hp) (G:VK),as[i]?=some a->zs[i]?=some z->Same H H1->R H1 a z->(∀ c H2,Same H1 H2->RowAt K H2 c (g z)->G (.ref c) H2)->te ((comp0 k fv σ).set 0 (some (.ref a))) H1 G)
  (fin:∀ (d:Addr) (H2:Hp) (bs:TJ),H d=none->Same H H2->H2 d=some (.lst (bs.map V.ref))->Paired (RowAt K H2) bs (zs.map g)->Q (.ref d) H2) :
  tComp (iList K tl) (gName 0) tYes te k fv σ H Q:=by
 refine htl _ ⟨l,rfl,⟨_,hl⟩,λd hd=>?_⟩;have lp:=YW hp;refine⟨as.length,λi ys H2=>Same H H2/\∃ bs:List Addr,ys=bs.map V.ref/\Paired (RowAt K H2) bs ((zs.take i).map g),XD hz (by decide),⟨Same.new hd,[],rfl,by simpa using Paired.nil⟩,?_,?_⟩
 ·rintro i ys H2 hi ⟨S2,bs,rfl,P2⟩ hd2;have hl2:=Yr S2 hl;have ea:as[i]?=some as[i]:=by simp[hi]
  have ez:zs[i]?=some (zs[i]'(by omega)):=by simp
  generalize as[i]=a at ea;generalize (zs[i]'(by omega))=z at ez;have ex:(as.map V.ref)[i]?=some (V.ref a):=by rw[YE,ea];rfl
  refine⟨⟨_,V.ref a,hl2,ex⟩,?_⟩;rintro x H3 ⟨rfl,fx⟩;have e:=fx _ hl2;rw[ex] at e
  cases e;refine Y2 ?_;refine elt i a z H3 _ ea ez S2 (hext _ _ _ _ (Ext.same S2) (Paired.getB hp ea ez)) λc H4 S4 r4=>?_;have hd4:=S4 _ _ hd2;have E5:Ext H4 (upd H4 d (.lst (bs.map V.ref++[V.ref c]))):=Ext.upd hd4;refine⟨hd4,Y7 (S2.trans S4) hd,bs++[c],by simp,?_⟩;rw[Ye ez,XM];exact Paired.appP (Zk P2 ((Ext.same S4).trans E5)) (.cons (r4.ext E5) .nil)
 rintro ys H2 ⟨S2,bs,rfl,P2⟩ hd2;rw[lp,JF] at P2;exact⟨⟨_,Yr S2 hl,by simp⟩,fin d H2 bs hd S2 hd2 P2⟩
end Sb
namespace Sb
open PySem PySem.Spec PyProof.Rows L2
section
variable {P:TU}{w:World}{K:TR}{mg:TB}{base:Heap}
structure Touch (P:TU)(w:World)(K:TR)(H:Hp)(d:Addr)(es:List (List Rat × Addr × Addr))(ep:Nat)(tou:List Rat->List Nat):Prop where
 dc:DcAt P w K H d es ep
 ls:∀ e∈es,H e.2.2=some (.lst (natL (tou e.1)))
def nearR (rows:UC)(tou:List Rat->List Nat)(one other:UB):Bool :=
 decide ((rows.filter λr=>((tou one).filter λk=>decide (k∈tou other)).all λk=>decide (k∈tou r)).length=2)
theorem Mg (us:List Nat):(natL us).length=us.length:=YC ..
theorem Uy {us:List Nat}(x:V)(h:x∈natL us):flatV x=true:=by
 obtain⟨k,_,rfl⟩:=YZ.mp h;rfl
theorem Mh (us:List Nat):(natL us).all flatV=true:=GR.mpr λx h=>Uy x h
theorem Je (k:Nat)(us:List Nat):inV (V.int ((k:Nat):Int)) (natL us)=decide (k∈us):=by
 unfold inV natL;rw[Y02,JS,List.any_eq_true,JY];constructor
 ·rintro ⟨j,hj,e⟩;have e':eqV (V.int ((j:Nat):Int)) (V.int ((k:Nat):Int))=true:=e;have e2:(j:Int)=(k:Int):=by simpa [eqV] using e'
  have:j=k:=by omega
  exact this ▸ hj
 intro h;exact⟨k,h,by simp[eqV]⟩
theorem Gq (us vs:List Nat):(natL us).filter (λx=>inV x (natL vs))=natL (us.filter λk=>decide (k∈vs)):=by
 conv=>lhs;unfold natL
 rw[List.filter_map];unfold natL
 congr 1
 refine List.filter_congr λk _=>?_;exact Je k vs
theorem Be (us vs:List Nat):(natL us).map (λx=>V.bl (inV x (natL vs)))=(us.map λk=>decide (k∈vs)).map V.bl:=by
 conv=>lhs;unfold natL
 rw[GX,GX];refine List.map_congr_left λk _=>?_;show V.bl (inV (V.int ((k:Nat):Int)) (natL vs))=_;rw[Je];rfl
inductive spNear (P:TU) (w:World) (K:TR) (vs:TZ) (H:Hp) (Q:VK) (_z3:XK):Prop
 | i (d a b:Addr) (es:List (List Rat × Addr × Addr)) (ep:Nat) (tou:List Rat->List Nat) (one other:UB) (_:vs=[.ref d,.ref a,.ref b]) (_:Touch P w K H d es ep tou) (_:RowAt K H a one) (_:RowAt K H b other) (_:one∈es.map (·.1)) (_:other∈es.map (·.1)) (_:es.length<=1000) (_:∀ r,(tou r).length<=1000)
  (_:∀ H',Same H H'->Q (.bl (nearR (es.map (·.1)) tou one other)) H')
theorem Z3k (D:Def K mg "are_neighbours" iC UZ)(T:Blt mg)(hal:mg "all"=none):Has P w K mg base 2 "are_neighbours" UZ (spNear P w K):=by
 refine D.h9 (N:=["touching","one","other","both","beside"]) fsc λH Q hr h nd=>?_;obtain⟨d,a,b,es,ep,tou,one,other,rfl,hT,hA,hB,m1,m2,hz,hz2,k⟩:=h;have nd1:(["place","touching","other"]:List Str).Nodup:=by decide +kernel
 have nd2:(["corner","touching","both"]:List Str).Nodup:=by decide +kernel
 have nd3:(["place","corner","touching"]:List Str).Nodup:=by decide +kernel
 refine⟨_,(Z9 (Zh (i:=3) nd rfl (Or.inr rfl) (Y0 (N:=["place","touching","other"]) (k:=1) (fv:=[0,2]) rfl (Y6 (Zi (Rj (P:=P) (w:=w) (K:=K) (by exact hr.units)) (pv 0) (pv 1) (λ_ _=>rfl)))
  (λ_ _ _ _ _=>Zf (i:=0) nd1 rfl (Or.inl rfl)) (λ_ _ _ _ _=>X8 (Zp (Lv (K:=K)) (pv 0) (Zi (Rj (P:=P) (w:=w) (K:=K) (by exact hr.units)) (pv 1) (pv 2) (λ_ _=>rfl)) rfl)) (λ_ _ _ _ _=>(pv 0)) Zj))
 (Z9 (C3 (i:=4) (N:=["corner","touching","both"]) (k:=1) (fv:=[0,3]) (x0:="corner") nd rfl (Or.inl rfl) rfl (C7 (P:=P) (w:=w) (K:=K) (pv 0))
  (λ_ _ _ _ _=>Zf (i:=0) nd2 rfl (Or.inr rfl)) (λ_ _ _ _ _=>X8 (Yo (Zq (Fj (K:=K) (by rfl)) rfl hal PyProof.Rows.boot_all (Z0 (Y0 (N:=["place","corner","touching"]) (k:=1) (fv:=[0,1]) rfl (Ss (K:=K) (pv 2))
  (λ_ _ _ _ _=>Zf (i:=0) nd3 rfl (Or.inl rfl)) (λ_ _ _ _ _=>Zy) (λ_ _ _ _ _=>(Xb (Lv (K:=K)) (pv 0) (Zi (Rj (P:=P) (w:=w) (K:=K) (by exact hr.units)) (pv 2) (pv 1) (λ_ _=>rfl)) rfl)) Zj) Z7)))) (λ_ _ _ _ _=>(pv 0)) Zj)
 (Za (Zg (Xb Wv (Zq Zv rfl T.len qD (Z0 (pv 4) Z7)) Z8 (Zr _)))))),?_⟩
 have idx:∀ {x:UB},x∈es.map (·.1)->∃ (i:Nat) (e:List Rat × Addr × Addr),es[i]?=some e/\e.1=x:=λ{x} hx=>by
  obtain⟨e,he,ex⟩:=YZ.mp hx;obtain⟨i,ei⟩:=XL he;exact⟨i,e,ei,ex⟩
 obtain⟨i1,e1,ei1,rfl⟩:=idx m1;obtain⟨i2,e2,ei2,rfl⟩:=idx m2;have l1:=hT.ls e1 (YD ei1);have l2:=hT.ls e2 (YD ei2);refine Yb ?_;refine Kc (K:=K) (tl:=tOp (rIxD P w K) (tVar 0) (tVar 1)) (tt:=tTest (tOp (rIn K false) (tVar 0) (tOp (rIxD P w K) (tVar 1) (tVar 2)))) (k:=1) (fv:=[0,2]) (p:=λx=>inV x (natL (tou e2.1))) (λG g=>⟨_,rfl,_,rfl,d,a,es,i1,e1,rfl,rfl,ep,hT.dc,ei1,hA,g⟩) (SqL.of l1) (by rw[Mg];exact hz2 _) (λi x H1 G ex S1 hG=>?_) (by simp[comp0]) λd1 H1 f1 S1 q1=>?_
 ·have fx:flatV x=true:=Uy x (YD ex);exact⟨_,rfl,_,rfl,_,rfl,d,b,es,i2,e2,rfl,rfl,ep,hT.dc.same S1,ei2,hB.ext (Ext.same S1),_,_,rfl,.inl (SqL.of (S1 _ _ l2)),fx,Mh _,_,rfl,hG _ (Same.refl _)⟩
 have q1':H1 d1=some (.lst (natL ((tou e1.1).filter λk=>decide (k∈tou e2.1)))):=by rw[q1,Gq]
 refine Zu ?_;dsimp only;refine Zz (Yb ?_);refine Kd (K:=K) (P:=P) (w:=w) (tl:=tVar 0) (k:=1) (fv:=[0,3]) (p:=λr=>((tou e1.1).filter λk=>decide (k∈tou e2.1)).all λk=>decide (k∈tou r)) (λG g=>⟨_,rfl,g⟩) (hT.dc.same S1) hz (λi e H2 G ei S2 hG=>?_) (by simp[comp0]) λd2 H2 f2 S2 q2=>?_
 ·have le:=(S1.trans S2) _ _ (hT.ls e (YD ei));have ke:=(hT.dc.ks e (YD ei)).ext (Ext.same (S1.trans S2));refine Z06 (Ta ?_);refine Fc (K:=K) (tl:=tVar 2) (k:=1) (fv:=[0,1]) (f:=λx=>.bl (inV x (natL (tou e.1)))) (λG g=>⟨_,rfl,g⟩) (SqL.of (S2 _ _ q1')) (by rw[Mg];exact XD (GM _ _) (hz2 _)) (λj x H3 G' ex S3 hG'=>?_) λd3 H3 f3 S3 q3=>?_
  ·have fx:flatV x=true:=Uy x (YD ex);exact⟨_,rfl,_,rfl,_,rfl,d,e.2.1,es,i,e,rfl,rfl,ep,hT.dc.same ((S1.trans S2).trans S3),ei,ke.ext (Ext.same S3),_,_,rfl,.inl (SqL.of (S3 _ _ le)),fx,Mh _,hG' _ (Same.refl _)⟩
  refine⟨d3,((tou e1.1).filter λk=>decide (k∈tou e2.1)).map λk=>decide (k∈tou e.1),rfl,SqL.of (by rw[q3,Be]),_,rfl,?_⟩;rw[Y1j];exact hG H3 S3
 refine⟨_,rfl,d2,_,rfl,.inl (SqL.of q2),rfl,?_⟩;refine Eq.mp (congrArg (λb=>Q (V.bl b) H2) ?_) (k H2 (S1.trans S2));unfold nearR;rw[List.filter_map,YC,YC,zg];constructor
 ·intro z;exact congrArg V.int (by rw[show ((es.filter λe=>((tou e1.1).filter λk=>decide (k∈tou e2.1)).all λk=>decide (k∈tou e.1)).length:Nat)=2 from z];rfl)
 intro z;have z':=V.int.inj z;show (es.filter λe=>((tou e1.1).filter λk=>decide (k∈tou e2.1)).all λk=>decide (k∈tou e.1)).length=2;omega
end
section
variable {P:TU}{w:World}{K:TR}{mg:TB}{base:Heap}
def inR (fss:UC)(r:UB):List (List Rat):=fss.filter λf=>decide ((mn f r).1<0)
def outR (fss:UC)(r:UB):List (List Rat):=fss.filter λf=>decide (0<(mn f r).1)
def cutC (fss ess:UC)(r:UB):List (List Rat) :=
 (fss.filter λf=>!decide (f∈outR fss r))++(inR fss r).flatMap λone=>((outR fss r).filter λo=>nearR fss (touR ess) one o).map λo=>crR one o r
def RowN (n c:Nat)(r:UB):Prop:=r.length=c/\∃ D Ws,RepL n D Ws r
theorem RowN.mean {n c:Nat}{r:UB}(h:RowN n c r)(k:RowN n c e)(hc:c<=1000)(hn:n<=20000):MeanOk r e:=by
 obtain⟨l1,D,Ws,r1⟩:=h;obtain⟨l2,D',Zs,r2⟩:=k;exact⟨by omega,by omega,n,n,D,D',Ws,Zs,r1,r2,by omega⟩
inductive spCutOff (K:TR) (vs:TZ) (H:Hp) (Q:VK) (_z3:XK):Prop
 | i (l m e:Addr) (as bs:TJ) (fss ess:UC) (r:UB) (n c:Nat) (_:vs=[.ref l,.ref m,.ref e]) (_:H l=some (.lst (as.map V.ref))) (_:Paired (RowAt K H) as fss) (_:H m=some (.lst (bs.map V.ref))) (_:Paired (RowAt K H) bs ess) (_:RowAt K H e r) (_:c<=1000) (_:n<=20000) (_:∀ f∈fss,RowN n c f) (_:∀ f∈ess,RowN n c f) (_:RowN n c r) (_:fss.Nodup) (_:fss.length<=60) (_:ess.length<=60)
  (_:∀ (d:Addr) (H':Hp),Same H H'->RowsAt K H' d (cutC fss ess r)->Q (.ref d) H')
theorem Cv (D:Def K mg "cut_off" jB VA)(hdi:mg "dict"=none)(fW:Has P w K mg base 5 "touched" UW (spTouched K))(eM:Z5 P w K mg base)(eH:Z4 P w K mg base)(fD:Has P w K mg base 2 "are_neighbours" UZ (spNear P w K))(fU:Has P w K mg base 5 "crossing" UY (spCrossing K))(eC:Con K mg "NOUGHT" (0,1)) :
  Has P w K mg base 6 "cut_off" VA (spCutOff K) true:=by
 refine D.h9 (N:=["found","edges","row","touching","inside","outside","kept","one","near"]) fsc λH Q hr h nd=>?_;obtain⟨l,m,e,as,bs,fss,ess,r,n,c,rfl,hl,hp,hm,hq,he,hc,hn,hf,hs,hrn,hnd,hz,hz2,k⟩:=h;obtain⟨c_NOUGHT,m_NOUGHT,s_NOUGHT⟩:=eC;have nd1:(["corner","edges"]:List Str).Nodup:=by decide +kernel
 have nd2:(["corner","row"]:List Str).Nodup:=by decide +kernel
 have nd4:(["corner","outside"]:List Str).Nodup:=by decide +kernel
 have nd5:(["other","touching","one"]:List Str).Nodup:=by decide +kernel
 have nd6:(["other","row","one"]:List Str).Nodup:=by decide +kernel
 refine⟨_,(Z9 (Zh (i:=3) nd rfl (Or.inr rfl) (Y1 (Kg (P:=P) (w:=w) (K:=K) (by exact hr.hd rfl) (by exact hr.units)) rfl hdi PyProof.Rows.boot_dict (Z0 (Y0 (N:=["corner","edges"]) (k:=1) (fv:=[1]) rfl (Y6 (pv 0))
  (λ_ _ _ _ _=>Zf (i:=0) nd1 rfl (Or.inl rfl)) (λ_ _ _ _ _=>Zy) (λ_ _ _ _ _=>(Yp (Z0 (pv 0) (Z0 (Zc fW hr (Z0 (pv 1) (Z0 (pv 0) Z7))) Z7)))) Zj) Z7)))
 (Z9 (X9 (i:=4) (N:=["corner","row"]) (k:=1) (fv:=[2]) nd rfl (Or.inl rfl) rfl (Y6 (pv 0))
  (λ_ _ _ _ _=>Zf (i:=0) nd2 rfl (Or.inl rfl)) (λ_ _ _ _ _=>X8 (Yo (Zc eM hr (Z0 (Zc eH hr (Z0 (pv 0) (Z0 (pv 1) Z7))) (Z0 (Yf (v:=.ref c_NOUGHT) rfl m_NOUGHT rfl) Z7))))) (λ_ _ _ _ _=>(pv 0)) Zj)
 (Z9 (Zh (i:=5) nd rfl (Or.inr rfl) (Y0 (N:=["corner","row"]) (k:=1) (fv:=[2]) rfl (Y6 (pv 0))
  (λ_ _ _ _ _=>Zf (i:=0) nd2 rfl (Or.inl rfl)) (λ_ _ _ _ _=>X8 (Yo (Zc eM hr (Z0 (Yf (v:=.ref c_NOUGHT) rfl m_NOUGHT rfl) (Z0 (Zc eH hr (Z0 (pv 0) (Z0 (pv 1) Z7))) Z7))))) (λ_ _ _ _ _=>(pv 0)) Zj))
 (Z9 (X9 (i:=6) (N:=["corner","outside"]) (k:=1) (fv:=[5]) nd rfl (Or.inl rfl) rfl (Y6 (pv 0))
  (λ_ _ _ _ _=>Zf (i:=0) nd4 rfl (Or.inl rfl)) (λ_ _ _ _ _=>X8 (Zp (Gf (K:=K) (by exact hr.units)) (pv 0) (pv 1) rfl)) (λ_ _ _ _ _=>(pv 0)) Zj)
 (Z9 (Ys XZ rfl (Y6 (pv 4)) (Zf (i:=7) nd rfl (Or.inr rfl))
 (Z9 (X9 (i:=8) (N:=["other","touching","one"]) (k:=1) (fv:=[3,7]) nd rfl (Or.inl rfl) rfl (Y6 (pv 5))
  (λ_ _ _ _ _=>Zf (i:=0) nd5 rfl (Or.inl rfl)) (λ_ _ _ _ _=>X8 (Yo (Zc fD hr (Z0 (pv 1) (Z0 (pv 2) (Z0 (pv 0) Z7)))))) (λ_ _ _ _ _=>(pv 0)) Zj)
 (Za (Xa (U3 JG Y0u Y0v Qb (pv 6) (Z0 (Y0 (N:=["other","row","one"]) (k:=1) (fv:=[2,7]) rfl (Y6 (pv 8))
  (λ_ _ _ _ _=>Zf (i:=0) nd6 rfl (Or.inl rfl)) (λ_ _ _ _ _=>Zy) (λ_ _ _ _ _=>(Zc fU hr (Z0 (pv 2) (Z0 (pv 0) (Z0 (pv 1) Z7))))) Zj) Z7))))))
 (Za (Zg (pv 6)))))))),?_⟩
 have lp:=YW hp;refine Zz (Yb (Z06 (Ta ?_)));refine⟨_,rfl,l,rfl,⟨_,SqL.of hl⟩,λd hd=>?_⟩;refine⟨as.length,λi ys H2=>Same H H2/\∃ es:List (List Rat × Addr × Addr),es.map (·.1)=fss.take i/\Paired (λv e=>∃ t,v=V.ref t/\SqT K H2 t [.ref e.2.1,.ref e.2.2]/\RowAt K H2 e.2.1 e.1) ys es/\∀ e∈es,H2 e.2.2=some (.lst (natL (touR ess e.1)))/\e.2.2≠d,XD (show as.length<=60 by omega) (by decide),⟨Same.new hd,[],rfl,.nil,λe he=>by cases he⟩,?_,?_⟩
 ·rintro i ys H2 hi ⟨S2,es,ef,P2,L2'⟩ hd2;have ea:as[i]?=some as[i]:=by simp[hi]
  have ez:fss[i]?=some (fss[i]'(by omega)):=by simp
  generalize as[i]=a at ea;generalize (fss[i]'(by omega))=z at ez;have ex:(as.map V.ref)[i]?=some (V.ref a):=by rw[YE,ea];rfl
  have hl2:=S2 _ _ hl;refine⟨⟨_,V.ref a,SqL.of hl2,ex⟩,?_⟩;rintro x H3 ⟨rfl,fx⟩;have e':=fx _ (SqL.of hl2);rw[ex] at e'
  cases e';have mz:=YD ez;have ra:=(Paired.getB hp ea ez).ext (Ext.same S2);refine Y2 ?_;refine⟨_,rfl,_,rfl,_,rfl,m,a,bs,ess,z,rfl,S2 _ _ hm,Zk hq (Ext.same S2),ra,by omega,λf hf'=>(hf z mz).mean (hs f hf') hc hn,λd4 H4 f4 S4 q4=>⟨sz2,λp hp4=>?_⟩⟩;have hd4:=S4 _ _ hd2;have npd:d≠p:=Zd hd4 hp4;have hd5:(upd H4 p (.tup [V.ref a,V.ref d4])) d=some (.lst ys):=by rw[Ze npd];exact hd4
  have S5:=Same.new (o:=.tup [V.ref a,V.ref d4]) hp4;have E6:Ext (upd H4 p (.tup [V.ref a,V.ref d4])) (upd (upd H4 p (.tup [V.ref a,V.ref d4])) d (.lst (ys++[V.ref p]))):=Ext.upd hd5;have E46:=(Ext.same S5).trans E6;have n4:d4≠d:=λz=>by rw[z,hd2] at f4;cases f4
  refine⟨hd5,Y7 ((S2.trans S4).trans S5) hd,es++[(z,a,d4)],by rw[XM,ef,Ye ez];rfl,?_,?_⟩
  ·refine Paired.appP (Paired.mapP P2 λv e ⟨t,e1,e2,e3⟩=>⟨t,e1,((Ext.same S4).trans E46).sq e2,e3.ext ((Ext.same S4).trans E46)⟩) (.cons ⟨p,rfl,E6.sq (SqT.of Zb),ra.ext ((Ext.same S4).trans E46)⟩ .nil)
  intro e he';rcases XH.mp he' with he' | he'
  ·obtain⟨e1,e2⟩:=L2' e he';exact⟨by rw[Ze e2];exact S5 _ _ (S4 _ _ e1),e2⟩
  rw[XA.mp he'];exact⟨by show upd _ d _ d4=_;rw[Ze n4];exact S5 _ _ q4,n4⟩
 rintro ys H2 ⟨S2,es,ef,P2,L2'⟩ hd2;rw[lp,JF] at ef;refine⟨⟨_,SqL.of (S2 _ _ hl),by simp⟩,?_⟩;refine⟨d,ys,es,rfl,SqL.of hd2,P2,by rw[ef];exact hnd,λdt ep hdt=>?_⟩;have S3:=Same.new (o:=dcO P w dt es ep) hdt;have key:∀ (ys:TZ) (es:List (List Rat × Addr × Addr)),Paired (λv e=>∃ t,v=V.ref t/\SqT K H2 t [.ref e.2.1,.ref e.2.2]/\RowAt K H2 e.2.1 e.1) ys es->∀ e∈es,RowAt K H2 e.2.1 e.1:=λys es h=>by
  induction h with
  | nil=>intro e he;cases he
  | cons h1 _ ih =>
   intro e he;rcases YK.mp he with rfl | he
   ·obtain⟨t,_,_,r⟩:=h1;exact r
   exact ih e he
 have hT:Touch P w K (upd H2 dt (dcO P w dt es ep)) dt es ep (touR ess):=⟨⟨Zb,λe he=>(key _ _ P2 e he).ext (Ext.same S3),by rw[ef];exact hnd⟩,λe he=>S3 _ _ (L2' e he).1⟩;have S23:=S2.trans S3;generalize upd H2 dt (dcO P w dt es ep)=H3 at *
 refine Zu ?_;dsimp only;have meanT:∀ {H4 H5:Hp} {a:Addr} {z:UB},Same H H4->RowAt K H4 a z->z∈fss->∀ (G:VK),(∀ c4 H5,Same H4 H5->SqT K H5 c4 [.int (mn z r).1,.int (mn z r).2]->G (.ref c4) H5)->spMeanW K [.ref a,.ref e] H4 G E0:=λ{H4 H5 a z} S4 ra mz G hG=>by
  obtain⟨xe,qe,re⟩:=he.ext (Ext.same S4);obtain⟨xa,qa,ra'⟩:=ra;obtain⟨l1,D1,W1,r1⟩:=hf z mz;obtain⟨l2,D2,W2,r2⟩:=hrn;exact⟨a,e,xa,xe,z,r,n,n,D1,D2,W1,W2,rfl,.inr qa,ra',.inr qe,re,by omega,by omega,r1,r2,by omega,by omega,by omega,λc4 H5 S5 q5=>hG c4 H5 S5 q5⟩
 have meanG:∀ z∈fss,Good 40010 (mn z r):=λz mz=>by
  obtain⟨l1,D1,W1,r1⟩:=hf z mz;obtain⟨l2,D2,W2,r2⟩:=hrn;exact (Wo r1 r2 (by omega) (by omega)).mono (by omega)
 have b01:Bd 1 (0:Int):=(by show (0:Int).natAbs<2 ^ 1;decide);have b11:Bd 1 (1:Int):=(by show (1:Int).natAbs<2 ^ 1;decide);refine Zz (Yb ?_);refine Xm (K:=K) (α:=List Rat) (tl:=tVar 0) (k:=1) (fv:=[2]) (l:=l) (as:=as) (zs:=fss) (q:=λf=>decide ((mn f r).1<0)) (λH' a r=>RowAt K H' a r) (λ_ _ _ _ e h=>h.ext e) (λG g=>⟨_,rfl,g⟩) (SqL.of (S23 _ _ hl)) (by omega) (Zk hp (Ext.same S23)) (λi a z H4 G ea ez S4 ra hG=>?_) (by simp[comp0]) λd1 H4 is1 f1 S4 q4 P4 M4=>?_
 ·have mz:=YD ez;have g:=meanG z mz;refine⟨_,rfl,_,rfl,meanT (H5:=H4) (S23.trans S4) ra mz _ λc5 H5 S5 q5=>?_⟩;refine⟨c5,c_NOUGHT,_,_,0,1,rfl,q5,s_NOUGHT _,g.b1.mulOk b11 (by omega) (by omega),b01.mulOk g.b2 (by omega) (by omega),_,rfl,?_⟩;have e1:decide ((mn z r).1*1<0*(mn z r).2)=decide ((mn z r).1<0):=by rw[zg];omega
  rw[e1];exact hG H5 S5
 have S34:=S23.trans S4;refine Zu ?_;dsimp only;refine Zz (Yb ?_);refine Xm (K:=K) (α:=List Rat) (tl:=tVar 0) (k:=1) (fv:=[2]) (l:=l) (as:=as) (zs:=fss) (q:=λf=>decide (0<(mn f r).1)) (λH' a r=>RowAt K H' a r) (λ_ _ _ _ e h=>h.ext e) (λG g=>⟨_,rfl,g⟩) (SqL.of (S34 _ _ hl)) (by omega) (Zk hp (Ext.same S34)) (λi a z H5 G ea ez S5 ra hG=>?_) (by simp[comp0]) λd2 H5 os f2 S5 q5 P5 M5=>?_
 ·have mz:=YD ez;have g:=meanG z mz;refine⟨_,rfl,_,rfl,meanT (H5:=H5) (S34.trans S5) ra mz _ λc5 H6 S6 q6=>?_⟩;refine⟨c_NOUGHT,c5,0,1,_,_,rfl,s_NOUGHT _,q6,b01.mulOk g.b2 (by omega) (by omega),g.b1.mulOk b11 (by omega) (by omega),_,rfl,?_⟩;have e1:decide (0*(mn z r).2<(mn z r).1*1)=decide (0<(mn z r).1):=by rw[zg];omega
  rw[e1];exact hG H6 S6
 have S35:=S34.trans S5;refine Zu ?_;dsimp only;refine Zz (Yb ?_);refine Xm (K:=K) (α:=List Rat) (tl:=tVar 0) (k:=1) (fv:=[5]) (l:=l) (as:=as) (zs:=fss) (q:=λf=>!decide (f∈outR fss r)) (λH' a r=>RowAt K H' a r) (λ_ _ _ _ e h=>h.ext e) (λG g=>⟨_,rfl,g⟩) (SqL.of (S35 _ _ hl)) (by omega) (Zk hp (Ext.same S35)) (λi a z H6 G ea ez S6 ra hG=>?_) (by simp[comp0]) λdk H6 ks f3 S6 q6 P6 M6=>?_
 ·exact⟨_,rfl,_,rfl,a,d2,z,os,outR fss r,rfl,rfl,ra,SqL.of (S6 _ _ q5),Zk P5 (Ext.same S6),_,rfl,hG H6 (Same.refl _)⟩
 have S36:=S35.trans S6;refine Zu ?_;dsimp only;have li:is1.length<=60:=by rw[YW P4];exact XD (GM _ _) hz
 have lo:os.length<=60:=by rw[YW P5];exact XD (GM _ _) hz
 have lk:ks.length<=60:=by rw[YW P6];exact XD (GM _ _) hz
 have les:es.length<=60:=by have:=congrArg List.length ef;rw[YC] at this;omega
 have hT5:∀ {H':Hp},Same H5 H'->Touch P w K H' dt es ep (touR ess):=λ{H'} S'=>⟨hT.dc.same ((S4.trans S5).trans S'),λe he=>S' _ _ (S5 _ _ (S4 _ _ (hT.ls e he)))⟩;have tl:∀ x,(touR ess x).length<=1000:=λx=>by
  unfold touR;refine XD (GM _ _) ?_;rw[zZ];omega
 refine Zz ⟨_,rfl,d1,rfl,⟨_,SqL.of (S6 _ _ (S5 _ _ q4))⟩,?_⟩;refine X0 (K:=K) (xs:=is1.map V.ref) (λi σ H'=>Same H5 H'/\(∃ cs:List Addr,H' dk=some (.lst (cs.map V.ref))/\Paired (RowAt K H') cs ((fss.filter λf=>!decide (f∈outR fss r))++((inR fss r).take i).flatMap λone=>((outR fss r).filter λo=>nearR fss (touR ess) one o).map λo=>crR one o r)/\cs.length<=60+i*60)/\∃ x y,σ=[some (.ref l),some (.ref m),some (.ref e),some (.ref dt),some (.ref d1),some (.ref d2),some (.ref dk),x,y]) ⟨S6,⟨ks,q6,by simpa using P6,by omega⟩,none,none,rfl⟩ (λi σ H' _ h=>SqL.of (h.1 _ _ (S5 _ _ q4))) ?_ ?_
 ·rintro i x σ H7 hx ⟨S7,⟨cs,q7,P7,l7⟩,x1,y1,rfl⟩;have hi:i<is1.length:=by have:=(YH.mp hx).1;simpa using this
  have li4:=YW P4;have ea:is1[i]?=some is1[i]:=by simp[hi]
  have ez:(inR fss r)[i]?=some ((inR fss r)[i]'(by unfold inR;omega)):=by simp
  generalize is1[i]=a1 at ea;generalize ((inR fss r)[i]'(by unfold inR;omega))=z at ez;rw[YE,ea] at hx
  cases hx;have mzi:=YD ez;have mz:z∈fss:=(XI.mp mzi).1;have nz:(mn z r).1<0:=by simpa using (XI.mp mzi).2
  have S47:=S5.trans S7;have rz:=(Paired.getB P4 ea ez).ext (Ext.same S47);refine Zu (Zz (Yb ?_));refine Xm (K:=K) (α:=List Rat) (tl:=tVar 5) (k:=1) (fv:=[3,7]) (l:=d2) (as:=os) (zs:=outR fss r) (q:=λo=>nearR fss (touR ess) z o) (λH' a r=>RowAt K H' a r) (λ_ _ _ _ e h=>h.ext e) (λG g=>⟨_,rfl,g⟩) (SqL.of (S7 _ _ q5)) (by omega) (Zk P5 (Ext.same S7)) (λj b o H8 G eb eo S8 rb hG=>?_) (by simp[comp0]) λd8 H8 ns f8 S8 q8 P8 M8=>?_
  ·have mo:o∈fss:=(XI.mp (YD eo)).1;refine⟨_,rfl,_,rfl,_,rfl,dt,a1,b,es,ep,touR ess,z,o,rfl,hT5 (S7.trans S8),rz.ext (Ext.same S8),rb,by rw[ef];exact mz,by rw[ef];exact mo,by omega,tl,λH9 S9=>?_⟩;rw[ef];exact⟨_,rfl,hG H9 S9⟩
  have l5:(outR fss r).length<=60:=by have:=YW P5;unfold outR;omega
  have ln:ns.length<=60:=by rw[YW P8];exact XD (GM _ _) l5
  refine Zu ?_;refine⟨_,rfl,.inl ⟨rfl,_,SqL.of (S8 _ _ q7)⟩,?_⟩;refine Ta ?_;refine Fd (K:=K) (α:=List Rat) (tl:=tVar 8) (k:=1) (fv:=[2,7]) (l:=d8) (as:=ns) (zs:=(outR fss r).filter λo=>nearR fss (touR ess) z o) (g:=λo=>crR z o r) (λH' a r=>RowAt K H' a r) (λ_ _ _ _ e h=>h.ext e) (λG g=>⟨_,rfl,g⟩) (SqL.of q8) (by omega) P8 (λj b o H9 G eb eo S9 rb hG=>?_) λd9 H9 bs' f9 S9 q9 P9=>?_
  ·have mo:=(XI.mp (YD eo)).1;have mo1:o∈fss:=(XI.mp mo).1;have po:0<(mn o r).1:=by simpa using (XI.mp mo).2
   have h0:(subR (mn z r) (mn o r)).1≠0:=λz0=>by
    have g1:=meanG z mz;have g2:=meanG o mo1;have q0:=Pi g1.low g2.low;have:qv (subR (mn z r) (mn o r))=0:=by unfold qv;rw[z0];grind
    have a1:=(Lo g2.pos).mp po;have a2:qv (mn z r)<0:=by
     have:¬ 0<=qv (mn z r):=λy=>by have:=(So g1.pos).mpr y;omega
     grind
    grind
   obtain⟨l1,D1,W1,r1⟩:=hf z mz;obtain⟨l2,D2,W2,r2⟩:=hf o mo1;obtain⟨l3,D3,W3,r3⟩:=hrn;exact⟨_,rfl,_,rfl,_,rfl,a1,b,e,z,o,r,n,D1,D2,D3,W1,W2,W3,rfl,rz.ext (Ext.same (S8.trans S9)),rb,he.ext (Ext.same ((S35.trans S7).trans (S8.trans S9))),by omega,by omega,by omega,r1,r2,r3,hn,h0,λc0 H10 S10 r10=>hG c0 H10 S10 r10⟩
  have lb:bs'.length<=60:=by rw[YW P9,YC,<-YW P8];exact ln
  have q79:=S9 _ _ (S8 _ _ q7);have E9:Ext H9 (upd H9 dk (.lst (cs.map V.ref++bs'.map V.ref))):=Ext.upd q79;refine⟨dk,d9,cs.map V.ref,bs'.map V.ref,rfl,rfl,q79,q9,XD (show _<=10000 by rw[YC,YC];omega) (by decide),?_⟩;refine⟨Y7 (S7.trans (S8.trans S9)) f3,⟨cs++bs',by rw[Zb,XM],?_,by rw[YX];omega⟩,_,_,rfl⟩;rw[Ye ez,zB,List.flatMap_cons,List.flatMap_nil,GN,<-zT];exact Paired.appP (Zk P7 ((Ext.same (S8.trans S9)).trans E9)) (Zk P9 E9)
 rintro σ H7 ⟨S7,⟨cs,q7,P7,l7⟩,x1,y1,rfl⟩;have li4:=YW P4;rw[YC,YV (by unfold inR;omega)] at P7;refine⟨_,rfl,k dk H7 ((S35.trans S7)) ⟨cs,q7,P7⟩⟩
end
end Sb
namespace Sb
open PySem L2
theorem Tk {n:Nat}:∀ {f g:UB},Lows f->Lows g->f.length=n->g.length=n->(∀ i,i<n->qr f i=qr g i)->f=g:=λ{f g} lf lg h1 h2 h=>by
 refine zz (by omega) λi a b=>?_;have e:=h i (by omega);unfold qr at e;have e1:f.getD i (0,1)=f[i]:=by simp[List.getD,a]
 have e2:g.getD i (0,1)=g[i]:=by simp[List.getD,b]
 rw[e1,e2] at e;exact Vn (lf _ (XG a)) (lg _ (XG b)) e
theorem V6 {n:Nat}{f:UB}(lf:Lows f)(le:Lows e)(h1:f.length=n)(h2:e.length=n):qv (mn f e)=dq n (qr f) (qr e):=Dy lf le h1 h2
theorem Kz {n:Nat}{f:UB}(lf:Lows f)(le:Lows e)(h1:f.length=n)(h2:e.length=n):mn f e=(0,1) ↔ dq n (qr f) (qr e)=0:=by
 rw[<-V6 lf le h1 h2];constructor
 ·intro z;rw[z];exact M0
 intro z;exact Vn (Wn lf le) Tn (by rw[z,M0])
theorem Dv {r:Rat}(lr:Low r)(ls:Low s)(h:s.1≠0):Low (parR r s)/\qv (parR r s)=qv r / qv s:=by
 have q0:r.2*s.1≠0:=Pn lr.pos h;refine⟨Yd q0,?_⟩;have cr:=Xw (r.1*s.2) (r.2*s.1);have b1:=Yx lr.pos;have b2:=Yx ls.pos;have b3:(s.1:QQ)≠0:=λz=>h (by have:=_root_.Rat.intCast_inj.mp (show ((s.1:Int):QQ)=((0:Int):QQ) by rw[z];rfl);exact this);have key:qv (parR r s)*((r.2:QQ)*(s.1:QQ))=(r.1:QQ)*(s.2:QQ):=by
  have lp:=(Yd (p:=r.1*s.2) q0).pos;have b4:=Yx lp;have cr':((nT (r.1*s.2) (r.2*s.1):Int):QQ)*((r.2*s.1:Int):QQ)=((r.1*s.2:Int):QQ)*((nB (r.1*s.2) (r.2*s.1):Int):QQ):=by
   rw[<-_root_.Rat.intCast_mul,<-_root_.Rat.intCast_mul,cr]
  rw[_root_.Rat.intCast_mul,_root_.Rat.intCast_mul] at cr';have b4':((nB (r.1*s.2) (r.2*s.1):Int):QQ)≠0:=b4;show ((nT (r.1*s.2) (r.2*s.1):Int):QQ) / ((nB (r.1*s.2) (r.2*s.1):Int):QQ)*_=_;grind
 unfold qv at *
 grind
theorem Z2e {n:Nat}{u v r:UB}(lu:Lows u)(lv:Lows v)(lr:Lows r)(h1:u.length=n)(h2:v.length=n)(h3:r.length=n)(nu:(mn u r).1<0)(pv:0<(mn v r).1) :
  Lows (crR u v r)/\(crR u v r).length=n/\∀ k,k<n->qr (crR u v r) k=crs n (qr r) (qr u) (qr v) k:=by
 have m1:=Wn lu lr;have m2:=Wn lv lr;have s1:Low (subR (mn u r) (mn v r)):=Yd (GP (XN m1.pos m2.pos));have a1:0<qv (mn v r):=(Lo m2.pos).mp pv;have a2:qv (mn u r)<0:=by
  have:¬ 0<=qv (mn u r):=λy=>by have:=(So m1.pos).mpr y;omega
  grind
 have q0:=Pi m1 m2;have h0:(subR (mn u r) (mn v r)).1≠0:=λz0=>by
  have:qv (subR (mn u r) (mn v r))=0:=by unfold qv;rw[z0];grind
  grind
 obtain⟨lb,qb⟩:=Dv m1 s1 h0;rw[q0,V6 lu lr h1 h3,V6 lv lr h2 h3] at qb;have lb':Low (byR u v r):=lb;have l1:Low (subR (1,1) (byR u v r)):=Yd (GP (XN (by decide) lb'.pos));have q1:qv (subR (1,1) (byR u v r))=1 - qv (byR u v r):=by rw[Pi Mo lb',Dz]
 have el:∀ {a b:Rat},Low a->Low b->Low (addR (mulR' a (subR (1,1) (byR u v r))) (mulR' b (byR u v r)))/\qv (addR (mulR' a (subR (1,1) (byR u v r))) (mulR' b (byR u v r)))=qv a*(1 - qv (byR u v r))+qv b*qv (byR u v r):=λ{a b} la lb2=>by
  have x1:Low (mulR' a (subR (1,1) (byR u v r))):=Yd (GP (XN la.pos l1.pos));have x2:Low (mulR' b (byR u v r)):=Yd (GP (XN lb2.pos lb'.pos));refine⟨Yd (GP (XN x1.pos x2.pos)),?_⟩;rw[Pj x1 x2,Uv la l1,Uv lb2 lb',q1]
 have len:(crR u v r).length=n:=by unfold crR;rw[JL,YC,YC];omega
 refine⟨λx hx=>?_,len,λk hk=>?_⟩
 ·obtain⟨i,hi⟩:=XL hx;unfold crR at hi;rw[JK,YE,YE] at hi;have hk:i<n:=by
   by_cases z:i<n
   ·exact z
   rw[zq (by omega)] at hi;cases hi
  rw[XC (show i<u.length by omega),XC (show i<v.length by omega)] at hi
  cases hi;exact (el (lu _ (XG _)) (lv _ (XG _))).1
 have hu:k<u.length:=by omega
 have hv:k<v.length:=by omega
 have e1:(crR u v r).getD k (0,1)=addR (mulR' u[k] (subR (1,1) (byR u v r))) (mulR' v[k] (byR u v r)):=by
  unfold crR;rw[YG,JK,YE,YE,XC hu,XC hv];rfl
 have e2:qr u k=qv u[k]:=by unfold qr;simp[List.getD,hu]
 have e3:qr v k=qv v[k]:=by unfold qr;simp[List.getD,hv]
 unfold qr crs;rw[e1,(el (lu _ (XG hu)) (lv _ (XG hv))).2];have e2':qv (u.getD k (0,1))=qv u[k]:=e2;have e3':qv (v.getD k (0,1))=qv v[k]:=e3;have qb':qv (byR u v r)=dq n (qr u) (qr r) / (dq n (qr u) (qr r) - dq n (qr v) (qr r)):=qb;show _=qr u k+dq n (qr u) (qr r) / (dq n (qr u) (qr r) - dq n (qr v) (qr r))*(qr v k - qr u k);rw[e2,e3,<-qb'];grind
theorem Xr {α:Type}[DecidableEq α]:∀ {L M:List α},L.Nodup->(∀ x∈L,x∈M)->L.length<=M.length
 | [],_,_,_=>JO _
 | x::L,M,nd,h=>by
  obtain⟨n1,n2⟩:=qH.mp nd;have hx:=h x YY;have:=Xr (L:=L) (M:=M.erase x) n2 λy hy=>(List.mem_erase_of_ne (a:=y) (b:=x) (λz=>by rw[z] at hy;exact n1 hy)).mpr (h y (YQ _ hy));rw[Y0w hx] at this;have:0<M.length:=List.length_pos_of_mem hx;simp only [XS];omega
theorem Z08 {α:Type}[DecidableEq α]{L:List α}{u v:α}(nd:L.Nodup)(hu:u∈L)(hv:v∈L)(ne:u≠v):L.length=2 ↔ ∀ w∈L,w=u \/ w=v:=by
 have ge:2<=L.length:=Xr (L:=[u,v]) (by simp[ne]) λx hx=>by
  rcases YK.mp hx with rfl | hx
  ·exact hu
  rw[XA.mp hx];exact hv
 constructor
 ·intro h w hw;apply YO;intro n;have:3<=L.length:=Xr (L:=[w,u,v]) (by
   simp only [qH,YK,XJ,Y0Y];exact⟨⟨λz=>n (.inl z),λz=>n (.inr z),λz=>z⟩,⟨ne,λz=>z⟩,λz=>z,List.nodup_nil⟩) λx hx=>by
   rcases YK.mp hx with rfl | hx
   ·exact hw
   rcases YK.mp hx with rfl | hx
   ·exact hu
   rw[XA.mp hx];exact hv
  omega
 intro h;have:L.length<=[u,v].length:=Xr nd λx hx=>by
  rcases h x hx with rfl | rfl
  ·exact YY
  exact YQ _ YY
 have e:[u,v].length=2:=rfl;omega
structure CorR (n:Nat)(ess:UC)(c:Nat->Pt)(fss:UC):Prop where
 nd:fss.Nodup
 len:∀ f∈fss,f.length=n
 low:∀ f∈fss,Lows f
 cors:Cors n ess.length c (fss.map qr)
 el:∀ e∈ess,Lows e/\e.length=n
 ed:∀ k,k<ess.length->∀ x:Pt,dq n x (c k)=0 ↔ dq n x (qr (ess.getD k []))=0
section
variable {n:Nat}{ess fss:UC}{c:Nat->Pt}{u v r:UB}
theorem CorR.tou (C:CorR n ess c fss)(hu:u∈fss){k:Nat}:k∈touR ess u ↔ k<ess.length/\dq n (qr u) (c k)=0:=by
 unfold touR;rw[XI,JA,JY];refine Y0O λhk=>?_;have he:ess.getD k []∈ess:=by
  have:ess.getD k []=ess[k]:=by simp[List.getD,hk]
  rw[this];exact XG hk
 obtain⟨l1,l2⟩:=C.el _ he;rw[Kz (C.low u hu) l1 (C.len u hu) l2,C.ed k hk]
theorem CorR.near (C:CorR n ess c fss)(hu:u∈fss)(hv:v∈fss)(ne:u≠v):nearR fss (touR ess) u v=true ↔ Near n ess.length c (fss.map qr) (qr u) (qr v):=by
 have be:∀ w∈fss,(((touR ess u).filter λk=>decide (k∈touR ess v)).all λk=>decide (k∈touR ess w))=true ↔ ∀ k,k<ess.length->dq n (qr u) (c k)=0->dq n (qr v) (c k)=0->dq n (qr w) (c k)=0:=λw hw=>by
  rw[GR];constructor
  ·intro h k hk z1 z2;have:=h k (XI.mpr ⟨(C.tou hu).mpr ⟨hk,z1⟩,XQ ((C.tou hv).mpr ⟨hk,z2⟩)⟩);exact ((C.tou hw).mp (GH this)).2
  intro h k hk;obtain⟨a,b⟩:=XI.mp hk;obtain⟨k1,k2⟩:=(C.tou hu).mp a;obtain⟨_,k3⟩:=(C.tou hv).mp (GH b);exact XQ ((C.tou hw).mpr ⟨k1,h k k1 k2 k3⟩)
 unfold nearR;rw[JY];have mu:u∈fss.filter λw=>((touR ess u).filter λk=>decide (k∈touR ess v)).all λk=>decide (k∈touR ess w):=XI.mpr ⟨hu,(be u hu).mpr λ_ _ z _=>z⟩;have mv:v∈fss.filter λw=>((touR ess u).filter λk=>decide (k∈touR ess v)).all λk=>decide (k∈touR ess w):=XI.mpr ⟨hv,(be v hv).mpr λ_ _ _ z=>z⟩;rw[Z08 (C.nd.sublist zc) mu mv ne];constructor
 ·intro h w hw al;obtain⟨f,hf,rfl⟩:=YZ.mp hw;rcases h f (XI.mpr ⟨hf,(be f hf).mpr al⟩) with rfl | rfl
  ·exact .inl λ_ _=>rfl
  exact .inr λ_ _=>rfl
 intro h w hw;obtain⟨hf,hb⟩:=XI.mp hw;rcases h (qr w) (YZ.mpr ⟨w,hf,rfl⟩) ((be w hf).mp hb) with z | z
 ·exact .inl (Tk (C.low w hf) (C.low u hu) (C.len w hf) (C.len u hu) z)
 exact .inr (Tk (C.low w hf) (C.low v hv) (C.len w hf) (C.len v hv) z)
theorem CorR.cut (B:Bnds n ess.length c)(C:CorR n ess c fss)(lr:Lows r)(hr:r.length=n)(hc:∀ x:Pt,dq n x (c ess.length)=dq n x (qr r)):CorR n (ess++[r]) c (cutC fss ess r):=by
 have neg:∀ f∈fss,(mn f r).1<0 ↔ dq n (qr f) (c ess.length)<0:=λf hf=>by
  rw[hc,<-V6 (C.low f hf) lr (C.len f hf) hr];have:=So (Wn (C.low f hf) lr).pos;constructor
  ·intro z;have:¬ 0<=qv (mn f r):=λy=>by have:=this.mpr y;omega
   grind
  intro z;have:¬ 0<=(mn f r).1:=λy=>by have:=this.mp y;grind
  omega
 have pos:∀ f∈fss,0<(mn f r).1 ↔ 0<dq n (qr f) (c ess.length):=λf hf=>by
  rw[hc,<-V6 (C.low f hf) lr (C.len f hf) hr];exact Lo (Wn (C.low f hf) lr).pos
 have mo:∀ f,f∈outR fss r ↔ f∈fss/\0<(mn f r).1:=λf=>by unfold outR;rw[XI,JY]
 have mi:∀ f,f∈inR fss r ↔ f∈fss/\(mn f r).1<0:=λf=>by unfold inR;rw[XI,JY]
 have mk:∀ f,f∈(fss.filter λf=>!decide (f∈outR fss r)) ↔ f∈fss/\¬ 0<(mn f r).1:=λf=>by
  rw[XI];refine Y0O λhf=>?_;rw[Y0o,zP,mo];exact⟨λz y=>z ⟨hf,y⟩,λz y=>z y.2⟩
 have mem:∀ x,x∈cutC fss ess r ↔ (x∈fss/\¬ 0<(mn x r).1) \/ ∃ one,(one∈fss/\(mn one r).1<0)/\∃ o,((o∈fss/\0<(mn o r).1)/\nearR fss (touR ess) one o=true)/\crR one o r=x:=λx=>by
  unfold cutC;rw[XH,mk,zA];refine or_congr_right ?_;constructor
  ·rintro ⟨one,h1,h2⟩;obtain⟨o,h3,rfl⟩:=YZ.mp h2;obtain⟨h4,h5⟩:=XI.mp h3;exact⟨one,(mi one).mp h1,o,⟨(mo o).mp h4,h5⟩,rfl⟩
  rintro ⟨one,h1,o,⟨h2,h3⟩,rfl⟩;exact⟨one,(mi one).mpr h1,YZ.mpr ⟨o,XI.mpr ⟨(mo o).mpr h2,h3⟩,rfl⟩⟩
 have ne:∀ {a b:UB},(mn a r).1<0->0<(mn b r).1->a≠b:=λh1 h2 z=>by rw[z] at h1;omega
 have crow:∀ {one o:UB},one∈fss->(mn one r).1<0->o∈fss->0<(mn o r).1->Lows (crR one o r)/\(crR one o r).length=n/\∀ k,k<n->qr (crR one o r) k=crs n (c ess.length) (qr one) (qr o) k:=λ{one o} h1 h2 h3 h4=>by
  obtain⟨a1,a2,a3⟩:=Z2e (C.low _ h1) (C.low _ h3) lr (C.len _ h1) (C.len _ h3) hr h2 h4;refine⟨a1,a2,λk hk=>?_⟩;rw[a3 k hk];unfold crs;rw[hc,hc]
 have mq:∀ {f:UB},f∈fss->qr f∈fss.map qr:=λh=>YZ.mpr ⟨_,h,rfl⟩;have le:(ess++[r]).length=ess.length+1:=by simp
 refine⟨?_,λx hx=>?_,λx hx=>?_,?_,λe he=>?_,λk hk x=>?_⟩
 ·unfold cutC;refine List.nodup_append.mpr ⟨C.nd.sublist zc,?_,?_⟩
  ·rw[XU,List.pairwise_flatMap];constructor
   ·intro one h1;rw[GL];obtain⟨f1,n1⟩:=(mi one).mp h1;have nd2:((outR fss r).filter λo=>nearR fss (touR ess) one o).Nodup:=(C.nd.sublist zc).sublist zc;refine (XU.mp nd2).imp_of_mem λ{a b} ha hb hne e=>?_;obtain⟨ha1,ha2⟩:=XI.mp ha;obtain⟨fa,pa⟩:=(mo a).mp ha1;obtain⟨fb,pb⟩:=(mo b).mp (XI.mp hb).1;have:=C.cors.apart (mq f1) (mq fa) (mq f1) (mq fb) ((neg _ f1).mp n1) ((pos _ fa).mp pa) ((neg _ f1).mp n1) ((pos _ fb).mp pb) ((C.near f1 fa (ne n1 pa)).mp ha2) λi hi=>by
     rw[<-(crow f1 n1 fa pa).2.2 i hi,<-(crow f1 n1 fb pb).2.2 i hi,e]
    exact hne (Tk (C.low a fa) (C.low b fb) (C.len a fa) (C.len b fb) λi hi=>(this.2 i hi).symm)
   have nd2:(inR fss r).Nodup:=C.nd.sublist zc;refine (XU.mp nd2).imp_of_mem λ{a b} ha hb hne x hx y hy e=>?_;obtain⟨fa,na⟩:=(mi a).mp ha;obtain⟨fb,nb⟩:=(mi b).mp hb;obtain⟨o,ho,rfl⟩:=YZ.mp hx;obtain⟨o',ho',rfl⟩:=YZ.mp hy;obtain⟨o1,o2⟩:=XI.mp ho;obtain⟨fo,po⟩:=(mo o).mp o1;obtain⟨fo',po'⟩:=(mo o').mp (XI.mp ho').1;have:=C.cors.apart (mq fa) (mq fo) (mq fb) (mq fo') ((neg _ fa).mp na) ((pos _ fo).mp po) ((neg _ fb).mp nb) ((pos _ fo').mp po') ((C.near fa fo (ne na po)).mp o2) λi hi=>by
    rw[<-(crow fa na fo po).2.2 i hi,<-(crow fb nb fo' po').2.2 i hi,e]
   exact hne (Tk (C.low a fa) (C.low b fb) (C.len a fa) (C.len b fb) λi hi=>(this.1 i hi).symm)
  intro x hx y hy e;obtain⟨fx,_⟩:=(mk x).mp hx;obtain⟨one,h1,h2⟩:=zA.mp hy;obtain⟨o,h3,rfl⟩:=YZ.mp h2;obtain⟨f1,n1⟩:=(mi one).mp h1;obtain⟨fo,po⟩:=(mo o).mp (XI.mp h3).1;exact C.cors.fresh (mq f1) (mq fo) ((neg _ f1).mp n1) ((pos _ fo).mp po) (mq fx) λi hi=>by rw[e];exact (crow f1 n1 fo po).2.2 i hi
 ·rcases (mem x).mp hx with ⟨h,_⟩ | ⟨one,⟨h1,h2⟩,o,⟨⟨h3,h4⟩,_⟩,rfl⟩
  ·exact C.len x h
  exact (crow h1 h2 h3 h4).2.1
 ·rcases (mem x).mp hx with ⟨h,_⟩ | ⟨one,⟨h1,h2⟩,o,⟨⟨h3,h4⟩,_⟩,rfl⟩
  ·exact C.low x h
  exact (crow h1 h2 h3 h4).1
 ·rw[le];refine⟨λx hx=>?_,λx X=>?_⟩
  ·obtain⟨f,hf,rfl⟩:=YZ.mp hx;rcases (mem f).mp hf with ⟨h,z⟩ | ⟨one,⟨h1,h2⟩,o,⟨⟨h3,h4⟩,h5⟩,rfl⟩
   ·refine C.cors.kept (mq h) ?_;have:¬ 0<dq n (qr f) (c ess.length):=λy=>z ((pos f h).mpr y);grind
   exact (C.cors.cross B (mq h1) (mq h3) ((neg _ h1).mp h2) ((pos _ h3).mp h4) ((C.near h1 h3 (ne h2 h4)).mp h5)).congr λk hk=>((crow h1 h2 h3 h4).2.2 k hk).symm
  rcases C.cors.new B X with ⟨v,hv,e,z⟩ | ⟨u,hu,v,hv,lu,lv,nr,e⟩
  ·obtain⟨f,hf,rfl⟩:=YZ.mp hv;exact⟨qr f,YZ.mpr ⟨f,(mem f).mpr (.inl ⟨hf,λy=>by have:=(pos f hf).mp y;grind⟩),rfl⟩,e⟩
  obtain⟨f,hf,rfl⟩:=YZ.mp hu;obtain⟨g,hg,rfl⟩:=YZ.mp hv;have n1:=(neg f hf).mpr lu;have p1:=(pos g hg).mpr lv;refine⟨qr (crR f g r),YZ.mpr ⟨_,(mem _).mpr (.inr ⟨f,⟨hf,n1⟩,g,⟨⟨hg,p1⟩,(C.near hf hg (ne n1 p1)).mpr nr⟩,rfl⟩),rfl⟩,λi hi=>?_⟩;rw[(crow hf n1 hg p1).2.2 i hi];exact e i hi
 ·rcases XH.mp he with he | he
  ·exact C.el e he
  rw[XA.mp he];exact⟨lr,hr⟩
 rw[le] at hk;by_cases z:k<ess.length
 ·have e1:(ess++[r]).getD k []=ess.getD k []:=by rw[YG,JV z,<-YG]
  rw[e1];exact C.ed k z x
 have e2:k=ess.length:=by omega
 subst e2;have e1:(ess++[r]).getD ess.length []=r:=by rw[YG,JT (YF _)];simp
 rw[e1,hc]
end
theorem W4 (f:Pt){k:Nat}:∀ {n:Nat},k<n->sQ n (λi=>if i=k then f i else 0)=f k
 | 0,h=>absurd h (by omega)
 | n+1,h=>by
  show sQ n (λi=>if i=k then f i else 0)+(if n=k then f n else 0)=f k;by_cases e:n=k
  ·subst e;rw[XF rfl,Vg λi hi=>XB (by omega)];grind
  rw[XB e,W4 f (n:=n) (by omega)];grind
def uP (n w:Nat):List Rat:=papR n (some λk=>decide (k=w))
def paps (n:Nat):List (List Rat):=(List.range n).map (uP n)
theorem Tg {n w k:Nat}(h:k<n):qr (uP n w) k=if k=w then 1 else 0:=by
 unfold uP;rw[Z3a h];show (if decide (k=w)=true then _ else _)=_;by_cases e:k=w
 ·rw[XF e,XF (XQ e)]
 rw[XB e,XR e,XB YS]
theorem Z2t {n w:Nat}(x:Pt)(h:w<n):dq n x (qr (uP n w))=x w:=by
 unfold dq;rw[<-W4 x h];exact Zo λk hk=>by
  rw[Tg hk];by_cases e:k=w
  ·rw[XF e,XF e];grind
  rw[XB e,XB e];grind
theorem Cb {n:Nat}{c:Nat->Pt}(hcu:∀ k,k<n->∀ x:Pt,dq n x (c k)=-x k):CorR n (paps n) c (paps n):=by
 have lp:(paps n).length=n:=by unfold paps;simp
 have mem:∀ f,f∈paps n ↔ ∃ w,w<n/\uP n w=f:=λf=>by
  unfold paps;rw[YZ];exact⟨λ⟨w,h,e⟩=>⟨w,JA.mp h,e⟩,λ⟨w,h,e⟩=>⟨w,JA.mpr h,e⟩⟩
 refine⟨?_,λf hf=>?_,λf hf=>?_,?_,λf hf=>?_,λk hk x=>?_⟩
 ·unfold paps;rw[XU,GL];refine (XU.mp List.nodup_range).imp_of_mem λ{a b} ha hb hne e=>hne ?_;have h:=Tg (w:=a) (JA.mp ha);rw[e,Tg (JA.mp ha),XF rfl] at h;by_cases z:a=b
  ·exact z
  rw[XB z] at h;grind
 ·obtain⟨w,_,rfl⟩:=(mem f).mp hf;exact U4 _ _
 ·obtain⟨w,_,rfl⟩:=(mem f).mp hf;exact Ua _ _
 ·rw[lp];refine⟨λv hv=>?_,λx X=>?_⟩
  ·obtain⟨f,hf,rfl⟩:=YZ.mp hv;obtain⟨w,hw,rfl⟩:=(mem f).mp hf;refine⟨⟨λk hk=>?_,?_⟩,λd s0 al i hi=>?_⟩
   ·rw[hcu k hk,Tg hk];split <;> grind
   ·have:=W4 (λ_=>(1:QQ)) hw;rw[<-this];exact Zo λk hk=>Tg hk
   have z:∀ k,k<n->k≠w->d k=0:=λk hk ne=>by
    have:=al k hk (by rw[hcu k hk,Tg hk,XB ne];grind);rw[hcu k hk] at this;grind
   by_cases e:i=w
   ·subst e;have h2:sQ n (λk=>if k=i then d k else 0)=sQ n d:=Zo λk hk=>by
     by_cases e:k=i
     ·rw[XF e]
     rw[XB e,z k hk e]
    rw[W4 d hi,s0] at h2;exact h2
   exact z i hi e
  have ex:∃ w,w<n/\x w≠0:=YO λq=>by
   have:sQ n x=0:=Vg λk hk=>YO λy=>q ⟨k,hk,y⟩;have:=X.inn.one;grind
  obtain⟨w,hw,nw⟩:=ex;have z:∀ j,j<n->j≠w->x j=0:=λj hj ne=>YO λnj=>by
   have h:=X.st (λi=>(if i=w then 1 else 0)+(if i=j then -1 else 0)) (by
    have a:=Xo (λi=>if i=w then (1:QQ) else 0) (λi=>if i=j then (-1:QQ) else 0) n;rw[a,W4 (λ_=>(1:QQ)) hw,W4 (λ_=>(-1:QQ)) hj];grind) (λk hk e=>by
    rw[hcu k hk] at e ⊢;have k1:k≠w:=λy=>nw (by rw[<-y];grind);have k2:k≠j:=λy=>nj (by rw[<-y];grind);simp only [XB k1,XB k2];grind) w hw
   simp only [XF,XB (qi ne)] at h;grind
  have xw:x w=1:=by
   have:=W4 x hw;rw[<-this,<-X.inn.one];exact Zo λk hk=>by
    by_cases e:k=w
    ·rw[XF e]
    rw[XB e,z k hk e]
  refine⟨qr (uP n w),YZ.mpr ⟨_,(mem _).mpr ⟨w,hw,rfl⟩,rfl⟩,λi hi=>?_⟩;rw[Tg hi];by_cases e:i=w
  ·rw[XF e,e,xw]
  rw[XB e,z i hi e]
 ·obtain⟨w,_,rfl⟩:=(mem f).mp hf;exact⟨Ua _ _,U4 _ _⟩
 rw[lp] at hk;have e:(paps n).getD k []=uP n k:=by
  unfold paps;rw[YG,YE,qd hk];rfl
 rw[e,Z2t x hk,hcu k hk];constructor
 ·intro y;grind
 intro y;rw[y];grind
section
variable {n:Nat}{ess fss:UC}{c:Nat->Pt}{f:UB}
abbrev edP (ess:UC)(k:Nat):Pt:=qr (ess.getD k [])
theorem CorR.stuck (C:CorR n ess c fss)(hf:f∈fss):Stuck n ess.length (edP ess) (qr f)/\sQ n (qr f)=1:=by
 have X:=C.cors.vx (qr f) (YZ.mpr ⟨f,hf,rfl⟩);refine⟨λd s0 al=>X.st d s0 λk hk z=>?_,X.inn.one⟩;exact (C.ed k hk d).mpr (al k hk ((C.ed k hk _).mp z))
theorem Ny {N:Nat}(h:RepL N D Ws e){k:Nat}(hk:k<e.length):∃ W:Int,Bd N W/\qr e k*(D:QQ)=W:=by
 have hw:k<Ws.length:=by rw[h.len];exact hk
 obtain⟨e1,b,l⟩:=h.at_ k Ws[k] e[k] (by simp[hw]) (by simp[hk]);refine⟨Ws[k],b,?_⟩;have e2:qr e k=qv e[k]:=by unfold qr;simp[List.getD,hk]
 rw[e2];unfold qv;have b1:=Yx l.pos;have e3:((e[k].1:Int):QQ)*(D:QQ)=((Ws[k]:Int):QQ)*((e[k].2:Int):QQ):=by rw[<-_root_.Rat.intCast_mul,<-_root_.Rat.intCast_mul,e1]
 grind
theorem Sm {N:Nat}{S:Int}{C:TY}(lf:Lows f)(hl:f.length=n)(hS:S≠0)(bS:Bd N S)(bC:∀ k,k<n->Bd N (C k))(h:∀ k,k<n->qr f k*(S:QQ)=C k):RowN N n f:=by
 have key:∀ (S:Int) (C:TY),0<S->Bd N S->(∀ k,k<n->Bd N (C k))->(∀ k,k<n->qr f k*(S:QQ)=C k)->RowN N n f:=λS C pS bS bC h=>by
  obtain⟨Ws,p⟩:=RepL.each pS bS (rs:=f) λr hr=>by
   obtain⟨k,ek⟩:=XL hr;have hk:k<f.length:=(YH.mp ek).1;have e2:qr f k=qv r:=by unfold qr;rw[YG,ek];rfl
   have l:=lf r hr;refine⟨C k,?_,bC k (by omega),l⟩;have e:=h k (by omega);rw[e2] at e;unfold qv at e;have b1:=Yx l.pos;have e3:((r.1:Int):QQ)*(S:QQ)=((C k:Int):QQ)*((r.2:Int):QQ):=by grind
   rw[<-_root_.Rat.intCast_mul,<-_root_.Rat.intCast_mul] at e3;exact _root_.Rat.intCast_inj.mp e3
  exact⟨hl,S,Ws,p⟩
 by_cases z:0<S
 ·exact key S C z bS bC h
 refine key (-S) (λk=>-C k) (by omega) bS.neg (λk hk=>(bC k hk).neg) λk hk=>?_;rw[_root_.Rat.intCast_neg,_root_.Rat.intCast_neg,<-h k hk];grind
theorem Z44 {P:List (Nat × Nat)}(nd:fss.Nodup)(R:List Rat->Nat × Nat->Prop)(hR:∀ f∈fss,∃ p∈P,R f p)(inj:∀ f∈fss,∀ g∈fss,∀ p,R f p->R g p->f=g):fss.length<=P.length:=by
 have hR':∀ f:List Rat,∃ p:Nat × Nat,f∈fss->p∈P/\R f p:=λf=>by
  by_cases h:f∈fss
  ·obtain⟨p,h1,h2⟩:=hR f h;exact⟨p,λ_=>⟨h1,h2⟩⟩
  exact⟨(0,0),λz=>absurd z h⟩
 have hF:=λf=>JR (hR' f);have nd2:(fss.map λf=>Classical.choose (hR' f)).Nodup:=by
  rw[XU,GL];refine (XU.mp nd).imp_of_mem λ{a b} ha hb hne e=>hne ?_;have h1:=(hF a ha).2;have h2:=(hF b hb).2;rw[<-e] at h2;exact inj a ha b hb _ h1 h2
 have:=Xr nd2 (M:=P) λx hx=>by
  obtain⟨f,hf,rfl⟩:=YZ.mp hx;exact (hF f hf).1
 simpa using this
end
section
variable {n m:Nat}{c:Nat->Pt}{x:Pt}
theorem Nb (t:QQ)(d e:Pt):dq n (λk=>t*d k) e=t*dq n d e:=by
 unfold dq;rw[<-Yi];exact Zo λk _=>by grind
theorem Z46 (x y e:Pt):dq n (λk=>x k+y k) e=dq n x e+dq n y e:=by
 unfold dq;rw[<-Xo];exact Zo λk _=>by grind
theorem Bw (a:Nat->QQ)(e:Nat->Pt)(f:Pt)(q:Nat):dq n (λi=>sQ q λk=>a k*e k i) f=sQ q λk=>a k*dq n (e k) f:=by
 unfold dq;have h:∀ i,i<n->(sQ q λk=>a k*e k i)*f i=sQ q λk=>f i*(a k*e k i):=λi _=>by rw[Yi];grind
 rw[Zo h,Qz];refine Zo λk _=>?_;rw[<-Yi];exact Zo λi _=>by grind
structure Frm (n m:Nat)(c:Nat->Pt)(x:Pt)(q L:Nat)(b:TX)(e r:Nat->Pt):Prop where
 len:q+L+1=n
 bt:∀ k,k<q->b k<m/\dq n x (c (b k))=0
 e0:∀ k,k<q->sQ n (e k)=0
 r0:∀ j,j<L->sQ n (r j)=0
 ee:∀ k,k<q->∀ k',k'<q->dq n (e k) (c (b k'))=if k=k' then 1 else 0
 re:∀ j,j<L->∀ k,k<q->dq n (r j) (c (b k))=0
 rr:∀ j,j<L->∀ j',j'<L->r j j'=if j=j' then 1 else 0
 span:∀ d:Pt,sQ n d=0->∀ i,i<n->d i=sQ q (λk=>dq n d (c (b k))*e k i)+sQ L (λj=>d j*r j i)
theorem Frm.zero {L:Nat}(h:L+1=n):Frm n m c x 0 L (λ_=>0) (λ_ _=>0) (λj i=>(if i=j then 1 else 0)+if i=L then -1 else 0):=by
 refine⟨by omega,λk hk=>absurd hk (by omega),λk hk=>absurd hk (by omega),λj hj=>?_,λk hk=>absurd hk (by omega),λj hj k hk=>absurd hk (by omega),λj hj j' hj'=>?_,λd s0 i hi=>?_⟩
 ·rw[Xo,W4 (λ_=>1) (show j<n by omega),W4 (λ_=>-1) (show L<n by omega)];grind
 ·show (if j'=j then (1:QQ) else 0)+(if j'=L then -1 else 0)=_;rw[XB (show ¬ j'=L by omega)];by_cases z:j=j'
  ·rw[XF z,XF z.symm];grind
  rw[XB z,XB λy=>z y.symm];grind
 show d i=0+sQ L λj=>d j*((if i=j then 1 else 0)+if i=L then -1 else 0);by_cases z:i=L
 ·subst z;have h1:sQ i (λj=>d j*((if i=j then 1 else 0)+if i=i then -1 else 0))=sQ i λj=>(-1)*d j:=Zo λj hj=>by
   rw[XB (show ¬ i=j by omega),XF rfl];grind
  rw[h1,Yi];subst h;have:sQ i d+d i=0:=s0;grind
 have h1:sQ L (λj=>d j*((if i=j then 1 else 0)+if i=L then -1 else 0))=sQ L λj=>if j=i then d j else 0:=Zo λj hj=>by
  rw[XB z];by_cases y:i=j
  ·rw[XF y,XF y.symm];grind
  rw[XB y,XB λu=>y u.symm];grind
 rw[h1,W4 d (show i<L by omega)];grind
theorem Frm.step {q L:Nat}{b:TX}{e r:Nat->Pt}(F:Frm n m c x q (L+1) b e r)(st:Stuck n m c x):∃ b e r,Frm n m c x (q+1) L b e r:=by
 have ln:=F.len;have hL:r L L=1:=by have:=F.rr L (by omega) L (by omega);rwa [XF rfl] at this
 obtain⟨k0,hk0,tk0,nk0⟩:∃ k,k<m/\dq n x (c k)=0/\dq n (r L) (c k)≠0:=by
  refine YO λno=>?_;have:=st (r L) (F.r0 L (by omega)) (λk hk z=>YO λy=>no ⟨k,hk,z,y⟩) L (by omega);rw[hL] at this;grind
 obtain⟨s,hs⟩:∃ s:QQ,s*dq n (r L) (c k0)=1:=⟨1 / dq n (r L) (c k0),by grind⟩;have eq':∀ k,k<q->¬ k=q:=λk hk=>by omega
 have cs:∀ {k},k<q+1->k<q \/ k=q:=λh=>by omega
 refine⟨λk=>if k=q then k0 else b k,λk=>if k=q then (λi=>s*r L i) else λi=>e k i+(-(dq n (e k) (c k0))*s)*r L i,λj i=>r j i+(-(dq n (r j) (c k0))*s)*r L i,⟨by omega,λk hk=>?_,λk hk=>?_,λj hj=>?_,λk hk k' hk'=>?_,λj hj k hk=>?_,λj hj j' hj'=>?_,λd s0 i hi=>?_⟩⟩
 ·rcases cs hk with h | rfl
  ·rw[XB (eq' k h)];exact F.bt k h
  rw[XF rfl];exact⟨hk0,tk0⟩
 ·rcases cs hk with h | rfl
  ·rw[XB (eq' k h),Vb,F.e0 k h,F.r0 L (by omega)];grind
  rw[XF rfl,Yi,F.r0 L (by omega)];grind
 ·rw[Vb,F.r0 j (by omega),F.r0 L (by omega)];grind
 ·rcases cs hk with h | rfl
  ·rw[XB (eq' k h),Yj];rcases cs hk' with h' | rfl
   ·rw[XB (eq' k' h'),F.ee k h k' h',F.re L (by omega) k' h'];grind
   rw[XF rfl,XB (eq' k h)];grind
  rw[XF rfl,Nb];rcases cs hk' with h' | rfl
  ·rw[XB (eq' k' h'),F.re L (by omega) k' h',XB λy=>eq' k' h' y.symm];grind
  rw[XF rfl,XF rfl];exact hs
 ·rw[Yj];rcases cs hk with h | rfl
  ·rw[XB (eq' k h),F.re j (by omega) k h,F.re L (by omega) k h];grind
  rw[XF rfl];grind
 ·show r j j'+_*r L j'=_;rw[F.rr j (by omega) j' (by omega),F.rr L (by omega) j' (by omega),XB (show ¬ L=j' by omega)];grind
 have old:=F.span d s0;have key:dq n d (c k0)=sQ q (λk=>dq n d (c (b k))*dq n (e k) (c k0))+(sQ L (λj=>d j*dq n (r j) (c k0))+d L*dq n (r L) (c k0)):=by
  rw[Ya old,Z46,Bw,Bw];rfl
 have o1:=old i hi;have o2:sQ (L+1) (λj=>d j*r j i)=sQ L (λj=>d j*r j i)+d L*r L i:=rfl;rw[o2] at o1;have n1:sQ (q+1) (λk=>dq n d (c (if k=q then k0 else b k))*(if k=q then (λi=>s*r L i) else λi=>e k i+(-(dq n (e k) (c k0))*s)*r L i) i)=(sQ q (λk=>dq n d (c (b k))*e k i)+(-(s*r L i))*sQ q (λk=>dq n d (c (b k))*dq n (e k) (c k0)))+dq n d (c k0)*(s*r L i):=by
  show sQ q _+_=_;dsimp only;rw[<-Yi,<-Xo,XF rfl,XF rfl]
  congr 1
  exact Zo λk hk=>by rw[XB (eq' k hk),XB (eq' k hk)];grind
 have n2:sQ L (λj=>d j*(r j i+(-(dq n (r j) (c k0))*s)*r L i))=sQ L (λj=>d j*r j i)+(-(s*r L i))*sQ L (λj=>d j*dq n (r j) (c k0)):=by
  rw[<-Yi,<-Xo];exact Zo λj hj=>by grind
 rw[n1,n2,key,o1];generalize sQ q (λk=>dq n d (c (b k))*e k i)=A;generalize sQ L (λj=>d j*r j i)=B;generalize sQ q (λk=>dq n d (c (b k))*dq n (e k) (c k0))=A';generalize sQ L (λj=>d j*dq n (r j) (c k0))=B';grind
theorem Frm.full (st:Stuck n m c x):∀ {L q:Nat} {b:TX} {e r:Nat->Pt},Frm n m c x q L b e r->∃ b e r,Frm n m c x (n - 1) 0 b e r
 | 0,q,b,e,r,F=>by
  have:=F.len;have:q=n - 1:=by omega
  subst this;exact⟨b,e,r,F⟩
 | L+1,q,b,e,r,F=>by
  obtain⟨b',e',r',F'⟩:=F.step st;exact Frm.full st F'
structure Fix (n m:Nat)(c:Nat->Pt)(x:Pt)(b:TX)(e:Nat->Pt):Prop where
 bt:∀ k,k<n - 1->b k<m/\dq n x (c (b k))=0
 e0:∀ k,k<n - 1->sQ n (e k)=0
 ee:∀ k,k<n - 1->∀ k',k'<n - 1->dq n (e k) (c (b k'))=if k=k' then 1 else 0
 span:∀ d:Pt,sQ n d=0->∀ i,i<n->d i=sQ (n - 1) (λk=>dq n d (c (b k))*e k i)
theorem Stuck.fix (st:Stuck n m c x)(h:1<=n):∃ b e,Fix n m c x b e:=by
 obtain⟨b,e,r,F⟩:=Frm.full st (Frm.zero (m:=m) (c:=c) (x:=x) (L:=n - 1) (by omega));refine⟨b,e,F.bt,F.e0,F.ee,λd s0 i hi=>?_⟩;rw[F.span d s0 i hi];show _+0=_;grind
theorem Fix.inj {b:TX}{e:Nat->Pt}(F:Fix n m c x b e){k k':Nat}(h:k<n - 1)(h':k'<n - 1)(ne:k≠k'):b k≠b k':=λy=>by
 have a:=F.ee k h k h;have z:=F.ee k h k' h';rw[XF rfl,y] at a;rw[XB ne] at z;grind
def Nn (n:Nat)(d:Pt):Prop:=(∀ i,i<n->d i=0) \/ ∃ i,i<n/\(∀ j,j<i->d j=0)/\0<d i
theorem R0 (d:Pt):∀ n,Nn n d \/ Nn n λk=>-d k
 | 0=>.inl (.inl λi h=>absurd h (by omega))
 | n+1=>by
  have up:∀ d:Pt,Nn n d->(∃ i,i<n/\d i≠0)->Nn (n+1) d:=λd h ⟨i,hi,ne⟩=>by
   rcases h with h | ⟨j,hj,a,p⟩
   ·exact absurd (h i hi) ne
   exact .inr ⟨j,by omega,a,p⟩
  by_cases z:∃ i,i<n/\d i≠0
  ·obtain⟨i,hi,ne⟩:=z;rcases R0 d n with h | h
   ·exact .inl (up d h ⟨i,hi,ne⟩)
   exact .inr (up _ h ⟨i,hi,by (try dsimp only);grind⟩)
  have al:∀ i,i<n->d i=0:=λi hi=>YO λy=>z ⟨i,hi,y⟩;by_cases p:0<d n
  ·exact .inl (.inr ⟨n,by omega,al,p⟩)
  by_cases p':d n<0
  ·exact .inr (.inr ⟨n,by omega,λj hj=>by (try dsimp only);rw[al j hj];grind,by (try dsimp only);grind⟩)
  refine .inl (.inl λi hi=>?_);by_cases y:i=n
  ·subst y;grind
  exact al i (by omega)
theorem Nn.add {d d':Pt}(h:Nn n d)(h':Nn n d'):Nn n λk=>d k+d' k:=by
 rcases h with h | ⟨i,hi,a,p⟩
 ·rcases h' with h' | ⟨j,hj,a',p'⟩
  ·exact .inl λi hi=>by (try dsimp only);rw[h i hi,h' i hi];grind
  exact .inr ⟨j,hj,λk hk=>by (try dsimp only);rw[h k (by omega),a' k hk];grind,by (try dsimp only);rw[h j hj];grind⟩
 rcases h' with h' | ⟨j,hj,a',p'⟩
 ·exact .inr ⟨i,hi,λk hk=>by (try dsimp only);rw[h' k (by omega),a k hk];grind,by (try dsimp only);rw[h' i hi];grind⟩
 by_cases lt:i<j
 ·exact .inr ⟨i,hi,λk hk=>by (try dsimp only);rw[a k hk,a' k (by omega)];grind,by (try dsimp only);rw[a' i lt];grind⟩
 by_cases gt:j<i
 ·exact .inr ⟨j,hj,λk hk=>by (try dsimp only);rw[a k (by omega),a' k hk];grind,by (try dsimp only);rw[a j gt];grind⟩
 have:i=j:=by omega
 subst this;exact .inr ⟨i,hi,λk hk=>by (try dsimp only);rw[a k hk,a' k hk];grind,by (try dsimp only);grind⟩
theorem Nn.smul {d:Pt}{t:QQ}(h:Nn n d)(ht:0<=t):Nn n λk=>t*d k:=by
 by_cases z:t=0
 ·exact .inl λi hi=>by (try dsimp only);rw[z];grind
 rcases h with h | ⟨i,hi,a,p⟩
 ·exact .inl λi hi=>by (try dsimp only);rw[h i hi];grind
 exact .inr ⟨i,hi,λk hk=>by (try dsimp only);rw[a k hk];grind,_root_.Rat.mul_pos (by (try dsimp only);grind) p⟩
theorem Nn.sum {f:Nat->Pt}:∀ {q:Nat},(∀ k,k<q->Nn n (f k))->Nn n λi=>sQ q λk=>f k i
 | 0,_=>.inl λ_ _=>rfl
 | q+1,h=>(Nn.sum λk hk=>h k (by omega)).add (h q (by omega))
theorem Nn.congr {d d':Pt}(h:Nn n d)(e:∀ i,i<n->d i=d' i):Nn n d':=by
 rcases h with h | ⟨i,hi,a,p⟩
 ·exact .inl λi hi=>by (try dsimp only);rw[<-e i hi];exact h i hi
 exact .inr ⟨i,hi,λk hk=>by (try dsimp only);rw[<-e k (by omega)];exact a k hk,by (try dsimp only);rw[<-e i hi];exact p⟩
theorem Nn.anti {x y:Pt}(h:Nn n λk=>x k - y k)(h':Nn n λk=>y k - x k):∀ i,i<n->x i=y i:=by
 rcases h with h | ⟨i,hi,a,p⟩
 ·exact λi hi=>by have:=h i hi;grind
 exfalso;rcases h' with h' | ⟨j,hj,a',p'⟩
 ·have:=h' i hi;grind
 by_cases lt:i<j
 ·have:=a' i lt;grind
 by_cases gt:j<i
 ·have:=a j gt;grind
 have:i=j:=by omega
 subst this;grind
structure MaxA (n m:Nat)(c:Nat->Pt)(x:Pt)(i j:Nat):Prop where
 hi:dq n x (c i)=0
 hj:dq n x (c j)=0
 top:∀ y,InP n m c y->dq n y (c i)=0->dq n y (c j)=0->Nn n λk=>x k - y k
structure MinA (n m:Nat)(c:Nat->Pt)(x:Pt)(i:Nat):Prop where
 hi:dq n x (c i)=0
 bot:∀ y,InP n m c y->dq n y (c i)=0->Nn n λk=>y k - x k
theorem MaxA.swap {i j:Nat}(h:MaxA n m c x i j):MaxA n m c x j i:=⟨h.hj,h.hi,λy I a b=>h.top y I b a⟩
theorem Fix.diff {b:TX}{e:Nat->Pt}(F:Fix n m c x b e)(X:InP n m c x){y:Pt}(I:InP n m c y):∀ i,i<n->y i - x i=sQ (n - 1) λk=>dq n y (c (b k))*e k i:=λi hi=>by
 have:=F.span (λk=>y k - x k) (by rw[Vw,I.one,X.one];grind) i hi;rw[this];exact Zo λk hk=>by rw[Rq,(F.bt k hk).2];grind
theorem Fix.max {b:TX}{e:Nat->Pt}(F:Fix n m c x b e)(X:InP n m c x){s t:Nat}(hs:s<n - 1)(ht:t<n - 1)(h:∀ k,k<n - 1->k≠s->k≠t->Nn n (e k)):MaxA n m c x (b s) (b t):=by
 refine⟨(F.bt s hs).2,(F.bt t ht).2,λy I a b'=>?_⟩;have D:=F.diff X I;refine Nn.congr (Nn.sum (f:=λk i=>(-dq n y (c (b k)))*e k i) (q:=n - 1) λk hk=>?_) λi hi=>?_
 ·by_cases e1:k=s
  ·subst e1;exact .inl λi hi=>by show -dq n y (c (b k))*e k i=0;rw[a];grind
  by_cases e2:k=t
  ·subst e2;exact .inl λi hi=>by show -dq n y (c (b k))*e k i=0;rw[b'];grind
  exact (h k hk e1 e2).smul (by have:=I.le _ (F.bt k hk).1;grind)
 show sQ (n - 1) (λk=>-dq n y (c (b k))*e k i)=x i - y i;have h1:sQ (n - 1) (λk=>-dq n y (c (b k))*e k i)=(-1)*sQ (n - 1) λk=>dq n y (c (b k))*e k i:=by
  rw[<-Yi];exact Zo λk _=>by grind
 rw[h1,<-D i hi];grind
theorem Fix.min {b:TX}{e:Nat->Pt}(F:Fix n m c x b e)(X:InP n m c x){s:Nat}(hs:s<n - 1)(h:∀ k,k<n - 1->k≠s->Nn n λi=>-e k i):MinA n m c x (b s):=by
 refine⟨(F.bt s hs).2,λy I a=>?_⟩;have D:=F.diff X I;refine Nn.congr (Nn.sum (f:=λk i=>(-dq n y (c (b k))) * -e k i) (q:=n - 1) λk hk=>?_) λi hi=>?_
 ·by_cases e1:k=s
  ·subst e1;exact .inl λi hi=>by show -dq n y (c (b k)) * -e k i=0;rw[a];grind
  exact (h k hk e1).smul (by have:=I.le _ (F.bt k hk).1;grind)
 show sQ (n - 1) (λk=>-dq n y (c (b k)) * -e k i)=y i - x i;rw[D i hi];exact Zo λk _=>by grind
def Cod (n m:Nat)(c:Nat->Pt)(x:Pt)(p:Nat × Nat):Prop:=(p.1=p.2/\MinA n m c x p.1) \/ (p.2<p.1/\MaxA n m c x p.1 p.2)
theorem Cod.inj {y:Pt}{p:Nat × Nat}(X:InP n m c x)(Y:InP n m c y)(h:Cod n m c x p)(h':Cod n m c y p):∀ i,i<n->x i=y i:=by
 rcases h with ⟨e,h⟩ | ⟨e,h⟩
 ·rcases h' with ⟨_,h'⟩ | ⟨e',_⟩
  ·exact (h'.bot x X h.hi).anti (h.bot y Y h'.hi)
  omega
 rcases h' with ⟨e',_⟩ | ⟨_,h'⟩
 ·omega
 exact (h.top y Y h'.hi h'.hj).anti (h'.top x X h.hi h.hj)
def prs (m:Nat):List (Nat × Nat):=(List.range m).flatMap λi=>(List.range (i+1)).map λj=>(i,j)
theorem U8 {m i j:Nat}(h1:i<m)(h2:j<=i):(i,j)∈prs m:=zA.mpr ⟨i,JA.mpr h1,YZ.mpr ⟨j,JA.mpr (by omega),rfl⟩⟩
theorem MaxA.cod {i j:Nat}(h:MaxA n m c x i j)(ne:i≠j)(hi:i<m)(hj:j<m):∃ p∈prs m,Cod n m c x p:=by
 by_cases lt:j<i
 ·exact⟨(i,j),U8 hi (by omega),.inr ⟨lt,h⟩⟩
 exact⟨(j,i),U8 hj (by omega),.inr ⟨(by show i<j;omega),h.swap⟩⟩
theorem MinA.cod {i:Nat}(h:MinA n m c x i)(hi:i<m):∃ p∈prs m,Cod n m c x p:=⟨(i,i),U8 hi (by omega),.inl ⟨rfl,h⟩⟩
theorem Z4f {q:Nat}{P N:Nat->Prop}(h:∀ k,P k \/ N k)(h1:1<=q)(h4:q<=4):(∃ s t,s<q/\t<q/\s≠t/\∀ k,k<q->k≠s->k≠t->P k) \/ ∃ s,s<q/\∀ k,k<q->k≠s->N k:=by
 by_cases a:q=1
 ·exact .inr ⟨0,by omega,λk hk ne=>absurd hk (by omega)⟩
 by_cases b:q=2
 ·exact .inl ⟨0,1,by omega,by omega,by omega,λk hk n1 n2=>absurd hk (by omega)⟩
 by_cases d:q=3
 ·subst d;rcases h 0 with h0 | h0
  ·refine .inl ⟨1,2,by omega,by omega,by omega,λk hk n1 n2=>?_⟩;have:k=0:=by omega
   subst this;exact h0
  rcases h 1 with h1 | h1
  ·refine .inl ⟨0,2,by omega,by omega,by omega,λk hk n1 n2=>?_⟩;have:k=1:=by omega
   subst this;exact h1
  refine .inr ⟨2,by omega,λk hk ne=>?_⟩;have:k=0 \/ k=1:=by omega
  rcases this with rfl | rfl <;> assumption
 have e:q=4:=by omega
 subst e;have mx:∀ s t u v:Nat,s<4->t<4->s≠t->(∀ k,k<4->k≠s->k≠t->k=u \/ k=v)->P u->P v->(∃ s t,s<4/\t<4/\s≠t/\∀ k,k<4->k≠s->k≠t->P k):=λs t u v hs ht ne al pu pv=>⟨s,t,hs,ht,ne,λk hk n1 n2=>by
  rcases al k hk n1 n2 with rfl | rfl <;> assumption⟩
 have mi:∀ s u v w:Nat,s<4->(∀ k,k<4->k≠s->k=u \/ k=v \/ k=w)->N u->N v->N w->∃ s,s<4/\∀ k,k<4->k≠s->N k:=λs u v w hs al nu nv nw=>⟨s,hs,λk hk n1=>by
  rcases al k hk n1 with rfl | rfl | rfl <;> assumption⟩
 rcases h 0 with h0 | h0 <;> rcases h 1 with h1 | h1 <;> rcases h 2 with h2 | h2 <;> rcases h 3 with h3 | h3 <;> first
  | exact .inl (mx 2 3 0 1 (by omega) (by omega) (by omega) (by omega) h0 h1)
  | exact .inl (mx 1 3 0 2 (by omega) (by omega) (by omega) (by omega) h0 h2)
  | exact .inl (mx 1 2 0 3 (by omega) (by omega) (by omega) (by omega) h0 h3)
  | exact .inl (mx 0 3 1 2 (by omega) (by omega) (by omega) (by omega) h1 h2)
  | exact .inl (mx 0 2 1 3 (by omega) (by omega) (by omega) (by omega) h1 h3)
  | exact .inl (mx 0 1 2 3 (by omega) (by omega) (by omega) (by omega) h2 h3)
  | exact .inr (mi 0 1 2 3 (by omega) (by omega) h1 h2 h3)
  | exact .inr (mi 1 0 2 3 (by omega) (by omega) h0 h2 h3)
  | exact .inr (mi 2 0 1 3 (by omega) (by omega) h0 h1 h3)
  | exact .inr (mi 3 0 1 2 (by omega) (by omega) h0 h1 h2)
theorem Vx.cod (v:Vx n m c x)(h2:2<=n)(h5:n<=5):∃ p∈prs m,Cod n m c x p:=by
 obtain⟨b,e,F⟩:=v.st.fix (by omega);rcases Z4f (q:=n - 1) (P:=λk=>Nn n (e k)) (N:=λk=>Nn n λi=>-e k i) (λk=>R0 (e k) n) (by omega) (by omega) with ⟨s,t,hs,ht,ne,al⟩ | ⟨s,hs,al⟩
 ·exact (F.max v.inn hs ht al).cod (F.inj hs ht ne) (F.bt s hs).1 (F.bt t ht).1
 exact (F.min v.inn hs al).cod (F.bt s hs).1
end
section
variable {n:Nat}{ess fss:UC}{c:Nat->Pt}{f:UB}
theorem Kw:∀ m,m<=11->(prs m).length<=m*(m+1) / 2:=by decide
theorem CorR.vx (C:CorR n ess c fss)(hf:f∈fss):Vx n ess.length c (qr f):=C.cors.vx _ (YZ.mpr ⟨f,hf,rfl⟩)
theorem Br {P:List (Nat × Nat)}{gss:UC}(C:CorR n ess c fss)(nd:gss.Nodup)(sub:∀ f∈gss,f∈fss)(h:∀ f∈gss,∃ p∈P,Cod n ess.length c (qr f) p):gss.length<=P.length :=
 Z44 nd (λf p=>Cod n ess.length c (qr f) p) h λf hf g hg p a b=>Tk (C.low f (sub f hf)) (C.low g (sub g hg)) (C.len f (sub f hf)) (C.len g (sub g hg)) (Cod.inj (C.vx (sub f hf)).inn (C.vx (sub g hg)).inn a b)
theorem CorR.few10 (C:CorR n ess c fss)(h2:2<=n)(h5:n<=5)(hm:ess.length<=10):fss.length<=55:=by
 have:=Br C C.nd (λ_ h=>h) λf hf=>(C.vx hf).cod h2 h5;have:=Kw ess.length (by omega);have:ess.length*(ess.length+1)<=10*11:=GY hm (by omega);omega
theorem Mz:∀ {gss:UC},gss≠[]->∃ w∈gss,∀ f∈gss,Nn n λk=>qr w k - qr f k
 | [g],_=>⟨g,YY,λf hf=>by rw[XA.mp hf];exact .inl λi _=>by grind⟩
 | g::g'::gs,_=>by
  obtain⟨w,hw,al⟩:=Mz (gss:=g'::gs) (List.cons_ne_nil _ _);rcases R0 (λk=>qr w k - qr g k) n with h | h
  ·refine⟨w,YQ _ hw,λf hf=>?_⟩;rcases YK.mp hf with rfl | hf
   ·exact h
   exact al f hf
  refine⟨g,YY,λf hf=>?_⟩;rcases YK.mp hf with rfl | hf
  ·exact .inl λi _=>by grind
  exact (h.add (al f hf)).congr λi _=>by grind
theorem G4 {a b c d m:Nat}(h1:a<m)(h2:b<m)(h3:c<m)(h4:d<m)(n1:a≠b)(n2:a≠c)(n3:a≠d)(n4:b≠c)(n5:b≠d)(n6:c≠d):6<=((prs m).filter λp=>decide (p.2<p.1/\p.1∈[a,b,c,d]/\p.2∈[a,b,c,d])).length:=by
 refine Xr (L:=[(Nat.max a b,Nat.min a b),(Nat.max a c,Nat.min a c),(Nat.max a d,Nat.min a d),(Nat.max b c,Nat.min b c),(Nat.max b d,Nat.min b d),(Nat.max c d,Nat.min c d)]) ?_ λp hp=>?_
 ·simp only [qH,YK,XJ,Prod.mk.injEq,Nat.max_def,Nat.min_def,GA,not_false_eq_true,List.nodup_nil,and_true];refine⟨?_,?_,?_,?_,?_⟩ <;> (repeat' split) <;> omega
 have key:∀ x y:Nat,x∈[a,b,c,d]->y∈[a,b,c,d]->x≠y->x<m->y<m->(Nat.max x y,Nat.min x y)∈(prs m).filter λp=>decide (p.2<p.1/\p.1∈[a,b,c,d]/\p.2∈[a,b,c,d]):=λx y hx hy ne l1 l2=>by
  refine XI.mpr ?_;by_cases lt:x<y
  ·rw[show Nat.max x y=y from Nat.max_eq_right (by omega),show Nat.min x y=x from Nat.min_eq_left (by omega)];exact⟨U8 l2 (by omega),XQ ⟨lt,hy,hx⟩⟩
  rw[show Nat.max x y=x from Nat.max_eq_left (by omega),show Nat.min x y=y from Nat.min_eq_right (by omega)];exact⟨U8 l1 (by omega),XQ ⟨by show y<x;omega,hx,hy⟩⟩
 simp only [YK,XJ,GA] at hp;rcases hp with rfl | rfl | rfl | rfl | rfl | rfl
 ·exact key a b (by simp) (by simp) n1 h1 h2
 ·exact key a c (by simp) (by simp) n2 h1 h3
 ·exact key a d (by simp) (by simp) n3 h1 h4
 ·exact key b c (by simp) (by simp) n4 h2 h3
 ·exact key b d (by simp) (by simp) n5 h2 h4
 exact key c d (by simp) (by simp) n6 h3 h4
theorem CorR.few11 (C:CorR 5 ess c fss)(hm:ess.length<=11):fss.length<=61:=by
 by_cases nl:fss=[]
 ·rw[nl];exact JO _
 obtain⟨w,hw,top⟩:=Mz (n:=5) nl;have W:=C.vx hw;obtain⟨b,e,F⟩:=W.st.fix (by omega);have q:∀ k,k<4->k<5 - 1:=λk h=>by omega
 have B:=λk (h:k<4)=>F.bt k (q k h);have six:=G4 (B 0 (by omega)).1 (B 1 (by omega)).1 (B 2 (by omega)).1 (B 3 (by omega)).1 (F.inj (q 0 (by omega)) (q 1 (by omega)) (by omega)) (F.inj (q 0 (by omega)) (q 2 (by omega)) (by omega)) (F.inj (q 0 (by omega)) (q 3 (by omega)) (by omega)) (F.inj (q 1 (by omega)) (q 2 (by omega)) (by omega)) (F.inj (q 1 (by omega)) (q 3 (by omega)) (by omega)) (F.inj (q 2 (by omega)) (q 3 (by omega)) (by omega));have met:∀ i,i∈[b 0,b 1,b 2,b 3]->dq 5 (qr w) (c i)=0:=λi hi=>by
  simp only [YK,XJ,GA] at hi;rcases hi with rfl | rfl | rfl | rfl
  ·exact (B 0 (by omega)).2
  ·exact (B 1 (by omega)).2
  ·exact (B 2 (by omega)).2
  exact (B 3 (by omega)).2
 have rest:=Br (P:=(prs ess.length).filter λp=>!decide (p.2<p.1/\p.1∈[b 0,b 1,b 2,b 3]/\p.2∈[b 0,b 1,b 2,b 3])) (gss:=fss.erase w) C (C.nd.erase w) (λf hf=>Y0R hf) λf hf=>by
  have hf':=Y0R hf;obtain⟨p,hp,co⟩:=(C.vx hf').cod (by omega) (by omega);refine⟨p,XI.mpr ⟨hp,?_⟩,co⟩;rw[Y0o,zP];rintro ⟨lt,m1,m2⟩;rcases co with ⟨e1,_⟩ | ⟨_,co⟩
  ·omega
  have:=(co.top _ W.inn (met _ m1) (met _ m2)).anti (top f hf');have eq:=Tk (C.low f hf') (C.low w hw) (C.len f hf') (C.len w hw) this;rw[eq] at hf;exact (List.Nodup.not_mem_erase C.nd) hf
 have sp:((prs ess.length).filter λp=>decide (p.2<p.1/\p.1∈[b 0,b 1,b 2,b 3]/\p.2∈[b 0,b 1,b 2,b 3])).length+((prs ess.length).filter λp=>!decide (p.2<p.1/\p.1∈[b 0,b 1,b 2,b 3]/\p.2∈[b 0,b 1,b 2,b 3])).length=(prs ess.length).length:=by
  induction prs ess.length with
  | nil=>rfl
  | cons x l ih =>
   rw[GE,GE]
   cases h:decide (x.2<x.1/\x.1∈[b 0,b 1,b 2,b 3]/\x.2∈[b 0,b 1,b 2,b 3]) <;> simp only [h,zo,Bool.not_false,zx,GU,XS,XV] <;> omega
 have:=Kw ess.length (by omega);have:ess.length*(ess.length+1)<=11*12:=GY hm (by omega);rw[Y0w hw] at rest;omega
end
end Sb
namespace Sv
def sN:Nat->(Nat->Nat)->Nat
 | 0,_=>0
 | n+1,f=>sN n f+f n
def pN:Nat->(Nat->Nat)->Nat
 | 0,_=>1
 | n+1,f=>pN n f*f n
theorem Nu (f:TX):∀ n,sN (n+1) f=f 0+sN n (λr=>f (r+1))
 | 0=>by show 0+f 0=f 0+0;omega
 | n+1=>by
  show sN (n+1) f+f (n+1)=f 0+(sN n (λr=>f (r+1))+f (n+1));rw[Nu f n];omega
theorem Z2j {f g:TX}:∀ {n:Nat},(∀ k,k<n->f k<=g k)->sN n f<=sN n g
 | 0,_=>YF _
 | n+1,h=>Nat.add_le_add (Z2j λk hk=>h k (by omega)) (h n (by omega))
theorem Cd {f g:TX}:∀ {n:Nat},(∀ k,k<n->f k<=g k)->pN n f<=pN n g
 | 0,_=>YF _
 | n+1,h=>GY (Cd λk hk=>h k (by omega)) (h n (by omega))
theorem Md {f g:TX}:∀ {n:Nat},(∀ k,k<n->f k=g k)->pN n f=pN n g
 | 0,_=>rfl
 | n+1,h=>by
  show pN n f*f n=pN n g*g n;rw[Md (n:=n) λk hk=>h k (by omega),h n (by omega)]
theorem sN_congr {f g:TX}:∀ {n:Nat},(∀ k,k<n->f k=g k)->sN n f=sN n g
 | 0,_=>rfl
 | n+1,h=>by
  show sN n f+f n=sN n g+g n;rw[sN_congr (n:=n) λk hk=>h k (by omega),h n (by omega)]
theorem Dp (f:TX)(b:Nat):∀ n,sN n (λk=>f k*b)=sN n f*b
 | 0=>by show 0=0*b;rw[Nat.zero_mul]
 | n+1=>by
  show sN n (λk=>f k*b)+f n*b=(sN n f+f n)*b;rw[Dp f b n,Nat.add_mul]
theorem Ko {f:TY}:∀ {n:Nat},(sm n f).natAbs<=sN n (λk=>(f k).natAbs)
 | 0=>by show (0:Int).natAbs<=0;decide
 | n+1=>by
  show (sm n f+f n).natAbs<=sN n (λk=>(f k).natAbs)+(f n).natAbs;have:=Ko (f:=f) (n:=n);have:=Int.natAbs_add_le (sm n f) (f n);omega
theorem Bt (a b:TX):∀ m,sN (m+1) (λk=>a k*pN m (λi=>b (skip k i)))<=pN (m+1) (λk=>a k+b k)
 | 0=>by
  show 0+a 0*1<=1*(a 0+b 0);omega
 | m+1=>by
  have ih:=Bt a b m;have e1:sN (m+1) (λk=>a k*pN (m+1) (λi=>b (skip k i)))=sN (m+1) (λk=>a k*pN m (λi=>b (skip k i)))*b (m+1):=by
   rw[<-Dp];refine sN_congr λk hk=>?_;show a k*(pN m (λi=>b (skip k i))*b (skip k m))=_;have:skip k m=m+1:=by unfold skip;split <;> omega
   rw[this,Nat.mul_assoc]
  have e2:pN (m+1) (λi=>b (skip (m+1) i))=pN (m+1) b:=Md λi hi=>by
   have:skip (m+1) i=i:=by unfold skip;split <;> omega
   rw[this]
  show sN (m+1) (λk=>a k*pN (m+1) (λi=>b (skip k i)))+a (m+1)*pN (m+1) (λi=>b (skip (m+1) i))<=pN (m+1) (λk=>a k+b k)*(a (m+1)+b (m+1));rw[e1,e2];have h1:=qB (b (m+1)) ih;have h2:pN (m+1) b<=pN (m+1) (λk=>a k+b k):=Cd λk _=>by omega
  have h3:=qh (a (m+1)) h2;rw[Y0p,Y03 (pN (m+1) λk=>a k+b k) (a (m+1))];omega
theorem det_w:∀ {m:Nat} {v:Mat} {w:TX},(∀ k,k<m->sN m (λr=>(v k r).natAbs)<=w k)->(det m v).natAbs<=pN m w
 | 0,_,_,_=>by show (1:Int).natAbs<=1;decide
 | m+1,v,w,h=>by
  have key:(sm (m+1) (λk=>sgn k*v k 0*det m (minor v k))).natAbs<=sN (m+1) (λk=>(v k 0).natAbs*pN m (λi=>sN m (λr=>(v (skip k i) (r+1)).natAbs))):=by
   refine XD Ko (Z2j λk hk=>?_);show (sgn k*v k 0*det m (minor v k)).natAbs<=_;rw[qA,qA,Kp,Nat.one_mul];exact qh _ (det_w (m:=m) λi hi=>YF _)
  refine XD key (XD (Bt (λk=>(v k 0).natAbs) (λk=>sN m (λr=>(v k (r+1)).natAbs)) m) (Cd λk hk=>?_));have:=h k hk;rw[Nu] at this;exact this
theorem pN_pow (B:Nat)(x:TX):∀ m,pN m (λk=>B ^ x k)=B ^ sN m x
 | 0=>rfl
 | m+1=>by
  show pN m (λk=>B ^ x k)*B ^ x m=B ^ (sN m x+x m);rw[pN_pow B x m,Y0W]
theorem sN_const {f:TX}{M:Nat}:∀ {n:Nat},(∀ k,k<n->f k<=M)->sN n f<=n*M
 | 0,_=>JO _
 | n+1,h=>by
  have h1:=sN_const (n:=n) (f:=f) (M:=M) λk hk=>h k (by omega);have h2:=h n (by omega);show sN n f+f n<=(n+1)*M;rw[zy];omega
theorem sN_unit {i:Nat}:∀ {m:Nat},sN m (λr=>(if i=r then (1:Int) else 0).natAbs)<=1
 | 0=>JO _
 | m+1=>by
  show sN m (λr=>(if i=r then (1:Int) else 0).natAbs)+(if i=m then (1:Int) else 0).natAbs<=1;by_cases h:i=m
  ·subst h;have:sN i (λr=>(if i=r then (1:Int) else 0).natAbs)<=i*0:=sN_const λk hk=>by rw[XB (by omega)];decide
   rw[XF rfl];show _+1<=1;omega
  rw[XB h];exact sN_unit (m:=m)
end Sv
namespace Sb
open PySem L2
theorem M1 (y:Nat->QQ):∀ n:Nat,∃ (D:Int) (Y:TY),D≠0/\∀ k,k<n->y k*(D:QQ)=Y k
 | 0=>⟨1,λ_=>0,by decide,λk h=>absurd h (by omega)⟩
 | n+1=>by
  obtain⟨D,Y,d0,h⟩:=M1 y n;have dn:((y n).den:Int)≠0:=by have:=(y n).den_nz;omega
  have e:y n*(((y n).den:Int):QQ)=((y n).num:QQ):=by
   have z:(((y n).den:Int):QQ)≠0:=λz=>dn (_root_.Rat.intCast_inj.mp (by rw[z];rfl));have h:=_root_.Rat.num_divInt_den (y n);rw[_root_.Rat.divInt_eq_div] at h;grind
  refine⟨D*((y n).den:Int),λk=>if k=n then (y n).num*D else Y k*((y n).den:Int),Y0N d0 dn,λk hk=>?_⟩;dsimp only;by_cases z:k=n
  ·subst z;rw[XF rfl,_root_.Rat.intCast_mul,_root_.Rat.intCast_mul,<-e];grind
  rw[XB z,_root_.Rat.intCast_mul,_root_.Rat.intCast_mul,<-h k (by omega)];grind
theorem Z2w (f:TY):∀ n:Nat,((Sv.sm n f:Int):QQ)=sQ n λk=>(f k:QQ)
 | 0=>rfl
 | n+1=>by
  show ((Sv.sm n f+f n:Int):QQ)=sQ n _+(f n:QQ);rw[_root_.Rat.intCast_add,Z2w f n]
theorem Do {t M:Nat}(A:Nat):∀ {n:Nat},t<n->Sv.sN n (λk=>if k=t then A else M)=A+(n - 1)*M
 | 0,h=>absurd h (by omega)
 | n+1,h=>by
  show Sv.sN n (λk=>if k=t then A else M)+(if n=t then A else M)=A+n*M;by_cases e:n=t
  ·rw[XF e];have:Sv.sN n (λk=>if k=t then A else M)=n*M:=by
    have c:Sv.sN n (λk=>if k=t then A else M)=Sv.sN n λ_=>M:=Sv.sN_congr λk hk=>XB (by omega);rw[c];clear c h e
    induction n with
    | zero=>rw[Nat.zero_mul];rfl
    | succ n ih =>
     show Sv.sN n (λ_=>M)+M=_;rw[ih,zy]
   omega
  rw[XB e,Do A (n:=n) (by omega)];obtain⟨q,rfl⟩:∃ q,n=q+1:=⟨n - 1,by omega⟩;rw[Y1i,zy];omega
section
variable {q m N:Nat}{c:Nat->Pt}{x:Pt}{b:TX}{e:Nat->Pt}
theorem Z2b {n i:Nat}(h:i<n)(f:Pt):dq n (λk=>if k=i then 1 else 0) f=f i:=by
 unfold dq;rw[<-W4 f h];exact Zo λk _=>by split <;> grind
theorem Fix.unit (F:Fix (q+1) m c x b e)(s1:sQ (q+1) x=1){i j:Nat}(hi:i<q+1)(hj:j<q+1):(if j=i then (1:QQ) else 0)=sQ q (λk=>c (b k) i*e k j)+x j:=by
 have:=F.span (λk=>(if k=i then 1 else 0) - x k) (by rw[Vw,W4 (λ_=>1) hi,s1];grind) j hj;have e2:sQ (q+1 - 1) (λk=>dq (q+1) (λk=>(if k=i then 1 else 0) - x k) (c (b k))*e k j)=sQ q λk=>c (b k) i*e k j:=Zo λk hk=>by
  rw[Rq,Z2b hi,(F.bt k hk).2];grind
 rw[e2] at this;grind
theorem Fix.cramer (F:Fix (q+1) m c x b e)(h8:q+1<=8)(s1:sQ (q+1) x=1)(hw:∀ k,k<q->∃ (D:Int) (W:TY),D≠0/\∀ i,i<q+1->c (b k) i*(D:QQ)=W i/\Bd N (W i)) :
  ∃ (S:Int) (C:TY),S≠0/\Bd (4+q*(N+3)) S/\(∀ j,j<q+1->Bd (4+q*(N+3)) (C j))/\∀ j,j<q+1->x j*(S:QQ)=C j:=by
 have hw':∀ k,∃ p:Int × (Nat->Int),k<q->p.1≠0/\∀ i,i<q+1->c (b k) i*(p.1:QQ)=p.2 i/\Bd N (p.2 i):=λk=>by
  by_cases h:k<q
  ·obtain⟨D,W,h1,h2⟩:=hw k h;exact⟨(D,W),λ_=>⟨h1,h2⟩⟩
  exact⟨(0,λ_=>0),λz=>absurd z h⟩
 obtain⟨p,P⟩:∃ p:Nat->Int × (Nat->Int),∀ k,k<q->(p k).1≠0/\∀ i,i<q+1->c (b k) i*((p k).1:QQ)=(p k).2 i/\Bd N ((p k).2 i):=⟨λk=>Classical.choose (hw' k),λk=>JR (hw' k)⟩;have P:∀ k,k<q->(p k).1≠0/\∀ i,i<q+1->c (b k) i*((p k).1:QQ)=(p k).2 i/\Bd N ((p k).2 i):=P;obtain⟨v,vd⟩:∃ v:Sv.Mat,∀ k,v k=if k<q then (p k).2 else λ_=>1:=⟨_,λ_=>rfl⟩
 have v1:∀ k,k<q->v k=(p k).2:=λk hk=>by rw[vd,XF hk]
 have v2:v q=λ_=>1:=by rw[vd,XB (by omega)]
 have sol:∀ j,j<q+1->∃ (D:Int) (Y:TY),D≠0/\(Y q:QQ)=x j*(D:QQ)/\∀ i,i<q+1->Sv.sm (q+1) (λk=>Y k*v k i)=D*Sv.idm j i:=λj hj=>by
  obtain⟨D,Y,d0,h⟩:=M1 (λk=>if k<q then e k j / ((p k).1:QQ) else x j) (q+1);have hq:=h q (by omega);rw[XB (by omega)] at hq;refine⟨D,Y,d0,hq.symm,λi hi=>?_⟩;have u:=F.unit s1 hi hj;apply _root_.Rat.intCast_inj.mp;rw[Z2w];show sQ q (λk=>((Y k*v k i:Int):QQ))+((Y q*v q i:Int):QQ)=_;rw[v2,_root_.Rat.intCast_mul,<-hq];have e1:sQ q (λk=>((Y k*v k i:Int):QQ))=sQ q λk=>(D:QQ)*(c (b k) i*e k j):=Zo λk hk=>by
   have hk':=h k (by omega);rw[XF hk] at hk';obtain⟨p0,pw⟩:=P k hk;have:=(pw i hi).1;have p0':((p k).1:QQ)≠0:=λz=>p0 (_root_.Rat.intCast_inj.mp (by rw[z];rfl));rw[_root_.Rat.intCast_mul,v1 k hk,<-this,<-hk'];grind
  rw[e1,Yi];have e3:((D*Sv.idm j i:Int):QQ)=(D:QQ)*if j=i then 1 else 0:=by
   rw[_root_.Rat.intCast_mul];unfold Sv.idm;split <;> rfl
  rw[e3,u];show _+x j*(D:QQ)*((1:Int):QQ)=_;have:((1:Int):QQ)=1:=rfl;grind
 have cram:∀ (w:Sv.Mat) (t:Nat),t<q+1->∀ (j:Nat) (D:Int) (Y:TY),(∀ i,i<q+1->Sv.sm (q+1) (λk=>Y k*v k i)=D*Sv.idm j i)->D*Sv.det (q+1) (Sv.put w t (Sv.idm j))=Sv.sm (q+1) λk=>Y k*Sv.det (q+1) (Sv.put w t (v k)):=λw t ht j D Y h=>by
  rw[<-Sv.det_sum ht Y v (q+1),<-Sv.det_smul ht];refine Sv.det_congr λk r hk hr=>?_;unfold Sv.put;split
  ·exact (h r hr).symm
  rfl
 have exch:∀ t,t<=q+1->∃ κ:Nat->Nat,(∀ i,i<t->κ i<q+1)/\Sv.det (q+1) (λi=>if i<t then v (κ i) else Sv.idm i)≠0:=λt=>by
  induction t with
  | zero =>
   intro _;refine⟨λ_=>0,λi h=>absurd h (by omega),?_⟩;have:Sv.det (q+1) (λi=>if i<0 then v 0 else Sv.idm i)=1:=by
    rw[<-Sv.det_id (q+1)];exact Sv.det_congr λk r _ _=>by rw[XB (by omega)]
   rw[this]
   decide
  | succ t ih =>
   intro ht;obtain⟨κ,hκ,hd⟩:=ih (by omega);obtain⟨D,Y,d0,_,h⟩:=sol t (by omega);have cr:=cram (λi=>if i<t then v (κ i) else Sv.idm i) t (by omega) t D Y h;have e1:Sv.put (λi=>if i<t then v (κ i) else Sv.idm i) t (Sv.idm t)=λi=>if i<t then v (κ i) else Sv.idm i:=by
    funext i
    unfold Sv.put;by_cases z:i=t
    ·rw[XF z,z,XB (by omega)]
    rw[XB z]
   rw[e1] at cr;obtain⟨k,hk,nk⟩:∃ k,k<q+1/\Sv.det (q+1) (Sv.put (λi=>if i<t then v (κ i) else Sv.idm i) t (v k))≠0:=by
    refine YO λno=>Y0N d0 hd ?_;rw[cr];refine Sv.sm_zero λk hk=>?_;have:Sv.det (q+1) (Sv.put (λi=>if i<t then v (κ i) else Sv.idm i) t (v k))=0:=YO λy=>no ⟨k,hk,y⟩;rw[this,Y0K]
   refine⟨λi=>if i=t then k else κ i,λi hi=>?_,?_⟩
   ·dsimp only;split
    ·exact hk
    exact hκ i (by omega)
   have e2:(λi=>if i<t+1 then v (if i=t then k else κ i) else Sv.idm i)=Sv.put (λi=>if i<t then v (κ i) else Sv.idm i) t (v k):=by
    funext i
    unfold Sv.put;dsimp only;by_cases z:i=t
    ·rw[XF z,XF (by omega),XF z]
    rw[XB z,XB z];by_cases y:i<t
    ·rw[XF y,XF (by omega)]
    rw[XB y,XB (by omega)]
   rw[e2];exact nk
 obtain⟨κ,hκ,hd⟩:=exch (q+1) (YF _);have e0:Sv.det (q+1) (λi=>if i<q+1 then v (κ i) else Sv.idm i)=Sv.det (q+1) λi=>v (κ i):=Sv.det_congr λk r hk _=>by rw[XF hk]
 rw[e0] at hd;have inj:∀ i,i<q+1->∀ j,j<q+1->κ i=κ j->i=j:=λi hi j hj z=>YO λne=>hd (Sv.det_same hi hj ne (by show v (κ i)=v (κ j);rw[z]));have sur:∀ j,j<q+1->∃ i,i<q+1/\κ i=j:=λj hj=>by
  refine YO λno=>?_;have:=Xr (L:=j::(List.range (q+1)).map κ) (M:=List.range (q+1)) (by
   refine qH.mpr ⟨λh=>?_,?_⟩
   ·obtain⟨i,hi,z⟩:=YZ.mp h;exact no ⟨i,JA.mp hi,z⟩
   ·rw[XU,GL];refine (XU.mp List.nodup_range).imp_of_mem λ{a b} ha hb hne z=>hne (inj a (JA.mp ha) b (JA.mp hb) z)) λy hy=>by
   rcases YK.mp hy with rfl | hy
   ·exact JA.mpr hj
   obtain⟨i,hi,rfl⟩:=YZ.mp hy;exact JA.mpr (hκ i (JA.mp hi))
  simp only [XS,YC,zZ] at this;omega
 obtain⟨t0,ht0,et0⟩:=sur q (by omega);have nrm:∀ (w:Sv.Mat),(∀ i,i<q+1->i≠t0->w i=v (κ i))->Sv.sN (q+1) (λr=>(w t0 r).natAbs)<=8->Bd (4+q*(N+3)) (Sv.det (q+1) w):=λw h1 h2=>by
  have:=Sv.det_w (m:=q+1) (v:=w) (w:=λk=>2 ^ (if k=t0 then 3 else N+3)) λk hk=>by
   by_cases z:k=t0
   ·rw[XF z,z];exact h2
   rw[XB z,h1 k hk z];have hq:κ k<q:=by
    have:=hκ k hk;by_cases y:κ k=q
    ·exact absurd (inj k hk t0 ht0 (y.trans et0.symm)) z
    omega
   rw[v1 _ hq];have:=Sv.sN_const (n:=q+1) (f:=λr=>((p (κ k)).2 r).natAbs) (M:=2 ^ N) λr hr=>jy ((P _ hq).2 r hr).2;refine XD this ?_;rw[Y0W,Y03];exact qh _ (by show q+1<=2 ^ 3;omega)
  rw[Sv.pN_pow,Do 3 ht0,Y1i] at this;show _<2 ^ (4+q*(N+3));exact JJ this (Nat.pow_lt_pow_right (by decide) (by omega))
 refine⟨Sv.det (q+1) λi=>v (κ i),λj=>Sv.det (q+1) (Sv.put (λi=>v (κ i)) t0 (Sv.idm j)),hd,nrm _ (λi _ _=>rfl) ?_,λj hj=>nrm _ (λi _ z=>Sv.put_ne z) ?_,λj hj=>?_⟩
 ·rw[et0,v2];have:=Sv.sN_const (n:=q+1) (f:=λ_=>(1:Int).natAbs) (M:=1) λr hr=>by decide
  exact XD this (by omega)
 ·rw[Sv.put_eq];exact XD Sv.sN_unit (by decide)
 obtain⟨D,Y,d0,hY,h⟩:=sol j hj;have cr:=cram (λi=>v (κ i)) t0 ht0 j D Y h;rw[Sv.sm_one (k:=q) (by omega) λk hk ne=>by
  obtain⟨i,hi,ei⟩:=sur k hk;have it:i≠t0:=λz=>ne (by rw[<-ei,z,et0]);rw[Sv.det_same hi ht0 it (by rw[Sv.put_eq,Sv.put_ne it,ei]),Y0K]] at cr
 have e5:Sv.put (λi=>v (κ i)) t0 (v q)=λi=>v (κ i):=by
  rw[<-et0];exact Sv.put_self (λi=>v (κ i)) t0
 rw[e5] at cr;have d0':(D:QQ)≠0:=λz=>d0 (_root_.Rat.intCast_inj.mp (by rw[z];rfl));have cr':(D:QQ)*((Sv.det (q+1) (Sv.put (λi=>v (κ i)) t0 (Sv.idm j)):Int):QQ)=(Y q:QQ)*((Sv.det (q+1) (λi=>v (κ i)):Int):QQ):=by
  rw[<-_root_.Rat.intCast_mul,<-_root_.Rat.intCast_mul,cr]
 rw[hY] at cr';generalize ((Sv.det (q+1) (Sv.put (λi=>v (κ i)) t0 (Sv.idm j)):Int):QQ)=A at *
 generalize ((Sv.det (q+1) (λi=>v (κ i)):Int):QQ)=B at *
 have:(D:QQ)*(A - x j*B)=0:=by grind
 rcases _root_.Rat.mul_eq_zero.mp this with z | z
 ·exact absurd z d0'
 grind
end
section
variable {n N:Nat}{ess fss:UC}{c:Nat->Pt}{f:UB}
theorem CorR.small8 (C:CorR n ess c fss)(h1:1<=n)(h8:n<=8)(he:∀ e∈ess,RowN N n e)(hf:f∈fss):RowN (4+(n - 1)*(N+3)) n f:=by
 obtain⟨q,rfl⟩:∃ q,n=q+1:=⟨n - 1,by omega⟩;obtain⟨st,s1⟩:=C.stuck hf;obtain⟨b,e,F⟩:=st.fix (by omega);obtain⟨S,W,s0,bS,bW,h⟩:=F.cramer (N:=N) h8 s1 λk hk=>by
  have hb:=(F.bt k hk).1;have hm:ess.getD (b k) []∈ess:=by
   have:ess.getD (b k) []=ess[b k]:=by simp[List.getD,hb]
   rw[this];exact XG hb
  obtain⟨l,D,Ws,R⟩:=he _ hm;have R':∀ i,∃ W:Int,i<q+1->qr (ess.getD (b k) []) i*(D:QQ)=W/\Bd N W:=λi=>by
   by_cases z:i<q+1
   ·obtain⟨W,w1,w2⟩:=Ny R (k:=i) (by omega);exact⟨W,λ_=>⟨w2,w1⟩⟩
   exact⟨0,λy=>absurd y z⟩
  exact⟨D,λi=>Classical.choose (R' i),by have:=R.pos;omega,λi hi=>JR (R' i) hi⟩
 exact Sm (C.low f hf) (C.len f hf) s0 bS bW h
end
end Sb
namespace Sb
open PySem PySem.Spec PyProof.Rows L2
def bndC (n:Nat)(gs:UC)(k:Nat):Pt:=if k<n then λi=>if i=k then -1 else 0 else qr (gs.getD (k - n) [])
theorem Q0 {n:Nat}{gs:UC}{k:Nat}(hk:k<n)(x:Pt):dq n x (bndC n gs k)=-x k:=by
 unfold bndC dq;rw[XF hk];have:=W4 (λi=>-x i) hk;rw[<-this];exact Zo λi _=>by
  by_cases e:i=k
  ·rw[XF e,XF e];grind
  rw[XB e,XB e];grind
theorem Sh {n m:Nat}{gs:UC}(h:n<=m):Bnds n m (bndC n gs):=⟨h,λi hi x=>Q0 hi x⟩
theorem uP_row {n w:Nat}:RowN 1 n (uP n w):=by
 refine Sm (S:=1) (C:=λk=>if k=w then 1 else 0) (Ua _ _) (U4 _ _) (by decide) (by show (1:Int).natAbs<2 ^ 1;decide) (λk _=>?_) λk hk=>?_
 ·show Bd 1 (if k=w then 1 else 0);split
  ·show (1:Int).natAbs<2 ^ 1;decide
  show (0:Int).natAbs<2 ^ 1;decide
 rw[Tg hk];show _=((if k=w then (1:Int) else 0:Int):QQ);split
 ·show (1:QQ)*((1:Int):QQ)=((1:Int):QQ);grind
 show (0:QQ)*((1:Int):QQ)=((0:Int):QQ);grind
theorem RowN.mono {m n c:Nat}{r:UB}(h:RowN m c r)(k:m<=n):RowN n c r:=by
 obtain⟨l,D,Ws,R⟩:=h;exact⟨l,D,Ws,R.mono k⟩
theorem CorR.perm {n:Nat}{ess fss gss:UC}{c:Nat->Pt}(C:CorR n ess c fss)(p:gss.Perm fss):CorR n ess c gss :=
 ⟨p.nodup_iff.mpr C.nd,λf hf=>C.len f (p.mem_iff.mp hf),λf hf=>C.low f (p.mem_iff.mp hf),⟨λv hv=>C.cors.vx v ((p.map qr).mem_iff.mp hv),λx X=>by
  obtain⟨v,hv,e⟩:=C.cors.all x X;exact⟨v,(p.map qr).mem_iff.mpr hv,e⟩⟩,C.el,C.ed⟩
section
variable {P:TU}{w:World}{K:TR}{mg:TB}{base:Heap}
theorem Ka:∀ {n i:Nat},i<n->evI n (λk=>decide (k=i))=[(i:Int)]
 | 0,_,h=>absurd h (by omega)
 | n+1,i,h=>by
  have z:∀ m,m<=i->(List.range m).filter (λk=>decide (k=i))=[]:=λm hm=>by
   rw[List.filter_eq_nil_iff];intro k hk;have:=JA.mp hk;simp;omega
  unfold evI;rw[qP,qw,XM];by_cases e:i=n
  ·subst e;rw[z i (YF _)];simp
  have:=Ka (n:=n) (i:=i) (by omega);unfold evI at this;rw[this];have e2:¬ n=i:=λy=>e y.symm;simp[e2]
def Srt (rss:UC):Prop:=rss.Pairwise λa b=>cntR rss a<=cntR rss b
theorem Uh {r1 r2:UC}(p:r1.Perm r2){a:UB}:cntR r1 a=cntR r2 a:=by
 unfold cntR;rw[(p.filter _).length_eq]
inductive spCorners (K:TR) (T:Addr) (vs:TZ) (H:Hp) (Q:VK) (_z3:XK):Prop
 | i (l:Addr) (n N M:Nat) (os:UD) (_:vs=[.int (n:Int),.ref l]) (_:2<=n/\n<=5) (_:OffsAt K H l n os) (_:os.length<=100) (_:M<=200000) (_:∀ o∈os,GoodO M o) (_:(gainsP os os.length).length<=6) (_:∀ g∈gainsP os os.length,RowN N n g) (_:1<=N) (_:N<=4000) (_:Tab1 H T)
  (_:∀ (d:Addr) (H':Hp) (rss:UC),SameX T H H'->Tab1 H' T->RowsAt K H' d rss->CorR n (paps n++gainsP os os.length) (bndC n (gainsP os os.length)) rss->Srt rss->Q (.ref d) H')
theorem Gn {Tb:Addr}(D:Def K mg "corners" iV VB)(T0:Blt mg)(eY:Has P w K mg base 3 "paper_of" UP (spPaper K))(fB:Has P w K mg base 5 "gains" UT (spGainsP K))(gM:Has P w K mg base 6 "cut_off" VA (spCutOff K) true)(gJ:Has P w K mg base 6 "rising" ["rows"] (spRising K Tb)) :
  Has P w K mg base 7 "corners" VB (spCorners K Tb) true:=by
 refine D.h9 (N:=["count","offers","papers","found","edges","row"]) fsc λH Q hr h nd=>?_;obtain⟨l,n,N,M,os,rfl,hn,hO,hz,hM,hG,hg6,hgN,hN1,hN,hT,k⟩:=h;have T:=T0;have nd1:(["world","count"]:List Str).Nodup:=by decide +kernel
 refine⟨_,(Z9 (X9 (i:=2) (N:=["world","count"]) (k:=1) (fv:=[0]) nd rfl (Or.inl rfl) rfl (Yh rfl T.range (Z0 (pv 0) Z7))
  (λ_ _ _ _ _=>Zf (i:=0) nd1 rfl (Or.inl rfl)) (λ_ _ _ _ _=>Zy) (λ_ _ _ _ _=>(Zc eY hr (Z0 (pv 1) (Z0 (Yp (Z0 (pv 0) Z7)) Z7)))) Zj)
  (Z9 (Zh (i:=3) nd rfl (Or.inl rfl) (pv 2))
  (Z9 (Zh (i:=4) nd rfl (Or.inl rfl) (pv 2))
  (Z9 (Ys XZ rfl (Y6 (Zc fB hr (Z0 (pv 1) Z7))) (Zf (i:=5) nd rfl (Or.inl rfl))
   (Z9 (Zh (i:=3) nd rfl (Or.inl rfl) (Wl gM (hr.mono (by decide)) rfl (Z0 (pv 3) (Z0 (pv 4) (Z0 (pv 5) Z7)))))
   (Za (Zh (i:=4) nd rfl (Or.inl rfl) (Zm Lw (pv 4) (X1 (Z0 (pv 5) Z7)))))))
  (Za (Zg (Zc gJ hr (Z0 (pv 3) Z7)))))))),?_⟩
 obtain⟨n2,n5⟩:=hn;obtain⟨ps0,hT0⟩:=hT.tbl;have bits:4+(n - 1)*(N+3)<=20000:=by
  have:(n - 1)*(N+3)<=4*4003:=GY (by omega) (by omega);omega
 have bits1:N<=4+(n - 1)*(N+3):=by
  have:1*(N+3)<=(n - 1)*(N+3):=GY (by omega) (YF _);omega
 refine Zz (Yb ?_);refine⟨_,rfl,(n:Int),rfl,(by omega),(by omega),λd hd=>?_⟩;have et:(n:Int).toNat=n:=by omega
 rw[et];refine⟨n,λi ys H'=>Same H H'/\∃ bs:List Addr,ys=bs.map V.ref/\Paired (RowAt K H') bs ((List.range i).map (uP n)),Zt (by omega),⟨Same.new hd,[],rfl,.nil⟩,?_,?_⟩
 ·rintro i ys H1 hi ⟨S1,bs,rfl,P1⟩ hd1;refine⟨hi,?_⟩;rintro x H3 ⟨rfl,rfl⟩;refine Y2 ?_;refine⟨_,rfl,_,rfl,sz1,λp hp=>?_⟩;have S3:Same H3 (upd H3 p (.tup [.int (0+(i:Int))])):=Same.new hp;have e0:(0+(i:Int))=((i:Nat):Int):=by omega
  have t3:SqT K (upd H3 p (.tup [.int (0+(i:Int))])) p [V.int ((i:Nat):Int)]:=by rw[e0];exact SqT.of Zb
  refine⟨n,.ref p,some λk=>decide (k=i),rfl,⟨p,rfl,by rw[Ka hi];exact t3⟩,by omega,by omega,λc4 H4 S4 r4=>?_⟩;have hd4:=S4 _ _ (S3 _ _ hd1);have E5:Ext H4 (upd H4 d (.lst (bs.map V.ref++[V.ref c4]))):=Ext.upd hd4;refine⟨hd4,Y7 (S1.trans (S3.trans S4)) hd,bs++[c4],by simp,?_⟩;rw[qP,XM];exact Paired.appP (Zk P1 ((Ext.same (S3.trans S4)).trans E5)) (.cons (r4.ext E5) .nil)
 rintro ys H1 ⟨S1,bs,rfl,P1⟩ hd1;refine⟨YF _,?_⟩;obtain⟨ov,oq,op⟩:=hO;refine Zu ?_;dsimp only;refine Zz (Yb ⟨_,rfl,Zu ?_⟩);dsimp only;refine Zz (Yb ⟨_,rfl,Zu ?_⟩);dsimp only;refine Zz ⟨_,rfl,l,n,M,os,rfl,⟨ov,S1 _ _ oq,Yk op (Ext.same S1)⟩,hz,by omega,hM,hG,λdg H2 fg S2 hR=>?_⟩;obtain⟨as,qg,Pg⟩:=hR;generalize gainsP os os.length=gs at *
 have lg:=YW Pg;have lpa:(paps n).length=n:=by unfold paps;simp
 have S12:=S1.trans S2;have eN:∀ i e',e'∈paps n++gs.take i->RowN N n e':=λi e' he=>by
  rcases XH.mp he with he | he
  ·unfold paps at he;obtain⟨w0,_,rfl⟩:=YZ.mp he;exact uP_row.mono hN1
  exact hgN e' (GS he)
 refine⟨dg,rfl,⟨_,SqL.of qg⟩,?_⟩;refine X0 (K:=K) (xs:=as.map V.ref) (λi σ H'=>Same H2 H'/\∃ (lf le:Addr) (af ae:TJ) (fss:UC) (x:UA),σ=[some (.int (n:Int)),some (.ref l),some (.ref d),some (.ref lf),some (.ref le),x]/\H' lf=some (.lst (af.map V.ref))/\Paired (RowAt K H') af fss/\H' le=some (.lst (ae.map V.ref))/\Paired (RowAt K H') ae (paps n++gs.take i)/\CorR n (paps n++gs.take i) (bndC n gs) fss)
  ⟨Same.refl _,d,d,bs,bs,paps n,none,rfl,S2 _ _ hd1,Zk P1 (Ext.same S2),S2 _ _ hd1,by rw[Y0Z,GN];exact Zk P1 (Ext.same S2),by rw[Y0Z,GN];exact Cb (c:=bndC n gs) λk hk x=>Q0 hk x⟩ (λi σ H' _ h=>SqL.of (h.1 _ _ qg)) ?_ ?_
 ·rintro i x σ H3 hx ⟨S3,lf,le,af,ae,fss,x0,rfl,qf,Pf,qe,Pe,C⟩;have hi:i<as.length:=by have:=(YH.mp hx).1;simpa using this
  have ea:as[i]?=some as[i]:=by simp[hi]
  have ez:gs[i]?=some (gs[i]'(by omega)):=by simp
  have hgd:gs.getD i []=gs[i]'(by omega):=by simp[List.getD,show i<gs.length by omega]
  generalize as[i]=a at ea;generalize (gs[i]'(by omega))=g at ez hgd;rw[YE,ea] at hx
  cases hx;have mg':=YD ez;have ra:=(Paired.getB Pg ea ez).ext (Ext.same S3);have le1:(paps n++gs.take i).length=n+i:=by rw[YX,lpa,JC];omega
  have few:=C.few10 n2 n5 (by rw[le1];omega);have rg:=hgN g mg';have lrg:Lows g:=by obtain⟨_,D1,W1,R1⟩:=rg;exact λr hr=>(R1.good r hr).low
  have C':CorR n ((paps n++gs.take i)++[g]) (bndC n gs) (cutC fss (paps n++gs.take i) g):=C.cut (by rw[le1];exact Sh (by omega)) lrg rg.1 λx=>by
   rw[le1];unfold bndC;rw[XB (by omega),zh,hgd]
  refine Zu ?_;refine Zz (Yb ?_);refine⟨_,rfl,_,rfl,_,rfl,lf,le,a,af,ae,fss,paps n++gs.take i,g,4+(n - 1)*(N+3),n,rfl,qf,Pf,qe,Pe,ra,by omega,bits,λf hf=>C.small8 (by omega) (by omega) (eN i) hf,λf hf=>(eN i f hf).mono bits1,rg.mono bits1,C.nd,by omega,by omega,λd4 H4 S4 hR4=>?_⟩;obtain⟨a4,q4,P4⟩:=hR4;refine Zu ?_;dsimp only;refine Yb ?_;refine⟨_,rfl,_,rfl,sz1,λp hp=>?_⟩;have S5:=Same.new (o:=.lst [V.ref a]) hp;have lae:=YW Pe;refine⟨le,p,ae.map V.ref,[.ref a],rfl,rfl,S5 _ _ (S4 _ _ qe),Zb,XD (show _<=1000 by rw[YC];simp only [XS,Y0P];omega) (by decide),λq hq=>?_⟩;have S6:=Same.new (o:=.lst (ae.map V.ref++[V.ref a])) hq;have S46:=S4.trans (S5.trans S6);refine Zu ⟨S3.trans S46,d4,q,a4,ae++[a],_,_,rfl,S6 _ _ (S5 _ _ q4),Zk P4 (Ext.same (S5.trans S6)),by rw[Zb,XM];rfl,?_,?_⟩
  ·rw[Ye ez,<-zT];exact Paired.appP (Zk Pe (Ext.same S46)) (.cons (ra.ext (Ext.same S46)) .nil)
  rw[Ye ez,<-zT];exact C'
 rintro σ H3 ⟨S3,lf,le,af,ae,fss,x0,rfl,qf,Pf,qe,Pe,C⟩;rw[YC,lg,JF] at C;have le1:(paps n++gs).length=n+gs.length:=by rw[YX,lpa]
 have few:fss.length<64:=by
  by_cases z:n=5
  ·subst z;have:=C.few11 (by omega);omega
  have:=C.few10 n2 n5 (by omega);omega
 have eN':∀ e'∈paps n++gs,RowN N n e':=λe' he=>eN gs.length e' (by rw[JF];exact he);refine⟨_,rfl,lf,af,fss,n,4+(n - 1)*(N+3),rfl,qf,Pf,few,C.len,by omega,λr hr=>?_,by omega,hT.same (S12.trans S3),λd' H' as' rss' SX tb' q' P' pm srt=>?_⟩
 ·obtain⟨_,D1,W1,R1⟩:=C.small8 (by omega) (by omega) eN' hr;exact R1.good
 exact k d' H' rss' ((SameX.of (S12.trans S3)).trans SX) tb' ⟨as',q',P'⟩ (C.perm pm) (srt.imp λ{a b} h=>by rw[Uh pm,Uh pm];exact h)
end
section
variable {X:Cx}{K:TR}
theorem Cg (hu:X.A.units+64<cLine)(hK:X.K=K:=by rfl):OpR X (compareOp .Eq) (rAlike K true):=by
 subst hK;intro pins s σ H x y v u Q I rx ry h;obtain⟨n,a,b,xs,ys,rfl,rfl,hn,h,p,q⟩:=h
 cases rx
 cases ry;have lp:=YW p;rcases h with ⟨h1,h2⟩ | ⟨h1,h2⟩
 ·obtain⟨i1,r1,p1,_⟩:=I.list h1;obtain⟨i2,r2,p2,_⟩:=I.list h2;have l1:=r1.length;have l2:=r2.length;refine SeqAt.RcAt.lists (A:=X.A) (e:=λ_=>true) p1.isList p2.isList (by simp;omega) (by omega) (λj h1 h2=>Xz I (by show X.A.units+1+n<cLine;omega) p r1 r2 j h1 h2) _ _ _ _ ?_;rw[Wa];exact⟨.bl true,H,I,rfl,q⟩
 obtain⟨i1,r1,p1,_⟩:=I.tuple h1;obtain⟨i2,r2,p2,_⟩:=I.tuple h2;have l1:=r1.length;have l2:=r2.length;refine zW (A:=X.A) (e:=λ_=>true) p1 p2 (by omega) (λj h1 h2=>Xz I (by show X.A.units+1+n<cLine;omega) p r1 r2 j h1 h2) _ _ _ _ ?_;have e:(i1.toArray.size == i2.toArray.size)=true:=by simp;omega
 rw[Wa,e];exact⟨.bl true,H,I,rfl,q⟩
end
section
variable {P:TU}{w:World}{K:TR}{mg:TB}{base:Heap}
inductive spIsRow (K:TR) (vs:TZ) (H:Hp) (Q:VK) (_z3:XK):Prop
 | i (a:Addr) (c n:Nat) (rs:UB) (_:vs=[.ref a,.int (c:Int)]) (_:RowAt K H a rs) (_:rs.length=c) (_:(∀ r∈rs,Good n r)) (_:n<=400000) (_:∀ H',Same H H'->Q (.bl true) H')
theorem Z1l (D:Def K mg "_law_is_row" jQ VC)(T:Blt mg)(eP:Has P w K mg base 3 "_law_is_ratio" UJ (spIsRt K)):Has P w K mg base 4 "_law_is_row" VC (spIsRow K):=by
 refine D.h9 (N:=["_law_found","_law_count","_law_one"]) fsc λH Q hr h nd=>?_;obtain⟨a,c,n,rs,rfl,⟨xs,hxs,hrs⟩,lr,g,hn,k⟩:=h;refine⟨_,(Z9 (Yc (PW.pt (Vj (Xg (Yo (Zq Xl rfl T.isinstance JB (Z0 (pv 0) (Z0 (U2 T.tuple XO) Z7))))) (Wh (Zp Me (Zq Zv rfl T.len qD (Z0 (pv 0) Z7)) (pv 1) (Zr _)))))
   (Za (Zg Xu))
   Zw)
  (Z9 (Ys XZ rfl (Wj (pv 0)) (Zf (i:=2) nd rfl (Or.inl rfl))
   (Za (Yc (Xg (Yo (Zc eP hr (Z0 (pv 2) Z7))))
    (Za (Zg Xu))
    Zw)))
  (Za (Zg Xu)))),?_⟩
 have lx:=hrs.len;refine⟨_,rfl,_,_,_,_,rfl,hxs,V7,_,rfl,Yw ?_⟩;refine⟨_,rfl,a,_,rfl,.inr hxs,_,rfl,rfl,_,rfl,Qf (by rw[show xs.length=c by omega]) ?_⟩;refine⟨_,rfl,a,rfl,⟨_,hxs⟩,Pz (K:=K) (a:=a) (xs:=xs) (λi σ H'=>Same H H'/\∃ (x:UA),σ=[some (.ref a),some (.int (c:Int)),x]) ⟨Same.refl _,none,rfl⟩ (λi σ H' _ h=>Zn h.1 hxs) ?_ ?_⟩
 ·rintro i x σ H2 hix ⟨S2,x1,rfl⟩;obtain⟨r,er,b,rfl,hb⟩:=(hrs.ext (Ext.same S2)).back hix;refine⟨_,rfl,b,r,n,rfl,hb,g r (YD er),hn,λH3 S3=>⟨_,rfl,Yw ?_⟩⟩;exact⟨S2.trans S3,_,rfl⟩
 rintro σ H2 ⟨S2,x1,rfl⟩;exact k _ S2
def fitB (gs:UC)(f:UB):Bool:=(f.all λx=>!decide (x.1<0)) && (gs.all λg=>!decide (0<(mn f g).1)) && decide (sumR f=(1,1))
inductive spFitsN (K:TR) (vs:TZ) (H:Hp) (Q:VK) (_z3:XK):Prop
 | i (a l:Addr) (c N n:Nat) (us:UB) (rss:UC) (_:vs=[.ref a,.ref l]) (_:RowAt K H a us) (_:RowsAt K H l rss) (_:RowN N c us) (_:∀ g∈rss,RowN n c g) (_:n+N+10<=200000) (_:c<=100) (_:∀ (H':Hp),Same H H'->Q (.bl (fitB rss us)) H')
theorem Z1m (D:Def K mg "_law_fits" jP VD)(T:Blt mg)(eF:Z3 P w K mg base)(eT:Has P w K mg base 4 "_law_mean" US (spMeanP K)):Has P w K mg base 5 "_law_fits" VD (spFitsN K):=by
 refine D.h9 (N:=["_law_weights_here","_law_rows","_law_some","_law_one","_law_row_here"]) fsc λH Q hr h nd=>?_;obtain⟨a,l,c,N,n,us,rss,rfl,hA,⟨ads,hl,hP⟩,⟨lu,D1,Us,rU⟩,hrs,hN,hc,k⟩:=h;obtain⟨xs,hxs,hus⟩:=hA;have hU:=GJ (Rk hr);refine⟨_,(Z9 (Zh (i:=2) nd rfl (Or.inl rfl) (Yp (Z0 Z8 (Z0 Z8 Z7))))
  (Z9 (Ys XZ rfl (Wj (pv 0)) (Zf (i:=3) nd rfl (Or.inl rfl))
   (Z9 (Yc (Zp Sz (Zi Yq (pv 3) Z8 (λ_ _=>rfl)) Z8 (Zr _))
    (Za (Zg Xu))
    Zw)
   (Za (Zh (i:=2) nd rfl (Or.inl rfl) (Zc eF hr (Z0 (pv 2) (Z0 (pv 3) Z7)))))))
  (Z9 (Ys XZ rfl (Y6 (pv 1)) (Zf (i:=4) nd rfl (Or.inl rfl))
   (Za (Yc (Zp Ky (Zi Yq (Zc eT hr (Z0 (pv 0) (Z0 (pv 4) Z7))) Z8 (λ_ _=>rfl)) Z8 (Zr _))
    (Za (Zg Xu))
    Zw)))
  (Za (Zg (Xb (Pp (K:=K) hU) (pv 2) (Yp (Z0 Z8 (Z0 Z8 Z7))) (Zr _))))))),?_⟩
 have lp:=YW hP;have lx:=hus.len;refine⟨sz2,λp hp=>?_⟩;have S0:Same H (upd H p (.tup [.int 0,.int 1])):=Same.new hp;refine⟨_,rfl,a,rfl,⟨_,Zn S0 hxs⟩,Pz (K:=K) (a:=a) (xs:=xs) (λi σ H'=>Same H H'/\(∀ x∈us.take i,¬ x.1<0)/\∃ (p:Addr) (x:UA),σ=[some (.ref a),some (.ref l),some (.ref p),x,none]/\SqT K H' p [.int (sumR (us.take i)).1,.int (sumR (us.take i)).2]) ⟨S0,λx hx=>by simp at hx,p,none,rfl,SqT.of Zb⟩ (λi σ H' _ h=>Zn h.1 hxs) ?_ ?_⟩
 ·rintro i x σ H2 hix ⟨S2,nn,p2,x1,rfl,sqp⟩;obtain⟨r,er,b,rfl,hb⟩:=(hus.ext (Ext.same S2)).back hix;have hm:=YD er;have g:=rU.good r hm;refine⟨_,rfl,b,_,_,rfl,rfl,hb,_,_,rfl,rfl,_,rfl,?_⟩;by_cases e0:r.1<0
  ·rw[XQ e0];have fz:fitB rss us=false:=by
    unfold fitB;have:(us.all λx=>!decide (x.1<0))=false:=by
     rw[List.all_eq_false];exact⟨r,hm,by simp[e0]⟩
    rw[this];rfl
   rw[fz] at k;exact Wy (k _ S2)
  rw[XR e0];refine Yw ?_;have gs:=(rU.take i).sumGood (k:=10) (by rw[JC];omega);replace gs:Good (N+10) (sumR (us.take i)):=gs;refine⟨_,rfl,_,rfl,p2,b,_,r,N+10,rfl,sqp,hb,gs,g.mono (by omega),by omega,λp3 H3 f3 S3 e3=>?_⟩;refine⟨S2.trans S3,λx hx=>?_,p3,_,rfl,?_⟩
  ·rw[Ye er] at hx;rcases XH.mp hx with hx | hx
   ·exact nn x hx
   rw[XA.mp hx];exact e0
  rw[Vc er];exact SqT.of e3
 rintro σ H2 ⟨S2,nn,p2,x1,rfl,sqp⟩;rw[YV (by omega)] at sqp nn;have f1:(us.all λx=>!decide (x.1<0))=true:=by
  rw[GR];exact λx hx=>by simp;have:=nn x hx;omega
 refine⟨_,rfl,l,rfl,⟨_,SqL.of (S2 _ _ hl)⟩,X0 (K:=K) (a:=l) (xs:=ads.map V.ref) (λi σ H'=>Same H2 H'/\(∀ g∈rss.take i,¬ 0<(mn us g).1)/\∃ (x:UA),σ=[some (.ref a),some (.ref l),some (.ref p2),x1,x]) ⟨Same.refl _,λg hg=>by simp at hg,none,rfl⟩ (λi σ H' _ h=>SqL.of (h.1 _ _ (S2 _ _ hl))) ?_ ?_⟩
 ·rintro i x σ H3 hix ⟨S3,bel,x3,rfl⟩;rw[YE] at hix
  cases ea:ads[i]? with
  | none=>rw[ea] at hix;cases hix
  | some ar =>
   rw[ea] at hix
   cases hix;have hia:i<ads.length:=(YH.mp ea).1;have hir:i<rss.length:=by omega
   have er:rss[i]?=some rss[i]:=by simp[hir]
   generalize rss[i]=g at er;have S03:=S2.trans S3;obtain⟨zs,hzs,hrz⟩:=(Paired.getB hP ea er).same S03;have hm:=YD er;obtain⟨lr,D2,Zs,rz⟩:=hrs _ hm;refine⟨_,rfl,_,rfl,a,ar,xs,zs,us,g,N,n,D1,D2,Us,Zs,rfl,.inr (Zn S03 hxs),hus.ext (Ext.same S03),.inr hzs,hrz,by omega,by omega,rU,rz,by omega,λcm H4 S4 e4=>?_⟩;refine⟨cm,_,_,rfl,rfl,e4,_,_,rfl,rfl,_,rfl,?_⟩;refine V8 (λh=>?_) (λh=>?_)
   ·have h':0<(mn us g).1:=GH h;have fz:fitB rss us=false:=by
     unfold fitB;have:(rss.all λg=>!decide (0<(mn us g).1))=false:=by
      rw[List.all_eq_false];exact⟨g,hm,by simp[h']⟩
     rw[this,Bool.and_false];rfl
    rw[fz] at k;exact k _ ((S2.trans S3).trans S4)
   refine⟨S3.trans S4,λy hy=>?_,_,rfl⟩;rw[Ye er] at hy;rcases XH.mp hy with hy | hy
   ·exact bel y hy
   rw[XA.mp hy];exact λz=>h (XQ z)
 rintro σ H3 ⟨S3,bel,x3,rfl⟩;rw[YC,lp,JF] at bel;have f2:(rss.all λg=>!decide (0<(mn us g).1))=true:=by
  rw[GR];exact λx hx=>by simp;have:=bel x hx;omega
 refine⟨_,rfl,sz2,λp3 hp3=>?_⟩;have S4:Same H3 (upd H3 p3 (.tup [.int 1,.int 1])):=Same.new hp3;refine⟨p2,p3,[_,_],[1,1],rfl,rfl,Zn (S3.trans S4) sqp,SqT.of Zb,?_⟩;have e1:decide ([(sumR us).1,(sumR us).2]=[1,1])=fitB rss us:=by
  unfold fitB;rw[f1,f2,Y0x,Y0x,zg];constructor
  ·intro z;injection z with z1 z2
   injection z2 with z2 _
   exact Y10 z1 z2
  intro z;rw[z]
 rw[e1];exact k _ ((S2.trans S3).trans S4)
end
end Sb
namespace Sb
open PySem L2
section
variable {n m:Nat}{c:Nat->Pt}{R v:Pt}{b:QQ}
theorem InP.some (B:Bnds n m c)(V:InP n m c v):∃ k,k<m/\dq n v (c k)≠0:=by
 refine YO λno=>?_;have z:sQ n v=0:=Vg λk hk=>by
  have h:dq n v (c k)=0:=YO λy=>no ⟨k,YT hk B.le,y⟩;rw[B.un k hk] at h;grind
 have:=V.one;grind
structure MixS (n m:Nat)(c:Nat->Pt)(R v:Pt)(b:QQ):Prop where
 nn:0<=b
 cone:∀ k,k<m->dq n (λi=>R i + -b*v i) (c k)<=0
 hit:∃ k,k<m/\dq n v (c k)≠0/\dq n (λi=>R i + -b*v i) (c k)=0
 keep:∀ k,k<m->dq n R (c k)=0->dq n (λi=>R i + -b*v i) (c k)=0
 new:b≠0->∃ k,k<m/\dq n R (c k)≠0/\dq n (λi=>R i + -b*v i) (c k)=0
theorem Bh (h:∀ k,k<m->dq n R (c k)<=0)(V:InP n m c v)(le:∀ k,k<m->dq n v (c k)≠0->b<=dq n R (c k) / dq n v (c k))(hit:∃ k,k<m/\dq n v (c k)≠0/\b=dq n R (c k) / dq n v (c k)):MixS n m c R v b:=by
 have ml:∀ k,k<m->dq n v (c k)≠0->dq n R (c k)<=b*dq n v (c k):=λk hk ne=>by
  have l:=le k hk ne;have v0:=V.le k hk;have e:dq n R (c k) / dq n v (c k)*dq n v (c k)=dq n R (c k):=by grind
  have:=_root_.Rat.mul_le_mul_of_nonneg_right l (show 0<=-dq n v (c k) by grind);grind
 obtain⟨k0,h0,ne0,e0⟩:=hit;have eb:b*dq n v (c k0)=dq n R (c k0):=by rw[e0];grind
 have nn:0<=b:=by
  have r0:=h k0 h0;have v0:=V.le k0 h0;have:0<=b * -dq n v (c k0):=by grind
  exact C0 this (by grind)
 refine⟨nn,λk hk=>?_,⟨k0,h0,ne0,?_⟩,λk hk z=>?_,λbn=>⟨k0,h0,λz=>?_,?_⟩⟩
 ·rw[Yj];by_cases z:dq n v (c k)=0
  ·rw[z];have:=h k hk;grind
  have:=ml k hk z;grind
 ·rw[Yj];grind
 ·rw[Yj,z];by_cases y:dq n v (c k)=0
  ·rw[y];grind
  have l:=le k hk y;rw[z] at l;have:b<=0:=by grind
  have:b=0:=by grind
  rw[this];grind
 ·rw[z] at eb;rcases _root_.Rat.mul_eq_zero.mp eb with y | y
  ·exact bn y
  exact ne0 y
 rw[Yj];grind
theorem Z1x {V:List Pt}(B:Bnds n m c)(C:Cors n m c V)(h:∀ k,k<m->dq n R (c k)<=0)(al:∀ v∈V,∃ k,k<m/\dq n v (c k)≠0/\dq n R (c k)=0):∀ i,i<n->R i=0:=by
 have nn:∀ i,i<n->0<=R i:=λi hi=>by
  have:=h i (YT hi B.le);rw[B.un i hi] at this;grind
 by_cases s0:sQ n R=0
 ·exact Pa nn s0
 exfalso;have sp:0<sQ n R:=by have:=U0 nn;grind
 obtain⟨t,ht,tp⟩:∃ t:QQ,t*sQ n R=1/\0<=t:=by
  have e:1 / sQ n R*sQ n R=1:=by grind
  exact⟨1 / sQ n R,e,C0 (b:=sQ n R) (by rw[e];decide) sp⟩
 have I:InP n m c λk=>t*R k:=⟨λk hk=>by
  rw[Nb];have:=_root_.Rat.mul_nonneg tp (show 0<=-dq n R (c k) by have:=h k hk;grind);grind,by rw[Yi];exact ht⟩
 obtain⟨w,vw,tw,_⟩:=I.corner B λ_=>0;obtain⟨v,hv,ev⟩:=C.all w vw;obtain⟨k,hk,ne,z⟩:=al v hv;refine ne ?_;rw[Ya ev];exact tw k hk (by rw[Nb,z];grind)
end
def restR (r f:UB)(b:Rat):List Rat:=List.zipWith addR r (f.map λx=>mulR' x (subR (0,1) b))
structure Least (ess:UC)(f r:UB)(b:Rat):Prop where
 low:Low b
 hit:∃ e∈ess,qv (mn f e)≠0/\qv b=qv (mn r e) / qv (mn f e)
 le:∀ e∈ess,qv (mn f e)≠0->qv b<=qv (mn r e) / qv (mn f e)
inductive Mx (ess:UC) (r0:UB):List (List Rat)->List Rat->List Rat->Prop
 | nil:Mx ess r0 [] [] r0
 | snoc {fs:UC} {mix r f:UB} {b:Rat} (h:Mx ess r0 fs mix r) (l:Least ess f r b):Mx ess r0 (fs++[f]) (mix++[b]) (restR r f b)
theorem Gd {n:Nat}{r f:UB}{b:Rat}(h1:r.length=n)(h2:f.length=n):(restR r f b).length=n:=by unfold restR;rw[JL,YC];omega
theorem Z1v {b:Rat}(lb:Low b):Low (subR (0,1) b)/\qv (subR (0,1) b)=-qv b:=by
 refine⟨Yd (GP (XN (by decide) lb.pos)),?_⟩;rw[Pi Tn lb,M0];grind
theorem Nx {n:Nat}{r f:UB}{b:Rat}(h1:r.length=n)(h2:f.length=n)(lr:Lows r)(lf:Lows f)(lb:Low b):Lows (restR r f b)/\∀ k,k<n->qr (restR r f b) k=qr r k + -qv b*qr f k:=by
 obtain⟨ls,qs⟩:=Z1v lb;have el:∀ {a x:Rat},Low a->Low x->Low (addR a (mulR' x (subR (0,1) b)))/\qv (addR a (mulR' x (subR (0,1) b)))=qv a + -qv b*qv x:=λ{a x} la lx=>by
  have x1:Low (mulR' x (subR (0,1) b)):=Yd (GP (XN lx.pos ls.pos));refine⟨Yd (GP (XN la.pos x1.pos)),?_⟩;rw[Pj la x1,Uv lx ls,qs];grind
 refine⟨λy hy=>?_,λk hk=>?_⟩
 ·obtain⟨i,hi⟩:=XL hy;unfold restR at hi;rw[JK,YE] at hi;have hk:i<n:=by
   by_cases z:i<n
   ·exact z
   rw[zq (by omega)] at hi;cases hi
  rw[XC (show i<r.length by omega),XC (show i<f.length by omega)] at hi
  cases hi;exact (el (lr _ (XG _)) (lf _ (XG _))).1
 have hu:k<r.length:=by omega
 have hv:k<f.length:=by omega
 have e1:(restR r f b).getD k (0,1)=addR r[k] (mulR' f[k] (subR (0,1) b)):=by
  unfold restR;rw[YG,JK,YE,XC hu,XC hv];rfl
 have e2:qr r k=qv r[k]:=by unfold qr;simp[List.getD,hu]
 have e3:qr f k=qv f[k]:=by unfold qr;simp[List.getD,hv]
 rw[e2,e3];unfold qr;rw[e1];exact (el (lr _ (XG hu)) (lf _ (XG hv))).2
structure Edg (n m:Nat)(c:Nat->Pt)(ess:UC):Prop where
 len:ess.length=m
 low:∀ e∈ess,Lows e/\e.length=n
 at_:∀ k,k<m->∀ x:Pt,dq n x (qr (ess.getD k []))=-dq n x (c k)
section
variable {n m:Nat}{c:Nat->Pt}{ess:UC}{f r:UB}{b:Rat}
theorem Ym {α:Type}{l:List α}{k:Nat}{d:α}(h:k<l.length):l.getD k d∈l:=by
 have:l.getD k d=l[k]:=by simp[List.getD,h]
 rw[this];exact XG h
theorem Edg.mn (E:Edg n m c ess)(lf:Lows f)(hf:f.length=n){k:Nat}(hk:k<m):qv (mn f (ess.getD k []))=-dq n (qr f) (c k):=by
 obtain⟨l1,l2⟩:=E.low _ (Ym (l:=ess) (d:=[]) (by rw[E.len];exact hk));rw[V6 lf l1 hf l2,E.at_ k hk]
theorem Edg.ix (E:Edg n m c ess){e:UB}(h:e∈ess):∃ k,k<m/\e=ess.getD k []:=by
 obtain⟨k,hk,rfl⟩:=Y13.mp h;exact⟨k,by rw[<-E.len];exact hk,by simp[List.getD,hk]⟩
theorem Least.step (E:Edg n m c ess)(L:Least ess f r b)(lf:Lows f)(hf:f.length=n)(lr:Lows r)(hr:r.length=n)(V:InP n m c (qr f))(h:∀ k,k<m->dq n (qr r) (c k)<=0):MixS n m c (qr r) (qr f) (qv b):=by
 have dv:∀ k,k<m->qv (Sb.mn r (ess.getD k [])) / qv (Sb.mn f (ess.getD k []))=dq n (qr r) (c k) / dq n (qr f) (c k):=λk hk=>by
  rw[E.mn lf hf hk,E.mn lr hr hk];by_cases z:dq n (qr f) (c k)=0
  ·rw[z];grind
  grind
 refine Bh h V (λk hk ne=>?_) ?_
 ·have:=L.le _ (Ym (l:=ess) (d:=[]) (by rw[E.len];exact hk)) (by rw[E.mn lf hf hk];grind);rw[dv k hk] at this;exact this
 obtain⟨e,he,ne,eb⟩:=L.hit;obtain⟨k,hk,rfl⟩:=E.ix he;rw[E.mn lf hf hk] at ne;exact⟨k,hk,by grind,by rw[eb,dv k hk]⟩
structure MxI (n m:Nat)(c:Nat->Pt)(r0:UB)(fs:UC)(mix r:UB):Prop where
 low:Lows r
 len:r.length=n
 cone:∀ k,k<m->dq n (qr r) (c k)<=0
 met:∀ f∈fs,∃ k,k<m/\dq n (qr f) (c k)≠0/\dq n (qr r) (c k)=0
 ml:Lows mix
 mn:∀ x∈mix,0<=qv x
 lm:mix.length=fs.length
 sum:∀ k,k<n->qr r0 k=qr r k+sQ fs.length λj=>qr mix j*qr (fs.getD j []) k
theorem Lq {x:Rat}{j:Nat}(h:j<l.length):qr (l++[x]) j=qr l j:=by
 unfold qr;rw[YG,YG,JV h]
theorem Pk {x:Rat}:qr (l++[x]) l.length=qv x:=by
 unfold qr;rw[YG,JT (YF _)];simp
theorem Mw {α:Type}{l:List α}{x d:α}{j:Nat}(h:j<l.length):(l++[x]).getD j d=l.getD j d:=by
 rw[YG,YG,JV h]
theorem Qg {α:Type}{l:List α}{x d:α}:(l++[x]).getD l.length d=x:=by
 rw[YG,JT (YF _)];simp
theorem Mx.inv (E:Edg n m c ess){r0:UB}(l0:Lows r0)(h0:r0.length=n)(c0:∀ k,k<m->dq n (qr r0) (c k)<=0){fs:UC}{mix r:UB}(M:Mx ess r0 fs mix r):(∀ f∈fs,Lows f/\f.length=n/\InP n m c (qr f))->MxI n m c r0 fs mix r:=by
 induction M with
 | nil=>exact λ_=>⟨l0,h0,c0,λf hf=>(nomatch hf),λx hx=>(by cases hx),λx hx=>(by cases hx),rfl,λk _=>by show _=_+0;grind⟩
 | @snoc fs mix r f b M L ih =>
  intro hfs;have I:=ih λg hg=>hfs g (YJ _ hg);obtain⟨lf,hf,V⟩:=hfs f (YU _ (XA.mpr rfl));have S:=L.step E lf hf I.low I.len V I.cone;obtain⟨lr',qr'⟩:=Nx I.len hf I.low lf L.low;have e:∀ k,k<m->dq n (qr (restR r f b)) (c k)=dq n (λi=>qr r i + -qv b*qr f i) (c k):=λk _=>Ya qr';refine⟨lr',Gd I.len hf,λk hk=>by rw[e k hk];exact S.cone k hk,λg hg=>?_,λx hx=>?_,λx hx=>?_,by simp[I.lm],λk hk=>?_⟩
  ·rcases XH.mp hg with hg | hg
   ·obtain⟨k,hk,ne,z⟩:=I.met g hg;exact⟨k,hk,ne,by rw[e k hk];exact S.keep k hk z⟩
   rw[XA.mp hg];obtain⟨k,hk,ne,z⟩:=S.hit;exact⟨k,hk,ne,by rw[e k hk];exact z⟩
  ·rcases XH.mp hx with hx | hx
   ·exact I.ml x hx
   rw[XA.mp hx];exact L.low
  ·rcases XH.mp hx with hx | hx
   ·exact I.mn x hx
   rw[XA.mp hx];exact S.nn
  rw[I.sum k hk,qr' k hk,YX];show _=_+(sQ fs.length _+qr (mix++[b]) fs.length*qr ((fs++[f]).getD fs.length []) k);have e1:sQ fs.length (λj=>qr (mix++[b]) j*qr ((fs++[f]).getD j []) k)=sQ fs.length λj=>qr mix j*qr (fs.getD j []) k:=Zo λj hj=>by
   rw[Lq (by rw[I.lm];exact hj),Mw hj]
  have e2:qr (mix++[b]) fs.length=qv b:=by rw[<-I.lm];exact Pk
  rw[e1,e2,Qg];grind
end
theorem Z53 (f:Nat->QQ):∀ m,nz m f<=m
 | 0=>YF _
 | m+1=>by have:=Z53 f m;unfold nz;split <;> omega
section
variable {n m N nc B0:Nat}{c:Nat->Pt}{ess:UC}
theorem RowN.whole (he:RowN N n e):∃ (D:Int) (Z:TY),0<D/\Bd N D/\∀ k,k<n->Bd N (Z k)/\qr e k*(D:QQ)=Z k:=by
 obtain⟨l2,De,Zs,R2⟩:=he;have h2:∀ k,∃ W:Int,k<n->Bd N W/\qr e k*(De:QQ)=W:=λk=>by
  by_cases z:k<n
  ·obtain⟨W,a,b⟩:=Ny R2 (k:=k) (by omega);exact⟨W,λ_=>⟨a,b⟩⟩
  exact⟨0,λy=>absurd y z⟩
 exact⟨De,λk=>Classical.choose (h2 k),R2.pos,R2.bD,λk=>JR (h2 k)⟩
theorem Nk {x y:Pt}{A B:Int}{W Z:TY}(hW:∀ k,k<n->x k*(A:QQ)=W k)(hZ:∀ k,k<n->y k*(B:QQ)=Z k):dq n x y*((B:QQ)*(A:QQ))=((Sv.sm n λk=>W k*Z k:Int):QQ):=by
 rw[Z2w];unfold dq;rw[show ∀ a b:QQ,a*b=b*a from λa b=>by grind,<-Yi];refine Zo λk hk=>?_;rw[_root_.Rat.intCast_mul,<-hW k hk,<-hZ k hk];grind
theorem Z4e {W Z:TY}(h8:n<=8)(hW:∀ k,k<n->Bd nc (W k))(hZ:∀ k,k<n->Bd N (Z k)):Bd (N+nc+3) (Sv.sm n λk=>W k*Z k):=by
 have p:=Nat.two_pow_pos (N+nc);have:=Sv.sm_abs (n:=n) (f:=λk=>W k*Z k) (M:=2 ^ (N+nc) - 1) λk hk=>by
  have:=(hW k hk).mul (hZ k hk);have this:(W k*Z k).natAbs<2 ^ (nc+N):=this;rw[jz nc N] at this;omega
 show _<2 ^ (N+nc+3);rw[Y00,Y00,Y00];have h2:n*(2 ^ (N+nc) - 1)<=8*(2 ^ (N+nc) - 1):=qB _ h8;omega
structure Dn (n B:Nat)(D:Int)(fs:UC)(mix r:UB):Prop where
 pos:0<D
 bd:Bd B D
 rw:∀ k,k<n->∃ W:Int,qr r k*(D:QQ)=W
 mw:∀ j,j<mix.length->∃ W:Int,qr mix j*(D:QQ)=W
 pw:∀ j,j<mix.length->∀ k,k<n->∃ W:Int,qr mix j*qr (fs.getD j []) k*(D:QQ)=W
theorem Jx {q:QQ}{S W:Int}(h:q*(D:QQ)=W):q*((D*S:Int):QQ)=((W*S:Int):QQ):=by
 rw[_root_.Rat.intCast_mul,_root_.Rat.intCast_mul,<-h];grind
theorem Mx.den (E:Edg n m c ess)(h8:n<=8)(heN:∀ e∈ess,RowN N n e){r0:UB}(l0:Lows r0)(h0:r0.length=n)(c0:∀ k,k<m->dq n (qr r0) (c k)<=0){D0:Int}(d0:0<D0)(bd0:Bd B0 D0)(w0:∀ k,k<n->∃ W:Int,qr r0 k*(D0:QQ)=W)
  {fs:UC} {mix r:UB} (M:Mx ess r0 fs mix r):(∀ f∈fs,Lows f/\f.length=n/\InP n m c (qr f))->(∀ f∈fs,RowN nc n f)->∃ D,Dn n (B0+(N+nc+3)*(m - nz m λk=>dq n (qr r) (c k))) D fs mix r:=by
 induction M with
 | nil=>exact λ_ _=>⟨D0,d0,bd0.mono (by omega),w0,λj hj=>absurd hj (by simp),λj hj=>absurd hj (by simp)⟩
 | @snoc fs mix r f b M L ih =>
  intro hfs hN;obtain⟨D,I⟩:=ih (λg hg=>hfs g (YJ _ hg)) λg hg=>hN g (YJ _ hg);have J:=M.inv E l0 h0 c0 λg hg=>hfs g (YJ _ hg);obtain⟨lf,hf,V⟩:=hfs f (YU _ (XA.mpr rfl));have hNf:=hN f (YU _ (XA.mpr rfl));have S:=L.step E lf hf J.low J.len V J.cone;obtain⟨lr',qr'⟩:=Nx J.len hf J.low lf L.low;have e:∀ k,k<m->dq n (qr (restR r f b)) (c k)=dq n (λi=>qr r i + -qv b*qr f i) (c k):=λk _=>Ya qr';have lm:(mix++[b]).length=mix.length+1:=by simp
  have lfs:mix.length=fs.length:=J.lm;have fin:∀ (D':Int) (B:Nat),0<D'->Bd B D'->B<=B0+(N+nc+3)*(m - nz m λk=>dq n (qr (restR r f b)) (c k))->(∀ q:QQ,(∃ W:Int,q*(D:QQ)=W)->∃ W:Int,q*(D':QQ)=W)->(∃ W:Int,qv b*(D':QQ)=W)->(∀ k,k<n->∃ W:Int,qv b*qr f k*(D':QQ)=W) →
    ∃ D,Dn n (B0+(N+nc+3)*(m - nz m λk=>dq n (qr (restR r f b)) (c k))) D (fs++[f]) (mix++[b]) (restR r f b):=λD' B p1 p2 p3 up n1 n2=>by
   refine⟨D',p1,p2.mono p3,λk hk=>?_,λj hj=>?_,λj hj k hk=>?_⟩
   ·obtain⟨W1,a1⟩:=up _ (I.rw k hk);obtain⟨W2,a2⟩:=n2 k hk;refine⟨W1 - W2,?_⟩;rw[qr' k hk,_root_.Rat.intCast_sub,<-a1,<-a2];grind
   ·by_cases z:j<mix.length
    ·rw[Lq z];exact up _ (I.mw j z)
    have:j=mix.length:=by omega
    rw[this,Pk];exact n1
   by_cases z:j<mix.length
   ·rw[Lq z,Mw (by omega)];exact up _ (I.pw j z k hk)
   have:j=mix.length:=by omega
   rw[this,Pk,lfs,Qg];exact n2 k hk
  by_cases bz:qv b=0
  ·have same:(λk=>dq n (qr (restR r f b)) (c k))=λk=>dq n (λi=>qr r i + -qv b*qr f i) (c k):=funext λk=>by
    exact Ya qr'
   have same2:nz m (λk=>dq n (qr (restR r f b)) (c k))=nz m λk=>dq n (qr r) (c k):=by
    rw[same]
    congr 1
    funext k
    rw[Yj,bz];grind
   refine fin D _ I.pos I.bd (by rw[same2];exact YF _) (λq h=>h) ⟨0,by rw[bz];grind⟩ λk hk=>⟨0,by rw[bz];grind⟩
  obtain⟨ee,he,ne,eb⟩:=L.hit;obtain⟨Df,W,p1,_,hW⟩:=hNf.whole;obtain⟨De,Z,p2,_,hZ⟩:=(heN ee he).whole;have hr:∀ k,∃ W:Int,k<n->qr r k*(D:QQ)=W:=λk=>by
   by_cases z:k<n
   ·obtain⟨W,a⟩:=I.rw k z;exact⟨W,λ_=>a⟩
   exact⟨0,λy=>absurd y z⟩
  obtain⟨Wr,hWr⟩:∃ W:Nat->Int,∀ k,k<n->qr r k*(D:QQ)=W k:=⟨λk=>Classical.choose (hr k),λk=>JR (hr k)⟩;obtain⟨le1,le2⟩:=E.low ee he;have hT:=Nk (n:=n) (λk hk=>(hW k hk).2) λk hk=>(hZ k hk).2;have hU:=Nk (n:=n) hWr λk hk=>(hZ k hk).2;have bT:=Z4e (n:=n) h8 (λk hk=>(hW k hk).1) λk hk=>(hZ k hk).1;rw[<-V6 lf le1 hf le2] at hT;rw[<-V6 J.low le1 J.len le2] at hU;generalize (Sv.sm n λk=>W k*Z k)=T at hT bT;generalize (Sv.sm n λk=>Wr k*Z k)=U at hU;have q1:=Yx p1;have q2:=Yx p2;have q3:=Yx I.pos;have t0:T≠0:=λz=>by
   rw[z] at hT;rcases _root_.Rat.mul_eq_zero.mp (hT.trans rfl) with y | y
   ·exact ne y
   rcases _root_.Rat.mul_eq_zero.mp y with y | y
   ·exact q2 y
   exact q1 y
  have key:qv b*((D:QQ)*(T:QQ))=(U:QQ)*(Df:QQ):=by
   have e1:qv b*qv (mn f ee)=qv (mn r ee):=by rw[eb];grind
   rw[<-hT,<-hU,<-e1];grind
  have key2:∀ k,k<n->qv b*qr f k*((D:QQ)*(T:QQ))=(U:QQ)*(W k:QQ):=λk hk=>by
   rw[<-(hW k hk).2];have:qv b*qr f k*((D:QQ)*(T:QQ))=qr f k*(qv b*((D:QQ)*(T:QQ))):=by grind
   rw[this,key];grind
  obtain⟨k1,hk1,nk1,zk1⟩:=S.new bz;have lt:=Cz (m:=m) (f:=λk=>dq n (qr r) (c k)) (g:=λk=>dq n (qr (restR r f b)) (c k)) (λk hk z=>by rw[e k hk];exact S.keep k hk z) ⟨k1,hk1,nk1,by rw[e k1 hk1];exact zk1⟩;have le':=Z53 (λk=>dq n (qr r) (c k)) m;have grow:B0+(N+nc+3)*(m - nz m λk=>dq n (qr r) (c k))+(N+nc+3)<=B0+(N+nc+3)*(m - nz m λk=>dq n (qr (restR r f b)) (c k)):=by
   have:=qh (N+nc+3) (show (m - nz m λk=>dq n (qr r) (c k))+1<=m - nz m λk=>dq n (qr (restR r f b)) (c k) by omega);rw[Y0p,Nat.mul_one] at this;omega
  have done:∀ T':Int,0<T'->Bd (N+nc+3) T'->(∃ s:Int,T'=T*s)->∃ D,Dn n (B0+(N+nc+3)*(m - nz m λk=>dq n (qr (restR r f b)) (c k))) D (fs++[f]) (mix++[b]) (restR r f b):=λT' t1 t2 ⟨s,hs⟩=>by
   refine fin (D*T') _ (XN I.pos t1) (I.bd.mul t2) grow (λq ⟨V,hV⟩=>⟨V*T',Jx hV⟩) ⟨U*Df*s,?_⟩ λk hk=>⟨U*W k*s,?_⟩
   ·rw[hs,_root_.Rat.intCast_mul,_root_.Rat.intCast_mul,_root_.Rat.intCast_mul,_root_.Rat.intCast_mul,<-key];grind
   rw[hs,_root_.Rat.intCast_mul,_root_.Rat.intCast_mul,_root_.Rat.intCast_mul,_root_.Rat.intCast_mul,<-key2 k hk];grind
  by_cases tp:0<T
  ·exact done T tp bT ⟨1,by omega⟩
  exact done (-T) (by omega) bT.neg ⟨-1,by omega⟩
theorem Mx.done {fss gss:UC}{r0 r:UB}(E:Edg n m c ess)(B:Bnds n m c)(C:Cors n m c (fss.map qr))(hfs:∀ f∈fss,Lows f/\f.length=n)(l0:Lows r0)(h0:r0.length=n)(I0:InP n m c (qr r0))(M:Mx ess r0 fss mix r) :
  (∀ k,k<n->qr r0 k=sQ fss.length λj=>qr mix j*qr (fss.getD j []) k)/\sQ fss.length (qr mix)=1:=by
 have hv:∀ f∈fss,Lows f/\f.length=n/\InP n m c (qr f):=λf hf=>⟨(hfs f hf).1,(hfs f hf).2,(C.vx _ (YZ.mpr ⟨f,hf,rfl⟩)).inn⟩;have I:=M.inv E l0 h0 I0.le hv;have z:=Z1x B C I.cone λv hv=>by
  obtain⟨f,hf,rfl⟩:=YZ.mp hv;exact I.met f hf
 have s1:∀ k,k<n->qr r0 k=sQ fss.length λj=>qr mix j*qr (fss.getD j []) k:=λk hk=>by
  rw[I.sum k hk,z k hk];grind
 refine⟨s1,?_⟩;have e1:sQ n (qr r0)=sQ n λk=>sQ fss.length λj=>qr mix j*qr (fss.getD j []) k:=Zo s1;rw[I0.one,Qz] at e1;rw[e1];refine Zo λj hj=>?_;rw[Yi,(hv _ (Ym (d:=[]) hj)).2.2.one];grind
end
section
variable {P:TU}{w:World}{K:TR}{mg:TB}{base:Heap}
inductive spLeast (K:TR) (vs:TZ) (H:Hp) (Q:VK) (_z3:XK):Prop
 | i (l:Addr) (xs:TZ) (rs:UB) (n:Nat) (_:vs=[.ref l]) (_:H l=some (.lst xs)) (_:Rs K H rs xs) (_:rs≠[]) (_:rs.length<=1000) (_:∀ r∈rs,Good n r) (_:n<=200000) (_:∀ (v:V) (r:Rat) (H':Hp),Same H H'->IsR K H' r v->r∈rs->(∀ x∈rs,¬ x.1*r.2<r.1*x.2)->Q v H')
theorem No {a b c:Rat}(la:0<a.2)(lb:0<b.2)(lc:0<c.2)(h1:a.1*b.2<b.1*a.2)(h2:¬ c.1*b.2<b.1*c.2):¬ c.1*a.2<a.1*c.2:=λh3=>by
 have e1:=Y06 h1 lc;have e2:=ji (Int.not_lt.mp h2) (Int.le_of_lt la);have e3:=Y06 h3 lb;have s1:a.1*b.2*c.2=a.1*c.2*b.2:=Y0f ..;have s2:b.1*a.2*c.2=b.1*c.2*a.2:=Y0f ..;have s3:c.1*b.2*a.2=c.1*a.2*b.2:=Y0f ..;omega
theorem Z1j (D:Def K mg "least_of" iR UQ)(eM:Z5 P w K mg base):Has P w K mg base 2 "least_of" UQ (spLeast K):=by
 refine D.h9 (N:=["several","least","one"]) fsc λH Q hr h nd=>?_;obtain⟨l,xs,rs,n,rfl,hl,hR,hne,hz,hg,hn,k⟩:=h;refine⟨_,(Z9 (Zh (i:=1) nd rfl (Or.inl rfl) (Zi Yz (pv 0) Z8 (λ_ _=>rfl)))
  (Z9 (Ys XZ rfl (Y6 (pv 0)) (Zf (i:=2) nd rfl (Or.inl rfl))
   (Za (Yc (Yo (Zc eM hr (Z0 (pv 2) (Z0 (pv 1) Z7))))
    (Za (Zh (i:=1) nd rfl (Or.inl rfl) (pv 2)))
    Zw)))
  (Za (Zg (pv 1))))),?_⟩
 have lx:=hR.len;have h0:0<rs.length:=List.length_pos_iff.mpr hne;obtain⟨v0,e0,i0⟩:=hR.at (i:=0) (r:=rs[0]) (by simp[h0]);refine Zz (Yb ?_);refine⟨_,rfl,l,xs,0,v0,rfl,rfl,SqL.of hl,Y4 e0,?_⟩;refine Zu ?_;dsimp only;refine Zz ?_;refine⟨_,rfl,l,rfl,⟨_,SqL.of hl⟩,?_⟩;refine X0 (K:=K) (xs:=xs) (λi σ H'=>Same H H'/\∃ (v:V) (r:Rat) (x:UA),σ=[some (.ref l),some v,x]/\IsR K H' r v/\r∈rs/\∀ j,j<i->∀ y,rs[j]?=some y->¬ y.1*r.2<r.1*y.2)
  ⟨Same.refl _,v0,rs[0],none,rfl,i0,XG h0,λj hj=>absurd hj (by omega)⟩ (λi σ H' _ h=>SqL.of (h.1 _ _ hl)) ?_ ?_
 ·rintro i x σ H1 hx ⟨S1,v,r,x0,rfl,hv,mr,al⟩;obtain⟨y,ey,iy⟩:=hR.back hx;obtain⟨b,rfl,qb⟩:=iy.ext (Ext.same S1);obtain⟨a,rfl,qa⟩:=hv;have my:=YD ey;refine Zu ?_;dsimp only;refine⟨_,rfl,_,rfl,b,a,y.1,y.2,r.1,r.2,rfl,qb,qa,(hg y my).b1.mulOk (hg r mr).b2 (by omega) (by omega),(hg r mr).b1.mulOk (hg y my).b2 (by omega) (by omega),_,rfl,?_⟩;by_cases z:y.1*r.2<r.1*y.2
  ·rw[XQ z];refine Wy ⟨_,rfl,Zu ⟨S1,_,y,_,rfl,⟨b,rfl,qb⟩,my,λj hj u eu=>?_⟩⟩;by_cases e:j=i
   ·subst e;rw[ey] at eu
    cases eu;omega
   exact No (hg y my).pos (hg r mr).pos (hg u (YD eu)).pos z (al j (by omega) u eu)
  rw[XR z];refine Yw ⟨S1,_,r,_,rfl,⟨a,rfl,qa⟩,mr,λj hj u eu=>?_⟩;by_cases e:j=i
  ·subst e;rw[ey] at eu
   cases eu;exact z
  exact al j (by omega) u eu
 rintro σ H1 ⟨S1,v,r,x0,rfl,hv,mr,al⟩;refine⟨_,rfl,k v r H1 S1 hv mr λy hy=>?_⟩;obtain⟨j,ej⟩:=XL hy;exact al j (by have:=(YH.mp ej).1;omega) y ej
inductive spTurned (K:TR) (vs:TZ) (H:Hp) (Q:VK) (_z3:XK):Prop
 | i (a:Addr) (rs:UB) (n:Nat) (_:vs=[.ref a]) (_:RowAt K H a rs) (_:rs.length<=1000) (_:(∀ r∈rs,Good n r)) (_:1<=n) (_:n<=200000) (_:∀ c H',Same H H'->RowAt K H' c (rs.map λr=>mulR' r (-1,1))->Q (.ref c) H')
theorem Cj (D:Def K mg "turned" iX ["row"])(eD:Has P w K mg base 4 "multiplied" UX (spMultiplied K)):Has P w K mg base 5 "turned" ["row"] (spTurned K):=by
 refine D.h9 (N:=["row"]) fsc λH Q hr h nd=>?_;obtain⟨a,rs,n,rfl,hA,hl,gr,n1,hn,k⟩:=h;refine⟨_,(Za (Zg (Zc eD hr (Z0 (pv 0) (Z0 (Yp (Z0 (Q8 Ul Z8) (Z0 Z8 Z7))) Z7))))),?_⟩;refine⟨_,rfl,_,rfl,sz2,λp hp=>?_⟩;have S1:Same H (upd H p (.tup [.int (-1),.int 1])):=Same.new hp;have g1:Good n (-1,1):=⟨Te 1 (by decide) n1,Te 1 (by decide) n1,by decide,by decide⟩;exact⟨a,p,rs,(-1,1),n,rfl,hA.same S1,SqT.of Zb,hl,gr,g1,hn,λc H' ys S e R=>k c H' (S1.trans S) ⟨ys,SqT.of e,R⟩⟩
end
theorem Z3g {r:R2}{ta tb:TE}{σ:L2.St}{Q:VK}(h:ta σ H λx H1=>tb σ H1 λy H2=>r x y H2 Q):tOp r ta tb σ H Q:=h
section
variable {P:TU}{w:World}{K:TR}{mg:TB}{base:Heap}
def turnR (r:UB):List Rat:=r.map λx=>mulR' x (-1,1)
inductive spEdges (K:TR) (vs:TZ) (H:Hp) (Q:VK) (_z3:XK):Prop
 | i (l:Addr) (n N M:Nat) (os:UD) (_:vs=[.int (n:Int),.ref l]) (_:1<=n/\n<=100) (_:OffsAt K H l n os) (_:os.length<=100) (_:M<=200000) (_:∀ o∈os,GoodO M o) (_:(gainsP os os.length).length<=100) (_:∀ g∈gainsP os os.length,RowN N n g) (_:1<=N) (_:N<=200000)
  (_:∀ (d:Addr) (H':Hp),H d=none->Same H H'->RowsAt K H' d (paps n++(gainsP os os.length).map turnR)->Q (.ref d) H')
theorem Z1p (D:Def K mg "edges_of" iU VB)(T:Blt mg)(eY:Has P w K mg base 3 "paper_of" UP (spPaper K))(fB:Has P w K mg base 5 "gains" UT (spGainsP K))(gH:Has P w K mg base 5 "turned" ["row"] (spTurned K)) :
  Has P w K mg base 6 "edges_of" VB (spEdges K):=by
 refine D.h9 (N:=VB) fsc λH Q hr h nd=>?_;obtain⟨l,n,N,M,os,rfl,⟨n1,n5⟩,hO,hz,hM,hG,hg6,hgN,hN1,hN,k⟩:=h;have nd1:(["world","count"]:List Str).Nodup:=by decide +kernel
 have nd2:(["row"]:TF).Nodup:=by decide +kernel
 refine⟨_,(Za (Zg (Zm Lw (Y0 (N:=["world","count"]) (k:=1) (fv:=[0]) rfl (Yh rfl T.range (Z0 (pv 0) Z7))
  (λ_ _ _ _ _=>Zf (i:=0) nd1 rfl (Or.inl rfl)) (λ_ _ _ _ _=>Zy) (λ_ _ _ _ _=>(Zc eY hr (Z0 (pv 1) (Z0 (Yp (Z0 (pv 0) Z7)) Z7)))) Zj) (Y0 (N:=["row"]) (k:=1) (fv:=[]) rfl (Y6 (Zc fB hr (Z0 (pv 1) Z7)))
  (λ_ _ _ _ _=>Zf (i:=0) nd2 rfl (Or.inl rfl)) (λ_ _ _ _ _=>Zy) (λ_ _ _ _ _=>(Zc gH hr (Z0 (pv 0) Z7))) Zj)))),?_⟩
 refine Nw (Z3g ?_);refine⟨_,rfl,(n:Int),rfl,(by omega),(by omega),λd hd=>?_⟩;have et:(n:Int).toNat=n:=by omega
 rw[et];refine⟨n,λi ys H'=>Same H H'/\∃ bs:List Addr,ys=bs.map V.ref/\Paired (RowAt K H') bs ((List.range i).map (uP n)),Zt (by omega),⟨Same.new hd,[],rfl,.nil⟩,?_,?_⟩
 ·rintro i ys H1 hi ⟨S1,bs,rfl,P1⟩ hd1;refine⟨hi,?_⟩;rintro x H3 ⟨rfl,rfl⟩;refine Y2 ?_;refine⟨_,rfl,_,rfl,sz1,λp hp=>?_⟩;have S3:Same H3 (upd H3 p (.tup [.int (0+(i:Int))])):=Same.new hp;have e0:(0+(i:Int))=((i:Nat):Int):=by omega
  have t3:SqT K (upd H3 p (.tup [.int (0+(i:Int))])) p [V.int ((i:Nat):Int)]:=by rw[e0];exact SqT.of Zb
  refine⟨n,.ref p,some λk=>decide (k=i),rfl,⟨p,rfl,by rw[Ka hi];exact t3⟩,by omega,by omega,λc4 H4 S4 r4=>?_⟩;have hd4:=S4 _ _ (S3 _ _ hd1);have E5:Ext H4 (upd H4 d (.lst (bs.map V.ref++[V.ref c4]))):=Ext.upd hd4;refine⟨hd4,Y7 (S1.trans (S3.trans S4)) hd,bs++[c4],by simp,?_⟩;rw[qP,XM];exact Paired.appP (Zk P1 ((Ext.same (S3.trans S4)).trans E5)) (.cons (r4.ext E5) .nil)
 rintro ys H1 ⟨S1,bs,rfl,P1⟩ hd1;refine⟨YF _,?_⟩;obtain⟨ov,oq,op⟩:=hO;refine⟨_,rfl,l,n,M,os,rfl,⟨ov,S1 _ _ oq,Yk op (Ext.same S1)⟩,hz,by omega,hM,hG,λdg H2 fg S2 hR=>?_⟩;obtain⟨as,qg,Pg⟩:=hR;generalize gainsP os os.length=gs at *
 have lg:=YW Pg;refine⟨dg,rfl,⟨_,SqL.of qg⟩,λd3 hd3=>?_⟩;refine⟨as.length,λi ys H'=>Same H2 H'/\∃ cs:List Addr,ys=cs.map V.ref/\Paired (RowAt K H') cs ((gs.take i).map turnR),Zt (by omega),⟨Same.new hd3,[],rfl,by simpa using Paired.nil⟩,?_,?_⟩
 ·rintro i ys H3 hi ⟨S3,cs,rfl,P3⟩ hd3';have ql3:=S3 _ _ qg;have ea:as[i]?=some as[i]:=by simp[hi]
  have ez:gs[i]?=some (gs[i]'(by omega)):=by simp
  generalize as[i]=a at ea;generalize (gs[i]'(by omega))=g at ez;have ex:(as.map V.ref)[i]?=some (V.ref a):=by rw[YE,ea];rfl
  refine⟨⟨_,V.ref a,SqL.of ql3,ex⟩,?_⟩;rintro x H4 ⟨rfl,fx⟩;have e':=fx _ (SqL.of ql3);rw[ex] at e'
  cases e';have mg':=YD ez;obtain⟨lg',D1,W1,R1⟩:=hgN g mg';refine Y2 ?_;refine⟨_,rfl,a,g,N,rfl,(Paired.getB Pg ea ez).ext (Ext.same S3),by omega,R1.good,hN1,hN,λc5 H5 S5 r5=>?_⟩;have hd5:=S5 _ _ hd3';have E6:Ext H5 (upd H5 d3 (.lst (cs.map V.ref++[V.ref c5]))):=Ext.upd hd5;refine⟨hd5,Y7 (S3.trans S5) hd3,cs++[c5],by simp,?_⟩;rw[Ye ez,XM];exact Paired.appP (Zk P3 ((Ext.same S5).trans E6)) (.cons (r5.ext E6) .nil)
 rintro ys H3 ⟨S3,cs,rfl,P3⟩ hd3';rw[lg,JF] at P3;refine⟨⟨_,SqL.of (S3 _ _ qg),by simp⟩,?_⟩;have S23:=S2.trans S3;have lb:=YW P1;have lc:=YW P3;rw[YC,zZ] at lb;rw[YC] at lc;refine⟨d,d3,bs.map V.ref,cs.map V.ref,rfl,rfl,S23 _ _ hd1,hd3',XD (show _<=1000 by rw[YC,YC];omega) (by decide),λq hq=>?_⟩;have S6:=Same.new (o:=.lst (bs.map V.ref++cs.map V.ref)) hq;refine k q _ ((S1.trans S23).free hq) ((S1.trans S23).trans S6) ⟨bs++cs,by rw[Zb,XM],Paired.appP (Zk P1 (Ext.same (S23.trans S6))) (Zk P3 (Ext.same S6))⟩
end
theorem Z20 {a b:Rat}:(!decide ([a.1,a.2]=[b.1,b.2]))=!decide (a=b):=by
 by_cases h:a=b
 ·rw[h];simp
 have:¬ [a.1,a.2]=[b.1,b.2]:=λz=>h (by
  injection z with z1 z2
  injection z2 with z2 _
  exact Y10 z1 z2)
 simp[h,this]
theorem Z39 {r:Rat}(hr:0<r.2)(hs:0<s.2)(h:r.1*s.2<=s.1*r.2):qv r<=qv s:=by
 have a:=Vm hr;have b:=Vm hs;have p1:=Vo hr;have p2:=Vo hs;have e:((r.1*s.2:Int):QQ)<=((s.1*r.2:Int):QQ):=_root_.Rat.intCast_le_intCast.mpr h;rw[_root_.Rat.intCast_mul,_root_.Rat.intCast_mul,<-a,<-b] at e;have:0<=(qv s - qv r)*((r.2:QQ)*(s.2:QQ)):=by grind
 have:=C0 this (_root_.Rat.mul_pos p1 p2);grind
section
variable {P:TU}{w:World}{K:TR}{mg:TB}{base:Heap}
inductive spMost (K:TR) (vs:TZ) (H:Hp) (Q:VK) (_z3:XK):Prop
 | i (a b l:Addr) (as:TJ) (f r:UB) (ess:UC) (n N nc nr:Nat) (_:vs=[.ref a,.ref b,.ref l]) (_:RowAt K H a f) (_:RowAt K H b r) (_:H l=some (.lst (as.map V.ref))) (_:Paired (RowAt K H) as ess) (_:n<=100) (_:ess.length<=100) (_:RowN nc n f) (_:RowN nr n r) (_:∀ e∈ess,RowN N n e) (_:nc+nr+N+N+30<=200000) (_:∃ e∈ess,qv (mn f e)≠0)
  (_:∀ (v:V) (x:Rat) (H':Hp),Same H H'->IsR K H' x v->Least ess f r x->Good (nr+nc+N+N+20) x->Q v H')
theorem Z3l (D:Def K mg "most_of" i5 VE)(eH:Z4 P w K mg base)(fF:Has P w K mg base 3 "parted" UG (spPart0 K))(gC:Has P w K mg base 2 "least_of" UQ (spLeast K))(eC:Con K mg "NOUGHT" (0,1)):Has P w K mg base 5 "most_of" VE (spMost K):=by
 refine D.h9 (N:=["corner","loads","edges","bounding"]) fsc λH Q hr h nd=>?_;obtain⟨a,b,l,as,f,r,ess,n,N,nc,nr,rfl,hA,hB,hl,hp,hn,hz,hf,hrr,he,hb,hex,k⟩:=h;have hU:=GJ (Rk hr);obtain⟨c_NOUGHT,m_NOUGHT,s_NOUGHT⟩:=eC;have nd1:(["edge","corner"]:List Str).Nodup:=by decide +kernel
 have nd2:(["edge","corner","loads"]:List Str).Nodup:=by decide +kernel
 refine⟨_,(Z9 (X9 (i:=3) (N:=["edge","corner"]) (k:=1) (fv:=[0]) nd rfl (Or.inl rfl) rfl (Y6 (pv 2))
  (λ_ _ _ _ _=>Zf (i:=0) nd1 rfl (Or.inl rfl)) (λ_ _ _ _ _=>X8 (Zp (Lu (K:=K) hU) (Zc eH hr (Z0 (pv 1) (Z0 (pv 0) Z7))) (Yf (v:=.ref c_NOUGHT) rfl m_NOUGHT rfl) (Zr _))) (λ_ _ _ _ _=>(pv 0)) Zj)
  (Za (Zg (Zc gC hr (Z0 (Y0 (N:=["edge","corner","loads"]) (k:=1) (fv:=[0,1]) rfl (Y6 (pv 3))
  (λ_ _ _ _ _=>Zf (i:=0) nd2 rfl (Or.inl rfl)) (λ_ _ _ _ _=>Zy) (λ_ _ _ _ _=>(Zc fF hr (Z0 (Zc eH hr (Z0 (pv 2) (Z0 (pv 0) Z7))) (Z0 (Zc eH hr (Z0 (pv 1) (Z0 (pv 0) Z7))) Z7)))) Zj) Z7))))),?_⟩
 have lp:=YW hp;obtain⟨lf,Df,Wf,Rf⟩:=hf;obtain⟨lr,Dr,Wr,Rr⟩:=hrr;have lowf:Lows f:=λx hx=>(Rf.good x hx).low;have lowr:Lows r:=λx hx=>(Rr.good x hx).low;have lowe:∀ e∈ess,Lows e/\e.length=n:=λe hm=>by
  obtain⟨l1,D1,W1,R1⟩:=he e hm;exact⟨λx hx=>(R1.good x hx).low,l1⟩
 refine Zz (Yb ?_);refine Xm (K:=K) (α:=List Rat) (l:=l) (as:=as) (zs:=ess) (q:=λe=>!decide (mn f e=(0,1))) (λH' a r=>RowAt K H' a r) (λ_ _ _ _ e h=>h.ext e) (λG g=>⟨_,rfl,g⟩) (SqL.of hl) (by omega) hp (λj c e H2 G ec ee S2 hc hG=>?_) (by simp[comp0]) λd H2 bs hd S2 hd2 P2 _=>?_
 ·obtain⟨le,De,We,Re⟩:=he e (YD ee);obtain⟨xa,qa,ra⟩:=hA.ext (Ext.same S2);obtain⟨xc,qc,rc⟩:=hc;refine⟨_,rfl,_,rfl,a,c,xa,xc,f,e,nc,N,Df,De,Wf,We,rfl,.inr qa,ra,.inr qc,rc,by omega,by omega,Rf,Re,by omega,by omega,by omega,λc4 H4 S4 q4=>?_⟩;refine⟨c4,c_NOUGHT,[_,_],[0,1],rfl,rfl,q4,s_NOUGHT _,_,rfl,?_⟩;have:=hG H4 S4;have e1:=Z20 (a:=mn f e) (b:=(0,1));have e2:(!decide (mn f e=(0,1)))=!decide ([(sumR (List.zipWith mulR' f e)).1,(sumR (List.zipWith mulR' f e)).2]=[0,1]):=e1.symm;rw[e2] at this;exact this
 have lb:=YW P2;have fl:(ess.filter λe=>!decide (mn f e=(0,1))).length<=ess.length:=GM _ _;have mem:∀ e,e∈(ess.filter λe=>!decide (mn f e=(0,1))) ↔ e∈ess/\qv (mn f e)≠0:=λe=>by
  rw[XI];refine Y0O λhm=>?_;obtain⟨l1,l2⟩:=lowe e hm;rw[Y0o,zP,Kz lowf l1 lf l2,V6 lowf l1 lf l2]
 generalize (ess.filter λe=>!decide (mn f e=(0,1)))=bnd at *
 refine Zu ?_;dsimp only;refine Nw ?_;refine⟨_,rfl,d,rfl,⟨_,SqL.of hd2⟩,λd3 hd3=>?_⟩;refine⟨bs.length,λi ys H'=>Same H2 H'/\Rs K H' ((bnd.take i).map λe=>parR (mn r e) (mn f e)) ys,Zt (by omega),⟨Same.new hd3,.nil⟩,?_,?_⟩
 ·rintro i ys H3 hi ⟨S3,R3⟩ hd3';have ql3:=S3 _ _ hd2;have ea:bs[i]?=some bs[i]:=by simp[hi]
  have ez:bnd[i]?=some (bnd[i]'(by omega)):=by simp
  generalize bs[i]=c at ea;generalize (bnd[i]'(by omega))=e at ez;have ex:(bs.map V.ref)[i]?=some (V.ref c):=by rw[YE,ea];rfl
  refine⟨⟨_,V.ref c,SqL.of ql3,ex⟩,?_⟩;rintro x H4 ⟨rfl,fx⟩;have e':=fx _ (SqL.of ql3);rw[ex] at e'
  cases e';obtain⟨me,ne⟩:=(mem e).mp (YD ez);obtain⟨le,De,We,Re⟩:=he e me;obtain⟨l1,l2⟩:=lowe e me;have S24:=S2.trans S3;obtain⟨xa,qa,ra⟩:=hA.ext (Ext.same S24);obtain⟨xb,qb,rb⟩:=hB.ext (Ext.same S24);obtain⟨xc,qc,rc⟩:=(Paired.getB P2 ea ez).ext (Ext.same S3);have g1:=Wo Rr Re (by omega) (by omega);have g2:=Wo Rf Re (by omega) (by omega);have h0:(mn f e).1≠0:=λz=>ne (by unfold qv;rw[z];grind);refine Y2 ?_;refine⟨_,rfl,_,rfl,b,c,xb,xc,r,e,nr,N,Dr,De,Wr,We,rfl,.inr qb,rb,.inr qc,rc,by omega,by omega,Rr,Re,by omega,by omega,by omega,λc5 H5 S5 q5=>?_⟩;refine⟨_,rfl,_,rfl,a,c,xa,xc,f,e,nc,N,Df,De,Wf,We,rfl,.inr (Zn S5 qa),ra.ext (Ext.same S5),.inr (Zn S5 qc),rc.ext (Ext.same S5),by omega,by omega,Rf,Re,by omega,by omega,by omega,λc6 H6 S6 q6=>?_⟩;refine⟨c5,c6,mn r e,mn f e,nc+nr+N+10,rfl,Zn S6 q5,q6,g1.mono (by omega),g2.mono (by omega),by omega,h0,λc7 H7 f7 S7 q7=>?_⟩;have S57:=S5.trans (S6.trans S7);have hd7:=S57 _ _ hd3';refine⟨hd7,Y7 (S3.trans S57) hd3,?_⟩;rw[Ye ez,XM];have E8:Ext H7 (upd H7 d3 (.lst (ys++[V.ref c7]))):=Ext.upd hd7;exact (R3.ext ((Ext.same S57).trans E8)).snoc ⟨c7,rfl,E8.sq (SqT.of q7)⟩
 rintro ys H3 ⟨S3,R3⟩ hd3';rw[lb,JF] at R3;refine⟨⟨_,SqL.of (S3 _ _ hd2),by simp⟩,?_⟩;have gd:∀ x∈bnd.map (λe=>parR (mn r e) (mn f e)),Good (nr+nc+N+N+20) x:=λx hx=>by
  obtain⟨e,hm,rfl⟩:=YZ.mp hx;obtain⟨me,ne⟩:=(mem e).mp hm;obtain⟨le,De,We,Re⟩:=he e me;have h0:(mn f e).1≠0:=λz=>ne (by unfold qv;rw[z];grind);exact (Mc (Wo Rr Re (by omega) (by omega)) (Wo Rf Re (by omega) (by omega)) h0).mono (by omega)
 have qp:∀ e∈bnd,Low (parR (mn r e) (mn f e))/\qv (parR (mn r e) (mn f e))=qv (mn r e) / qv (mn f e):=λe hm=>by
  obtain⟨me,ne⟩:=(mem e).mp hm;obtain⟨l1,l2⟩:=lowe e me;have h0:(mn f e).1≠0:=λz=>ne (by unfold qv;rw[z];grind);exact Dv (Wn lowr l1) (Wn lowf l1) h0
 refine⟨d3,ys,_,nr+nc+N+N+20,rfl,hd3',R3,?_,by rw[YC];omega,gd,by omega,λv x H4 S4 i4 mx al=>?_⟩
 ·obtain⟨e,me,ne⟩:=hex;have:=(mem e).mpr ⟨me,ne⟩;intro z;rw[List.map_eq_nil_iff] at z;rw[z] at this
  cases this
 have gx:=gd x mx;obtain⟨e,hm,rfl⟩:=YZ.mp mx;refine k v _ H4 ((S2.trans S3).trans S4) i4 ⟨gx.low,⟨e,((mem e).mp hm).1,((mem e).mp hm).2,(qp e hm).2⟩,λe2 m2 ne2=>?_⟩ gx;have hm2:=(mem e2).mpr ⟨m2,ne2⟩;have a2:=al _ (YZ.mpr ⟨e2,hm2,rfl⟩);rw[<-(qp e2 hm2).2];exact Z39 (qp e hm).1.pos (qp e2 hm2).1.pos (Int.not_lt.mp a2)
inductive spTotal (K:TR) (vs:TZ) (H:Hp) (Q:VK) (_z3:XK):Prop
 | i (a:Addr) (xs:TZ) (rs:UB) (n:Nat) (_:vs=[.ref a]) (_:(SqL K H a xs \/ SqT K H a xs)) (_:Rs K H rs xs) (_:(∀ r∈rs,Good n r)) (_:1+rs.length*(n+1)<=200000) (_:∀ c H',Same H H'->SqT K H' c [.int (sumR rs).1,.int (sumR rs).2]->Q (.ref c) H')
theorem Z1a (D:Def K mg "total" jF ["worths"])(fX:Has P w K mg base 3 "plus" UG (spTwo K addR))(eC:Con K mg "NOUGHT" (0,1)):Has P w K mg base 4 "total" ["worths"] (spTotal K):=by
 refine D.h9 (N:=["worths","so_far","worth"]) fsc λH Q hr h nd=>?_;obtain⟨a,xs,rs,n,rfl,hA,hRs,g,hb,k⟩:=h;obtain⟨c_NOUGHT,m_NOUGHT,s_NOUGHT⟩:=eC;refine⟨_,(Z9 (Zh (i:=1) nd rfl (Or.inl rfl) (Yf (v:=.ref c_NOUGHT) rfl m_NOUGHT rfl))
  (Z9 (Ys XZ rfl (C6 (pv 0)) (Zf (i:=2) nd rfl (Or.inl rfl))
   (Za (Zh (i:=1) nd rfl (Or.inl rfl) (Zc fX hr (Z0 (pv 1) (Z0 (pv 2) Z7))))))
  (Za (Zg (pv 1))))),?_⟩
 have lx:=hRs.len;refine⟨_,rfl,Jh (K:=K) (a:=a) (xs:=xs) (λi σ H'=>Same H H'/\∃ (c:Addr) (x:UA),σ=[some (.ref a),some (.ref c),x]/\SqT K H' c [.int (sumR (rs.take i)).1,.int (sumR (rs.take i)).2]) hA ⟨Same.refl _,c_NOUGHT,none,rfl,s_NOUGHT _⟩ (λi σ H' _ h=>h.1) ?_ ?_⟩
 ·rintro i x σ H1 hi ⟨S1,c,x0,rfl,hc⟩;obtain⟨r,er,ix⟩:=hRs.back hi;obtain⟨b,rfl,hb'⟩:=ix.ext (Ext.same S1);have hil:i<rs.length:=(YH.mp er).1;refine⟨_,rfl,_,rfl,c,b,_,r,1+rs.length*(n+1),rfl,hc,hb',Ld g (by omega),(g r (YD er)).mono (Pq hil),hb,λc2 H2 f2 S2 e2=>?_⟩;refine⟨S1.trans S2,c2,_,rfl,?_⟩;rw[Vc er];exact SqT.of e2
 rintro σ H1 ⟨S1,c,x0,rfl,hc⟩;rw[<-lx,YV (YF _)] at hc;exact⟨_,rfl,k c H1 S1 hc⟩
inductive spIsW (K:TR) (vs:TZ) (H:Hp) (Q:VK) (_z3:XK):Prop
 | i (a:Addr) (rs:UB) (n:Nat) (_:vs=[.ref a]) (_:RowAt K H a rs) (_:rs.length<=1000) (_:(∀ r∈rs,Good n r)) (_:n<=200000) (_:1+rs.length*(n+1)<=200000) (_:∀ H',Same H H'->Q (.bl (isW rs)) H')
theorem Z4z (D:Def K mg "is_weights" iH ["row"])(T:Blt mg)(gQ:Has P w K mg base 4 "total" ["worths"] (spTotal K))(eM:Z5 P w K mg base)(eC:Con K mg "NOUGHT" (0,1))(fY:Con K mg "ONE" (1,1)) :
  Has P w K mg base 5 "is_weights" ["row"] (spIsW K):=by
 refine D.h9 (N:=["row"]) fsc λH Q hr h nd=>?_;obtain⟨a,rs,n,rfl,⟨xs,hA,hRs⟩,hl,g,hn,hb,k⟩:=h;obtain⟨c_NOUGHT,m_NOUGHT,s_NOUGHT⟩:=eC;obtain⟨c_ONE,m_ONE,s_ONE⟩:=fY;have hU:=GJ (Rk hr);have nd1:(["weight"]:TF).Nodup:=by decide +kernel
 refine⟨_,(Za (Zg (Uw (Su (Zq (Qm rfl) rfl T.any Y0S (Z0 (Y0 (N:=["weight"]) (k:=1) (fv:=[]) rfl (Wj (pv 0))
  (λ_ _ _ _ _=>Zf (i:=0) nd1 rfl (Or.inl rfl)) (λ_ _ _ _ _=>Zy) (λ_ _ _ _ _=>(Zc eM hr (Z0 (pv 0) (Z0 (Yf (v:=.ref c_NOUGHT) rfl m_NOUGHT rfl) Z7)))) Zj) Z7))) (Vp (Xb (Pp (K:=K) hU) (Zc gQ hr (Z0 (pv 0) Z7)) (Yf (v:=.ref c_ONE) rfl m_ONE rfl) (Zr _)))))),?_⟩
 refine⟨_,rfl,a,rfl,⟨_,hA⟩,λd hd=>?_⟩;have lx:=hRs.len;refine⟨rs.length,λi ys H2=>Same H H2/\ys=(mapR (λr=>ltR r (0,1)) rs i).map V.bl,Zt hl,⟨Same.new hd,rfl⟩,?_,?_⟩
 ·rintro i ys H2 hi ⟨S2,rfl⟩ hd2;refine⟨⟨xs,xs[i]'(by omega),Zn S2 hA,by simp⟩,?_⟩;rintro x H3 ⟨rfl,fx⟩;obtain⟨r,er,ix⟩:=hRs.back (fx xs (Zn S2 hA));obtain⟨a1,rfl,sq1⟩:=ix.ext (Ext.same S2);have gr:=g r (YD er);refine Y2 ?_;refine⟨_,rfl,a1,c_NOUGHT,r.1,r.2,0,1,rfl,sq1,s_NOUGHT _,Mi (by decide) (by decide),Mj (by decide) (by decide),hd2,λq o e=>?_,?_⟩
  ·rw[Ze (Zd e hd)];exact S2 _ _ e
  rw[Qc _ er,XM];rfl
 rintro ys H2 ⟨S2,rfl⟩ hd2;rw[Mm _ rfl] at hd2;refine⟨⟨xs,Zn S2 hA,by omega⟩,d,_,rfl,SqL.of hd2,_,rfl,_,rfl,Bm (λe=>?_) (λe=>?_)⟩
 ·refine⟨_,rfl,a,xs,rs,n,rfl,.inr (Zn S2 hA),hRs.ext (Ext.same S2),g,hb,λc H3 S3 e3=>?_⟩;refine⟨c,c_ONE,[(sumR rs).1,(sumR rs).2],[1,1],rfl,rfl,e3,s_ONE _,?_⟩;rw[eq11];have:isW rs=decide (sumR rs=(1,1)):=by unfold isW;rw[e,Y0x]
  rw[<-this];exact k H3 (S2.trans S3)
 have:isW rs=false:=by unfold isW;rw[e,Y0V]
 have kk:=k H2 S2;rw[this] at kk;exact kk
end
def fitM (ws:UB)(rss:UC):Bool:=!((rss.map λrs=>decide (0<(mn ws rs).1)).any id)
theorem Jj (ws:UB)(gs:UC):(isW ws && fitM ws gs)=fitB gs ws:=by
 have e1:(!((ws.map λr=>ltR r (0,1)).any id))=ws.all λx=>!decide (x.1<0):=by
  rw[Y02,<-Y0D]
  congr 1
  refine congrArg (λp=>ws.any p) (funext λr=>?_);show ltR r (0,1)=decide (r.1<0);unfold ltR;rw[Y1m,Y05]
 have e2:fitM ws gs=gs.all λg=>!decide (0<(mn ws g).1):=by
  unfold fitM;rw[Y02,<-Y0D];rfl
 unfold isW fitB;rw[e1,e2]
 cases (ws.all λx=>!decide (x.1<0)) <;> cases (gs.all λg=>!decide (0<(mn ws g).1)) <;> simp
section
variable {P:TU}{w:World}{K:TR}{mg:TB}{base:Heap}
inductive spLoadsM (K:TR) (vs:TZ) (H:Hp) (Q:VK) (_z3:XK):Prop
 | i (a l:Addr) (c N n:Nat) (ws:UB) (rss:UC) (_:vs=[.ref a,.ref l]) (_:RowAt K H a ws) (_:RowsAt K H l rss) (_:RowN N c ws) (_:∀ g∈rss,RowN n c g) (_:n+N+10<=200000) (_:c<=100) (_:rss.length<=100) (_:∀ H',Same H H'->Q (.bl (fitM ws rss)) H')
theorem Cq (D:Def K mg "loads_fit" iI ["loads","rows"])(T:Blt mg)(eH:Z4 P w K mg base)(eM:Z5 P w K mg base)(eC:Con K mg "NOUGHT" (0,1)):Has P w K mg base 5 "loads_fit" ["loads","rows"] (spLoadsM K):=by
 refine D.h9 (N:=["loads","rows"]) fsc λH Q hr h nd=>?_;obtain⟨a,l,c,N,n,ws,rss,rfl,hA,⟨as,hl,hP⟩,⟨ll,D1,Ws,rw1⟩,ro,hb,hc,few,k⟩:=h;obtain⟨c_NOUGHT,m_NOUGHT,s_NOUGHT⟩:=eC;have nd1:(["row","loads"]:List Str).Nodup:=by decide +kernel
 refine⟨_,(Za (Zg (Su (Zq (Qm rfl) rfl T.any Y0S (Z0 (Y0 (N:=["row","loads"]) (k:=1) (fv:=[0]) rfl (Y6 (pv 1))
  (λ_ _ _ _ _=>Zf (i:=0) nd1 rfl (Or.inl rfl)) (λ_ _ _ _ _=>Zy) (λ_ _ _ _ _=>(Zc eM hr (Z0 (Yf (v:=.ref c_NOUGHT) rfl m_NOUGHT rfl) (Z0 (Zc eH hr (Z0 (pv 1) (Z0 (pv 0) Z7))) Z7)))) Zj) Z7))))),?_⟩
 have lp:=YW hP;refine⟨_,rfl,l,rfl,⟨_,SqL.of hl⟩,λd hd=>?_⟩;refine⟨as.length,λi ys H2=>Same H H2/\ys=((rss.take i).map λrs=>decide (0<(mn ws rs).1)).map V.bl,Zt (by omega),⟨Same.new hd,rfl⟩,?_,?_⟩
 ·rintro i ys H2 hi ⟨S2,rfl⟩ hd2;have ql2:=S2 _ _ hl;have ea:as[i]?=some as[i]:=by simp[hi]
  have ez:rss[i]?=some (rss[i]'(by omega)):=by simp
  generalize as[i]=b at ea;generalize (rss[i]'(by omega))=g at ez;have ex:(as.map V.ref)[i]?=some (V.ref b):=by rw[YE,ea];rfl
  refine⟨⟨_,V.ref b,SqL.of ql2,ex⟩,?_⟩;rintro x H3 ⟨rfl,fx⟩;have e':=fx _ (SqL.of ql2);rw[ex] at e'
  cases e';obtain⟨lg,D2,Zs,rz⟩:=ro g (YD ez);obtain⟨xa,qa,ra⟩:=hA.ext (Ext.same S2);obtain⟨xb,qb,rb⟩:=(Paired.getB hP ea ez).ext (Ext.same S2);refine Y2 ?_;refine⟨_,rfl,_,rfl,a,b,xa,xb,ws,g,N,n,D1,D2,Ws,Zs,rfl,.inr qa,ra,.inr qb,rb,by omega,by omega,rw1,rz,by omega,by omega,by omega,λcm H4 S4 e4=>?_⟩;refine⟨c_NOUGHT,cm,0,1,_,_,rfl,s_NOUGHT _,e4,Mj (by decide) (by decide),Mi (by decide) (by decide),?_⟩;have hd4:=S4 _ _ hd2;refine⟨hd4,Y7 (S2.trans S4) hd,?_⟩;rw[Ye ez,XM,XM];have:decide (0*(sumR (List.zipWith mulR' ws g)).2<(sumR (List.zipWith mulR' ws g)).1*1)=decide (0<(mn ws g).1):=by
   rw[Y05,Y1m];rfl
  rw[this];rfl
 rintro ys H2 ⟨S2,rfl⟩ hd2;rw[lp,JF] at hd2;exact⟨⟨_,SqL.of (S2 _ _ hl),by simp⟩,d,_,rfl,SqL.of hd2,_,rfl,k H2 S2⟩
inductive spFitsM (K:TR) (vs:TZ) (H:Hp) (Q:VK) (_z3:XK):Prop
 | i (l a:Addr) (c N n M:Nat) (os:UD) (ws:UB) (_:vs=[.ref l,.ref a]) (_:OffsAt K H l c os) (_:os.length<=100) (_:M<=200000) (_:∀ o∈os,GoodO M o) (_:RowAt K H a ws) (_:RowN N c ws) (_:∀ g∈gainsP os os.length,RowN n c g) (_:n+N+10<=200000) (_:1+c*(N+1)<=200000) (_:c<=100) (_:(gainsP os os.length).length<=100) (_:∀ H',Same H H'->Q (.bl (fitB (gainsP os os.length) ws)) H')
theorem Z1n (D:Def K mg "fits" j1 VF)(fM:Has P w K mg base 5 "is_weights" ["row"] (spIsW K))(fB:Has P w K mg base 5 "gains" UT (spGainsP K))(fO:Has P w K mg base 5 "loads_fit" ["loads","rows"] (spLoadsM K)):Has P w K mg base 6 "fits" VF (spFitsM K):=by
 refine D.h9 (N:=VF) fsc λH Q hr h nd=>?_;obtain⟨l,a,c,N,n,M,os,ws,rfl,hO,hos,hM,ho,hA,hw,hg,hb,hb2,hc,few,k⟩:=h;refine⟨_,(Za (Zg (Uw (Zc fM hr (Z0 (pv 1) Z7)) (Vp (Zc fO hr (Z0 (pv 1) (Z0 (Zc fB hr (Z0 (pv 0) Z7)) Z7))))))),?_⟩;obtain⟨ll,D1,Ws,rw1⟩:=id hw;refine⟨_,rfl,a,ws,N,rfl,hA,by omega,rw1.good,by omega,by rw[ll];exact hb2,λH1 S1=>⟨_,rfl,?_⟩⟩;refine Bm (λe=>?_) (λe=>?_)
 ·obtain⟨vs,hl,hP⟩:=hO;refine⟨_,rfl,_,rfl,l,c,M,os,rfl,⟨vs,S1 _ _ hl,Yk hP (Ext.same S1)⟩,by omega,by omega,hM,ho,λd H2 f2 S2 R2=>?_⟩;refine⟨a,d,c,N,n,ws,_,rfl,(hA.same S1).same S2,R2,hw,hg,hb,hc,few,λH3 S3=>?_⟩;have kk:=k H3 ((S1.trans S2).trans S3);rw[<-Jj,e,Y0x] at kk;exact kk
 have kk:=k H1 S1;rw[<-Jj,e,Y0V] at kk;exact kk
end
theorem Z4q {r:Rat}(hr:0<r.2)(hs:0<s.2):r.1*s.2<s.1*r.2 ↔ qv r<qv s:=by
 have e1:=Vm hr;have e2:=Vm hs;have p:=_root_.Rat.mul_pos (Vo hr) (Vo hs);have c1:((r.1*s.2:Int):QQ)=qv r*((r.2:QQ)*(s.2:QQ)):=by rw[_root_.Rat.intCast_mul,<-e1];grind
 have c2:((s.1*r.2:Int):QQ)=qv s*((r.2:QQ)*(s.2:QQ)):=by rw[_root_.Rat.intCast_mul,<-e2];grind
 rw[<-_root_.Rat.intCast_lt_intCast,c1,c2];constructor
 ·intro h;by_cases z:qv r<qv s
  ·exact z
  have:=_root_.Rat.mul_nonneg (show 0<=qv r - qv s by grind) (_root_.Rat.le_of_lt p);grind
 intro h;have:=_root_.Rat.mul_pos (show 0<qv s - qv r by grind) p;grind
theorem Qr:∀ a:List Rat,aheadR a a=false
 | []=>rfl
 | r::a=>by
  unfold aheadR;rw[XF rfl];exact Qr a
theorem Xs {r:Rat}{a b:UB}(lr:Low r)(ls:Low s):aheadR (r::a) (s::b)=true ↔ qv r<qv s \/ (r=s/\aheadR a b=true):=by
 show (if r=s then aheadR a b else decide (r.1*s.2<s.1*r.2))=true ↔ _;by_cases e:r=s
 ·rw[XF e];constructor
  ·intro h;exact .inr ⟨e,h⟩
  rintro (h | h)
  ·rw[e] at h;grind
  exact h.2
 rw[XB e,JY,Z4q lr.pos ls.pos];constructor
 ·intro h;exact .inl h
 rintro (h | h)
 ·exact h
 exact absurd h.1 e
theorem Tt:∀ {a b c:UB},Lows a->Lows b->Lows c->aheadR a b=true->aheadR b c=true->aheadR a c=true
 | [],_,_,_,_,_,h,_=>by unfold aheadR at h;cases h
 | _::_,[],_,_,_,_,h,_=>by unfold aheadR at h;cases h
 | _::_,_::_,[],_,_,_,_,h=>by unfold aheadR at h;cases h
 | r::a,s::b,t::c,la,lb,lc,h1,h2=>by
  have lr:=la r YY;have ls:=lb s YY;have lt:=lc t YY;rw[Xs lr ls] at h1;rw[Xs ls lt] at h2;rw[Xs lr lt];rcases h1 with h1 | ⟨e1,h1⟩
  ·rcases h2 with h2 | ⟨e2,h2⟩
   ·exact .inl (by grind)
   exact .inl (by rw[<-e2];exact h1)
  rcases h2 with h2 | ⟨e2,h2⟩
  ·exact .inl (by rw[e1];exact h2)
  exact .inr ⟨e1.trans e2,Tt (λx hx=>la x (YQ _ hx)) (λx hx=>lb x (YQ _ hx)) (λx hx=>lc x (YQ _ hx)) h1 h2⟩
theorem Tu:∀ {a b:UB},Lows a->Lows b->a.length=b.length->a≠b->aheadR a b=true \/ aheadR b a=true
 | [],[],_,_,_,h=>absurd rfl h
 | [],_::_,_,_,h,_=>by simp at h
 | _::_,[],_,_,h,_=>by simp at h
 | r::a,s::b,la,lb,hl,ne=>by
  have lr:=la r YY;have ls:=lb s YY;rw[Xs lr ls,Xs ls lr];by_cases e:r=s
  ·have hl:a.length+1=b.length+1:=hl;rcases Tu (a:=a) (b:=b) (λx hx=>la x (YQ _ hx)) (λx hx=>lb x (YQ _ hx)) (by omega) (λz=>ne (by rw[e,z])) with h | h
   ·exact .inl (.inr ⟨e,h⟩)
   exact .inr (.inr ⟨e.symm,h⟩)
  by_cases h1:qv r<qv s
  ·exact .inl (.inl h1)
  by_cases h2:qv s<qv r
  ·exact .inr (.inl h2)
  exact absurd (Vn lr ls (by grind)) e
theorem Jk {α:Type}{p q:α->Bool}:∀ {l:List α},(∀ x∈l,p x=true->q x=true)->(∃ x∈l,q x=true/\p x=false)->(l.filter p).length<(l.filter q).length
 | [],_,⟨x,h,_⟩=>by cases h
 | y::l,h,⟨x,hx,h1,h2⟩=>by
  have hl:∀ x∈l,p x=true->q x=true:=λx hx=>h x (YQ _ hx);have le:(l.filter p).length<=(l.filter q).length:=by
   clear hx h1 h2 h
   induction l with
   | nil=>exact YF _
   | cons z l ih =>
    have:=ih λx hx=>hl x (YQ _ hx);have hz:=hl z YY;rw[GE,GE]
    cases e:p z with
    | true=>rw[hz e];simp only [zx,XS];omega
    | false =>
     cases q z <;> simp <;> omega
  rw[GE,GE];rcases YK.mp hx with rfl | hx
  ·rw[h1,h2];simp only [zx,XS,XV,GU];omega
  have lt:=Jk hl ⟨x,hx,h1,h2⟩
  cases e:p y with
  | true=>rw[h y YY e];simp only [zx,XS];omega
  | false=>cases q y <;> simp <;> omega
section
variable {n:Nat}{ess r1 r2:UC}{c:Nat->Pt}
theorem CorR.cnt (C:CorR n ess c r1){a b:UB}(ha:a∈r1)(hb:b∈r1)(h:aheadR a b=true):cntR r1 a<cntR r1 b:=by
 unfold cntR;have:=Jk (p:=λo=>aheadR o a) (q:=λo=>aheadR o b) (l:=r1) (λo ho z=>Tt (C.low o ho) (C.low a ha) (C.low b hb) z h) ⟨a,ha,h,Qr a⟩;omega
theorem CorR.unique (C1:CorR n ess c r1)(C2:CorR n ess c r2)(s1:Srt r1)(s2:Srt r2):r1=r2:=by
 have sub:∀ {r1 r2:UC},CorR n ess c r1->CorR n ess c r2->∀ f∈r1,f∈r2:=λ{r1 r2} C1 C2 f hf=>by
  obtain⟨v,hv,e⟩:=C2.cors.all _ (C1.vx hf);obtain⟨g,hg,rfl⟩:=YZ.mp hv;have:=Tk (C2.low g hg) (C1.low f hf) (C2.len g hg) (C1.len f hf) e;rw[<-this];exact hg
 have pm:r1.Perm r2:=(List.perm_ext_iff_of_nodup C1.nd C2.nd).mpr λf=>⟨sub C1 C2 f,sub C2 C1 f⟩;have s2':r2.Pairwise λa b=>cntR r1 a<=cntR r1 b:=s2.imp λ{a b} h=>by rw[Uh pm,Uh pm];exact h
 refine List.Perm.eq_of_pairwise (le:=λa b=>cntR r1 a<=cntR r1 b) (λa b ha hb h1 h2=>?_) s1 s2' pm;refine YO λne=>?_;have hb':=sub C2 C1 b hb;rcases Tu (C1.low a ha) (C1.low b hb') (by rw[C1.len a ha,C1.len b hb']) ne with h | h
 ·have:=C1.cnt ha hb' h;omega
 have:=C1.cnt hb' ha h;omega
end
section
variable {n:Nat}{gs:UC}
theorem Qs {r:UB}(lr:Lows r):Lows (turnR r)/\(turnR r).length=r.length/\∀ k,k<r.length->qr (turnR r) k=-qr r k:=by
 have l1:Low ((-1,1):Rat):=⟨by decide,by decide⟩;have q1:qv ((-1,1):Rat)=-1:=by
  unfold qv;show ((-1:Int):QQ) / ((1:Int):QQ)=-1;rw[show ((1:Int):QQ)=1 from rfl,show ((-1:Int):QQ)=-1 from rfl];grind
 refine⟨λx hx=>?_,by unfold turnR;rw[YC],λk hk=>?_⟩
 ·obtain⟨y,hy,rfl⟩:=YZ.mp hx;exact Yd (GP (XN (lr y hy).pos l1.pos))
 have e1:(turnR r).getD k (0,1)=mulR' r[k] (-1,1):=by
  unfold turnR;rw[YG,YE,XC hk];rfl
 have e2:qr r k=qv r[k]:=by unfold qr;simp[List.getD,hk]
 rw[e2];unfold qr;rw[e1,Uv (lr _ (XG hk)) l1,q1];grind
theorem Bv (hg:∀ g∈gs,Lows g/\g.length=n):Edg n (n+gs.length) (bndC n gs) (paps n++gs.map turnR):=by
 have lp:(paps n).length=n:=by unfold paps;simp
 refine⟨by rw[YX,lp,YC],λe he=>?_,λk hk x=>?_⟩
 ·rcases XH.mp he with he | he
  ·unfold paps at he;obtain⟨w0,_,rfl⟩:=YZ.mp he;exact⟨Ua _ _,U4 _ _⟩
  obtain⟨g,hm,rfl⟩:=YZ.mp he;obtain⟨l1,l2⟩:=hg g hm;obtain⟨a,b,_⟩:=Qs l1;exact⟨a,by rw[b,l2]⟩
 by_cases z:k<n
 ·have e1:(paps n++gs.map turnR).getD k []=uP n k:=by
   rw[YG,JV (by omega)];unfold paps;rw[YE,qd z];rfl
  rw[e1,Z2t x z,Q0 z];grind
 obtain⟨j,rfl⟩:∃ j,k=n+j:=⟨k - n,by omega⟩;have hj:j<gs.length:=by omega
 have e1:(paps n++gs.map turnR).getD (n+j) []=turnR gs[j]:=by
  rw[YG,JT (by omega),lp,zh,YE,XC hj];rfl
 obtain⟨l1,l2⟩:=hg gs[j] (XG hj);obtain⟨_,_,q⟩:=Qs l1;rw[e1];unfold bndC;rw[XB z,zh];have e2:gs.getD j []=gs[j]:=by simp[List.getD,hj]
 rw[e2];unfold dq;have:sQ n (λk=>x k*qr (turnR gs[j]) k)=sQ n λk=>(-1)*(x k*qr gs[j] k):=Zo λk hk=>by
  rw[q k (by omega)];grind
 rw[this,Yi];grind
theorem Jl {N:Nat}(hN1:1<=N)(hgN:∀ g∈gs,RowN N n g):∀ e∈paps n++gs.map turnR,RowN N n e:=λe he=>by
 rcases XH.mp he with he | he
 ·unfold paps at he;obtain⟨w0,_,rfl⟩:=YZ.mp he;exact uP_row.mono hN1
 obtain⟨g,hm,rfl⟩:=YZ.mp he;have hg:=hgN g hm;obtain⟨l,D1,W1,R1⟩:=id hg;obtain⟨D,Z,p,bD,hZ⟩:=hg.whole;obtain⟨a,b,q⟩:=Qs (λr hr=>(R1.good r hr).low);refine Sm (S:=D) (C:=λk=>-Z k) a (by rw[b,l]) (by omega) bD (λk hk=>(hZ k hk).1.neg) λk hk=>?_;rw[q k (by omega),_root_.Rat.intCast_neg,<-(hZ k hk).2];grind
end
section
variable {n:Nat}{gs:UC}{f:UB}
theorem Ji (lf:Lows f)(hl:f.length=n)(hg:∀ g∈gs,Lows g/\g.length=n):fitB gs f=true ↔ InP n (n+gs.length) (bndC n gs) (qr f):=by
 unfold fitB;rw[qu,qu,GR,GR,JY];have s1:sumR f=(1,1) ↔ sQ n (qr f)=1:=by
  rw[<-hl,<-Ph lf];exact⟨λz=>by rw[z];exact Dz,λz=>Vn (Va lf) Mo (by rw[z,Dz])⟩
 have at_:∀ k,k<n->∃ x,x∈f/\qr f k=qv x:=λk hk=>⟨f[k]'(by omega),XG _,by unfold qr;simp[List.getD,show k<f.length by omega]⟩;have bg:∀ j,dq n (qr f) (bndC n gs (n+j))=dq n (qr f) (qr (gs.getD j [])):=λj=>by
  unfold bndC;rw[XB (by omega),zh]
 constructor
 ·rintro ⟨⟨h1,h2⟩,h3⟩;refine⟨λk hk=>?_,s1.mp h3⟩;by_cases z:k<n
  ·rw[Q0 z];obtain⟨x,hx,e⟩:=at_ k z;have:=h1 x hx;have nx:¬ x.1<0:=by simpa using this
   have:=(So (lf x hx).pos).mp (by omega);rw[e];grind
  obtain⟨j,rfl⟩:∃ j,k=n+j:=⟨k - n,by omega⟩;have hj:j<gs.length:=by omega
  have e:gs.getD j []=gs[j]:=by simp[List.getD,hj]
  rw[bg,e];have mg:=XG hj;have:=h2 _ mg;have np:¬ 0<(mn f gs[j]).1:=by simpa using this
  rw[<-V6 lf (hg _ mg).1 hl (hg _ mg).2];exact (Dx (Wn lf (hg _ mg).1).pos).mp (by omega)
 intro I;refine⟨⟨λx hx=>?_,λg mg=>?_⟩,s1.mpr I.one⟩
 ·obtain⟨k,ek⟩:=XL hx;have hk:k<f.length:=(YH.mp ek).1;have h:=I.le k (by omega);rw[Q0 (by omega)] at h;have e:qr f k=qv x:=by unfold qr;rw[YG,ek];rfl
  rw[e] at h;have:=(So (lf x hx).pos).mpr (by grind);simp;omega
 obtain⟨j,ej⟩:=XL mg;have hj:j<gs.length:=(YH.mp ej).1;have h:=I.le (n+j) (by omega);have e:gs.getD j []=g:=by rw[YG,ej];rfl
 rw[bg,e,<-V6 lf (hg _ mg).1 hl (hg _ mg).2] at h;have:=(Dx (Wn lf (hg _ mg).1).pos).mpr h;simp;omega
end
theorem Vv {W:Int}{q:QQ}(p:0<D)(bD:Bd B D)(h:q*(D:QQ)=W)(q0:0<=q)(q1:q<=1):Bd B W:=by
 have pd:=Vo p;have a:0<=(W:QQ):=by rw[<-h];exact _root_.Rat.mul_nonneg q0 (by grind)
 have b:(W:QQ)<=(D:QQ):=by
  rw[<-h];have:=_root_.Rat.mul_nonneg (show 0<=1 - q by grind) (show 0<=(D:QQ) by grind);grind
 have a':0<=W:=_root_.Rat.intCast_nonneg.mp a;have b':W<=D:=_root_.Rat.intCast_le_intCast.mp b;show _<_;have:D.natAbs<2 ^ B:=bD;omega
theorem Dn.row {n:Nat}{fs:UC}{r:UB}(d:Dn n B D fs mix r)(lr:Lows r)(hl:r.length=n)(r0:∀ k,k<n->0<=qr r k)(r1:∀ k,k<n->qr r k<=1):RowN B n r:=by
 have h:∀ k,∃ W:Int,k<n->qr r k*(D:QQ)=W:=λk=>by
  by_cases z:k<n
  ·obtain⟨W,a⟩:=d.rw k z;exact⟨W,λ_=>a⟩
  exact⟨0,λy=>absurd y z⟩
 exact Sm (S:=D) (C:=λk=>Classical.choose (h k)) lr hl (by have:=d.pos;omega) d.bd (λk hk=>Vv d.pos d.bd (JR (h k) hk) (r0 k hk) (r1 k hk)) λk hk=>JR (h k) hk
theorem Mq:W.kitOne K (.type "tuple") (.type "int")=some false:=by
 show (if (Value.type "tuple" == Value.type "int")=true then some true else (if W.kitMeta "int"=true then (fastBuiltinMro "tuple").map (·.contains (Value.type "int")) else none))=some false
 decide +kernel
theorem RepL.crude {n:Nat}:∀ {rs:UB},(∀ r∈rs,Good n r)->∃ D Ws,RepL (n*rs.length+1) D Ws rs
 | [],_=>⟨1,[],by decide,by show (1:Int).natAbs<2 ^ (n*0+1);rw[Nat.mul_zero];decide,rfl,λi W r e=>by simp at e⟩
 | r::rs,h=>by
  obtain⟨D,Ws,rp⟩:=RepL.crude (n:=n) (rs:=rs) λx hx=>h x (YQ _ hx);have g:=h r YY;have el:n*(r::rs).length+1=n+(n*rs.length+1):=by rw[XS,Y0p,Nat.mul_one];omega
  rw[el];refine⟨r.2*D,r.1*D::Ws.map (r.2*·),XN g.pos rp.pos,g.b2.mul rp.bD,by simp[rp.len],λi W x eW ex=>?_⟩
  cases i with
  | zero =>
   simp at eW ex;subst eW;subst ex;exact⟨by rw[JQ,JX D,<-JQ],g.b1.mul rp.bD,g.low⟩
  | succ i =>
   simp at eW ex;obtain⟨z,ez,rfl⟩:=eW;obtain⟨e1,b1,l1⟩:=rp.at_ i z x ez ex;refine⟨?_,g.b2.mul b1,l1⟩;rw[Int.mul_left_comm,e1,JQ]
def colR (rss:UC)(k:Nat):List Rat:=rss.map λrs=>rs.getD k (0,1)
def comeW (c:Nat)(rss:UC)(ms:UB):List Rat:=(List.range c).map λk=>sumR (List.zipWith mulR' (colR rss k) ms)
theorem Gr (r s:Rat):mulR' r s=mulR' s r:=by
 unfold mulR';rw[JX r.1,JX r.2]
theorem Jt (xs ys:UB):List.zipWith mulR' xs ys=List.zipWith mulR' ys xs:=List.zipWith_comm_of_comm Gr
theorem Ff {n c k:Nat}{rss:UC}(hk:k<c)(h:∀ rs∈rss,rs.length=c/\∀ r∈rs,Good n r):∀ r∈colR rss k,Good n r:=λr hr=>by
 obtain⟨rs,hm,rfl⟩:=YZ.mp hr;obtain⟨l,g⟩:=h rs hm;have:rs.getD k (0,1)=rs[k]'(by omega):=by simp[List.getD,show k<rs.length by omega]
 rw[this];exact g _ (XG _)
section
variable {P:TU}{w:World}{K:TR}{mg:TB}{base:Heap}
inductive spWholeT (K:TR) (vs:TZ) (H:Hp) (Q:VK) (_z3:XK):Prop
 | i (a:Addr) (xs:TZ) (_:vs=[.ref a]) (_:SqT K H a xs) (_:Q (.bl false) H)
theorem Ly (D:Def K mg "is_whole" iF ["value"])(T:Blt mg):Has P w K mg base 1 "is_whole" ["value"] (spWholeT K):=by
 refine D.h9 (N:=["value"]) fsc λH Q hr h nd=>?_;obtain⟨a,xs,rfl,hA,q⟩:=h;refine⟨_,(Za (Zg (Uw (Zq Xl rfl T.isinstance JB (Z0 (pv 0) (Z0 (U2 T.int jd) Z7))) (Vp (Su (Zq Xl rfl T.isinstance JB (Z0 (pv 0) (Z0 (U2 T.bool zY) Z7)))))))),?_⟩;exact⟨_,rfl,_,_,_,_,rfl,hA,Mq,_,rfl,Yw q⟩
inductive spAsR (K:TR) (vs:TZ) (H:Hp) (Q:VK) (_z3:XK):Prop
 | i (a:Addr) (xs:TZ) (_:vs=[.ref a]) (_:SqT K H a xs) (_:Q (.ref a) H)
theorem Z52 (D:Def K mg "as_ratio" iW VG)(eV:Has P w K mg base 1 "is_whole" ["value"] (spWholeT K)):Has P w K mg base 2 "as_ratio" VG (spAsR K):=by
 refine D.h9 (N:=VG) fsc λH Q hr h nd=>?_;obtain⟨a,xs,rfl,hA,q⟩:=h;refine⟨_,(Za (Zg (Sw (Yo (Zc eV hr (Z0 (pv 0) Z7))) (Yp (Z0 (pv 0) (Z0 Z8 Z7))) (pv 0)))),?_⟩;exact⟨_,rfl,a,xs,rfl,hA,_,rfl,Yw ⟨_,rfl,q⟩⟩
def LstAt (K:TR)(H:Hp)(a:Addr)(ms:UB):Prop:=∃ xs,H a=some (.lst xs)/\Rs K H ms xs
inductive spComeTo (K:TR) (vs:TZ) (H:Hp) (Q:VK) (_z3:XK):Prop
 | i (l q:Addr) (c:Nat) (rss:UC) (ms:UB) (_:vs=[.int (c:Int),.ref l,.ref q]) (_:RowsAt K H l rss) (_:LstAt K H q ms) (_:ms.length=rss.length) (_:rss.length<=64) (_:c<=100) (_:(∀ rs∈rss,rs.length=c/\∀ r∈rs,Good 420 r)) (_:(∃ n D W,n<=200000/\RepL n D W ms)) (_:∀ (a:Addr) (H':Hp),Same H H'->RowAt K H' a (comeW c rss ms)->Q (.ref a) H')
theorem Cy (D:Def K mg "come_to" jC VH)(T:Blt mg)(gG:Has P w K mg base 2 "as_ratio" VG (spAsR K))(eH:Z4 P w K mg base):Has P w K mg base 5 "come_to" VH (spComeTo K):=by
 refine D.h9 (N:=["count","rows","multiples","taken"]) fsc λH Q hr h nd=>?_;obtain⟨l,q,c,rss,ms,rfl,⟨ads,hl,hA⟩,⟨xs,hq,hms⟩,lm,few,hc,hrs,⟨nm,Dm,Wm,hnm,rm⟩,k⟩:=h;have nd1:(VG:TF).Nodup:=by decide +kernel
 have nd2:(["world","rows","taken"]:List Str).Nodup:=by decide +kernel
 have nd3:(["row","world"]:List Str).Nodup:=by decide +kernel
 refine⟨_,(Z9 (Zh (i:=3) nd rfl (Or.inr rfl) (Y0 (N:=VG) (k:=1) (fv:=[]) rfl (Y6 (pv 2))
  (λ_ _ _ _ _=>Zf (i:=0) nd1 rfl (Or.inl rfl)) (λ_ _ _ _ _=>Zy) (λ_ _ _ _ _=>(Zc gG hr (Z0 (pv 0) Z7))) Zj))
  (Za (Zg (Y1 Y3 rfl T.tuple XO (Z0 (Ca (x0:="world") (N:=["world","rows","taken"]) (k:=1) (fv:=[1,3]) rfl (Yh rfl T.range (Z0 (pv 0) Z7))
  (λ_ _ _ _ _=>Zf (i:=0) nd2 rfl (Or.inr rfl)) (λ_ _ _ _ _=>Zy) (λ_ _ _ _ _=>(Zc eH hr (Z0 (pv 2) (Z0 (Y0 (N:=["row","world"]) (k:=1) (fv:=[0]) rfl (Ss (K:=K) (pv 1))
  (λ_ _ _ _ _=>Zf (i:=0) nd3 rfl (Or.inl rfl)) (λ_ _ _ _ _=>Zy) (λ_ _ _ _ _=>(Zi (Mr (K:=K)) (pv 0) (pv 1) (λ_ _=>rfl))) Zj) Z7)))) Zj) Z7))))),?_⟩
 have lads:=YW hA;have lx:=hms.len;refine⟨_,rfl,q,rfl,⟨_,SqL.of hq⟩,λd hd=>?_⟩;refine⟨ms.length,λi ys H2=>Same H H2/\Rs K H2 (ms.take i) ys,Zt (by omega),⟨Same.new hd,.nil⟩,?_,?_⟩
 ·rintro i ys H2 hi ⟨S2,R2⟩ hd2;refine⟨⟨xs,xs[i]'(by omega),SqL.of (S2 _ _ hq),by simp⟩,?_⟩;rintro x H3 ⟨rfl,fx⟩;obtain⟨r,er,ix⟩:=hms.back (fx xs (SqL.of (S2 _ _ hq)));obtain⟨a1,rfl,sq1⟩:=ix.ext (Ext.same S2);refine Y2 ?_;refine⟨_,rfl,a1,_,rfl,sq1,hd2,λq' o' e=>?_,?_⟩
  ·rw[Ze (Zd e hd)];exact S2 _ _ e
  rw[Y8 er];exact (R2.ext (Ext.upd hd2)).snoc ⟨a1,rfl,(Ext.upd hd2).sq sq1⟩
 rintro ys H1 ⟨S1,R1⟩ hd1;rw[YV (YF _)] at R1;refine⟨⟨xs,SqL.of (S1 _ _ hq),by omega⟩,?_⟩;replace hl:=S1 _ _ hl;replace hA:=Zk hA (Ext.same S1);refine⟨_,rfl,(c:Int),rfl,(by omega),(by omega),λd0 hd0=>?_⟩;have et:(c:Int).toNat=c:=by omega
 rw[et];refine⟨c,λj ys H'=>Same H1 H'/\Rs K H' ((comeW c rss ms).take j) ys,Zt (by omega),⟨Same.new hd0,.nil⟩,?_,?_⟩
 ·rintro j zs H2 hj ⟨S2,R2⟩ hd2;refine⟨hj,?_⟩;rintro x H3 ⟨rfl,rfl⟩;have e0:(0+(j:Int))=((j:Nat):Int):=by omega
  rw[e0];refine Y2 ?_;have hl3:=S2 _ _ hl;have A3:=Zk hA (Ext.same S2);refine⟨_,rfl,_,rfl,l,rfl,⟨_,SqL.of hl3⟩,λd2 hd2'=>?_⟩;refine⟨rss.length,λi us H'=>Same H3 H'/\Rs K H' ((colR rss j).take i) us,Zt (by omega),⟨Same.new hd2',.nil⟩,?_,?_⟩
  ·rintro i us H4 hi ⟨S4,R4⟩ hd4;have hia:i<ads.length:=by omega
   refine⟨⟨_,V.ref (ads[i]'hia),SqL.of (S4 _ _ hl3),by simp[hia]⟩,?_⟩;rintro x H5 ⟨rfl,fx⟩;have ex:x=V.ref (ads[i]'hia):=by
    have:=fx _ (SqL.of (S4 _ _ hl3));rw[YE,XC hia] at this;exact (YR this).symm
   subst ex;have er:rss[i]?=some rss[i]:=by simp[hi]
   obtain⟨lr,gr⟩:=hrs rss[i] (XG hi);obtain⟨vs,hvs,rvs⟩:=(Paired.getB A3 (show ads[i]?=some ads[i] by simp[hia]) er).same S4;have lv:=rvs.len;have ew:rss[i][j]?=some (rss[i][j]'(by omega)):=by simp
   obtain⟨x1,ex1,b1,rfl,sq1⟩:=rvs.at ew;refine Y2 ?_;refine⟨_,rfl,_,rfl,ads[i],_,_,_,rfl,rfl,hvs,Y4 ex1,hd4,λq' o' e=>?_,?_⟩
   ·rw[Ze (Zd e hd2')];exact S4 _ _ e
   have ec:(colR rss j)[i]?=some (rss[i][j]'(by omega)):=by
    unfold colR;rw[YE,er];simp[List.getD,show j<rss[i].length by omega]
   rw[Y8 ec];exact (R4.ext (Ext.upd hd4)).snoc ⟨b1,rfl,(Ext.upd hd4).sq sq1⟩
  rintro us H4 ⟨S4,R4⟩ hd4;have lcol:(colR rss j).length=rss.length:=by unfold colR;rw[YC]
  rw[YV (by omega)] at R4;refine⟨⟨_,SqL.of (S4 _ _ hl3),by rw[YC];omega⟩,?_⟩;have S14:=S2.trans S4;obtain⟨Dc,Wc,rc⟩:=RepL.crude (Ff hj hrs);have bc:420*(colR rss j).length+1<=420*64+1:=by omega
  refine⟨d,d2,ys,us,ms,colR rss j,_,_,Dm,Dc,Wm,Wc,rfl,.inl (SqL.of (S14 _ _ hd1)),R1.ext (Ext.same S14),.inl (SqL.of hd4),R4,by omega,by omega,rm,rc,hnm,by omega,by omega,λcm H5 S5 e5=>?_⟩;have S15:=S4.trans S5;have hd5:=S15 _ _ hd2;refine⟨hd5,λq' o' e=>?_,?_⟩
  ·rw[Ze (Zd e hd0)];exact S15 _ _ (S2 _ _ e)
  have ec:(comeW c rss ms)[j]?=some (sumR (List.zipWith mulR' ms (colR rss j))):=by
   unfold comeW;rw[YE,Jt ms];simp[hj]
  rw[Y8 ec];exact (R2.ext ((Ext.same S15).trans (Ext.upd hd5))).snoc ⟨cm,rfl,(Ext.upd hd5).sq e5⟩
 rintro zs H2 ⟨S2,R2⟩ hd2;have lcw:(comeW c rss ms).length=c:=by unfold comeW;simp
 rw[YV (by omega)] at R2;refine⟨YF _,d0,zs,rfl,.inl ⟨SqL.of hd2,λar har=>?_⟩⟩;exact k ar _ ((S1.trans S2).trans (Same.new har)) ⟨zs,SqT.of Zb,R2.ext (Ext.new har)⟩
end
theorem Ue (hT:∃ ps,H T=some (.tbl ps))(S:SameX T H H'):Ext H H':=by
 obtain⟨ps,h⟩:=hT;exact⟨λb xs e=>S b _ e (by rintro rfl;rw[h] at e;cases e),λb o u e=>S b _ e (by rintro rfl;rw[h] at e;cases e)⟩
theorem N2 {d:Addr}(h:H d=some (.lst ys))(S:SameX d H H'):Ext H H' :=
 ⟨λb xs e=>S b _ e (by rintro rfl;rw[h] at e;cases e),λb o u e=>S b _ e (by rintro rfl;rw[h] at e;cases e)⟩
theorem TabAt.lst {H H':Hp}{P d:Addr}{lp:Pos}{q:Str}{ys:TZ}(t:TabAt H P lp q)(h:H d=some (.lst ys))(S:SameX d H H'):TabAt H' P lp q:=by
 cases t with
 | fresh e=>exact .fresh (S _ _ e (by rintro rfl;rw[h] at e;cases e))
 | made c e hc=>exact .made c (S _ _ e (by rintro rfl;rw[h] at e;cases e)) (S _ _ hc (by rintro rfl;rw[h] at hc;cases hc))
theorem Ll {x:Pt}:∀ {n:Nat},(∀ k,k<n->0<=x k)->∀ k,k<n->x k<=sQ n x
 | 0,_,k,h=>absurd h (by omega)
 | n+1,nn,k,h=>by
  show x k<=sQ n x+x n;by_cases e:k=n
  ·subst e;have:=U0 (n:=k) (f:=x) λj hj=>nn j (by omega);grind
  have:=Ll (n:=n) (λj hj=>nn j (by omega)) k (by omega);have:=nn n (by omega);grind
section
variable {n m:Nat}{c:Nat->Pt}
theorem InP.nn (B:Bnds n m c){x:Pt}(I:InP n m c x):∀ k,k<n->0<=x k:=λk hk=>by
 have:=I.le k (YT hk B.le);rw[B.un k hk] at this;grind
theorem InP.le1 (B:Bnds n m c){x:Pt}(I:InP n m c x):∀ k,k<n->x k<=1:=λk hk=>by rw[<-I.one];exact Ll (I.nn B) k hk
theorem MxI.nn {r0 r:UB}{fs:UC}(B:Bnds n m c)(I:MxI n m c r0 fs mix r):∀ k,k<n->0<=qr r k:=λk hk=>by
 have:=I.cone k (YT hk B.le);rw[B.un k hk] at this;grind
theorem Z2k (h:∀ x∈l,0<=qv x)(k:Nat):0<=qr l k:=by
 unfold qr;by_cases z:k<l.length
 ·exact h _ (Ym z)
 rw[YG,zq (by omega)];show 0<=qv (0,1);rw[M0];grind
theorem MxI.le {r0 r:UB}{fs:UC}(B:Bnds n m c)(I:MxI n m c r0 fs mix r)(hf:∀ f∈fs,InP n m c (qr f)):∀ k,k<n->qr r k<=qr r0 k:=λk hk=>by
 rw[I.sum k hk];have:0<=sQ fs.length λj=>qr mix j*qr (fs.getD j []) k:=U0 λj hj=>_root_.Rat.mul_nonneg (Z2k I.mn j) ((hf _ (Ym hj)).nn B k hk);grind
end
theorem Rb {D:Ends}{σ:L2.St}(h:D.nx σ H):tNext D σ H:=h
section
variable {P:TU}{w:World}{K:TR}{mg:TB}{base:Heap}
inductive spMix (K:TR) (T:Addr) (vs:TZ) (H:Hp) (Q:VK) (_z3:XK):Prop
 | i (l a:Addr) (n N M B:Nat) (os:UD) (ws:UB) (_:vs=[.int (n:Int),.ref l,.ref a]) (_:2<=n/\n<=5) (_:OffsAt K H l n os) (_:os.length<=100) (_:M<=200000) (_:∀ o∈os,GoodO M o) (_:(gainsP os os.length).length<=6) (_:∀ g∈gainsP os os.length,RowN N n g) (_:1<=N) (_:N<=100) (_:Tab1 H T) (_:RowAt K H a ws) (_:RowN B n ws) (_:B<=30000)
  (zzA:fitB (gainsP os os.length) ws=false->∀ H',Same H H'->Q .non H')
  (zzB:fitB (gainsP os os.length) ws=true->∀ (d:Addr) (H':Hp) (rss:UC) (mix r:UB),H d=none->SameX T H H'->Tab1 H' T->LstAt K H' d mix->CorR n (paps n++gainsP os os.length) (bndC n (gainsP os os.length)) rss->Srt rss->Mx (paps n++(gainsP os os.length).map turnR) ws rss mix r->Q (.ref d) H')
theorem Z4v {Tb:Addr}(D:Def K mg "mix_of" jK VI)(g9:Has P w K mg base 6 "fits" VF (spFitsM K))(gF:Has P w K mg base 6 "edges_of" VB (spEdges K))(fC:Has P w K mg base 7 "corners" VB (spCorners K Tb) true)(gK:Has P w K mg base 5 "most_of" VE (spMost K))
  (fN:Has P w K mg base 4 "added" UG (spAdded K)) (eD:Has P w K mg base 4 "multiplied" UX (spMultiplied K)) (eS:Has P w K mg base 3 "minus" UG (spTwo K subR)) (eC:Con K mg "NOUGHT" (0,1)) :
  Has P w K mg base 8 "mix_of" VI (spMix K Tb) true:=by
 refine D.h9 (N:=["count","offers","weights","edges","rest","mix","corner","by"]) fsc λH Q hr h nd=>?_;obtain⟨l,a,n,N,M,B,os,ws,rfl,⟨n2,n5⟩,hO,hz,hM,hG,hg6,hgN,hN1,hN,hT,hA,hw,hB,kA,kB⟩:=h;obtain⟨c_NOUGHT,m_NOUGHT,s_NOUGHT⟩:=eC;refine⟨_,(Z9 (Yc (Xg (Yo (Zc g9 hr (Z0 (pv 1) (Z0 (pv 2) Z7)))))
   (Za (Zg Xp))
   Zw)
  (Z9 (Zh (i:=3) nd rfl (Or.inl rfl) (Zc gF hr (Z0 (pv 0) (Z0 (pv 1) Z7))))
  (Z9 (Zh (i:=4) nd rfl (Or.inl rfl) (pv 2))
  (Z9 (Zh (i:=5) nd rfl (Or.inl rfl) (X1 Z7))
  (Z9 (Ys XZ rfl (Y6 (Wl fC (hr.mono (by decide)) rfl (Z0 (pv 0) (Z0 (pv 1) Z7)))) (Zf (i:=6) nd rfl (Or.inl rfl))
   (Z9 (Zh (i:=7) nd rfl (Or.inl rfl) (Zc gK hr (Z0 (pv 6) (Z0 (pv 4) (Z0 (pv 3) Z7)))))
   (Z9 (Zh (i:=4) nd rfl (Or.inl rfl) (Zc fN hr (Z0 (pv 4) (Z0 (Zc eD hr (Z0 (pv 6) (Z0 (Zc eS hr (Z0 (Yf (v:=.ref c_NOUGHT) rfl m_NOUGHT rfl) (Z0 (pv 7) Z7))) Z7))) Z7))))
   (Za (Xa (U3 JG GC GD Yt (pv 5) (Z0 (pv 7) Z7)))))))
  (Za (Zg (pv 5)))))))),?_⟩
 have hcg:∀ g∈gainsP os os.length,Lows g/\g.length=n:=λg hm=>by
  obtain⟨l1,D1,W1,R1⟩:=hgN g hm;exact⟨λr hr=>(R1.good r hr).low,l1⟩
 have n4:(n - 1)*(N+3)<=4*103:=GY (by omega) (by omega);refine Zz ?_;refine⟨_,rfl,_,rfl,l,a,n,B,N,M,os,ws,rfl,hO,hz,hM,hG,hA,hw,hgN,by omega,?_,by omega,by omega,λH1 S1=>?_⟩
 ·have:n*(B+1)<=5*(B+1):=qB _ n5;omega
 refine⟨_,rfl,?_⟩
 cases hfit:fitB (gainsP os os.length) ws with
 | false=>exact Wy (kA hfit H1 S1)
 | true =>
  refine Yw (Rb ?_);dsimp only;refine Zz (Yb ?_);obtain⟨ov,oq,op⟩:=hO;refine⟨_,rfl,_,rfl,l,n,N,M,os,rfl,⟨by omega,by omega⟩,⟨ov,S1 _ _ oq,Yk op (Ext.same S1)⟩,hz,hM,hG,by omega,hgN,hN1,by omega,λde H2 fe S2 Re=>?_⟩;obtain⟨ae,qe,Pe⟩:=Re;have S12:=S1.trans S2;refine Zu ?_;dsimp only;refine Zz (Yb ⟨_,rfl,Zu ?_⟩);dsimp only;refine Zz (Yb (Z2o ?_));refine⟨sz0,λdm hdm=>?_⟩;have N3:=Same.new (o:=.lst []) hdm;have q3:(upd H2 dm (.lst [])) dm=some (.lst []):=Zb;generalize upd H2 dm (.lst [])=H3 at *
  have S3:=S12.trans N3;refine Zu ?_;dsimp only;refine Zz ?_;refine⟨_,rfl,_,rfl,l,n,N,M,os,rfl,⟨n2,n5⟩,⟨ov,S3 _ _ oq,Yk op (Ext.same S3)⟩,hz,hM,hG,hg6,hgN,hN1,by omega,hT.same S3,λdc H4 rss X4 T4 Rc C srt=>?_⟩;obtain⟨ac,qc,Pc⟩:=Rc;have tb3:=(hT.same S3).tbl;have neT:∀ {b:Addr} {xs:TZ},H3 b=some (.lst xs)->b≠Tb:=λ{b xs} e z=>by
   obtain⟨ps,h⟩:=tb3;rw[z,h] at e;cases e
  have E4:=Ue tb3 X4;have qm4:=X4 _ _ q3 (neT q3);have qe4:=X4 _ _ (N3 _ _ qe) (neT (N3 _ _ qe));have Pe4:=Zk Pe ((Ext.same N3).trans E4);have A4:=hA.ext ((Ext.same S3).trans E4);generalize gainsP os os.length=gs at *
  have lpa:(paps n).length=n:=by unfold paps;simp
  have eE:=Bv hcg;have rE:=Jl hN1 hgN;have rB:∀ e∈paps n++gs,RowN N n e:=λe he=>by
   rcases XH.mp he with he | he
   ·unfold paps at he;obtain⟨w0,_,rfl⟩:=YZ.mp he;exact uP_row.mono hN1
   exact hgN e he
  have Bn:Bnds n (n+gs.length) (bndC n gs):=Sh (by omega);obtain⟨lw,Dw,Ww,Rw⟩:=id hw;have lows:Lows ws:=λr hr=>(Rw.good r hr).low;have I0:=(Ji lows lw hcg).mp hfit;have hv:∀ g∈rss,Lows g/\g.length=n/\InP n (n+gs.length) (bndC n gs) (qr g):=λg hg=>⟨C.low g hg,C.len g hg,by have:=(C.vx hg).inn;rw[YX,lpa] at this;exact this⟩;have hs:∀ g∈rss,RowN (4+(n - 1)*(N+3)) n g:=λg hg=>C.small8 (by omega) (by omega) rB hg;generalize hnc:4+(n - 1)*(N+3)=nc at hs;have lac:=YW Pc;have few:rss.length<=64:=by
   by_cases z:n=5
   ·subst z;have:=C.few11 (by rw[YX,lpa];omega);omega
   have:=C.few10 n2 n5 (by rw[YX,lpa];omega);omega
  refine⟨dc,rfl,⟨_,SqL.of qc⟩,?_⟩;refine X0 (K:=K) (xs:=ac.map V.ref) (λi σ H'=>SameX dm H4 H'/\H' dc=some (.lst (ac.map V.ref))/\∃ (ra:Addr) (mix r:UB) (ys:TZ) (x y:UA),σ=[some (.int (n:Int)),some (.ref l),some (.ref a),some (.ref de),some (.ref ra),some (.ref dm),x,y]/\RowAt K H' ra r/\H' dm=some (.lst ys)/\Rs K H' mix ys/\Mx (paps n++gs.map turnR) ws (rss.take i) mix r)
   ⟨SameX.refl _ _,qc,a,[],ws,[],none,none,rfl,A4,qm4,.nil,.nil⟩ (λi σ H' _ h=>SqL.of h.2.1) ?_ ?_
  ·rintro i x σ H5 hx ⟨X5,qc5,ra,mix,r,ys,x0,y0,rfl,R5,qm5,Rs5,M5⟩;have hi:i<ac.length:=by have:=(YH.mp hx).1;simpa using this
   have ea:ac[i]?=some ac[i]:=by simp[hi]
   have ez:rss[i]?=some (rss[i]'(by omega)):=by simp
   generalize ac[i]=ca at ea;generalize (rss[i]'(by omega))=fr at ez;rw[YE,ea] at hx
   cases hx;have mf:=YD ez;have hvt:∀ g∈rss.take i,Lows g/\g.length=n/\InP n (n+gs.length) (bndC n gs) (qr g):=λg hg=>hv g (GS hg);have J:=M5.inv eE lows lw I0.le hvt;obtain⟨Dd,dn⟩:=M5.den eE (by omega) rE lows lw I0.le Rw.pos Rw.bD (λk hk=>by obtain⟨W,_,h⟩:=Ny Rw (k:=k) (by omega);exact⟨W,h⟩) hvt λg hg=>hs g (GS hg);have nrB:B+(N+nc+3)*(n+gs.length - nz (n+gs.length) λk=>dq n (qr r) (bndC n gs k))<=30000+520*11:=by
    have:(N+nc+3)*(n+gs.length - nz (n+gs.length) λk=>dq n (qr r) (bndC n gs k))<=520*11:=GY (by omega) (by omega);omega
   have rN:RowN 36000 n r:=(dn.row J.low J.len (J.nn Bn) λk hk=>by
    have h1:=J.le Bn (λg hg=>(hvt g hg).2.2) k hk;have h2:=I0.le1 Bn k hk;grind).mono (by omega)
   obtain⟨lf,hf,Vf⟩:=hv fr mf;obtain⟨k0,hk0,ne0⟩:=Vf.some Bn;have E5:=N2 qm4 X5;have ndc:dc≠dm:=λz=>by
    rw[z,qm5] at qc5;injection qc5 with z2
    injection z2 with z3
    have h1:=Rs5.len;have h2:=J.lm;have h3:ys.length=ac.length:=by rw[z3,YC]
    rw[JC] at h2;omega
   have nde:de≠dm:=λz=>by
    have:=N3 _ _ qe;have h:=YW Pe;rw[z,q3] at this;injection this with z2
    injection z2 with z3
    have h4:=congrArg List.length z3;rw[YC,YX,lpa] at *
    simp at h4;omega
   refine Zu ?_;dsimp only;refine Zz (Yb ?_);refine⟨_,rfl,_,rfl,_,rfl,ca,ra,de,ae,fr,r,_,n,N,nc,36000,rfl,(Paired.getB Pc ea ez).ext E5,R5,X5 _ _ qe4 nde,Zk Pe4 E5,by omega,?_,hs fr mf,rN,rE,by omega,⟨_,Ym (l:=paps n++gs.map turnR) (d:=[]) (k:=k0) (by rw[eE.len];exact hk0),?_⟩,λv by' H6 S6 i6 L6 g6=>?_⟩
   ·rw[YX,lpa,YC];omega
   ·rw[eE.mn lf hf hk0];grind
   obtain⟨bv,rfl,q6⟩:=i6;have z1:Good 1 ((0,1):Rat):=⟨(by show (0:Int).natAbs<2 ^ 1;decide),(by show (1:Int).natAbs<2 ^ 1;decide),by decide,by decide⟩;have g7:=Up z1 g6;obtain⟨_,Df,Wf,Rf⟩:=hs fr mf;obtain⟨_,Dr,Wr,Rr⟩:=id rN;refine Zu ?_;dsimp only;refine Zz (Yb ?_);refine⟨_,rfl,_,rfl,_,rfl,c_NOUGHT,bv,(0,1),by',40000,rfl,s_NOUGHT _,q6,z1.mono (by omega),g6.mono (by omega),by omega,λc7 H7 f7 S7 q7=>?_⟩;have S67:=S6.trans S7;refine⟨ca,c7,fr,subR (0,1) by',40000,rfl,(Paired.getB Pc ea ez).ext (E5.trans (Ext.same S67)),SqT.of q7,by omega,λx hx=>(Rf.good x hx).mono (by omega),g7.mono (by omega),by omega,λc8 H8 ys8 S8 q8 R8=>?_⟩;have S68:=S67.trans S8;refine⟨ra,c8,r,_,50000,rfl,R5.ext (Ext.same S68),⟨ys8,SqT.of q8,R8⟩,by rw[YC];omega,by omega,λx hx=>(Rr.good x hx).mono (by omega),λx hx=>?_,by omega,λc9 H9 ys9 S9 q9 R9=>?_⟩
   ·obtain⟨z,hz,rfl⟩:=YZ.mp hx;exact (W7 (Rf.good z hz) g7).mono (by omega)
   have S69:=S68.trans S9;refine Zu ?_;dsimp only;have qm9:=S69 _ _ qm5;have ly:ys.length<=1000:=by
    have h1:=Rs5.len;have h2:=J.lm;rw[JC] at h2;omega
   have E10:Ext H9 (upd H9 dm (.lst (ys++[V.ref bv]))):=Ext.upd qm9;refine⟨_,rfl,.inl ⟨rfl,_,SqL.of qm9⟩,?_⟩;refine⟨_,rfl,dm,ys,_,rfl,rfl,qm9,JJ ly (by decide),?_,?_,c9,mix++[by'],restR r fr by',ys++[V.ref bv],_,_,rfl,?_,Zb,?_,?_⟩
   ·intro b o e nb;rw[Ze nb];exact S69 _ _ (X5 _ _ e nb)
   ·rw[Ze ndc];exact S69 _ _ qc5
   ·exact (show RowAt K H9 c9 (restR r fr by') from ⟨ys9,SqT.of q9,R9⟩).ext E10
   ·exact (Rs5.ext ((Ext.same S69).trans E10)).snoc ⟨bv,rfl,E10.sq (Zn (S7.trans (S8.trans S9)) q6)⟩
   rw[Ye ez];exact .snoc M5 L6
  rintro σ H5 ⟨X5,qc5,ra,mix,r,ys,x0,y0,rfl,R5,qm5,Rs5,M5⟩;rw[YC,lac,JF] at M5;refine⟨_,rfl,kB hfit dm H5 rss mix r ?_ ?_ (T4.lst qm4 X5) ⟨ys,qm5,Rs5⟩ C srt M5⟩
  ·exact S12.free hdm
  intro b o e nb;have e3:=S3 _ _ e;refine X5 _ _ (X4 _ _ e3 nb) λz=>?_;rw[z] at e;rw[S12 _ _ e] at hdm
  cases hdm
theorem Z1h (D:Def K mg "made" jX VJ)(gO:Has P w K mg base 5 "come_to" VH (spComeTo K)):Has P w K mg base 6 "made" VJ (spComeTo K):=by
 refine D.h9 (N:=VJ) fsc λH Q hr h nd=>?_;obtain⟨l,q,c,rss,ms,rfl,h1,h2,h3,h4,h5,h6,h7,h8⟩:=h;refine⟨_,(Za (Zg (Zc gO hr (Z0 (pv 0) (Z0 (pv 1) (Z0 (pv 2) Z7)))))),?_⟩;exact⟨_,rfl,_,rfl,_,rfl,l,q,c,rss,ms,rfl,h1,h2,h3,h4,h5,h6,h7,h8⟩
def madS (n:Nat)(rss:UC)(ms:UB):Nat->List Rat
 | 0=>List.replicate n (0,1)
 | j+1=>(List.range n).map λk=>addR ((madS n rss ms j).getD k (0,1)) (mulR' ((rss.getD j []).getD k (0,1)) (ms.getD j (0,1)))
inductive spMadeL (K:TR) (vs:TZ) (H:Hp) (Q:VK) (_z3:XK):Prop
 | i (l q:Addr) (n G:Nat) (as:TJ) (xs:TZ) (rss:UC) (ms:UB) (_:vs=[.int (n:Int),.ref l,.ref q]) (_:H l=some (.lst (as.map V.ref))) (_:Paired (RowAt K H) as rss) (_:SqL K H q xs \/ SqT K H q xs) (_:Rs K H ms xs) (_:ms.length=rss.length) (_:n<=100) (_:rss.length<=100) (_:∀ rs∈rss,rs.length=n/\∀ r∈rs,Good G r) (_:∀ r∈ms,Good G r) (_:∀ j,j<=rss.length->∀ k,k<n->Good G ((madS n rss ms j).getD k (0,1))) (_:1<=G) (_:2*G<=200000)
  (_:∀ (a:Addr) (H':Hp),Same H H'->RowAt K H' a (madS n rss ms rss.length)->Q (.ref a) H')
theorem Z1i (D:Def K mg "_law_made" jO VL)(T:Blt mg)(eF:Z3 P w K mg base)(eX:Has P w K mg base 3 "_law_times" UI (spTwo K mulR')):Has P w K mg base 4 "_law_made" VL (spMadeL K):=by
 refine D.h9 (N:=["_law_count","_law_rows","_law_mix","_law_come","_law_j"]) fsc λH Q hr h nd=>?_;obtain⟨l,q,n,G,as,xs,rss,ms,rfl,hl,hp,hq,hms,lm,hn,hz,hrs,hgm,hgS,hG1,hG,k⟩:=h;have nd1:(["_law_k"]:TF).Nodup:=by decide +kernel
 have nd2:(["_law_k","_law_rows","_law_mix","_law_come","_law_j"]:List Str).Nodup:=by decide +kernel
 refine⟨_,(Z9 (Zh (i:=3) nd rfl (Or.inr rfl) (Y1 Y3 rfl T.tuple XO (Z0 (Y0 (N:=["_law_k"]) (k:=1) (fv:=[]) rfl (Yh rfl T.range (Z0 (pv 0) Z7))
  (λ_ _ _ _ _=>Zf (i:=0) nd1 rfl (Or.inl rfl)) (λ_ _ _ _ _=>Zy) (λ_ _ _ _ _=>(Yp (Z0 Z8 (Z0 Z8 Z7)))) Zj) Z7)))
  (Z9 (Ys XZ rfl (Yh rfl T.range (Z0 (Zq Zv rfl T.len qD (Z0 (pv 1) Z7)) Z7)) (Zf (i:=4) nd rfl (Or.inr rfl))
   (Za (Zh (i:=3) nd rfl (Or.inr rfl) (Y1 Y3 rfl T.tuple XO (Z0 (Y0 (N:=["_law_k","_law_rows","_law_mix","_law_come","_law_j"]) (k:=1) (fv:=[1,2,3,4]) rfl (Yh rfl T.range (Z0 (pv 0) Z7))
  (λ_ _ _ _ _=>Zf (i:=0) nd2 rfl (Or.inl rfl)) (λ_ _ _ _ _=>Zy) (λ_ _ _ _ _=>(Zc eF hr (Z0 (Zi (Mr (K:=K)) (pv 3) (pv 0) (λ_ _=>rfl)) (Z0 (Zc eX hr (Z0 (Zi (Mr (K:=K)) (Zi (Z2q (K:=K)) (pv 1) (pv 4) (λ_ _=>rfl)) (pv 0) (λ_ _=>rfl)) (Z0 (Zi (Z2r (K:=K)) (pv 2) (pv 4) (λ_ _=>rfl)) Z7))) Z7)))) Zj) Z7)))))
  (Za (Zg (pv 3))))),?_⟩
 have lp:=YW hp;refine Zz (Yb (Z06 (Ta ?_)));refine⟨_,rfl,(n:Int),rfl,(by omega),(by omega),λd hd=>?_⟩;have et:(n:Int).toNat=n:=by omega
 rw[et];refine⟨n,λj ys H'=>Same H H'/\Rs K H' (List.replicate j (0,1)) ys,Zt (by omega),⟨Same.new hd,.nil⟩,?_,?_⟩
 ·rintro j ys H10 hj ⟨S10,R10⟩ hd10;refine⟨hj,?_⟩;rintro x' H3 ⟨rfl,rfl⟩;refine Y2 ?_;refine⟨sz2,λp hp=>?_⟩;have S11:Same H3 (upd H3 p (.tup [.int 0,.int 1])):=Same.new hp;have hd11:=S11 _ _ hd10;refine⟨hd11,Y7 (S10.trans S11) hd,?_⟩;rw[Y12];exact (R10.ext ((Ext.same S11).trans (Ext.upd hd11))).snoc ⟨p,rfl,(Ext.upd hd11).sq (SqT.of Zb)⟩
 rintro ys H1 ⟨S1,R1⟩ hd1;refine⟨YF _,d,ys,rfl,.inl ⟨SqL.of hd1,λc0 hc0=>?_⟩⟩;have S2:=Same.new (o:=.tup ys) hc0;have r2:RowAt K (upd H1 c0 (.tup ys)) c0 (madS n rss ms 0):=⟨ys,SqT.of Zb,R1.ext (Ext.new hc0)⟩;generalize upd H1 c0 (.tup ys)=H2 at *
 have S12:=S1.trans S2;refine Zu ?_;dsimp only;refine Zz ?_;refine⟨_,rfl,l,as.map V.ref,rfl,.inl (SqL.of (S12 _ _ hl)),((as.map V.ref).length:Int),rfl,by omega,by rw[YC];omega,?_⟩;have ea:((as.map V.ref).length:Int).toNat=rss.length:=by rw[YC];omega
 rw[ea];refine T8 (lo:=0) (n:=rss.length) (λi σ H'=>Same H H'/\∃ (ca:Addr) (x:UA),σ=[some (.int (n:Int)),some (.ref l),some (.ref q),some (.ref ca),x]/\RowAt K H' ca (madS n rss ms i)) ⟨S12,c0,none,rfl,r2⟩ ?_ ?_
 ·rintro i σ H3 hi ⟨S3,ca,x0,rfl,hca⟩;have e0:(0+(i:Int))=((i:Nat):Int):=by omega
  rw[e0];refine Zu ?_;dsimp only;refine Yb (Z06 (Ta ?_));refine⟨_,rfl,(n:Int),rfl,(by omega),(by omega),λd3 hd3=>?_⟩;rw[et];have ea2:as[i]?=some (as[i]'(by omega)):=by simp
  have ez:rss[i]?=some rss[i]:=by simp[hi]
  have hgd:rss.getD i []=rss[i]:=by simp[List.getD,hi]
  generalize (as[i]'(by omega))=ra at ea2;generalize rss[i]=rr at ez hgd;have em:ms[i]?=some (ms[i]'(by omega)):=by simp
  have hmd:ms.getD i (0,1)=ms[i]'(by omega):=by simp[List.getD,show i<ms.length by omega]
  generalize (ms[i]'(by omega))=mm at em hmd;obtain⟨lr,gr⟩:=hrs rr (YD ez);have gm:=hgm mm (YD em);obtain⟨cv,qcv,rcv⟩:=hca;have lc:(madS n rss ms i).length=n:=by cases i <;> simp[madS]
  refine⟨n,λj ys H'=>Same H3 H'/\Rs K H' ((madS n rss ms (i+1)).take j) ys,Zt (by omega),⟨Same.new hd3,.nil⟩,?_,?_⟩
  ·rintro j ys3 H4 hj ⟨S4,R4⟩ hd4;refine⟨hj,?_⟩;rintro x' H5 ⟨rfl,rfl⟩;have e1:(0+(j:Int))=((j:Nat):Int):=by omega
   rw[e1];refine Y2 ?_;have S34:=S3.trans S4;have e5:(madS n rss ms i)[j]?=some ((madS n rss ms i)[j]'(by omega)):=by simp
   have hcd:(madS n rss ms i).getD j (0,1)=(madS n rss ms i)[j]'(by omega):=by simp[List.getD,show j<(madS n rss ms i).length by omega]
   have gc:=hgS i (by omega) j hj;rw[hcd] at gc;generalize ((madS n rss ms i)[j]'(by omega))=cc at e5 hcd gc;obtain⟨v5,ev5,b5,rfl,q5⟩:=(rcv.ext (Ext.same S4)).at e5;have e6:rr[j]?=some (rr[j]'(by omega)):=by simp
   have hrd:rr.getD j (0,1)=rr[j]'(by omega):=by simp[List.getD,show j<rr.length by omega]
   generalize (rr[j]'(by omega))=r6 at e6 hrd;have g6:=gr r6 (YD e6);obtain⟨rv,qrv,rrv⟩:=(Paired.getB hp ea2 ez).ext (Ext.same S34);obtain⟨v6,ev6,b6,rfl,q6⟩:=rrv.at e6;obtain⟨v7,ev7,b7,rfl,q7⟩:=(hms.ext (Ext.same S34)).at em;have hq7:SqL K H5 q xs \/ SqT K H5 q xs:=hq.elim (λz=>.inl (Yr S34 z)) λz=>.inr (Zn S34 z);refine⟨_,rfl,_,rfl,ca,cv,_,_,rfl,rfl,Zn S4 qcv,Y4 ev5,?_⟩;have exr:(as.map V.ref)[i]?=some (V.ref ra):=by rw[YE,ea2];rfl
   refine⟨_,rfl,_,rfl,l,as.map V.ref,_,_,rfl,rfl,SqL.of (S34 _ _ hl),Y4 exr,?_⟩;refine⟨_,rfl,ra,rv,_,_,rfl,rfl,qrv,Y4 ev6,?_⟩;refine⟨_,rfl,_,rfl,q,xs,_,_,rfl,rfl,hq7,Y4 ev7,?_⟩;refine⟨b6,b7,r6,mm,G,rfl,q6,q7,g6,gm,by omega,λc8 H8 f8 S8 q8=>?_⟩;have g8:=(W7 g6 gm);refine⟨b5,c8,cc,mulR' r6 mm,2*G,rfl,Zn S8 q5,SqT.of q8,gc.mono (by omega),g8.mono (by omega),hG,λc9 H9 f9 S9 q9=>?_⟩;have S89:=S8.trans S9;have hd9:=S89 _ _ hd4;refine⟨hd9,Y7 (S4.trans S89) hd3,?_⟩;have es:(madS n rss ms (i+1))[j]?=some (addR cc (mulR' r6 mm)):=by
    show ((List.range n).map _)[j]?=_;rw[YE,qd hj,hgd,hmd];show some (addR ((madS n rss ms i).getD j (0,1)) (mulR' (rr.getD j (0,1)) mm))=_;rw[hcd,hrd]
   rw[Y8 es];exact (R4.ext ((Ext.same S89).trans (Ext.upd hd9))).snoc ⟨c9,rfl,(Ext.upd hd9).sq (SqT.of q9)⟩
  rintro ys3 H4 ⟨S4,R4⟩ hd4;refine⟨YF _,d3,ys3,rfl,.inl ⟨SqL.of hd4,λc5 hc5=>?_⟩⟩;have S5:=Same.new (o:=.tup ys3) hc5;rw[YV (by simp[madS])] at R4;exact Zu ⟨(S3.trans S4).trans S5,c5,_,rfl,ys3,SqT.of Zb,R4.ext (Ext.new hc5)⟩
 rintro σ H3 ⟨S3,ca,x0,rfl,hca⟩;exact⟨_,rfl,k ca H3 S3 hca⟩
end
theorem Mn {r:Rat}(h:Low r)(k:Low s):Low (mulR' r s):=Yd (GP (XN h.pos k.pos))
section
variable {n:Nat}{rss:UC}{ms:UB}
theorem U9:∀ j,(madS n rss ms j).length=n
 | 0=>by simp[madS]
 | j+1=>by simp[madS]
theorem Px (hr:∀ rs∈rss,Lows rs)(hm:Lows ms):∀ j,j<=rss.length->Lows (madS n rss ms j)/\∀ k,k<n->qr (madS n rss ms j) k=sQ j λi=>qr ms i*qr (rss.getD i []) k
 | 0,_=>⟨λx hx=>by rw[qW hx];exact Tn,λk hk=>by
   unfold qr madS;rw[YG,zf];show qv ((if k<n then some (0,1) else none:Option Rat).getD (0,1))=0;rw[XF hk];exact M0⟩
 | j+1,hj=>by
  obtain⟨l,q⟩:=Px hr hm j (by omega);have hrj:Lows (rss.getD j []):=hr _ (Ym (by omega));have el:∀ k,Low (addR ((madS n rss ms j).getD k (0,1)) (mulR' ((rss.getD j []).getD k (0,1)) (ms.getD j (0,1))))/\qv (addR ((madS n rss ms j).getD k (0,1)) (mulR' ((rss.getD j []).getD k (0,1)) (ms.getD j (0,1))))=qr (madS n rss ms j) k+qr ms j*qr (rss.getD j []) k:=λk=>by
   have a:=Xj l k;have b:=Xj hrj k;have c:=Xj hm j;refine⟨Sa a (Mn b c),?_⟩;rw[Pj a (Mn b c),Uv b c];show qr (madS n rss ms j) k+qr (rss.getD j []) k*qr ms j=_;grind
  refine⟨λx hx=>?_,λk hk=>?_⟩
  ·obtain⟨k,_,rfl⟩:=YZ.mp (show x∈(List.range n).map _ from hx);exact (el k).1
  have e:(madS n rss ms (j+1)).getD k (0,1)=addR ((madS n rss ms j).getD k (0,1)) (mulR' ((rss.getD j []).getD k (0,1)) (ms.getD j (0,1))):=by
   show ((List.range n).map _).getD k (0,1)=_;rw[YG,YE,qd hk];rfl
  show qv ((madS n rss ms (j+1)).getD k (0,1))=_;rw[e,(el k).2,q k hk];rfl
theorem Sc {W:Int}{r:Rat}(l:Low r)(p:0<D)(bD:Bd B D)(h:qv r*(D:QQ)=W)(q0:0<=qv r)(q1:qv r<=1):Good B r:=by
 refine Ch p bD ?_ (Vv p bD h q0 q1) l;have b1:=Yx l.pos;unfold qv at h;have e3:((r.1:Int):QQ)*(D:QQ)=((W:Int):QQ)*((r.2:Int):QQ):=by grind
 rw[<-_root_.Rat.intCast_mul,<-_root_.Rat.intCast_mul] at e3;exact _root_.Rat.intCast_inj.mp e3
theorem Uk {D:Int}{f:Nat->QQ}:∀ {j:Nat},(∀ i,i<j->∃ W:Int,f i*(D:QQ)=W)->∃ W:Int,sQ j f*(D:QQ)=W
 | 0,_=>⟨0,by show (0:QQ)*_=0;grind⟩
 | j+1,h=>by
  obtain⟨A,a⟩:=Uk (j:=j) λi hi=>h i (by omega);obtain⟨B,b⟩:=h j (by omega);refine⟨A+B,?_⟩;show (sQ j f+f j)*_=_;rw[_root_.Rat.intCast_add,<-a,<-b];grind
theorem P0 {f:Nat->QQ}{i j:Nat}(h:i<=j)(nn:∀ k,k<j->0<=f k):sQ i f<=sQ j f:=by
 induction j with
 | zero =>
  have:i=0:=by omega
  subst this;grind
 | succ j ih =>
  by_cases e:i=j+1
  ·subst e;grind
  have:=ih (by omega) λk hk=>nn k (by omega);have:=nn j (by omega);show sQ i f<=sQ j f+f j;grind
theorem Z09 {j:Nat}(hm:Lows ms)(hj:j<=ms.length):Low (sumR (ms.take j))/\qv (sumR (ms.take j))=sQ j (qr ms):=by
 have lt:Lows (ms.take j):=λr hr=>hm r (GS hr);refine⟨Va lt,?_⟩;rw[Ph lt,JC,Nat.min_eq_left hj];refine Zo λk hk=>?_;unfold qr;rw[YG,YG,zC hk]
end
structure MixOk (n G:Nat)(rss:UC)(ws mix:UB):Prop where
 len:mix.length=rss.length
 good:∀ x∈mix,Good G x/\0<=x.1
 rep:∃ D W,RepL G D W mix
 sum:sumR mix=(1,1)
 part:∀ j,j<=rss.length->Good G (sumR (mix.take j))
 mad:madS n rss mix rss.length=ws
 pm:∀ j,j<=rss.length->∀ k,k<n->Good G ((madS n rss mix j).getD k (0,1))
 come:comeW n rss mix=ws
theorem Mx.ok {n N nc G:Nat}{gs rss:UC}{ws r:UB}(h8:n<=8)(hcg:∀ g∈gs,Lows g/\g.length=n)(hN1:1<=N)(hgN:∀ g∈gs,RowN N n g)(C:CorR n (paps n++gs) (bndC n gs) rss)(hs:∀ f∈rss,RowN nc n f)(hw:RowN B n ws)(hfit:fitB gs ws=true)
  (M:Mx (paps n++gs.map turnR) ws rss mix r) (hG:B+(N+nc+3)*(n+gs.length)<=G):MixOk n G rss ws mix:=by
 have lpa:(paps n).length=n:=by unfold paps;simp
 have eE:=Bv hcg;have rE:=Jl hN1 hgN;have Bn:Bnds n (n+gs.length) (bndC n gs):=Sh (by omega);obtain⟨lw,Dw,Ww,Rw⟩:=id hw;have lows:Lows ws:=λr hr=>(Rw.good r hr).low;have I0:=(Ji lows lw hcg).mp hfit;have hv:∀ g∈rss,Lows g/\g.length=n/\InP n (n+gs.length) (bndC n gs) (qr g):=λg hg=>⟨C.low g hg,C.len g hg,by have:=(C.vx hg).inn;rw[YX,lpa] at this;exact this⟩;have J:=M.inv eE lows lw I0.le hv;obtain⟨D,dn0⟩:=M.den eE h8 rE lows lw I0.le Rw.pos Rw.bD (λk hk=>by obtain⟨W,_,h⟩:=Ny Rw (k:=k) (by omega);exact⟨W,h⟩) hv hs;have bG:B+(N+nc+3)*(n+gs.length - nz (n+gs.length) λk=>dq n (qr r) (bndC n gs k))<=G:=by
  have:(N+nc+3)*(n+gs.length - nz (n+gs.length) λk=>dq n (qr r) (bndC n gs k))<=(N+nc+3)*(n+gs.length):=qh _ (by omega);omega
 have bD:Bd G D:=dn0.bd.mono bG;have cors:Cors n (n+gs.length) (bndC n gs) (rss.map qr):=by have:=C.cors;rw[YX,lpa] at this;exact this
 obtain⟨s1,s2⟩:=M.done (gss:=[]) eE Bn cors (λf hf=>⟨(hv f hf).1,(hv f hf).2.1⟩) lows lw I0;have hr:∀ rs∈rss,Lows rs:=λrs h=>(hv rs h).1;have lm:=J.lm;have mnn:∀ i,0<=qr mix i:=Z2k J.mn;have m1:∀ i,i<rss.length->qr mix i<=1:=λi hi=>by rw[<-s2];exact Ll (λk _=>mnn k) i hi
 have at_:∀ x∈mix,∃ i,i<rss.length/\qr mix i=qv x:=λx hx=>by
  obtain⟨i,hi,rfl⟩:=Y13.mp hx;exact⟨i,by omega,by unfold qr;simp[List.getD,hi]⟩
 have gd:∀ x∈mix,Good G x:=λx hx=>by
  obtain⟨i,hi,e⟩:=at_ x hx;obtain⟨W,h⟩:=dn0.mw i (by omega);rw[e] at h;exact Sc (J.ml x hx) dn0.pos bD h (J.mn x hx) (by rw[<-e];exact m1 i hi)
 have fnn:∀ j,j<rss.length->∀ k,k<n->0<=qr (rss.getD j []) k:=λj hj k hk=>(hv _ (Ym hj)).2.2.nn Bn k hk;have mq:=λj hj=>Px (n:=n) (rss:=rss) (ms:=mix) hr J.ml j hj;refine⟨lm,λx hx=>⟨gd x hx,(So (J.ml x hx).pos).mpr (J.mn x hx)⟩,?_,?_,λj hj=>?_,?_,λj hj k hk=>?_,?_⟩
 ·obtain⟨Ws,p⟩:=RepL.each dn0.pos bD (rs:=mix) λx hx=>by
   obtain⟨i,hi,e⟩:=at_ x hx;obtain⟨W,h⟩:=dn0.mw i (by omega);rw[e] at h;have l:=J.ml x hx;refine⟨W,?_,Vv dn0.pos bD h (J.mn x hx) (by rw[<-e];exact m1 i hi),l⟩;have b1:=Yx l.pos;unfold qv at h;have e3:((x.1:Int):QQ)*(D:QQ)=((W:Int):QQ)*((x.2:Int):QQ):=by grind
   rw[<-_root_.Rat.intCast_mul,<-_root_.Rat.intCast_mul] at e3;exact _root_.Rat.intCast_inj.mp e3
  exact⟨D,Ws,p⟩
 ·refine Vn (Va J.ml) Mo ?_;rw[Ph J.ml,lm,s2,Dz]
 ·obtain⟨l,q⟩:=Z09 J.ml (j:=j) (by omega);obtain⟨W,h⟩:=Uk (j:=j) λi hi=>dn0.mw i (by omega);rw[<-q] at h;refine Sc l dn0.pos bD h ?_ ?_
  ·rw[q];exact U0 λk _=>mnn k
  rw[q,<-s2];exact P0 hj λk _=>mnn k
 ·obtain⟨l,q⟩:=mq rss.length (YF _);exact Tk l lows (U9 _) lw λk hk=>by rw[q k hk,s1 k hk]
 ·obtain⟨l,q⟩:=mq j hj;have lk:=Xj l k;have q':qv ((madS n rss mix j).getD k (0,1))=_:=q k hk;have nn:∀ i,i<rss.length->0<=qr mix i*qr (rss.getD i []) k:=λi hi=>_root_.Rat.mul_nonneg (mnn i) (fnn i hi k hk);obtain⟨W,h⟩:=Uk (j:=j) (f:=λi=>qr mix i*qr (rss.getD i []) k) λi hi=>dn0.pw i (by omega) k hk;rw[<-q'] at h;refine Sc lk dn0.pos bD h ?_ ?_
  ·rw[q'];exact U0 λi hi=>nn i (by omega)
  rw[q'];have h1:=P0 (f:=λi=>qr mix i*qr (rss.getD i []) k) hj nn;have h2:=s1 k hk;have h3:=I0.le1 Bn k hk;grind
 refine zz (by unfold comeW;simp[lw]) λk a b=>?_;have hk:k<n:=by omega
 have e1:(comeW n rss mix)[k]=sumR (List.zipWith mulR' (colR rss k) mix):=by
  have:(comeW n rss mix)[k]?=some (sumR (List.zipWith mulR' (colR rss k) mix)):=by
   unfold comeW;rw[YE,qd hk];rfl
  rw[XC a] at this;exact YR this
 have lc:Lows (colR rss k):=λx hx=>by
  obtain⟨rs,h,rfl⟩:=YZ.mp hx;exact Xj (hr rs h) k
 have lcl:(colR rss k).length=rss.length:=by unfold colR;simp
 rw[e1];have lws:=lows _ (XG b);refine Vn (Va (Ub lc J.ml)) lws ?_;have e2:qv ws[k]=qr ws k:=by unfold qr;simp[List.getD,b]
 have e3:qv (sumR (List.zipWith mulR' (colR rss k) mix))=_:=Dy lc J.ml lcl lm;rw[e2,s1 k hk,e3];refine Zo λj hj=>?_;have e4:qr (colR rss k) j=qr (rss.getD j []) k:=by
  unfold qr colR;have:(rss.map λrs=>rs.getD k (0,1)).getD j (0,1)=(rss.getD j []).getD k (0,1):=by
   rw[YG,YE,XC hj];have:rss.getD j []=rss[j]:=by simp[List.getD,hj]
   rw[this];rfl
  rw[this]
 rw[e4];grind
theorem V5 {K:TR}{H:Hp}:∀ {rs:UB} {xs ys:TZ},Rs K H rs xs->Rs K H rs ys->Paired (EqU K H 1) xs ys
 | _,_,_,.nil,.nil=>.nil
 | _,_,_,.cons ⟨a,ea,qa⟩ r,.cons ⟨b,eb,qb⟩ t=>.cons (.inr ⟨a,b,_,_,ea,eb,.inr ⟨qa,qb⟩,.cons ⟨rfl,rfl⟩ (.cons ⟨rfl,rfl⟩ .nil)⟩) (V5 r t)
section
variable {P:TU}{w:World}{K:TR}{mg:TB}{base:Heap}
inductive spMixGood (K:TR) (T:Addr) (vs:TZ) (H:Hp) (Q:VK) (_z3:XK):Prop
 | i (l a t:Addr) (n N M B:Nat) (os:UD) (ws:UB) (rss:UC) (_:vs=[.int (n:Int),.ref l,.ref a,.ref t]) (_:2<=n/\n<=5) (_:OffsAt K H l n os) (_:os.length<=100) (_:M<=200000) (_:∀ o∈os,GoodO M o) (_:(gainsP os os.length).length<=6) (_:∀ g∈gainsP os os.length,RowN N n g) (_:1<=N) (_:N<=100) (_:Tab1 H T) (_:RowAt K H a ws) (_:RowN B n ws) (_:B<=30000)
  (_:fitB (gainsP os os.length) ws=true) (_:RowsAt K H t rss) (_:CorR n (paps n++gainsP os os.length) (bndC n (gainsP os os.length)) rss) (_:Srt rss) (_:∀ H',SameX T H H'->Tab1 H' T->Q (.bl true) H')
theorem Gj {Tb:Addr}(D:Def K mg "_law_mix_good" iQ VM)(T:Blt mg)(fG:Has P w K mg base 8 "mix_of" VI (spMix K Tb) true)(eP:Has P w K mg base 3 "_law_is_ratio" UJ (spIsRt K))(eF:Z3 P w K mg base)(eO:Has P w K mg base 4 "_law_made" VL (spMadeL K))(fZ:Has P w K mg base 6 "made" VJ (spComeTo K))(fR:Has P w K mg base 4 "_law_is_row" VC (spIsRow K)) :
  Has P w K mg base 9 "_law_mix_good" VM (spMixGood K Tb) true:=by
 refine D.h9 (N:=["_law_count","_law_offers","_law_weights_here","_law_told","_law_found","_law_some","_law_one","_law_come","_law_again"]) fsc λH Q hr h nd=>?_;obtain⟨l,a,t,n,N,M,B,os,ws,rss,rfl,hn,hO,hz,hM,hG,hg6,hgN,hN1,hN,hT,hA,hw,hB,hfit,hR,C,srt,k⟩:=h;have hU:=GJ (Rk hr);have hU64:=hr.units;refine⟨_,(Z9 (Zh (i:=4) nd rfl (Or.inl rfl) (Wl fG (hr.mono (by decide)) rfl (Z0 (pv 0) (Z0 (Y1 Yn rfl T.list JP (Z0 (pv 1) Z7)) (Z0 (pv 2) Z7)))))
  (Z9 (Yc (PW.pt (Vj (Xg (Yo (Zq Xf rfl T.isinstance JB (Z0 (pv 4) (Z0 (U2 T.list JP) Z7))))) (Wh (Zp Me (Zq Zv rfl T.len qD (Z0 (pv 4) Z7)) (Zq Zv rfl T.len qD (Z0 (pv 3) Z7)) (Zr _)))))
   (Za (Zg Xu))
   Zw)
  (Z9 (Zh (i:=5) nd rfl (Or.inl rfl) (Yp (Z0 Z8 (Z0 Z8 Z7))))
  (Z9 (Ys XZ rfl (Y6 (pv 4)) (Zf (i:=6) nd rfl (Or.inl rfl))
   (Z9 (Yc (PW.pt (Vj (Xg (Yo (Zc eP hr (Z0 (pv 6) Z7)))) (Wh (Zp Sz (Zi Yq (pv 6) Z8 (λ_ _=>rfl)) Z8 (Zr _)))))
    (Za (Zg Xu))
    Zw)
   (Za (Zh (i:=5) nd rfl (Or.inl rfl) (Zc eF hr (Z0 (pv 5) (Z0 (pv 6) Z7)))))))
  (Z9 (Yc (PW.pt (Vj (Zp (Lu (K:=K) hU) (pv 5) (Yp (Z0 Z8 (Z0 Z8 Z7))) (Zr _)) (Wh (Zp (Ce (K:=K) hU64) (Zc eO hr (Z0 (pv 0) (Z0 (pv 3) (Z0 (pv 4) Z7)))) (pv 2) (Zr _)))))
   (Za (Zg Xu))
   Zw)
  (Z9 (Zh (i:=7) nd rfl (Or.inl rfl) (Zc fZ hr (Z0 (pv 0) (Z0 (Y1 Yn rfl T.list JP (Z0 (pv 3) Z7)) (Z0 (Y1 Yn rfl T.list JP (Z0 (pv 4) Z7)) Z7)))))
  (Z9 (Xa (Z3f JG PySem.F.slot_list_clear PySem.F.type_list_clear Bg (pv 4)))
  (Z9 (Zh (i:=8) nd rfl (Or.inl rfl) (Wl fG (hr.mono (by decide)) rfl (Z0 (pv 0) (Z0 (Y1 Yn rfl T.list JP (Z0 (pv 1) Z7)) (Z0 (pv 2) Z7)))))
  (Z9 (Yc (PW.pt (Vj (Zp Me (Zq Zv rfl T.len qD (Z0 (pv 8) Z7)) (Zq Zv rfl T.len qD (Z0 (pv 3) Z7)) (Zr _)) (Wh (Zp (Ce (K:=K) hU64) (Zc eO hr (Z0 (pv 0) (Z0 (pv 3) (Z0 (pv 8) Z7)))) (pv 2) (Zr _)))))
   (Za (Zg Xu))
   Zw)
  (Za (Zg (Uw (Zc fR hr (Z0 (pv 7) (Z0 (pv 0) Z7))) (Vp (Xb (Cg (K:=K) hU64) (pv 7) (pv 2) (Zr _))))))))))))))),?_⟩
 obtain⟨n2,n5⟩:=hn;have hcg:∀ g∈gainsP os os.length,Lows g/\g.length=n:=λg hm=>by
  obtain⟨l1,D1,W1,R1⟩:=hgN g hm;exact⟨λr hr=>(R1.good r hr).low,l1⟩
 have n4:(n - 1)*(N+3)<=4*103:=GY (by omega) (by omega);have lpa:(paps n).length=n:=by unfold paps;simp
 have rB:∀ e∈paps n++gainsP os os.length,RowN N n e:=λe he=>by
  rcases XH.mp he with he | he
  ·unfold paps at he;obtain⟨w0,_,rfl⟩:=YZ.mp he;exact uP_row.mono hN1
  exact hgN e he
 have hs:∀ g∈rss,RowN (4+(n - 1)*(N+3)) n g:=λg hg=>C.small8 (by omega) (by omega) rB hg;have few:rss.length<=64:=by
  by_cases z:n=5
  ·subst z;have:=C.few11 (by rw[YX,lpa];omega);omega
  have:=C.few10 n2 n5 (by rw[YX,lpa];omega);omega
 have mixok:∀ {rss':UC} {mix r:UB},CorR n (paps n++gainsP os os.length) (bndC n (gainsP os os.length)) rss'->Srt rss'->Mx (paps n++(gainsP os os.length).map turnR) ws rss' mix r->MixOk n 36000 rss ws mix:=λ{rss' mix r} C' s' M=>by
  have e:=C'.unique C s' srt;subst e;refine M.ok (by omega) hcg hN1 hgN C hs hw hfit ?_;have:(N+(4+(n - 1)*(N+3))+3)*(n+(gainsP os os.length).length)<=520*11:=GY (by omega) (by omega);omega
 obtain⟨lw,Dw,Ww,Rw⟩:=id hw;have rgood:∀ rs∈rss,rs.length=n/\∀ r∈rs,Good 36000 r:=λrs h=>by
  obtain⟨l1,D1,W1,R1⟩:=hs rs h;exact⟨l1,λr hr=>(R1.good r hr).mono (by omega)⟩
 have rgood2:∀ rs∈rss,rs.length=n/\∀ r∈rs,Good 420 r:=λrs h=>by
  obtain⟨l1,D1,W1,R1⟩:=hs rs h;exact⟨l1,λr hr=>(R1.good r hr).mono (by omega)⟩
 obtain⟨ov,oq,op⟩:=hO;obtain⟨at_,qt,Pt⟩:=hR;have lat:=YW Pt;refine Zz (Yb ?_);refine⟨_,rfl,_,rfl,l,ov,rfl,.inl (SqL.of oq),λl1 hl1=>?_⟩;have N1:=Same.new (o:=.lst ov) hl1;have q1:(upd H l1 (.lst ov)) l1=some (.lst ov):=Zb;generalize upd H l1 (.lst ov)=H1 at *
 refine⟨_,rfl,l1,a,n,N,M,B,os,ws,rfl,⟨n2,n5⟩,⟨ov,q1,Yk op (Ext.same N1)⟩,hz,hM,hG,hg6,hgN,hN1,hN,hT.same N1,hA.ext (Ext.same N1),hw,hB,λz=>(by rw[hfit] at z;cases z),λ_ d2 H2 rss' mix r fd2 X2 T2 L2' C2 s2 M2=>?_⟩;have mo:=mixok C2 s2 M2;have tb1:=(hT.same N1).tbl;have neT:∀ {b:Addr} {xs:TZ},H1 b=some (.lst xs)->b≠Tb:=λ{b xs} e z=>by
  obtain⟨ps,h⟩:=tb1;rw[z,h] at e;cases e
 have E2:=(Ext.same N1).trans (Ue tb1 X2);have qt2:=X2 _ _ (N1 _ _ qt) (neT (N1 _ _ qt));have Pt2:=Zk Pt E2;have oq2:=X2 _ _ (N1 _ _ oq) (neT (N1 _ _ oq));have op2:=Yk op E2;have A2:=hA.ext E2;have X02:SameX Tb H H2:=(SameX.of N1).trans X2;obtain⟨xs,qd2,Rx2⟩:=L2';have lx:=Rx2.len;have ndt:t≠d2:=Zd (N1 _ _ qt) fd2;have ndl:l≠d2:=Zd (N1 _ _ oq) fd2;refine Zu ?_;dsimp only;refine Zz ?_;refine⟨_,rfl,_,_,_,_,rfl,?ty,V7,_,rfl,?_⟩
 case ty=>exact TyOf.lst qd2
 refine⟨_,rfl,d2,_,rfl,.inl (SqL.of qd2),_,rfl,t,_,rfl,.inl (SqL.of qt2),rfl,_,rfl,?_⟩;refine Qf (by rw[YC,lat,<-lx,mo.len]) ?_;refine Rb ?_;dsimp only;refine Zz (Yb ?_);refine⟨sz2,λp3 hp3=>?_⟩;have N3:=Same.new (o:=.tup [.int 0,.int 1]) hp3;have q3:SqT K (upd H2 p3 (.tup [.int 0,.int 1])) p3 [.int (sumR (mix.take 0)).1,.int (sumR (mix.take 0)).2]:=SqT.of Zb;generalize upd H2 p3 (.tup [.int 0,.int 1])=H3 at *
 refine Zu ?_;dsimp only;refine Zz ?_;refine⟨_,rfl,d2,rfl,⟨_,SqL.of (N3 _ _ qd2)⟩,?_⟩;refine X0 (K:=K) (xs:=xs) (λi σ H'=>Same H3 H'/\∃ (sa:Addr) (x:UA),σ=[some (.int (n:Int)),some (.ref l),some (.ref a),some (.ref t),some (.ref d2),some (.ref sa),x,none,none]/\SqT K H' sa [.int (sumR (mix.take i)).1,.int (sumR (mix.take i)).2]) ⟨Same.refl _,p3,none,rfl,q3⟩ (λi σ H' _ h=>SqL.of (h.1 _ _ (N3 _ _ qd2))) ?_ ?_
 ·rintro i x σ H4 hx ⟨S4,sa,x0,rfl,qs⟩;obtain⟨y,ey,iy⟩:=Rx2.back hx;have my:=YD ey;obtain⟨b,rfl,qb⟩:=iy.ext (Ext.same (N3.trans S4));obtain⟨gy,y0⟩:=mo.good y my;have hi:i<mix.length:=(YH.mp ey).1;have gp:=mo.part i (by have:=mo.len;omega);refine Zu ?_;dsimp only;refine Zz ?_;refine⟨_,rfl,b,y,36000,rfl,qb,gy,by omega,λH5 S5=>⟨_,rfl,?_⟩⟩;have qb5:=Zn S5 qb;refine⟨_,rfl,b,_,_,rfl,rfl,qb5,_,_,rfl,rfl,_,rfl,?_⟩;rw[XR (show ¬ y.1<0 by omega)];refine Yw (Rb ?_);dsimp only;refine Yb ?_;refine⟨_,rfl,_,rfl,sa,b,sumR (mix.take i),y,36000,rfl,Zn S5 qs,qb5,gp,gy,by omega,λc6 H6 f6 S6 q6=>?_⟩;refine Zu ⟨S4.trans (S5.trans S6),c6,_,rfl,?_⟩;rw[Vc ey];exact SqT.of q6
 rintro σ H4 ⟨S4,sa,x0,rfl,qs⟩;rw[<-lx,JF,mo.sum] at qs;dsimp only;refine Zz ?_;refine⟨_,rfl,sz2,λp5 hp5=>?_⟩;have N5:=Same.new (o:=.tup [.int 1,.int 1]) hp5;have q5:SqT K (upd H4 p5 (.tup [.int 1,.int 1])) p5 [.int 1,.int 1]:=SqT.of Zb;generalize upd H4 p5 (.tup [.int 1,.int 1])=H5 at *
 have S25:=N3.trans (S4.trans N5);refine⟨sa,p5,[1,1],[1,1],rfl,rfl,Zn N5 qs,q5,_,rfl,?_⟩;refine Qf rfl ?_;have A5:=A2.ext (Ext.same S25);have Pt5:=Zk Pt2 (Ext.same S25);have Rx5:=Rx2.ext (Ext.same S25);refine⟨_,rfl,_,rfl,_,rfl,t,d2,n,36000,at_,xs,rss,mix,rfl,S25 _ _ qt2,Pt5,.inl (SqL.of (S25 _ _ qd2)),Rx5,mo.len,by omega,by omega,rgood,λr hr=>(mo.good r hr).1,mo.pm,by omega,by omega,λc6 H6 S6 r6=>?_⟩;rw[mo.mad] at r6;obtain⟨y6,q6,R6⟩:=r6;obtain⟨ya,qa,Ra⟩:=A5.ext (Ext.same S6);refine⟨_,rfl,1,c6,a,y6,ya,rfl,rfl,by omega,.inr ⟨q6,qa⟩,V5 R6 Ra,_,rfl,?_⟩;refine Yw (Rb ?_);dsimp only;have S26:=S25.trans S6;refine Zz (Yb ?_);refine⟨_,rfl,_,rfl,t,at_.map V.ref,rfl,.inl (SqL.of (S26 _ _ qt2)),λt7 ht7=>?_⟩;have N7:=Same.new (o:=.lst (at_.map V.ref)) ht7;have q7:(upd H6 t7 (.lst (at_.map V.ref))) t7=some (.lst (at_.map V.ref)):=Zb;generalize upd H6 t7 (.lst (at_.map V.ref))=H7 at *
 refine⟨_,rfl,d2,xs,rfl,.inl (SqL.of (N7 _ _ (S26 _ _ qd2))),λd8 hd8=>?_⟩;have N8:=Same.new (o:=.lst xs) hd8;have q8:(upd H7 d8 (.lst xs)) d8=some (.lst xs):=Zb;generalize upd H7 d8 (.lst xs)=H8 at *
 have S28:=S26.trans (N7.trans N8);obtain⟨Dm,Wm,Rm⟩:=mo.rep;refine⟨t7,d8,n,rss,mix,rfl,⟨at_,N8 _ _ q7,Zk Pt2 (Ext.same S28)⟩,⟨xs,q8,Rx2.ext (Ext.same S28)⟩,mo.len,few,by omega,rgood2,⟨36000,Dm,Wm,by omega,Rm⟩,λc9 H9 S9 r9=>?_⟩;rw[mo.come] at r9;have S29:=S28.trans S9;have qd9:=S29 _ _ qd2;refine Zu ?_;dsimp only;refine Zz ?_;refine⟨_,rfl,.inl ⟨rfl,_,SqL.of qd9⟩,d2,xs,rfl,rfl,qd9,?_⟩;have X10:SameX d2 H9 (upd H9 d2 (.lst [])):=SameX.upd _ _ _;have E10:Ext H9 (upd H9 d2 (.lst [])):=Ext.upd qd9;generalize upd H9 d2 (.lst [])=H10 at *
 have X210:SameX d2 H2 H10:=(SameX.of S29).trans X10;have T10:Tab1 H10 Tb:=T2.lst qd2 X210;have E210:=(Ext.same S29).trans E10;have oq10:=X210 _ _ oq2 ndl;have qt10:=X210 _ _ qt2 ndt;have A10:=A2.ext E210;have r10:=r9.ext E10;dsimp only;refine Zz (Yb ?_);refine⟨_,rfl,_,rfl,l,ov,rfl,.inl (SqL.of oq10),λl11 hl11=>?_⟩;have N11:=Same.new (o:=.lst ov) hl11;have q11:(upd H10 l11 (.lst ov)) l11=some (.lst ov):=Zb;generalize upd H10 l11 (.lst ov)=H11 at *
 refine⟨_,rfl,l11,a,n,N,M,B,os,ws,rfl,⟨n2,n5⟩,⟨ov,q11,Yk op2 (E210.trans (Ext.same N11))⟩,hz,hM,hG,hg6,hgN,hN1,hN,T10.same N11,A10.ext (Ext.same N11),hw,hB,λz=>(by rw[hfit] at z;cases z),λ_ d12 H12 rss' mix' r' fd12 X12 T12 L12 C12 s12 M12=>?_⟩;have mo':=mixok C12 s12 M12;have tb11:=(T10.same N11).tbl;have qt12:=X12 _ _ (N11 _ _ qt10) λz=>by
  obtain⟨ps,h⟩:=tb11;have:=N11 _ _ qt10;rw[z,h] at this;cases this
 have E1012:=(Ext.same N11).trans (Ue tb11 X12);obtain⟨xs',qd12,Rx12⟩:=L12;have lx':=Rx12.len;refine Zu ?_;dsimp only;refine Zz ?_;refine⟨_,rfl,d12,_,rfl,.inl (SqL.of qd12),_,rfl,t,_,rfl,.inl (SqL.of qt12),rfl,_,rfl,?_⟩;refine Qf (by rw[YC,lat,<-lx',mo'.len]) ?_;refine⟨_,rfl,_,rfl,_,rfl,t,d12,n,36000,at_,xs',rss,mix',rfl,qt12,Zk Pt2 (E210.trans E1012),.inl (SqL.of qd12),Rx12,mo'.len,by omega,by omega,rgood,λr hr=>(mo'.good r hr).1,mo'.pm,by omega,by omega,λc13 H13 S13 r13=>?_⟩;rw[mo'.mad] at r13;obtain⟨y13,q13,R13⟩:=r13;obtain⟨ya13,qa13,Ra13⟩:=A10.ext (E1012.trans (Ext.same S13));refine⟨_,rfl,1,c13,a,y13,ya13,rfl,rfl,by omega,.inr ⟨q13,qa13⟩,V5 R13 Ra13,_,rfl,?_⟩;refine Yw (Rb ?_);dsimp only;have r13':=r10.ext (E1012.trans (Ext.same S13));refine Nw ?_;refine⟨_,rfl,_,rfl,c9,n,B,ws,rfl,r13',lw,Rw.good,by omega,λH14 S14=>⟨_,rfl,?_⟩⟩;obtain⟨y14,q14,R14⟩:=r13'.ext (Ext.same S14);obtain⟨ya14,qa14,Ra14⟩:=A10.ext (E1012.trans (Ext.same (S13.trans S14)));refine Wy ⟨_,rfl,_,rfl,1,c9,a,y14,ya14,rfl,rfl,by omega,.inr ⟨q14,qa14⟩,V5 R14 Ra14,?_⟩;have Sf:=S13.trans S14;refine k H14 (λb o e nb=>?_) (T12.same Sf);have nb2:b≠d2:=Zd (N1 _ _ e) fd2;exact Sf _ _ (X12 _ _ (N11 _ _ (X210 _ _ (X02 _ _ e nb) nb2)) nb)
end
theorem Xt {b:Addr}(S:Same H H1)(hb:H b=none)(X:SameX b H1 H2):Same H H2:=λc o e=>X c o (S c o e) (Zd e hb)
section
variable {P:TU}{w:World}{K:TR}{mg:TB}{base:Heap}
inductive spCBook (K:TR) (vs:TZ) (H:Hp) (Q:VK) (_z3:XK):Prop
 | i (a:Addr) (n:Nat) (ns:TV) (_:vs=[.ref a,.int (n:Int)]) (_:SqL K H a (ns.map V.int)) (_:1<=n) (_:n<=100) (_:∀ (p x l:Addr) (os:UD) (Ws:TV) (ws:UB) (H':Hp),Same H H'->SqT K H' p [.ref x,.ref l]->OffsAt K H' l n os->os.length<=3->(∀ o∈os,OffRep n o)->RowAt K H' x ws->WtsR n Ws ws->Q (.ref p) H')
theorem Kq:FnScope ["_law_script","_law_count","_law_weights_here","_law_head","_law_many","_law_loose","_law_offers","_law_k"] VN (defScope iG):=fsc
theorem Z1q (D:Def K mg "_law_corner_book" iG VN)(T:Blt mg)(eK:Has P w K mg base 2 "_law_bag" UF (spBagA K))(eA:Z2 P w K mg base)(eJ:Has P w K mg base 3 "_law_weights" UK (spWeightsR K))(fQ:Has P w K mg base 6 "_law_offer" UV (spOfferL K)):Has P w K mg base 7 "_law_corner_book" VN (spCBook K):=by
 refine D.has λf fd F=>F.ok Kq (λvs H Q E h=>?_) (λcdv A outer s H vs Q E hr h=>?_)
 ·obtain⟨a,n,ns,rfl,_⟩:=h;rfl
 obtain⟨a,n,ns,rfl,hS,hn1,hn,k⟩:=h;have sc:=Kq;refine⟨_,(Z9 (Zh (i:=2) sc.nd rfl (Or.inl rfl) (Zc eJ hr (Z0 (Zc eK hr (Z0 (pv 0) (Z0 Z8 Z7))) (Z0 (pv 1) Z7))))
  (Z9 (Zh (i:=3) sc.nd rfl (Or.inl rfl) (Zc eK hr (Z0 (pv 0) (Z0 Z8 Z7))))
  (Z9 (Zh (i:=4) sc.nd rfl (Or.inl rfl) (Zi Yz (X1 (Z0 Z8 (Z0 Z8 (Z0 Z8 (Z0 Z8 (Z0 Z8 (Z0 Z8 (Z0 Z8 (Z0 Z8 Z7))))))))) (Zc eA hr (Z0 (pv 3) (Z0 Z8 Z7))) (λ_ _=>rfl)))
  (Z9 (Zh (i:=5) sc.nd rfl (Or.inl rfl) (Zi Yz (X1 (Z0 Z8 (Z0 Z8 (Z0 Z8 Z7)))) (Zc eA hr (Z0 (pv 3) (Z0 Z8 Z7))) (λ_ _=>rfl)))
  (Z9 (Zh (i:=6) sc.nd rfl (Or.inl rfl) (X1 Z7))
  (Z9 (Ys XZ rfl (Yh rfl T.range (Z0 (pv 4) Z7)) (Zf (i:=7) sc.nd rfl (Or.inl rfl))
   (Za (Xa (U3 JG GC GD Yt (pv 6) (Z0 (Zc fQ hr (Z0 (Zc eK hr (Z0 (pv 0) (Z0 (Zm X3 Z8 (pv 7)) Z7))) (Z0 (pv 2) (Z0 (pv 5) Z7)))) Z7)))))
  (Za (Zg (Yp (Z0 (pv 2) (Z0 (pv 6) Z7))))))))))),?_⟩
 refine Zz (Yb ?_);refine⟨_,rfl,a,2,ns,rfl,hS,by omega,λb1 H1 f1 S1 B1=>?_⟩;refine⟨_,rfl,b1,n,101,rfl,B1,by omega,hn1,hn,λwa H2 Ws ws B2 X2 R2 W2=>?_⟩;have S2:=Xt S1 f1 X2;refine Zu ?_;dsimp only;refine Zz (Yb ?_);refine⟨_,rfl,a,3,ns,rfl,Yr S2 hS,by omega,λb3 H3 f3 S3 B3=>?_⟩;refine Zu ?_;dsimp only;refine Zz (Yb ?_);refine⟨sz8,λq4 hq4=>?_⟩;have N4:=Same.new (o:=.lst [V.int 0,V.int 1,V.int 2,V.int 3,V.int 1,V.int 2,V.int 3,V.int 2]) hq4;have q4':(upd H3 q4 (.lst [V.int 0,V.int 1,V.int 2,V.int 3,V.int 1,V.int 2,V.int 3,V.int 2])) q4=some (.lst [V.int 0,V.int 1,V.int 2,V.int 3,V.int 1,V.int 2,V.int 3,V.int 2]):=Zb;have B4:=B3.same N4;have n43:q4≠b3:=λz=>by obtain⟨u,v,e,_⟩:=B3;rw[z,e] at hq4;cases hq4
 generalize upd H3 q4 (.lst [V.int 0,V.int 1,V.int 2,V.int 3,V.int 1,V.int 2,V.int 3,V.int 2])=H4 at *
 have S4:=S2.trans (S3.trans N4);have f3':H b3=none:=S2.free f3;refine⟨_,rfl,b3,8,101,rfl,B4,by omega,by omega,by decide,λr H5 r0 r8 B5 X5=>?_⟩;have S5:=Xt S4 f3' X5;have q5:=X5 _ _ q4' n43;obtain⟨v5,e5,m5⟩:=Kh (xs:=[V.int 0,V.int 1,V.int 2,V.int 3,V.int 1,V.int 2,V.int 3,V.int 2]) (k:=r) r0 (by show r<8;omega);obtain⟨z5,rfl,z50,z53⟩:∃ z:Int,v5=.int z/\0<=z/\z<=3:=by
  simp only [YK,XJ,GA] at m5;rcases m5 with h | h | h | h | h | h | h | h <;> exact⟨_,h,by decide,by decide⟩
 refine⟨q4,_,r,_,rfl,rfl,SqL.of q5,e5,?_⟩;refine Zu ?_;dsimp only;refine Zz (Yb ?_);refine⟨sz3,λq6 hq6=>?_⟩;have N6:=Same.new (o:=.lst [V.int 0,V.int 0,V.int 2]) hq6;have q6':(upd H5 q6 (.lst [V.int 0,V.int 0,V.int 2])) q6=some (.lst [V.int 0,V.int 0,V.int 2]):=Zb;have B6:=B5.same N6;have n63:q6≠b3:=λz=>by obtain⟨u,v,e,_⟩:=B5;rw[z,e] at hq6;cases hq6
 generalize upd H5 q6 (.lst [V.int 0,V.int 0,V.int 2])=H6 at *
 have S6:=S5.trans N6;refine⟨_,rfl,b3,3,102,rfl,B6,by omega,by omega,by decide,λr7 H7 r70 r73 B7 X7=>?_⟩;have S7:=Xt S6 f3' X7;have q7:=X7 _ _ q6' n63;obtain⟨v7,e7,m7⟩:=Kh (xs:=[V.int 0,V.int 0,V.int 2]) (k:=r7) r70 (by show r7<3;omega);obtain⟨z7,rfl,z70,z72⟩:∃ z:Int,v7=.int z/\0<=z/\z<=2:=by
  simp only [YK,XJ,GA] at m7;rcases m7 with h | h | h <;> exact⟨_,h,by decide,by decide⟩
 refine⟨q6,_,r7,_,rfl,rfl,SqL.of q7,e7,?_⟩;refine Zu ?_;dsimp only;refine Zz (Yb ?_);refine⟨sz0,λd hd=>?_⟩;have N8:=Same.new (o:=.lst []) hd;have d8:(upd H7 d (.lst [])) d=some (.lst []):=Zb;have hdn:H d=none:=S7.free hd;have rw_:RowAt K (upd H7 d (.lst [])) wa ws:=R2.ext (((Ext.same (S3.trans N4)).trans (Ext.bag X5 B4)).trans (((Ext.same N6).trans (Ext.bag X7 B6)).trans (Ext.new hd)));generalize upd H7 d (.lst [])=H8 at *
 refine Zu ?_;dsimp only;have S8:=S7.trans N8;refine Zz ⟨_,rfl,z5,rfl,by omega,by omega,?_⟩;refine T8 (lo:=0) (n:=z5.toNat) (λi σ H'=>Same H H'/\RowAt K H' wa ws/\(∃ (vs:TZ) (os:UD),H' d=some (.lst vs)/\Paired (λv o=>OffAt K H' n o v) vs os/\os.length=i/\∀ o∈os,OffRep n o)/\∃ x,σ=[some (.ref a),some (.int (n:Int)),some (.ref wa),some (.ref b3),some (.int z5),some (.int z7),some (.ref d),x]) ⟨S8,rw_,⟨[],[],d8,.nil,rfl,λo ho=>by cases ho⟩,none,rfl⟩ ?_ ?_
 ·rintro i σ H9 hi ⟨S9,R9,⟨vs,os,q9,P9,l9,O9⟩,x9,rfl⟩;have e0:(0+(i:Int))=((i:Nat):Int):=by omega
  rw[e0];have lv:=YW P9;refine Zu ?_;refine⟨_,rfl,.inl ⟨rfl,_,SqL.of q9⟩,?_⟩;refine⟨_,rfl,_,rfl,_,_,rfl,rfl,a,4+i,ns,by show [V.ref a,V.int (4+(i:Int))]=_;rw[show (4+(i:Int))=((4+i:Nat):Int) by omega],Yr S9 hS,by omega,λbi H10 f10 S10 B10=>?_⟩;refine⟨_,rfl,_,rfl,bi,wa,n,101,z7,Ws,ws,rfl,z70,z72,B10,by omega,R9.ext (Ext.same S10),W2,hn1,hn,λv H11 o X11 O11 r11=>?_⟩;have fbi:H bi=none:=S9.free f10;have nd:d≠bi:=Zd q9 f10;have q11:=X11 _ _ (S10 _ _ q9) nd;have E11:Ext H9 H11:=(Ext.same S10).trans (Ext.bag X11 B10);have E12:Ext H11 (upd H11 d (.lst (vs++[v]))):=Ext.upd q11;refine⟨d,vs,v,rfl,rfl,q11,JJ (show vs.length<=1000 by omega) (by decide),Y7 (Xt (S9.trans S10) fbi X11) hdn,R9.ext (E11.trans E12),⟨vs++[v],os++[o],Zb,Paired.appP (Yk P9 (E11.trans E12)) (.cons (O11.ext E12) .nil),by rw[YX,l9];rfl,λo' ho=>?_⟩,_,rfl⟩;rcases XH.mp ho with ho | ho
  ·exact O9 o' ho
  rw[XA.mp ho];exact r11
 rintro σ H9 ⟨S9,R9,⟨vs,os,q9,P9,l9,O9⟩,x9,rfl⟩;refine⟨_,rfl,_,rfl,sz2,λp hp=>?_⟩;exact k p wa d os Ws ws _ (S9.trans (Same.new hp)) (SqT.of Zb) ⟨vs,(Same.new hp) _ _ q9,Yk P9 (Ext.new hp)⟩ (by omega) O9 (R9.ext (Ext.new hp)) W2
end
section
variable {n nc b G:Nat}{rss:UC}{ms:UB}
theorem Pw (hs:∀ f∈rss,RowN nc n f){Dm:Int}(p:0<Dm)(bDm:Bd b Dm)(mw:∀ j,j<rss.length->∃ W:Int,qr ms j*(Dm:QQ)=W):∀ j,j<=rss.length->∃ D:Int,0<D/\Bd (b+nc*j) D/\(∃ s:Int,D=Dm*s)/\∀ k,k<n->∃ W:Int,(sQ j λi=>qr ms i*qr (rss.getD i []) k)*(D:QQ)=W
 | 0,_=>⟨Dm,p,bDm,⟨1,by omega⟩,λk _=>⟨0,by show (0:QQ)*_=0;grind⟩⟩
 | j+1,hj=>by
  obtain⟨D,d0,bD,⟨s,es⟩,h⟩:=Pw hs p bDm mw j (by omega);obtain⟨Df,W,p1,bDf,hW⟩:=(hs _ (Ym (l:=rss) (d:=[]) (k:=j) (by omega))).whole;obtain⟨V,hV⟩:=mw j (by omega);refine⟨D*Df,XN d0 p1,(bD.mul bDf).mono (by rw[Y0p];omega),⟨s*Df,by rw[es,JQ]⟩,λk hk=>?_⟩;obtain⟨U,hU⟩:=h k hk;refine⟨U*Df+V*s*W k,?_⟩;show (sQ j _+qr ms j*qr (rss.getD j []) k)*_=_;rw[_root_.Rat.intCast_add,_root_.Rat.intCast_mul,_root_.Rat.intCast_mul,_root_.Rat.intCast_mul,_root_.Rat.intCast_mul,<-hU,<-hV,<-(hW k hk).2];have e:(D:QQ)=(Dm:QQ)*(s:QQ):=by rw[es,_root_.Rat.intCast_mul]
  rw[e];grind
theorem Z3u (hs:∀ f∈rss,RowN nc n f)(hr:∀ f∈rss,Lows f/\∀ k,k<n->0<=qr f k/\qr f k<=1)(lm:Lows ms)(mnn:∀ j,j<rss.length->0<=qr ms j)(m1:sQ rss.length (qr ms)<=1){Dm:Int}(p:0<Dm)(bDm:Bd b Dm)(mw:∀ j,j<rss.length->∃ W:Int,qr ms j*(Dm:QQ)=W)(hG:b+nc*rss.length<=G) :
  (∀ j,j<=rss.length->∀ k,k<n->Good G ((madS n rss ms j).getD k (0,1)))/\RowN G n (madS n rss ms rss.length):=by
 have mq:=λj hj=>Px (n:=n) (rss:=rss) (ms:=ms) (λrs h=>(hr rs h).1) lm j hj;have rng:∀ j,j<=rss.length->∀ k,k<n->0<=qr (madS n rss ms j) k/\qr (madS n rss ms j) k<=1:=λj hj k hk=>by
  rw[(mq j hj).2 k hk];constructor
  ·exact U0 λi hi=>_root_.Rat.mul_nonneg (mnn i (by omega)) ((hr _ (Ym (by omega))).2 k hk).1
  have h1:(sQ j λi=>qr ms i*qr (rss.getD i []) k)<=sQ j (qr ms):=Z4o λi hi=>by
   have h:=(hr _ (Ym (l:=rss) (d:=[]) (k:=i) (by omega))).2 k hk;have:=_root_.Rat.mul_nonneg (mnn i (by omega)) (show 0<=1 - qr (rss.getD i []) k by grind);grind
  have h2:=P0 (f:=qr ms) hj mnn;grind
 have gd:∀ j,j<=rss.length->∀ k,k<n->Good G ((madS n rss ms j).getD k (0,1)):=λj hj k hk=>by
  obtain⟨D,d0,bD,_,h⟩:=Pw hs p bDm mw j hj;obtain⟨W,hW⟩:=h k hk;rw[<-(mq j hj).2 k hk] at hW;have bG:Bd G D:=bD.mono (by have:=qh nc hj;omega);exact Sc (Xj (mq j hj).1 k) d0 bG hW (rng j hj k hk).1 (rng j hj k hk).2
 refine⟨gd,?_⟩;obtain⟨D,d0,bD,_,h⟩:=Pw hs p bDm mw rss.length (YF _);have bG:Bd G D:=bD.mono hG;have q:=(mq rss.length (YF _)).2;have h':∀ k,∃ W:Int,k<n->qr (madS n rss ms rss.length) k*(D:QQ)=W:=λk=>by
  by_cases z:k<n
  ·obtain⟨W,hW⟩:=h k z;rw[<-q k z] at hW;exact⟨W,λ_=>hW⟩
  exact⟨0,λy=>absurd y z⟩
 exact Sm (S:=D) (C:=λk=>Classical.choose (h' k)) (mq _ (YF _)).1 (U9 _) (by omega) bG (λk hk=>Vv d0 bG (JR (h' k) hk) (rng _ (YF _) k hk).1 (rng _ (YF _) k hk).2) λk hk=>JR (h' k) hk
theorem Z05 (hr:∀ f∈rss,Lows f)(lm:Lows ms)(hl:ms.length=rss.length):comeW n rss ms=madS n rss ms rss.length:=by
 obtain⟨l,q⟩:=Px (n:=n) hr lm rss.length (YF _);refine zz (by unfold comeW;rw[YC,zZ,U9]) λk a b=>?_;have hk:k<n:=by rw[U9] at b;exact b
 have e1:(comeW n rss ms)[k]=sumR (List.zipWith mulR' (colR rss k) ms):=by
  have:(comeW n rss ms)[k]?=some (sumR (List.zipWith mulR' (colR rss k) ms)):=by
   unfold comeW;rw[YE,qd hk];rfl
  rw[XC a] at this;exact YR this
 have lc:Lows (colR rss k):=λx hx=>by
  obtain⟨rs,h,rfl⟩:=YZ.mp hx;exact Xj (hr rs h) k
 have lcl:(colR rss k).length=rss.length:=by unfold colR;simp
 rw[e1];refine Vn (Va (Ub lc lm)) (l _ (XG b)) ?_;have e2:qv (madS n rss ms rss.length)[k]=qr (madS n rss ms rss.length) k:=by unfold qr;simp[List.getD,b]
 have e3:qv (sumR (List.zipWith mulR' (colR rss k) ms))=_:=Dy lc lm lcl hl;rw[e2,q k hk,e3];refine Zo λj hj=>?_;have e4:qr (colR rss k) j=qr (rss.getD j []) k:=by
  unfold qr colR;have:(rss.map λrs=>rs.getD k (0,1)).getD j (0,1)=(rss.getD j []).getD k (0,1):=by
   rw[YG,YE,XC hj];have:rss.getD j []=rss[j]:=by simp[List.getD,hj]
   rw[this];rfl
  rw[this]
 rw[e4];grind
end
theorem J1 {n G:Nat}{rss:UC}{ms:UB}(g:Nat)(hr:∀ f∈rss,∀ r∈f,Good g r)(hl:∀ f∈rss,f.length=n)(hm:∀ r∈ms,Good g r)(lm:ms.length=rss.length)(g1:1<=g):∀ j,j<=rss.length->1+(2*g+1)*j<=G->∀ k,k<n->Good G ((madS n rss ms j).getD k (0,1))
 | 0,_,hG,k,hk=>by
  unfold madS;rw[YG,zf,XF hk];exact (show Good 1 ((0,1):Rat) from ⟨(by show (0:Int).natAbs<2 ^ 1;decide),(by show (1:Int).natAbs<2 ^ 1;decide),by decide,by decide⟩).mono (by omega)
 | j+1,hj,hG,k,hk=>by
  have ih:=J1 (G:=1+(2*g+1)*j) g hr hl hm lm g1 j (by omega) (YF _) k hk;have e:(madS n rss ms (j+1)).getD k (0,1)=addR ((madS n rss ms j).getD k (0,1)) (mulR' ((rss.getD j []).getD k (0,1)) (ms.getD j (0,1))):=by
   show ((List.range n).map _).getD k (0,1)=_;rw[YG,YE,qd hk];rfl
  rw[e];have mf:=Ym (l:=rss) (d:=[]) (k:=j) (by omega);have g2:=hr _ mf _ (Ym (l:=rss.getD j []) (d:=(0,1)) (k:=k) (by rw[hl _ mf];exact hk));have g3:=hm _ (Ym (l:=ms) (d:=(0,1)) (k:=j) (by omega));exact (Fm ih (W7 g2 g3)).mono (by rw[Y0p] at hG;omega)
theorem Fu:∀ (Ws:TV),sQ Ws.length (λk=>((Ws.getD k 0:Int):QQ))=((Ws.sum:Int):QQ)
 | []=>rfl
 | W::Ws=>by
  rw[XS,Sl,zD,_root_.Rat.intCast_add,<-Fu Ws];rfl
theorem WtsR.q {c:Nat}{ws:UB}(wt:WtsR c Ws ws):Lows ws/\(∀ k,k<c->0<=qr ws k)/\sQ c (qr ws)=1:=by
 have lW:Ws.length=c:=by rw[wt.rep.len];exact wt.len
 have wp:=wt.pos;have q0:=Vo wp;have at_:∀ k,k<c->qr ws k*((Ws.sum:Int):QQ)=((Ws.getD k 0:Int):QQ):=λk hk=>by
  have hk1:k<ws.length:=by rw[wt.len];exact hk
  have hk2:k<Ws.length:=by omega
  obtain⟨e1,b,l⟩:=wt.rep.at_ k Ws[k] ws[k] (by simp[hk2]) (by simp[hk1]);have e2:qr ws k=qv ws[k]:=by unfold qr;simp[List.getD,hk1]
  have e4:Ws.getD k 0=Ws[k]:=by simp[List.getD,hk2]
  rw[e2,e4];unfold qv;have b1:=Yx l.pos;have e3:((ws[k].1:Int):QQ)*((Ws.sum:Int):QQ)=((Ws[k]:Int):QQ)*((ws[k].2:Int):QQ):=by rw[<-_root_.Rat.intCast_mul,<-_root_.Rat.intCast_mul,e1]
  grind
 refine⟨λx hx=>(wt.rep.good x hx).low,λk hk=>?_,?_⟩
 ·refine C0 (b:=((Ws.sum:Int):QQ)) ?_ q0;rw[at_ k hk];exact _root_.Rat.intCast_nonneg.mpr (wt.nn _ (by rw[show Ws.getD k 0=Ws[k]'(by omega) by simp[List.getD,show k<Ws.length by omega]];exact XG _))
 have h:((Ws.sum:Int):QQ)*sQ c (qr ws)=((Ws.sum:Int):QQ):=by
  have e:sQ c (λk=>((Ws.sum:Int):QQ)*qr ws k)=sQ c λk=>((Ws.getD k 0:Int):QQ):=Zo λk hk=>by rw[<-at_ k hk];grind
  have s:=Fu Ws;rw[lW] at s;rw[<-Yi,e,s]
 have h2:((Ws.sum:Int):QQ)*(sQ c (qr ws) - 1)=0:=by grind
 rcases _root_.Rat.mul_eq_zero.mp h2 with z | z
 ·exact absurd z (by grind)
 grind
theorem K8 {n:Nat}{os:UD}(O:∀ o∈os,OffRep n o):∀ g∈gainsP os os.length,RowN 91 n g:=by
 rw[Rl];intro g hg;obtain⟨o,ho,hg⟩:=zA.mp hg;unfold gainsO at hg;obtain⟨b,hb,rfl⟩:=YZ.mp hg;have hp:∃ r,priceO o b=some r:=by
  unfold wordsO at hb;rcases XH.mp hb with hb | hb
  ·by_cases z:o.ask.isSome=true
   ·rw[XF z] at hb;rw[XA.mp hb];exact qz.mp z
   rw[XB z] at hb;cases hb
  by_cases z:o.bid.isSome=true
  ·rw[XF z] at hb;rw[XA.mp hb];exact qz.mp z
  rw[XB z] at hb;cases hb
 obtain⟨r,hr⟩:=hp;exact (O o ho).gain hr
theorem F5 {os:UD}:(gainsP os os.length).length<=2*os.length:=by
 rw[Rl]
 induction os with
 | nil=>simp
 | cons o os ih =>
  rw[List.flatMap_cons,YX,XS];have:(gainsO o).length<=2:=by
   unfold gainsO wordsO;rw[YC,YX];have a:((if o.ask.isSome=true then [true] else []):List Bool).length<=1:=by split <;> simp
   have b:((if o.bid.isSome=true then [false] else []):List Bool).length<=1:=by split <;> simp
   omega
  omega
end Sb
namespace Sb
open PySem PySem.Spec PyProof.Rows L2
theorem Z4d {l:Addr}(h:SqL K H l xs)(hT:∃ ps,H T=some (.tbl ps))(S:SameX T H H'):SqL K H' l xs:=by
 obtain⟨ps,hP⟩:=hT;rcases h with h | h
 ·refine .inl ?_;have ne:l≠T:=λz=>by
   rcases h with h | ⟨o,h⟩ <;> rw[z,hP] at h <;> cases h
  rcases h with h | ⟨o,h⟩
  ·exact .inl (S _ _ h ne)
  exact .inr ⟨o,S _ _ h ne⟩
 exact .inr h
theorem Z01 {K:TR}{H:Hp}{as:TJ}{rss:UC}(h:Paired (RowAt K H) as rss)(lo hi:Option Int):∃ (bs:TJ) (tss:UC),cutV (as.map V.ref) lo hi=bs.map V.ref/\Paired (RowAt K H) bs tss/\(∀ f∈tss,f∈rss)/\tss.length<=rss.length:=by
 unfold cutV;generalize HT.sIx (as.map V.ref).length 0 lo=i;generalize HT.sIx (as.map V.ref).length (as.map V.ref).length hi - i=j;refine⟨(as.drop i).take j,(rss.drop i).take j,by rw[List.map_take,List.map_drop],?_,λf hf=>List.mem_of_mem_drop (GS hf),by rw[JC,List.length_drop];omega⟩;have drop:∀ {as:TJ} {rss:UC} (i:Nat),Paired (RowAt K H) as rss->Paired (RowAt K H) (as.drop i) (rss.drop i):=λ{as rss} i=>by
  induction i generalizing as rss with
  | zero=>exact id
  | succ i ih =>
   intro h
   cases h with
   | nil=>exact .nil
   | cons _ t=>exact ih t
 have take:∀ {as:TJ} {rss:UC} (i:Nat),Paired (RowAt K H) as rss->Paired (RowAt K H) (as.take i) (rss.take i):=λ{as rss} i=>by
  induction i generalizing as rss with
  | zero=>intro _;exact .nil
  | succ i ih =>
   intro h
   cases h with
   | nil=>exact .nil
   | cons r t=>exact .cons r (ih t)
 exact take j (drop i h)
section
variable {P:TU}{w:World}{K:TR}{mg:TB}{base:Heap}
inductive spLaw (K:TR) (Tb:Addr) (vs:TZ) (H:Hp) (Q:VK) (_z3:XK):Prop
 | i (a:Addr) (ns:TV) (_:vs=[.ref a]) (_:SqL K H a (ns.map V.int)) (_:H Tb=some (.tbl #[])) (_:∀ H',Q (.bl true) H')
theorem Z2i:FnScope ["_law_script","_law_count","_law_weights_here","_law_offers","_law_rows","_law_told","_law_tries","_law_parts","_law_some","_law_bag_here","_law_drawn","_law_mix"] ["_law_script"] (defScope j6):=fsc
theorem Z4y {f Tb:Addr}{fd:FuncData}(F:Fun K "law" "law" j6 f fd)(T:Blt mg)(fA:Has P w K mg base 1 "_law_cell" UE (spCell K))(eZ:Has P w K mg base 7 "_law_corner_book" VN (spCBook K))(fS:Has P w K mg base 4 "_law_gains" ["_law_offers"] (spGainsP K))(fC:Has P w K mg base 7 "corners" VB (spCorners K Tb) true)(eJ:Has P w K mg base 3 "_law_weights" UK (spWeightsR K))(eK:Has P w K mg base 2 "_law_bag" UF (spBagA K))(eO:Has P w K mg base 4 "_law_made" VL (spMadeL K))(gD:Has P w K mg base 5 "_law_fits" VD (spFitsN K))(fG:Has P w K mg base 8 "mix_of" VI (spMix K Tb) true)(fK:Has P w K mg base 9 "_law_mix_good" VM (spMixGood K Tb) true)(eA:Z2 P w K mg base)(fH:Has P w K mg base 4 "_law_row" UK (spRow6 K))(eB:Z1 P w K mg base)(fZ:Has P w K mg base 6 "made" VJ (spComeTo K)) :
  FnOk P w K mg base CX0 10 f fd ["_law_script"] (spLaw K Tb) true:=by
 refine F.ok Z2i (λvs H Q E h=>?_) (λcdv A outer s H vs Q E hr h=>?_)
 ·obtain⟨a,ns,rfl,_⟩:=h;rfl
 obtain⟨a,ns,rfl,hS,hT,k⟩:=h;have sc:=Z2i;have hU64:=hr.units;have nd1:(["_law_k","_law_script","_law_count"]:List Str).Nodup:=by decide +kernel
 have nd2:(["_law_row_here","_law_bag_here"]:List Str).Nodup:=by decide +kernel
 refine⟨_,(Z9 (Zh (i:=1) sc.nd rfl (Or.inr rfl) (Zi Yz (X1 (Z0 Z8 (Z0 Z8 (Z0 Z8 (Z0 Z8 (Z0 Z8 (Z0 Z8 (Z0 Z8 (Z0 Z8 Z7))))))))) (Zm Xq (Zc fA hr (Z0 (pv 0) (Z0 Z8 Z7))) Z8) (λ_ _=>rfl)))
  (Z9 (Sr (Zc eZ hr (Z0 (pv 0) (Z0 (pv 1) Z7))) (Wk (n:=2) rfl (Y9 (Zf (i:=2) sc.nd rfl (Or.inl rfl)) (Y9 (Zf (i:=3) sc.nd rfl (Or.inl rfl)) Xi))))
  (Z9 (Zh (i:=4) sc.nd rfl (Or.inl rfl) (Zc fS hr (Z0 (pv 3) Z7)))
  (Z9 (Zh (i:=5) sc.nd rfl (Or.inl rfl) (Wl fC (hr.mono (by decide)) rfl (Z0 (pv 1) (Z0 (Y1 Yn rfl T.list JP (Z0 (pv 3) Z7)) Z7))))
  (Z9 (Zh (i:=6) sc.nd rfl (Or.inl rfl) (Zm Lw (X1 (Z0 (pv 2) (Z0 (Zc eJ hr (Z0 (Zc eK hr (Z0 (pv 0) (Z0 Z8 Z7))) (Z0 (pv 1) Z7))) Z7))) (C9 Z0b (pv 5) (Z0x (Q8 Ul Z8)) Z0y)))
  (Z9 (Wi (Yc (Zp Ky (Zq Zv rfl T.len qD (Z0 (pv 5) Z7)) Z8 (Zr _))
   (Z9 (Zh (i:=7) sc.nd rfl (Or.inl rfl) (Zc eJ hr (Z0 (Zc eK hr (Z0 (pv 0) (Z0 Z8 Z7))) (Z0 (Zq Zv rfl T.len qD (Z0 (pv 5) Z7)) Z7))))
   (Za (Xa (U3 JG GC GD Yt (pv 6) (Z0 (Zc eO hr (Z0 (pv 1) (Z0 (pv 5) (Z0 (pv 7) Z7)))) Z7)))))
   Zw))
  (Z9 (Ys XZ rfl (Y6 (pv 6)) (Zf (i:=8) sc.nd rfl (Or.inl rfl))
   (Za (Yc (Xg (Yo (Zc gD hr (Z0 (pv 8) (Z0 (pv 4) Z7)))))
    (Za (Yc (Zp U5 (Wl fG (hr.mono (by decide)) rfl (Z0 (pv 1) (Z0 (Y1 Yn rfl T.list JP (Z0 (pv 3) Z7)) (Z0 (pv 8) Z7)))) Xp (Zr _))
     (Za (Zg Xu))
     Zw))
    (Za (Yc (Xg (Yo (Wl fK (hr.mono (by decide)) rfl (Z0 (pv 1) (Z0 (pv 3) (Z0 (pv 8) (Z0 (pv 5) Z7)))))))
     (Za (Zg Xu))
     Zw)))))
  (Z9 (Zh (i:=9) sc.nd rfl (Or.inr rfl) (Zc eK hr (Z0 (pv 0) (Z0 Z8 Z7))))
  (Z9 (X9 (i:=10) (N:=["_law_k","_law_script","_law_count"]) (k:=1) (fv:=[0,1]) sc.nd rfl (Or.inl rfl) rfl (Yh rfl T.range (Z0 (Zc eA hr (Z0 (pv 9) (Z0 Z8 Z7))) Z7))
  (λ_ _ _ _ _=>Zf (i:=0) nd1 rfl (Or.inl rfl)) (λ_ _ _ _ _=>Zy) (λ_ _ _ _ _=>(Zc fH hr (Z0 (Zc eK hr (Z0 (pv 1) (Z0 (Zm X3 Z8 (pv 0)) Z7))) (Z0 (pv 2) Z7)))) Zj)
  (Z9 (X9 (i:=11) (N:=["_law_row_here","_law_bag_here"]) (k:=1) (fv:=[9]) sc.nd rfl (Or.inl rfl) rfl (Y6 (pv 10))
  (λ_ _ _ _ _=>Zf (i:=0) nd2 rfl (Or.inl rfl)) (λ_ _ _ _ _=>Zy) (λ_ _ _ _ _=>(Zc eB hr (Z0 (Zc eA hr (Z0 (pv 1) (Z0 Z8 Z7))) (Z0 (Zm X3 Z8 (Zc eA hr (Z0 (pv 1) (Z0 Z8 Z7)))) Z7)))) Zj)
  (Za (Zg (Xb (Cg (K:=K) hU64) (Zc fZ hr (Z0 (pv 1) (Z0 (Y1 Yn rfl T.list JP (Z0 (pv 10) Z7)) (Z0 (Y1 Yn rfl T.list JP (Z0 (pv 11) Z7)) Z7)))) (Zc eO hr (Z0 (pv 1) (Z0 (pv 10) (Z0 (pv 11) Z7)))) (Zr _)))))))))))))),?_⟩
 refine Zz (Yb ?_);refine⟨sz8,λq1 hq1=>?_⟩;have N1:=Same.new (o:=.lst [V.int 2,V.int 3,V.int 4,V.int 3,V.int 4,V.int 2,V.int 5,V.int 3]) hq1;have q1':(upd H q1 (.lst [V.int 2,V.int 3,V.int 4,V.int 3,V.int 4,V.int 2,V.int 5,V.int 3])) q1=some (.lst [V.int 2,V.int 3,V.int 4,V.int 3,V.int 4,V.int 2,V.int 5,V.int 3]):=Zb;generalize upd H q1 (.lst [V.int 2,V.int 3,V.int 4,V.int 3,V.int 4,V.int 2,V.int 5,V.int 3])=H1 at *
 refine⟨_,rfl,a,0,ns,rfl,Yr N1 hS,by omega,by omega,λz=>?_⟩;refine⟨_,_,rfl,rfl,by decide,?_⟩;obtain⟨v1,e1,m1⟩:=Kh (xs:=[V.int 2,V.int 3,V.int 4,V.int 3,V.int 4,V.int 2,V.int 5,V.int 3]) (k:=z % 8) (by omega) (by show z % 8<8;omega);obtain⟨n,rfl,n2,n5⟩:∃ n:Nat,v1=.int (n:Int)/\2<=n/\n<=5:=by
  simp only [YK,XJ,GA] at m1;rcases m1 with h | h | h | h | h | h | h | h
  ·exact⟨2,h,by omega,by omega⟩
  ·exact⟨3,h,by omega,by omega⟩
  ·exact⟨4,h,by omega,by omega⟩
  ·exact⟨3,h,by omega,by omega⟩
  ·exact⟨4,h,by omega,by omega⟩
  ·exact⟨2,h,by omega,by omega⟩
  ·exact⟨5,h,by omega,by omega⟩
  exact⟨3,h,by omega,by omega⟩
 refine⟨q1,_,_,_,rfl,rfl,SqL.of q1',e1,?_⟩;clear e1 m1 q1';refine Zu ?_;dsimp only;refine Zz (Yb ?_);refine⟨_,rfl,_,rfl,a,n,ns,rfl,Yr N1 hS,by omega,by omega,λp xw lo os Ws ws H2 S2 sp O2 l2 R2 Rw wt=>?_⟩;refine⟨_,_,rfl,sp,rfl,_,_,rfl,_,_,rfl,rfl,?_⟩;dsimp only;have hS2:=Yr (N1.trans S2) hS;have hT2:Tab1 H2 Tb:=.fresh (S2 _ _ (N1 _ _ hT));refine Zz (Yb ?_);refine⟨_,rfl,lo,n,90,os,rfl,O2,by omega,by omega,by omega,λo ho=>(R2 o ho).good,λdg H3 fg S3 RG=>?_⟩;have gN:=K8 R2;have g6:(gainsP os os.length).length<=6:=XD F5 (by omega);obtain⟨ov,oq,oP⟩:=O2;refine Zu ?_;dsimp only;refine Zz (Yb ?_);refine⟨_,rfl,_,rfl,lo,ov,rfl,.inl (SqL.of (S3 _ _ oq)),λl4 hl4=>?_⟩;have N4:=Same.new (o:=.lst ov) hl4;have q4:(upd H3 l4 (.lst ov)) l4=some (.lst ov):=Zb;generalize upd H3 l4 (.lst ov)=H4 at *
 have S24:=S3.trans N4;refine⟨l4,n,91,90,os,rfl,⟨n2,n5⟩,⟨ov,q4,Yk oP (Ext.same S24)⟩,by omega,by omega,λo ho=>(R2 o ho).good,g6,gN,by omega,by omega,hT2.same S24,λdt H5 rss X5 T5 RT C srt=>?_⟩;have tb4:=(hT2.same S24).tbl;have E45:=Ue tb4 X5;have neT:∀ {b:Addr} {xs:TZ},H4 b=some (.lst xs)->b≠Tb:=λ{b xs} e z=>by
  obtain⟨ps,h⟩:=tb4;rw[z,h] at e;cases e
 obtain⟨at_,qt,Pt⟩:=RT;obtain⟨ga,gq,gP⟩:=RG;have lat:=YW Pt;have E25:=(Ext.same S24).trans E45;have oq5:=X5 _ _ (S24 _ _ oq) (neT (S24 _ _ oq));have gq5:=X5 _ _ (N4 _ _ gq) (neT (N4 _ _ gq));have oP5:=Yk oP E25;have gP5:=Zk gP ((Ext.same N4).trans E45);have Rw5:=Rw.ext E25;have lpa:(paps n).length=n:=by unfold paps;simp
 have rB:∀ e'∈paps n++gainsP os os.length,RowN 91 n e':=λe' he=>by
  rcases XH.mp he with he | he
  ·unfold paps at he;obtain⟨w0,_,rfl⟩:=YZ.mp he;exact uP_row.mono (by omega)
  exact gN e' he
 have n4:(n - 1)*(91+3)<=4*94:=GY (by omega) (by omega);have hs:∀ g∈rss,RowN 380 n g:=λg hg=>(C.small8 (by omega) (by omega) rB hg).mono (by omega);have few:rss.length<=61:=by
  by_cases z:n=5
  ·subst z;exact C.few11 (by rw[YX,lpa];omega)
  have:=C.few10 n2 n5 (by rw[YX,lpa];omega);omega
 have hS5:SqL K H5 a (ns.map V.int):=Z4d (Yr S24 hS2) tb4 X5;refine Zu ?_;dsimp only;refine Zz (Yb (Z3g (Z2o ?_)));refine⟨_,rfl,_,rfl,a,7,ns,rfl,hS5,by omega,λb6 H6 f6 S6 B6=>?_⟩;refine⟨_,rfl,b6,n,101,rfl,B6,by omega,by omega,by omega,λx7 H7 Ws7 ws7 B7 X7 R7 wt7=>?_⟩;have S57:Same H5 H7:=Xt S6 f6 X7;refine⟨sz2,λq8 hq8=>?_⟩;have N8:=Same.new (o:=.lst [V.ref xw,V.ref x7]) hq8;have q8':(upd H7 q8 (.lst [V.ref xw,V.ref x7])) q8=some (.lst [V.ref xw,V.ref x7]):=Zb;generalize upd H7 q8 (.lst [V.ref xw,V.ref x7])=H8 at *
 have S58:=S57.trans N8;have Pt8:=Zk Pt (Ext.same S58);refine⟨_,rfl,_,rfl,_,rfl,Z3s ?_⟩;refine⟨dt,_,rfl,SqL.of (S58 _ _ qt),λp9 hp9=>?_⟩;obtain⟨bs,tss,ecut,Pcut,sub,lcut⟩:=Z01 Pt8 (some (-1)) none;have N9:=Same.new (o:=.lst (cutV (at_.map V.ref) (some (-1)) none)) hp9;have q9:(upd H8 p9 (.lst (cutV (at_.map V.ref) (some (-1)) none))) p9=some (.lst (cutV (at_.map V.ref) (some (-1)) none)):=Zb;rw[ecut] at N9 q9 ⊢;generalize upd H8 p9 (.lst (bs.map V.ref))=H9 at *
 have lbs:=YW Pcut;refine⟨q8,p9,[V.ref xw,V.ref x7],bs.map V.ref,rfl,rfl,N9 _ _ q8',q9,XD (show _<=1000 by rw[YC];simp only [XS,Y0P];omega) (by decide),λdd hdd=>?_⟩;have N10:=Same.new (o:=.lst ([V.ref xw,V.ref x7]++bs.map V.ref)) hdd;have q10:(upd H9 dd (.lst ([V.ref xw,V.ref x7]++bs.map V.ref))) dd=some (.lst ((xw::x7::bs).map V.ref)):=Zb;generalize upd H9 dd (.lst ([V.ref xw,V.ref x7]++bs.map V.ref))=H10 at *
 have S810:=N9.trans N10;have S510:=S58.trans S810;have P10:Paired (RowAt K H10) (xw::x7::bs) (ws::ws7::tss):=.cons (Rw5.ext (Ext.same S510)) (.cons (R7.ext (Ext.same (N8.trans S810))) (Zk Pcut (Ext.same S810)));have rN10:∀ us∈ws::ws7::tss,RowN 30000 n us:=λus hus=>by
  rcases YK.mp hus with rfl | hus
  ·exact (show RowN 10 n us from ⟨wt.len,_,_,wt.rep⟩).mono (by omega)
  rcases YK.mp hus with rfl | hus
  ·exact (show RowN 10 n us from ⟨wt7.len,_,_,wt7.rep⟩).mono (by omega)
  exact (hs us (sub us hus)).mono (by omega)
 refine Zu ?_;dsimp only;have hS10:=Yr S510 hS5;refine Zz ?_;refine⟨λσ H'=>(∃ x,σ=[some (.ref a),some (.int (n:Int)),some (.ref xw),some (.ref lo),some (.ref dg),some (.ref dt),some (.ref dd),x,none,none,none,none])/\SameX dd H10 H'/\∃ (ts:TJ) (uss:UC),H' dd=some (.lst (ts.map V.ref))/\Paired (RowAt K H') ts uss/\(∀ us∈uss,RowN 30000 n us)/\uss.length<=100,?_,?_⟩
 ·refine⟨_,rfl,dt,_,rfl,.inl (SqL.of (S510 _ _ qt)),_,_,rfl,rfl,_,rfl,?_⟩;rw[YC];by_cases z0:0<rss.length
  ·rw[XQ (show (0:Int)<(at_.length:Int) by omega)];refine Wy ?_;refine Zz (Yb ?_);refine⟨_,rfl,a,8,ns,rfl,hS10,by omega,λb11 H11 f11 S11 B11=>?_⟩;refine⟨_,rfl,dt,_,rfl,.inl (SqL.of (S11 _ _ (S510 _ _ qt))),?_⟩;refine⟨b11,(at_.map V.ref).length,101,rfl,B11,by omega,by rw[YC];omega,by rw[YC];omega,λx12 H12 Ws12 ws12 B12 X12 R12 wt12=>?_⟩;have S1012:Same H10 H12:=Xt S11 f11 X12;have S512:=S510.trans S1012;rw[YC,lat] at wt12;obtain⟨lw12,nn12,s12⟩:=wt12.q;have mok:=Z3u (n:=n) (G:=30000) hs (λf hf=>?in01) lw12 nn12 (by rw[s12];grind) wt12.rep.pos wt12.rep.bD (λj hj=>by
    obtain⟨W,_,h⟩:=Ny wt12.rep (k:=j) (by rw[wt12.len];exact hj);exact⟨W,h⟩) (by have:=qh 380 few;omega)
   case in01 =>
    have V:=(C.vx hf).inn;have Bn:Bnds n (paps n++gainsP os os.length).length (bndC n (gainsP os os.length)):=Sh (by rw[YX,lpa];omega);exact⟨C.low f hf,λk hk=>⟨V.nn Bn k hk,V.le1 Bn k hk⟩⟩
   obtain⟨pm,rNm⟩:=mok;obtain⟨y12,qy12,Ry12⟩:=R12;refine Zu ?_;dsimp only;have qd12:=S1012 _ _ q10;refine⟨_,rfl,.inl ⟨rfl,_,SqL.of qd12⟩,?_⟩;refine⟨_,rfl,_,rfl,_,rfl,dt,x12,n,30000,at_,y12,rss,ws12,rfl,S512 _ _ qt,Zk Pt (Ext.same S512),.inr qy12,Ry12,wt12.len,by omega,by omega,λrs h=>?rg,λr hr=>(wt12.rep.good r hr).mono (by omega),pm,by omega,by omega,λc13 H13 S13 r13=>?_⟩
   case rg =>
    obtain⟨l1,D1,W1,R1⟩:=hs rs h;exact⟨l1,λr hr=>(R1.good r hr).mono (by omega)⟩
   have qd13:=S13 _ _ qd12;have E14:Ext H13 (upd H13 dd (.lst ((xw::x7::bs).map V.ref++[V.ref c13]))):=Ext.upd qd13;refine⟨dd,_,_,rfl,rfl,qd13,JJ (show _<=1000 by rw[YC];simp only [XS];omega) (by decide),?_⟩;refine⟨⟨_,rfl⟩,λb o e nb=>?_,(xw::x7::bs)++[c13],(ws::ws7::tss)++[madS n rss ws12 rss.length],by rw[Zb,XM];rfl,?_,λus hus=>?_,?_⟩
   ·rw[Ze nb];exact S13 _ _ (S1012 _ _ e)
   ·exact Paired.appP (Zk P10 ((Ext.same (S1012.trans S13)).trans E14)) (.cons (r13.ext E14) .nil)
   ·rcases XH.mp hus with hus | hus
    ·exact rN10 us hus
    rw[XA.mp hus];exact rNm
   rw[YX];simp only [XS,Y0P];omega
  rw[XR (show ¬ (0:Int)<(at_.length:Int) by omega)];refine Yw ⟨⟨_,rfl⟩,SameX.refl _ _,_,_,q10,P10,rN10,?_⟩;simp only [XS];omega
 rintro σ H11 ⟨⟨x11,rfl⟩,X11,ts,uss,q11,P11,rN11,l11⟩;dsimp only;refine Zz ?_;have T11:Tab1 H11 Tb:=(T5.same S510).lst q10 X11;have tb11:=T11.tbl;have S59:=S58.trans N9;have nlo:lo≠dd:=Zd (S59 _ _ oq5) hdd;have ndg:dg≠dd:=Zd (S59 _ _ gq5) hdd;have ndt:dt≠dd:=Zd (S59 _ _ qt) hdd;have oq11:=X11 _ _ (S510 _ _ oq5) nlo;have gq11:=X11 _ _ (S510 _ _ gq5) ndg;have qt11:=X11 _ _ (S510 _ _ qt) ndt;have E511:=(Ext.same S510).trans (N2 q10 X11);have neT11:∀ {b:Addr} {xs:TZ},H11 b=some (.lst xs)->b≠Tb:=λ{b xs} e z=>by
  obtain⟨ps,h⟩:=tb11;rw[z,h] at e;cases e
 have hS11:SqL K H11 a (ns.map V.int):=by
  rcases hS5 with h | h
  ·refine .inl ?_;have ne:a≠dd:=λz=>by
    rcases h with h | ⟨o,h⟩ <;> (have:=S59 _ _ h;rw[z,hdd] at this;cases this)
   rcases h with h | ⟨o,h⟩
   ·exact .inl (X11 _ _ (S510 _ _ h) ne)
   exact .inr ⟨o,X11 _ _ (S510 _ _ h) ne⟩
  exact .inr h
 refine⟨_,rfl,dd,rfl,⟨_,SqL.of q11⟩,?_⟩;refine X0 (K:=K) (xs:=ts.map V.ref) (λi σ H'=>SameX Tb H11 H'/\Tab1 H' Tb/\∃ x,σ=[some (.ref a),some (.int (n:Int)),some (.ref xw),some (.ref lo),some (.ref dg),some (.ref dt),some (.ref dd),x11,x,none,none,none]) ⟨SameX.refl _ _,T11,none,rfl⟩ (λi σ H' _ h=>SqL.of (h.1 _ _ q11 (neT11 q11))) ?_ ?_
 ·rintro i x σ H12 hx ⟨X12,T12,x12,rfl⟩;have lts:=YW P11;have hi:i<ts.length:=by have:=(YH.mp hx).1;simpa using this
  have ea:ts[i]?=some ts[i]:=by simp[hi]
  have ez:uss[i]?=some (uss[i]'(by omega)):=by simp
  generalize ts[i]=u at ea;generalize (uss[i]'(by omega))=us at ez;rw[YE,ea] at hx
  cases hx;have E12:=Ue tb11 X12;have E512:=E511.trans E12;have rN:=rN11 us (YD ez);have Ru:=(Paired.getB P11 ea ez).ext E12;have oq12:=X12 _ _ oq11 (neT11 oq11);have gq12:=X12 _ _ gq11 (neT11 gq11);have qt12:=X12 _ _ qt11 (neT11 qt11);refine Zu ?_;dsimp only;refine⟨_,rfl,_,rfl,u,dg,n,30000,91,us,gainsP os os.length,rfl,Ru,⟨ga,gq12,Zk gP5 E512⟩,rN,gN,by omega,by omega,λH13 S13=>⟨_,rfl,?_⟩⟩;have oP13:=Yk oP5 (E512.trans (Ext.same S13))
  cases hfit:fitB (gainsP os os.length) us with
  | false =>
   refine Wy ?_;refine⟨_,rfl,_,rfl,lo,ov,rfl,.inl (SqL.of (S13 _ _ oq12)),λl14 hl14=>?_⟩;have N14:=Same.new (o:=.lst ov) hl14;have q14:(upd H13 l14 (.lst ov)) l14=some (.lst ov):=Zb;generalize upd H13 l14 (.lst ov)=H14 at *
   have S1214:=S13.trans N14;refine⟨_,rfl,l14,u,n,91,90,30000,os,us,rfl,⟨n2,n5⟩,⟨ov,q14,Yk oP13 (Ext.same N14)⟩,by omega,by omega,λo ho=>(R2 o ho).good,g6,gN,by omega,by omega,T12.same S1214,Ru.ext (Ext.same S1214),rN,by omega,λ_ H15 S15=>?_,λz=>(by rw[hfit] at z;cases z)⟩;refine⟨rfl,_,rfl,?_⟩;refine Qf rfl ?_;exact⟨X12.trans (SameX.of (S1214.trans S15)),T12.same (S1214.trans S15),_,rfl⟩
  | true =>
   refine Yw ?_;refine⟨_,rfl,_,rfl,_,rfl,_,rfl,lo,u,dt,n,91,90,30000,os,us,rss,rfl,⟨n2,n5⟩,⟨ov,S13 _ _ oq12,oP13⟩,by omega,by omega,λo ho=>(R2 o ho).good,g6,gN,by omega,by omega,T12.same S13,Ru.ext (Ext.same S13),rN,by omega,hfit,⟨at_,S13 _ _ qt12,Zk Pt (E512.trans (Ext.same S13))⟩,C,srt,λH14 X14 T14=>⟨_,rfl,?_⟩⟩;refine Yw ?_;exact⟨X12.trans ((SameX.of S13).trans X14),T14,_,rfl⟩
 rintro σ H12 ⟨X12,T12,x12,rfl⟩;dsimp only;have hS12:=Z4d hS11 tb11 X12;refine Zz (Yb ?_);refine⟨_,rfl,a,9,ns,rfl,hS12,by omega,λb13 H13 f13 S13 B13=>?_⟩;have hS13:=Yr S13 hS12;refine Zu ?_;dsimp only;refine Zz ?_;refine Yb ?_;refine⟨_,rfl,b13,6,101,rfl,B13,by omega,by omega,by decide,λz14 H14 z0 z6 B14 X14=>?_⟩;have hS14:SqL K H14 a (ns.map V.int):=Yr (Xt S13 f13 X14) hS12;refine⟨z14,rfl,by omega,by omega,λd15 hd15=>?_⟩;generalize hm:z14.toNat=m;have m5:m<=5:=by omega
 refine⟨m,λi ys H'=>Same H14 H'/\∃ (bs':TJ) (dss:UC),ys=bs'.map V.ref/\Paired (RowAt K H') bs' dss/\dss.length=i/\∀ f∈dss,f.length=n/\∀ r∈f,Six r,Zt (by omega),⟨Same.new hd15,[],[],rfl,.nil,rfl,λf hf=>by cases hf⟩,?_,?_⟩
 ·rintro i ys H15 hi ⟨S15,bs',dss,rfl,P15,l15,six15⟩ hd15';refine⟨hi,?_⟩;rintro x' H16 ⟨rfl,rfl⟩;refine Y2 ?_;refine⟨_,rfl,_,rfl,_,_,rfl,rfl,a,10+i,ns,by show [V.ref a,V.int (10+(0+(i:Int)))]=_;rw[show (10+(0+(i:Int)))=((10+i:Nat):Int) by omega],Yr S15 hS14,by omega,λbi H17 f17 S17 B17=>?_⟩;refine⟨_,rfl,bi,n,101,rfl,B17,by omega,by omega,λc18 H18 rs18 B18 X18 R18 l18 six18=>?_⟩;have S1618:Same H16 H18:=Xt S17 f17 X18;have hd18:=S1618 _ _ hd15';have E19:Ext H18 (upd H18 d15 (.lst (bs'.map V.ref++[V.ref c18]))):=Ext.upd hd18;refine⟨hd18,Y7 (S15.trans S1618) hd15,bs'++[c18],dss++[rs18],by simp,Paired.appP (Zk P15 ((Ext.same S1618).trans E19)) (.cons (R18.ext E19) .nil),by rw[YX,l15];rfl,λf hf=>?_⟩;rcases XH.mp hf with hf | hf
  ·exact six15 f hf
  rw[XA.mp hf];exact⟨l18,six18⟩
 rintro ys H15 ⟨S15,bs',dss,rfl,P15,l15,six15⟩ hd15';refine⟨YF _,?_⟩;have lbs':=YW P15;refine Zu ?_;dsimp only;refine Zz (Yb ?_);have B15:=B14.same S15;have nd15:d15≠b13:=λz=>by
  obtain⟨u,v,e,_⟩:=B14;rw[z,e] at hd15;cases hd15
 refine⟨_,rfl,d15,rfl,⟨_,SqL.of hd15'⟩,λd16 hd16=>?_⟩;have nd16:d16≠b13:=λz=>by
  obtain⟨u,v,e,_⟩:=B15;rw[z,e] at hd16;cases hd16
 refine⟨bs'.length,λi ys H'=>SameX b13 H15 H'/\BagAt H' b13 (102+2*i)/\∃ ms:List Rat,Rs K H' ms ys/\ms.length=i/\∀ r∈ms,Good 10 r,Zt (by omega),⟨SameX.of (Same.new hd16),B15.same (Same.new hd16),[],.nil,rfl,λr hr=>by cases hr⟩,?_,?_⟩
 ·rintro i ys H16 hi ⟨X16,B16,ms,R16,l16,g16⟩ hd16';have q16:=X16 _ _ hd15' nd15;have ea:bs'[i]?=some bs'[i]:=by simp[hi]
  have ex:(bs'.map V.ref)[i]?=some (V.ref bs'[i]):=by rw[YE,ea];rfl
  refine⟨⟨_,_,SqL.of q16,ex⟩,?_⟩;rintro x' H17 ⟨rfl,fx⟩;refine Y2 ?_;refine⟨_,rfl,b13,7,_,rfl,B16,by omega,by omega,by decide,λz18 H18 z80 z87 B18 X18=>?_⟩;refine⟨_,rfl,b13,3,_,rfl,B18,by omega,by omega,by decide,λz19 H19 z90 z93 B19 X19=>?_⟩;refine⟨_,_,rfl,rfl,?_⟩;refine⟨z18,1+z19,rfl,by omega,?_,λc20 H20 f20 S20 q20=>?_⟩
  ·have p10:(2:Nat) ^ 10=1024:=by decide
   exact Bd.log (n:=10) (show (1+z19).natAbs<2 ^ 10 by omega) (by omega)
  have X1620:SameX b13 H17 H20:=X18.trans (X19.trans (SameX.of S20));have hd20:=X1620 _ _ hd16' nd16;have E1620:Ext H17 H20:=(Ext.bag X18 B16).trans ((Ext.bag X19 B18).trans (Ext.same S20));have E21:Ext H20 (upd H20 d16 (.lst (ys++[V.ref c20]))):=Ext.upd hd20;refine⟨hd20,?_,?_,ms++[nrm z18 (1+z19)],(R16.ext (E1620.trans E21)).snoc ⟨c20,rfl,E21.sq (SqT.of q20)⟩,by rw[YX,l16];rfl,λr hr=>?_⟩
  ·intro b o e nb;by_cases zb:b=d16
   ·rw[zb,hd16] at e;cases e
   rw[Ze zb];exact X1620 _ _ (X16 _ _ e nb) nb
  ·exact ((B19.mono (by omega)).same S20).upd nd16.symm
  rcases XH.mp hr with hr | hr
  ·exact g16 r hr
  rw[XA.mp hr];have p10:(2:Nat) ^ 10=1024:=by decide
  exact Xe (show z18.natAbs<2 ^ 10 by omega) (show (1+z19).natAbs<2 ^ 10 by omega) (by omega)
 rintro ys H16 ⟨X16,B16,ms,R16,l16,g16⟩ hd16';have q16:=X16 _ _ hd15' nd15;refine⟨⟨_,SqL.of q16,by simp⟩,?_⟩;have E1516:Ext H15 H16:=by
  obtain⟨u,v,e,_⟩:=B15;exact N2 e X16
 have P16:=Zk P15 E1516;have lds:ms.length=dss.length:=by omega
 have sixG:∀ f∈dss,f.length=n/\∀ r∈f,Good 21 r:=λf hf=>⟨(six15 f hf).1,λr hr=>((six15 f hf).2 r hr).g⟩;refine Zu ?_;dsimp only;refine Nw (Z3g ?_);refine⟨_,rfl,_,rfl,d15,_,rfl,.inl (SqL.of q16),λl17 hl17=>?_⟩;have N17:=Same.new (o:=.lst (bs'.map V.ref)) hl17;have q17:(upd H16 l17 (.lst (bs'.map V.ref))) l17=some (.lst (bs'.map V.ref)):=Zb;generalize upd H16 l17 (.lst (bs'.map V.ref))=H17 at *
 refine⟨_,rfl,d16,ys,rfl,.inl (SqL.of (N17 _ _ hd16')),λl18 hl18=>?_⟩;have N18:=Same.new (o:=.lst ys) hl18;have q18:(upd H17 l18 (.lst ys)) l18=some (.lst ys):=Zb;generalize upd H17 l18 (.lst ys)=H18 at *
 have S1618:=N17.trans N18;obtain⟨Dm,Wm,Rm⟩:=RepL.crude g16;refine⟨l17,l18,n,dss,ms,rfl,⟨bs',N18 _ _ q17,Zk P16 (Ext.same S1618)⟩,⟨ys,q18,R16.ext (Ext.same S1618)⟩,lds,by omega,by omega,λf hf=>⟨(sixG f hf).1,λr hr=>((sixG f hf).2 r hr).mono (by omega)⟩,⟨_,Dm,Wm,by rw[l16];omega,Rm⟩,λc19 H19 S19 r19=>?_⟩;have S1619:=S1618.trans S19;refine⟨_,rfl,_,rfl,_,rfl,d15,d16,n,300,bs',ys,dss,ms,rfl,S1619 _ _ q16,Zk P16 (Ext.same S1619),.inl (SqL.of (S1619 _ _ hd16')),R16.ext (Ext.same S1619),lds,by omega,by omega,λf hf=>⟨(sixG f hf).1,λr hr=>((sixG f hf).2 r hr).mono (by omega)⟩,λr hr=>(g16 r hr).mono (by omega),λjj hjj=>J1 21 (λf hf=>(sixG f hf).2) (λf hf=>(sixG f hf).1) (λr hr=>(g16 r hr).mono (by omega)) lds (by omega) jj hjj (by omega),by omega,by omega,λc20 H20 S20 r20=>?_⟩;rw[Z05 (λf hf r hr=>((sixG f hf).2 r hr).low) (λr hr=>(g16 r hr).low) lds] at r19;obtain⟨y19,qy19,R19⟩:=r19.ext (Ext.same S20);obtain⟨y20,qy20,R20⟩:=r20;exact⟨1,c19,c20,y19,y20,rfl,rfl,by omega,.inr ⟨qy19,qy20⟩,V5 R19 R20,k H20⟩
end
theorem Z2c {x:Str}{sl:Array (Option Value)}{kV dc:Value}(X:K.In h)(G:h.Ns mainGlobals mg)
  (a:W.nsIn K mainGlobals x=some (some (.ref f))) (l:K.lookup f=some ⟨oc,od,.func (W.fnOf x x (defArgs st) (defBody st) (defScope st) .none kV dc pm an (.ref cc) ct),sl⟩) (c:W.codeIn K (.ref cc) x=true) (k:W.keepIn K (.ref f)=true)
  (b:∀ (kV doc pm:Value) (an:TQ) (cdv ct:Value) (us:TH),us.length=ps.length->bindArgs (W.fnOf x x (defArgs st) (defBody st) (defScope st) .none kV doc pm an cdv ct) ⟨us,[]⟩=pure (ps.zip us)):DefC K mg x st ps cc :=
 ⟨f,_,Rn l c k,W.mg_of X G a,(Rn l c k).binds b,rfl⟩
theorem Z22 {P:TU}{x:Str}{fa:Addr}{sl:Array (Option Value)}{kV dc cd:Value}{n:Nat}(X:K.In h)(G:h.Ns mainGlobals mg)(hfa:mg "law"=some (.ref fa))
  (a:W.nsIn K mainGlobals "law"=some (some (.ref f))) (l:K.lookup f=some ⟨oc,od,.func (W.fnOf "law" "law" (defArgs st) (defBody st) (defScope st) .none kV dc pm an cd ct),sl⟩) (c:W.codeIn K cd "law"=true) (k:W.keepIn K (.ref f)=true)
  (b:∀ (s:Shared) (v:Value),BindsTo s (W.fnOf "law" "law" (defArgs st) (defBody st) (defScope st) .none kV dc pm an cd ct) ⟨[v],[]⟩ [(x,v)])
  (ok:∀ (fd:FuncData) (base:Heap),K.In base->BltIn mg base->Fun K "law" "law" st fa fd->FnOk P w K mg base CX0 n fa fd [x] sp sr) :
  ∃ fd:FuncData,(∀ (s:Shared) (v:Value),BindsTo s fd ⟨[v],[]⟩ [(x,v)])/\∀ base:Heap,K.In base->base.Ns mainGlobals mg->BltIn mg base->FnOk P w K mg base CX0 n fa fd [x] sp sr:=by
 have e:=hfa.symm.trans (W.mg_of X G a)
 cases e;exact⟨_,b,λbase kb _ hB=>ok _ base kb hB (Rn l c k)⟩
end Sb
theorem Sb.len0 {us:List PySem.Value}(h:us.length=0):us=[]:=jp h
theorem Sb.len1 {us:List PySem.Value}(h:us.length=1):∃ a0,us=[a0]:=by
 cases us with
 | nil=>cases h
 | cons a0 t =>
  obtain rfl:=Sb.len0 (ja h);exact⟨a0,rfl⟩
theorem Sb.len2 {us:List PySem.Value}(h:us.length=2):∃ a0 a1,us=[a0,a1]:=by
 cases us with
 | nil=>cases h
 | cons a0 t =>
  obtain⟨a1,rfl⟩:=Sb.len1 (ja h);exact⟨a0,a1,rfl⟩
theorem Sb.len3 {us:List PySem.Value}(h:us.length=3):∃ a0 a1 a2,us=[a0,a1,a2]:=by
 cases us with
 | nil=>cases h
 | cons a0 t =>
  obtain⟨a1,a2,rfl⟩:=Sb.len2 (ja h);exact⟨a0,a1,a2,rfl⟩
theorem Sb.len4 {us:List PySem.Value}(h:us.length=4):∃ a0 a1 a2 a3,us=[a0,a1,a2,a3]:=by
 cases us with
 | nil=>cases h
 | cons a0 t =>
  obtain⟨a1,a2,a3,rfl⟩:=Sb.len3 (ja h);exact⟨a0,a1,a2,a3,rfl⟩
theorem Sb.len5 {us:List PySem.Value}(h:us.length=5):∃ a0 a1 a2 a3 a4,us=[a0,a1,a2,a3,a4]:=by
 cases us with
 | nil=>cases h
 | cons a0 t =>
  obtain⟨a1,a2,a3,a4,rfl⟩:=Sb.len4 (ja h);exact⟨a0,a1,a2,a3,a4,rfl⟩
theorem Sb.len6 {us:List PySem.Value}(h:us.length=6):∃ a0 a1 a2 a3 a4 a5,us=[a0,a1,a2,a3,a4,a5]:=by
 cases us with
 | nil=>cases h
 | cons a0 t =>
  obtain⟨a1,a2,a3,a4,a5,rfl⟩:=Sb.len5 (ja h);exact⟨a0,a1,a2,a3,a4,a5,rfl⟩
namespace PySem.W.Fast
abbrev Q:=True
theorem q:Q:=⟨⟩
theorem tw5987333141216736842:Q:=q
theorem te16257055017148096697:Q:=q
theorem tw16257055017148096697:Q:=q
theorem tw3763122464454500867:Q:=q
theorem tw2543096543613458804:Q:=q
theorem tw6939288325739332554:Q:=q
theorem tw16554590354814337342:Q:=q
theorem tw16131536595404502211:Q:=q
theorem tw5371480180648670194:Q:=q
theorem tw373348402708722065:Q:=q
theorem tw17232276862758038256:Q:=q
theorem tw17679190375675855763:Q:=q
theorem tw15408308270722544932:Q:=q
theorem tw12931064464755986576:Q:=q
theorem tw3903324265463788694:Q:=q
theorem tw15917407052618314474:Q:=q
theorem tw12356684731544153330:Q:=q
theorem tw5307447985651270263:Q:=q
theorem tw859811192629601773:Q:=q
theorem tw8976416359486702892:Q:=q
theorem tw4135429939613623873:Q:=q
theorem tw12322379095268248089:Q:=q
theorem tw10962573813707274472:Q:=q
theorem tw425429155722712141:Q:=q
theorem tw15010018556178264016:Q:=q
theorem tw4733210134484881243:Q:=q
theorem tw6398946461579135945:Q:=q
theorem tw7336946813328206854:Q:=q
theorem tw16757507930465531116:Q:=q
theorem tw5801198814343438670:Q:=q
theorem tw16732422878272674294:Q:=q
theorem tw16600787316233129668:Q:=q
theorem tw15615878516683732905:Q:=q
theorem tw18073733114402907254:Q:=q
theorem tw8600456688225025706:Q:=q
theorem tw2218887658845783677:Q:=q
theorem tw6137616617595792393:Q:=q
theorem tw18173525696393008331:Q:=q
theorem tw9418355215618044898:Q:=q
theorem tw3580310963411663301:Q:=q
theorem tw5411475919165859340:Q:=q
theorem tw8966311432065699602:Q:=q
theorem tw9883139838853880271:Q:=q
theorem tw13076901695109969487:Q:=q
theorem tw7076192923136321068:Q:=q
theorem tw3019236568486041284:Q:=q
theorem tw15487796336124090769:Q:=q
theorem tw742813308983925421:Q:=q
theorem tw17328924741266281326:Q:=q
theorem tw2917983253973397981:Q:=q
theorem tw4064380122975374893:Q:=q
theorem tw5051244771240383113:Q:=q
theorem tw11930099845489904981:Q:=q
theorem tw17741415134662007093:Q:=q
theorem tw10327935354360109162:Q:=q
theorem tw9402009875691591657:Q:=q
theorem tw4846200166288927888:Q:=q
theorem tw4197343385450377103:Q:=q
theorem tw11187099961785625477:Q:=q
theorem tw15672525366852429224:Q:=q
theorem tw6148574601628842809:Q:=q
theorem tw12195851337695722967:Q:=q
theorem tw1742125371066284039:Q:=q
theorem tw5362926752441723449:Q:=q
theorem tw8244674924770645520:Q:=q
theorem tw1469606716191696475:Q:=q
theorem tw429579766822107927:Q:=q
theorem tw160497891250709807:Q:=q
theorem tw16225630469163854883:Q:=q
theorem tw6552395961803499436:Q:=q
theorem tw5380717748241266980:Q:=q
theorem tw12699437012182024618:Q:=q
theorem tw7024249294113050918:Q:=q
theorem tw14607066501575227009:Q:=q
theorem tw2058680348051985234:Q:=q
theorem tw14432978149963655492:Q:=q
theorem tw2202700839068608239:Q:=q
theorem tw11232330983006351356:Q:=q
theorem tw869481436609664222:Q:=q
theorem tw6167590970737345669:Q:=q
theorem tw132973422439855897:Q:=q
theorem tw11172257881535091308:Q:=q
theorem tw5025028790454939146:Q:=q
theorem tw9561291799530419307:Q:=q
theorem tw12425402828631052744:Q:=q
theorem tw10509790960718591321:Q:=q
theorem tw14528514680874253466:Q:=q
theorem tw2049645374731888860:Q:=q
theorem tw7664445843263875810:Q:=q
theorem tw17864312642830869650:Q:=q
theorem tw7112603537279615120:Q:=q
theorem tw17008878583473658857:Q:=q
theorem tw15199117202865033369:Q:=q
theorem tw12195925714060423279:Q:=q
theorem tw4510064333146568363:Q:=q
theorem tw14332090693071875823:Q:=q
theorem tw2867110355385961949:Q:=q
theorem tw4798770493712147134:Q:=q
theorem tw7095851886713545914:Q:=q
theorem tw15440729362679155314:Q:=q
theorem tw17952453261666423444:Q:=q
theorem tw4894628204028738069:Q:=q
theorem tw17896562844262501467:Q:=q
theorem tw16269868954018440908:Q:=q
theorem tw17818153183512027817:Q:=q
theorem tw18195492468956952324:Q:=q
theorem tw3563481315170020580:Q:=q
theorem tw1989328746879570231:Q:=q
theorem tw13590158950674089365:Q:=q
theorem tw18163361187878246775:Q:=q
theorem tw13045479755526377592:Q:=q
theorem tw14146356390140241156:Q:=q
theorem tw15307135902082558980:Q:=q
theorem tw9040660313460283345:Q:=q
theorem tw4029145943779251364:Q:=q
theorem tw12323535963820019998:Q:=q
theorem tw7388600995070406573:Q:=q
theorem tw15071656257841817377:Q:=q
theorem tw7208970017958507632:Q:=q
theorem tw17139358803841830988:Q:=q
theorem tw7537158394909339192:Q:=q
theorem tw12765998409941965692:Q:=q
theorem tw15471006001438417801:Q:=q
theorem tw3951502752071914069:Q:=q
theorem tw8902384817228109327:Q:=q
theorem tw11037353465600958364:Q:=q
theorem tw697367045807538761:Q:=q
theorem tw14166854200029010282:Q:=q
theorem tw17501707479616019716:Q:=q
theorem tw14537298734223337082:Q:=q
theorem tw12105148354620297256:Q:=q
theorem tw12782489586406452182:Q:=q
theorem tw3967233719067811587:Q:=q
theorem tw10192905645139909027:Q:=q
theorem tw314514526287911822:Q:=q
theorem tw18111675837101985775:Q:=q
theorem tw2388631589264118757:Q:=q
theorem tw15791904784604551066:Q:=q
theorem tw6844973124181581532:Q:=q
theorem tw17626553050526011493:Q:=q
theorem tw1690575297613729551:Q:=q
theorem tw17393914699916240142:Q:=q
theorem tw2820286351721975210:Q:=q
theorem tw2674217227975773568:Q:=q
theorem tw1486512708706981626:Q:=q
theorem tw6011757091885961:Q:=q
theorem tw14847407343011837593:Q:=q
theorem tw13181441690036086388:Q:=q
theorem tw4515762603906494162:Q:=q
theorem tw4361667087685201999:Q:=q
theorem tw3603611858800591522:Q:=q
theorem tw11611128874901331492:Q:=q
theorem tw18171415229594407874:Q:=q
theorem tw6560390758891511983:Q:=q
theorem tw12728213330871841399:Q:=q
theorem tw14972689813155790732:Q:=q
theorem tw16425703196413266716:Q:=q
theorem tw5370884238694924517:Q:=q
theorem tw15104876634864235815:Q:=q
theorem tw13669685152656646372:Q:=q
theorem tw6136285727989069406:Q:=q
theorem tw16923099627267545965:Q:=q
theorem tw12515992908703571690:Q:=q
theorem tw6618219649635671663:Q:=q
theorem tw13687795355128179312:Q:=q
theorem tw1221074224115445888:Q:=q
theorem tw16258409750157315540:Q:=q
theorem tw8333876075141673530:Q:=q
theorem tw7965017681224298072:Q:=q
theorem tw16295256342109960007:Q:=q
theorem tw3416625495898187728:Q:=q
theorem tw14065416680127489421:Q:=q
theorem tw15067651432271552164:Q:=q
theorem tw727723280717451123:Q:=q
theorem tw17527351182414131472:Q:=q
theorem tw17011586228270687100:Q:=q
theorem tw16562085936166294597:Q:=q
theorem tw5179491204853177735:Q:=q
theorem tw2525158421942582722:Q:=q
theorem tw5898808869428194774:Q:=q
theorem tw14671629404997588873:Q:=q
theorem tw5695650545464309523:Q:=q
theorem tw7856591687469153532:Q:=q
theorem tw10764035031975078982:Q:=q
theorem tw2852350735275359245:Q:=q
theorem tw8264806154927011188:Q:=q
theorem tw1825630546431748901:Q:=q
theorem tw14767847984222681508:Q:=q
theorem tw17589816884845165071:Q:=q
theorem tw16012603269162389650:Q:=q
theorem tw5768542961618768590:Q:=q
theorem tw16848768519784854936:Q:=q
theorem tw4598103694479364660:Q:=q
theorem tw4276108592063945876:Q:=q
theorem tw11161635153712130304:Q:=q
theorem tw12883928558005741959:Q:=q
theorem tw13607026373806898175:Q:=q
theorem tw7906449140467664017:Q:=q
theorem tw15338864678369000603:Q:=q
theorem tw14757528028278351709:Q:=q
theorem tw7376895574617304468:Q:=q
theorem tw12662295977253178870:Q:=q
theorem tw15314737118724699795:Q:=q
theorem tw9053240156406067961:Q:=q
theorem tw17159717132458735408:Q:=q
theorem tw17272765878525509103:Q:=q
theorem tw16380024766483465161:Q:=q
theorem tw14977752482299984539:Q:=q
theorem tw3985289560965590954:Q:=q
theorem tw809360288865622362:Q:=q
theorem tw9653720646799863755:Q:=q
theorem tw3092839336367548528:Q:=q
theorem tw3766401089615500572:Q:=q
theorem tw18317034724163661519:Q:=q
theorem tw6864327996323563398:Q:=q
theorem tw807737575997974493:Q:=q
theorem tw11829932457438445047:Q:=q
theorem tw14188399828116180752:Q:=q
theorem tw13184163770857279760:Q:=q
theorem tw13919750650591105156:Q:=q
theorem tw17368478814134201562:Q:=q
theorem tw4547081440961970393:Q:=q
theorem tw7650828882536312797:Q:=q
theorem tw6996167119119303506:Q:=q
theorem tw3685628683209630028:Q:=q
theorem tw7507270248295636435:Q:=q
theorem tw8882900293041824528:Q:=q
theorem tw12123843052721592757:Q:=q
theorem tw2336362688700096054:Q:=q
theorem tw1624730278601083434:Q:=q
theorem tw2840132345213766875:Q:=q
theorem tw7918093381360448350:Q:=q
theorem tw12134151640182537577:Q:=q
theorem tw10498164086569521412:Q:=q
theorem tw12700185685659336293:Q:=q
theorem tw11745954710659753414:Q:=q
theorem tw17559548506585415720:Q:=q
theorem tw6387357485345007847:Q:=q
theorem tw9997908625523682895:Q:=q
theorem tw430058301828993478:Q:=q
theorem tw9683382606112925843:Q:=q
theorem tw7429724287602386585:Q:=q
theorem tw17725766387266903250:Q:=q
theorem tw6750562874797994582:Q:=q
theorem tw11016550284121642841:Q:=q
theorem tw3493786710580077892:Q:=q
theorem tw13336772112226517866:Q:=q
theorem tw15154002463267348473:Q:=q
theorem tw6911266481961617852:Q:=q
theorem tw15973073531430811728:Q:=q
theorem tw4689939509131790142:Q:=q
theorem tw17414113369267946369:Q:=q
theorem tw5252981988658280381:Q:=q
theorem tw6758598571889449613:Q:=q
theorem tw11502203335980240721:Q:=q
theorem tw10101636982363808533:Q:=q
theorem tw455311477516896480:Q:=q
theorem tw9140448663072341145:Q:=q
theorem tw15634299929307717949:Q:=q
theorem tw11466995163061241565:Q:=q
theorem tw4133575681695487812:Q:=q
theorem tw11781870534179498286:Q:=q
theorem tw2357497029476468926:Q:=q
theorem tw4829955807599979129:Q:=q
theorem tw5442917260387781051:Q:=q
theorem tw10759729743614070076:Q:=q
theorem tw2813432538309527755:Q:=q
theorem tw15744983922027631692:Q:=q
theorem tw15785887864365289484:Q:=q
theorem tw14438201500938193406:Q:=q
theorem tw288221637872666543:Q:=q
theorem tw2202385639369512397:Q:=q
theorem tw2526871427455517403:Q:=q
theorem tw1906935833682416686:Q:=q
theorem tw962747328899045049:Q:=q
theorem tw2057192214196324870:Q:=q
theorem tw15069208842141003763:Q:=q
theorem tw1130922608264504643:Q:=q
theorem tw13887751757469162117:Q:=q
theorem tw10240449954122598047:Q:=q
theorem tw4906637087078868723:Q:=q
theorem tw10521395652650177333:Q:=q
theorem tw17169637671765471625:Q:=q
theorem tw4938164376113589175:Q:=q
theorem tw13358630944198783828:Q:=q
theorem tw12867373270506471895:Q:=q
theorem tw6961098746291675987:Q:=q
theorem tw14855587062057087033:Q:=q
theorem tw8975712033448950273:Q:=q
theorem tw5450603233541059050:Q:=q
theorem tw15177729510252721869:Q:=q
theorem tw10231816869032559301:Q:=q
theorem tw2414104916786240415:Q:=q
theorem tw450633520282245227:Q:=q
theorem tw17417837861893635688:Q:=q
theorem tw6009056229567019714:Q:=q
theorem tw1861320186169480050:Q:=q
theorem tw13016945899239134003:Q:=q
theorem tw10095684472003689823:Q:=q
theorem tw3380513697593933913:Q:=q
theorem tw4747251882728413291:Q:=q
theorem tw12262825542864221293:Q:=q
theorem tw14212643293717852393:Q:=q
theorem tw18375888360600229748:Q:=q
theorem tw5055302848346020472:Q:=q
theorem tw10211507877944304745:Q:=q
theorem tw6658781228035482890:Q:=q
theorem tw14640338122618067303:Q:=q
theorem tw11619334044830900187:Q:=q
theorem tw889127159229929288:Q:=q
theorem tw4060194543798793630:Q:=q
theorem tw2140383768864605862:Q:=q
theorem tw8965383662397934873:Q:=q
theorem tw5801444263862984740:Q:=q
theorem tw5430714363085581089:Q:=q
theorem tw38638523941109634:Q:=q
theorem tw10374351559183655885:Q:=q
theorem tw5051677175244169660:Q:=q
theorem tw12744752246960946934:Q:=q
theorem tw4690841770061699277:Q:=q
theorem tw5016831263324697062:Q:=q
theorem tw8729735391206538509:Q:=q
theorem tw14116436739032356753:Q:=q
theorem tw2075357995136209860:Q:=q
theorem tw3344805147996811261:Q:=q
theorem tw12173887803721329141:Q:=q
theorem tw14407301415713092914:Q:=q
theorem tw7149309799566965062:Q:=q
theorem tw9967786254214914534:Q:=q
theorem tw4343580212648685626:Q:=q
theorem tw7683826827799447578:Q:=q
theorem tw15580608246557544519:Q:=q
theorem tw2815319918626088284:Q:=q
theorem tw1607657574597363327:Q:=q
theorem tw11743907671908994299:Q:=q
theorem tw13675696399935519882:Q:=q
theorem tw15045981745379284979:Q:=q
theorem tw17821811825449596901:Q:=q
theorem tw1853232924078034538:Q:=q
theorem tw14430961983595142246:Q:=q
theorem tw15686525678317744325:Q:=q
theorem tw14882025343337793477:Q:=q
theorem tw13927501382917913238:Q:=q
theorem tw7044257049650899969:Q:=q
theorem tw12939589246899875389:Q:=q
theorem tw9533992101827949715:Q:=q
theorem tw15439923157043350652:Q:=q
theorem tw15449744328681569983:Q:=q
theorem tw3344208001713764052:Q:=q
theorem tw13467254180495569580:Q:=q
theorem tw14590564622861781447:Q:=q
theorem tw9527279357787802347:Q:=q
theorem tw12684170422713546657:Q:=q
theorem tw8045439452312472553:Q:=q
theorem tw16826767781419183917:Q:=q
theorem tw1996259831414503955:Q:=q
theorem tw6393855854170633586:Q:=q
theorem tw17424224217352559851:Q:=q
theorem tw15368793480011363570:Q:=q
theorem tw9444201510753829213:Q:=q
theorem tw14770828351157371489:Q:=q
theorem tw13456728713934089218:Q:=q
theorem tw9540629729730973580:Q:=q
theorem tw5601357867368571797:Q:=q
theorem tw11639442961693960186:Q:=q
theorem tw12268119391715006331:Q:=q
theorem tw14660956144349730450:Q:=q
theorem tw2904583176193033852:Q:=q
theorem tw5253264213198355114:Q:=q
theorem tw16606043216960085809:Q:=q
theorem tw3620970443345139355:Q:=q
end PySem.W.Fast
abbrev Sb.pk:PySem.Program:=PySem.Challenge.rw_surebook_k42_mixes.prog
theorem Sb.bn1 {C:List PySem.Value->Prop}{us:List PySem.Value}(h:us.length=1)(k:∀ a0,C [a0]):C us:=by
 obtain⟨a0,rfl⟩:=Sb.len1 h;exact k _
theorem Sb.bn2 {C:List PySem.Value->Prop}{us:List PySem.Value}(h:us.length=2)(k:∀ a0 a1,C [a0,a1]):C us:=by
 obtain⟨a0,a1,rfl⟩:=Sb.len2 h;exact k _ _
theorem Sb.bn3 {C:List PySem.Value->Prop}{us:List PySem.Value}(h:us.length=3)(k:∀ a0 a1 a2,C [a0,a1,a2]):C us:=by
 obtain⟨a0,a1,a2,rfl⟩:=Sb.len3 h;exact k _ _ _
theorem Sb.bn4 {C:List PySem.Value->Prop}{us:List PySem.Value}(h:us.length=4)(k:∀ a0 a1 a2 a3,C [a0,a1,a2,a3]):C us:=by
 obtain⟨a0,a1,a2,a3,rfl⟩:=Sb.len4 h;exact k _ _ _ _
open PySem PySem.W PyProof.Rows
set_option maxRecDepth 100000 in
set_option maxHeartbeats 0 in
theorem PySem.Challenge.cw_surebook_k42_mixes_holds : PySem.Challenge.rw_surebook_k42_mixes.Holds := by
 w_on; o_law; k_head; (case hw=>w_witness2)
 k_fill
 refine Sb.Fp (l:=PySem.Challenge.rw_surebook_k42_mixes) (n:=63) (k:=10) (x:="_law_script") (T:=253) (CX:=λ_=>L2.CX0) (sp:=λw=>Sb.spLaw _ 253) (sr:=true) rfl (by decide) ?IQ rfl rfl ⟨λ_=>rfl,by decide,by decide⟩ (λw h Y=>⟨PySem.W.km_in_of Y,PySem.W.km_tabs_of Y 253 (YY ..)⟩) (λw=>?TK) (λw=>?CC) ?F (λw H a ns hl hO hS=>⟨a,ns,rfl,hS,hO.1,λ_=>rfl⟩) (λ_ _ _ _ _ z=>z)
 case IQ=>kernel_rfl
 case TK=>kernel_rfl
 case CC=>exact ⟨257,by kernel_rfl⟩
 case F =>
  intro w mg fa h KX G hmg;have n_len:mg "len"=none:=by
   refine' XW KX G ?z
   (case z=>k_is)
  have n_abs:mg "abs"=none:=by
   refine' XW KX G ?z
   (case z=>k_is)
  have n_isinstance:mg "isinstance"=none:=by
   refine' XW KX G ?z
   (case z=>k_is)
  have n_int:mg "int"=none:=by
   refine' XW KX G ?z
   (case z=>k_is)
  have n_bool:mg "bool"=none:=by
   refine' XW KX G ?z
   (case z=>k_is)
  have n_tuple:mg "tuple"=none:=by
   refine' XW KX G ?z
   (case z=>k_is)
  have n_range:mg "range"=none:=by
   refine' XW KX G ?z
   (case z=>k_is)
  have n_zip:mg "zip"=none:=by
   refine' XW KX G ?z
   (case z=>k_is)
  have n_enumerate:mg "enumerate"=none:=by
   refine' XW KX G ?z
   (case z=>k_is)
  have n_any:mg "any"=none:=by
   refine' XW KX G ?z
   (case z=>k_is)
  have n_sum:mg "sum"=none:=by
   refine' XW KX G ?z
   (case z=>k_is)
  have n_list:mg "list"=none:=by
   refine' XW KX G ?z
   (case z=>k_is)
  have n_min:mg "min"=none:=by
   refine' XW KX G ?z
   (case z=>k_is)
  have T:Sb.Blt mg:=⟨n_len,n_abs,n_isinstance,n_int,n_bool,n_tuple,n_range,n_zip,n_enumerate,n_any,n_sum,n_list,n_min⟩;have⟨lA,kQ,nW,oE,oV,oF,oC,nU,oA,kZ,mP,mR⟩:Sb.Def (L2.KOf KX) mg "is_whole" Sb.iF ["value"]/\Sb.Def (L2.KOf KX) mg "common_divisor" Sb.iB UG/\Sb.Def (L2.KOf KX) mg "lowest" Sb.i7 UH/\Sb.Def (L2.KOf KX) mg "ratio" Sb.iZ UH/\Sb.Def (L2.KOf KX) mg "plus" Sb.jV UG/\Sb.Def (L2.KOf KX) mg "minus" Sb.jL UG/\Sb.Def (L2.KOf KX) mg "times" Sb.jG UG/\Sb.Def (L2.KOf KX) mg "parted" Sb.iO UG/\Sb.Def (L2.KOf KX) mg "under" Sb.jE UG/\Sb.Def (L2.KOf KX) mg "common_bottom" Sb.iD UQ/\Sb.Def (L2.KOf KX) mg "whole_by" Sb.iL UR/\Sb.Def (L2.KOf KX) mg "least_of" Sb.iR UQ:=by
   dsimp only [L2.KOf];refine'⟨Sb.Zl KX G ?a0 ?l0 ?c0 ?k0 (λ_ _ _ _ _ _ _ h=>by obtain⟨a0,rfl⟩:=Sb.len1 h;rfl),Sb.Zl KX G ?a1 ?l1 ?c1 ?k1 (λ_ _ _ _ _ _ _ h=>by obtain⟨a0,a1,rfl⟩:=Sb.len2 h;rfl),Sb.Zl KX G ?a2 ?l2 ?c2 ?k2 (λ_ _ _ _ _ _ _ h=>by obtain⟨a0,a1,rfl⟩:=Sb.len2 h;rfl),Sb.Zl KX G ?a3 ?l3 ?c3 ?k3 (λ_ _ _ _ _ _ _ h=>by obtain⟨a0,a1,rfl⟩:=Sb.len2 h;rfl),Sb.Zl KX G ?a4 ?l4 ?c4 ?k4 (λ_ _ _ _ _ _ _ h=>by obtain⟨a0,a1,rfl⟩:=Sb.len2 h;rfl),Sb.Zl KX G ?a5 ?l5 ?c5 ?k5 (λ_ _ _ _ _ _ _ h=>by obtain⟨a0,a1,rfl⟩:=Sb.len2 h;rfl),Sb.Zl KX G ?a6 ?l6 ?c6 ?k6 (λ_ _ _ _ _ _ _ h=>by obtain⟨a0,a1,rfl⟩:=Sb.len2 h;rfl),Sb.Zl KX G ?a7 ?l7 ?c7 ?k7 (λ_ _ _ _ _ _ _ h=>by obtain⟨a0,a1,rfl⟩:=Sb.len2 h;rfl),Sb.Zl KX G ?a8 ?l8 ?c8 ?k8 (λ_ _ _ _ _ _ _ h=>by obtain⟨a0,a1,rfl⟩:=Sb.len2 h;rfl),Sb.Zl KX G ?a9 ?l9 ?c9 ?k9 (λ_ _ _ _ _ _ _ h=>by obtain⟨a0,rfl⟩:=Sb.len1 h;rfl),Sb.Zl KX G ?a10 ?l10 ?c10 ?k10 (λ_ _ _ _ _ _ _ h=>by obtain⟨a0,a1,rfl⟩:=Sb.len2 h;rfl),Sb.Zl KX G ?a11 ?l11 ?c11 ?k11 (λ_ _ _ _ _ _ _ h=>by obtain⟨a0,rfl⟩:=Sb.len1 h;rfl)⟩
   case a0|l0|c0|k0|a1|l1|c1|k1|a2|l2|c2|k2|a3|l3|c3|k3|a4|l4|c4|k4|a5|l5|c5|k5|a6|l6|c6|k6|a7|l7|c7|k7|a8|l8|c8|k8|a9|l9|c9|k9|a10|l10|c10|k10|a11|l11|c11|k11=>k_is
  have⟨oJ,lL,nS,oB,oW,lM,oG,o5,mQ,oY,mO,oD⟩:Sb.Def (L2.KOf KX) mg "added" Sb.jT UG/\Sb.Def (L2.KOf KX) mg "multiplied" Sb.iE UX/\Sb.Def (L2.KOf KX) mg "turned" Sb.iX ["row"]/\Sb.Def (L2.KOf KX) mg "total" Sb.jF ["worths"]/\Sb.Def (L2.KOf KX) mg "mean" Sb.jW ["weights","row"]/\Sb.Def (L2.KOf KX) mg "is_weights" Sb.iH ["row"]/\Sb.Def (L2.KOf KX) mg "is_in" Sb.jZ UM/\Sb.Def (L2.KOf KX) mg "cut" Sb.j7 UN/\Sb.Def (L2.KOf KX) mg "paper_of" Sb.iP UP/\Sb.Def (L2.KOf KX) mg "gain" Sb.j0 ["offer","word"]/\Sb.Def (L2.KOf KX) mg "words_of" Sb.iK ["offer"]/\Sb.Def (L2.KOf KX) mg "sides" Sb.jI UT:=by
   dsimp only [L2.KOf];refine'⟨Sb.Zl KX G ?a0 ?l0 ?c0 ?k0 (λ_ _ _ _ _ _ _ h=>by obtain⟨a0,a1,rfl⟩:=Sb.len2 h;rfl),Sb.Zl KX G ?a1 ?l1 ?c1 ?k1 (λ_ _ _ _ _ _ _ h=>by obtain⟨a0,a1,rfl⟩:=Sb.len2 h;rfl),Sb.Zl KX G ?a2 ?l2 ?c2 ?k2 (λ_ _ _ _ _ _ _ h=>by obtain⟨a0,rfl⟩:=Sb.len1 h;rfl),Sb.Zl KX G ?a3 ?l3 ?c3 ?k3 (λ_ _ _ _ _ _ _ h=>by obtain⟨a0,rfl⟩:=Sb.len1 h;rfl),Sb.Zl KX G ?a4 ?l4 ?c4 ?k4 (λ_ _ _ _ _ _ _ h=>by obtain⟨a0,a1,rfl⟩:=Sb.len2 h;rfl),Sb.Zl KX G ?a5 ?l5 ?c5 ?k5 (λ_ _ _ _ _ _ _ h=>by obtain⟨a0,rfl⟩:=Sb.len1 h;rfl),Sb.Zl KX G ?a6 ?l6 ?c6 ?k6 (λ_ _ _ _ _ _ _ h=>by obtain⟨a0,a1,rfl⟩:=Sb.len2 h;rfl),Sb.Zl KX G ?a7 ?l7 ?c7 ?k7 (λ_ _ _ _ _ _ _ h=>by obtain⟨a0,a1,rfl⟩:=Sb.len2 h;rfl),Sb.Zl KX G ?a8 ?l8 ?c8 ?k8 (λ_ _ _ _ _ _ _ h=>by obtain⟨a0,a1,rfl⟩:=Sb.len2 h;rfl),Sb.Zl KX G ?a9 ?l9 ?c9 ?k9 (λ_ _ _ _ _ _ _ h=>by obtain⟨a0,a1,rfl⟩:=Sb.len2 h;rfl),Sb.Zl KX G ?a10 ?l10 ?c10 ?k10 (λ_ _ _ _ _ _ _ h=>by obtain⟨a0,rfl⟩:=Sb.len1 h;rfl),Sb.Zl KX G ?a11 ?l11 ?c11 ?k11 (λ_ _ _ _ _ _ _ h=>by obtain⟨a0,rfl⟩:=Sb.len1 h;rfl)⟩
   case a0|l0|c0|k0|a1|l1|c1|k1|a2|l2|c2|k2|a3|l3|c3|k3|a4|l4|c4|k4|a5|l5|c5|k5|a6|l6|c6|k6|a7|l7|c7|k7|a8|l8|c8|k8|a9|l9|c9|k9|a10|l10|c10|k10|a11|l11|c11|k11=>k_is
  have⟨oH,mV,nM,mC,oZ,nI,kR,mU,nK,mS,nL,oX⟩:Sb.Def (L2.KOf KX) mg "gains" Sb.jR UT/\Sb.Def (L2.KOf KX) mg "as_ratio" Sb.iW VG/\Sb.Def (L2.KOf KX) mg "come_to" Sb.jC VH/\Sb.Def (L2.KOf KX) mg "loads_fit" Sb.iI ["loads","rows"]/\Sb.Def (L2.KOf KX) mg "fits" Sb.j1 VF/\Sb.Def (L2.KOf KX) mg "touched" Sb.iN UW/\Sb.Def (L2.KOf KX) mg "are_neighbours" Sb.iC UZ/\Sb.Def (L2.KOf KX) mg "crossing" Sb.iJ UY/\Sb.Def (L2.KOf KX) mg "cut_off" Sb.jB VA/\Sb.Def (L2.KOf KX) mg "is_ahead" Sb.iT UG/\Sb.Def (L2.KOf KX) mg "corners" Sb.iV VB/\Sb.Def (L2.KOf KX) mg "made" Sb.jX VJ:=by
   dsimp only [L2.KOf];refine'⟨Sb.Zl KX G ?a0 ?l0 ?c0 ?k0 (λ_ _ _ _ _ _ _ h=>by obtain⟨a0,rfl⟩:=Sb.len1 h;rfl),Sb.Zl KX G ?a1 ?l1 ?c1 ?k1 (λ_ _ _ _ _ _ _ h=>by obtain⟨a0,rfl⟩:=Sb.len1 h;rfl),Sb.Zl KX G ?a2 ?l2 ?c2 ?k2 (λ_ _ _ _ _ _ _ h=>by obtain⟨a0,a1,a2,rfl⟩:=Sb.len3 h;rfl),Sb.Zl KX G ?a3 ?l3 ?c3 ?k3 (λ_ _ _ _ _ _ _ h=>by obtain⟨a0,a1,rfl⟩:=Sb.len2 h;rfl),Sb.Zl KX G ?a4 ?l4 ?c4 ?k4 (λ_ _ _ _ _ _ _ h=>by obtain⟨a0,a1,rfl⟩:=Sb.len2 h;rfl),Sb.Zl KX G ?a5 ?l5 ?c5 ?k5 (λ_ _ _ _ _ _ _ h=>by obtain⟨a0,a1,rfl⟩:=Sb.len2 h;rfl),Sb.Zl KX G ?a6 ?l6 ?c6 ?k6 (λ_ _ _ _ _ _ _ h=>by obtain⟨a0,a1,a2,rfl⟩:=Sb.len3 h;rfl),Sb.Zl KX G ?a7 ?l7 ?c7 ?k7 (λ_ _ _ _ _ _ _ h=>by obtain⟨a0,a1,a2,rfl⟩:=Sb.len3 h;rfl),Sb.Zl KX G ?a8 ?l8 ?c8 ?k8 (λ_ _ _ _ _ _ _ h=>by obtain⟨a0,a1,a2,rfl⟩:=Sb.len3 h;rfl),Sb.Zl KX G ?a9 ?l9 ?c9 ?k9 (λ_ _ _ _ _ _ _ h=>by obtain⟨a0,a1,rfl⟩:=Sb.len2 h;rfl),Sb.Zl KX G ?a10 ?l10 ?c10 ?k10 (λ_ _ _ _ _ _ _ h=>by obtain⟨a0,a1,rfl⟩:=Sb.len2 h;rfl),Sb.Zl KX G ?a11 ?l11 ?c11 ?k11 (λ_ _ _ _ _ _ _ h=>by obtain⟨a0,a1,a2,rfl⟩:=Sb.len3 h;rfl)⟩
   case a0|l0|c0|k0|a1|l1|c1|k1|a2|l2|c2|k2|a3|l3|c3|k3|a4|l4|c4|k4|a5|l5|c5|k5|a6|l6|c6|k6|a7|l7|c7|k7|a8|l8|c8|k8|a9|l9|c9|k9|a10|l10|c10|k10|a11|l11|c11|k11=>k_is
  have⟨mT,nJ,nV,mI,lN,m4,mD,mY,mE,lR,lO,k7⟩:Sb.Def (L2.KOf KX) mg "edges_of" Sb.iU VB/\Sb.Def (L2.KOf KX) mg "most_of" Sb.i5 VE/\Sb.Def (L2.KOf KX) mg "mix_of" Sb.jK VI/\Sb.Def (L2.KOf KX) mg "_law_cell" Sb.j2 UE/\Sb.Def (L2.KOf KX) mg "_law_whole" Sb.jD UJ/\Sb.Def (L2.KOf KX) mg "_law_bag" Sb.j8 UF/\Sb.Def (L2.KOf KX) mg "_law_take" Sb.jU ["_law_bag_here","_law_many"]/\Sb.Def (L2.KOf KX) mg "_law_low" Sb.j5 ["_law_top","_law_bottom"]/\Sb.Def (L2.KOf KX) mg "_law_plus" Sb.jM UI/\Sb.Def (L2.KOf KX) mg "_law_minus" Sb.i9 UI/\Sb.Def (L2.KOf KX) mg "_law_times" Sb.i8 UI/\Sb.Def (L2.KOf KX) mg "_law_is_ratio" Sb.iS UJ:=by
   dsimp only [L2.KOf];refine'⟨Sb.Zl KX G ?a0 ?l0 ?c0 ?k0 (λ_ _ _ _ _ _ _ h=>by obtain⟨a0,a1,rfl⟩:=Sb.len2 h;rfl),Sb.Zl KX G ?a1 ?l1 ?c1 ?k1 (λ_ _ _ _ _ _ _ h=>by obtain⟨a0,a1,a2,rfl⟩:=Sb.len3 h;rfl),Sb.Zl KX G ?a2 ?l2 ?c2 ?k2 (λ_ _ _ _ _ _ _ h=>by obtain⟨a0,a1,a2,rfl⟩:=Sb.len3 h;rfl),Sb.Zl KX G ?a3 ?l3 ?c3 ?k3 (λ_ _ _ _ _ _ _ h=>by obtain⟨a0,a1,rfl⟩:=Sb.len2 h;rfl),Sb.Zl KX G ?a4 ?l4 ?c4 ?k4 (λ_ _ _ _ _ _ _ h=>by obtain⟨a0,rfl⟩:=Sb.len1 h;rfl),Sb.Zl KX G ?a5 ?l5 ?c5 ?k5 (λ_ _ _ _ _ _ _ h=>by obtain⟨a0,a1,rfl⟩:=Sb.len2 h;rfl),Sb.Zl KX G ?a6 ?l6 ?c6 ?k6 (λ_ _ _ _ _ _ _ h=>by obtain⟨a0,a1,rfl⟩:=Sb.len2 h;rfl),Sb.Zl KX G ?a7 ?l7 ?c7 ?k7 (λ_ _ _ _ _ _ _ h=>by obtain⟨a0,a1,rfl⟩:=Sb.len2 h;rfl),Sb.Zl KX G ?a8 ?l8 ?c8 ?k8 (λ_ _ _ _ _ _ _ h=>by obtain⟨a0,a1,rfl⟩:=Sb.len2 h;rfl),Sb.Zl KX G ?a9 ?l9 ?c9 ?k9 (λ_ _ _ _ _ _ _ h=>by obtain⟨a0,a1,rfl⟩:=Sb.len2 h;rfl),Sb.Zl KX G ?a10 ?l10 ?c10 ?k10 (λ_ _ _ _ _ _ _ h=>by obtain⟨a0,a1,rfl⟩:=Sb.len2 h;rfl),Sb.Zl KX G ?a11 ?l11 ?c11 ?k11 (λ_ _ _ _ _ _ _ h=>by obtain⟨a0,rfl⟩:=Sb.len1 h;rfl)⟩
   case a0|l0|c0|k0|a1|l1|c1|k1|a2|l2|c2|k2|a3|l3|c3|k3|a4|l4|c4|k4|a5|l5|c5|k5|a6|l6|c6|k6|a7|l7|c7|k7|a8|l8|c8|k8|a9|l9|c9|k9|a10|l10|c10|k10|a11|l11|c11|k11=>k_is
  have⟨lH,lG,mF,mZ,lS,mH,lP,mW,lB,lT,mX,lQ⟩:Sb.Def (L2.KOf KX) mg "_law_is_row" Sb.jQ VC/\Sb.Def (L2.KOf KX) mg "_law_parted" Sb.i3 UI/\Sb.Def (L2.KOf KX) mg "_law_mean" Sb.jN US/\Sb.Def (L2.KOf KX) mg "_law_cut" Sb.jY UO/\Sb.Def (L2.KOf KX) mg "_law_gains" Sb.jA ["_law_offers"]/\Sb.Def (L2.KOf KX) mg "_law_fits" Sb.jP VD/\Sb.Def (L2.KOf KX) mg "_law_small" Sb.jH ["_law_bag_here"]/\Sb.Def (L2.KOf KX) mg "_law_row" Sb.j3 UK/\Sb.Def (L2.KOf KX) mg "_law_weights" Sb.iM UK/\Sb.Def (L2.KOf KX) mg "_law_event" Sb.jS UK/\Sb.Def (L2.KOf KX) mg "_law_mid" Sb.j4 UU/\Sb.Def (L2.KOf KX) mg "_law_offer" Sb.jJ UV:=by
   dsimp only [L2.KOf];refine'⟨Sb.Zl KX G ?a0 ?l0 ?c0 ?k0 (λ_ _ _ _ _ _ _ h=>by obtain⟨a0,a1,rfl⟩:=Sb.len2 h;rfl),Sb.Zl KX G ?a1 ?l1 ?c1 ?k1 (λ_ _ _ _ _ _ _ h=>by obtain⟨a0,a1,rfl⟩:=Sb.len2 h;rfl),Sb.Zl KX G ?a2 ?l2 ?c2 ?k2 (λ_ _ _ _ _ _ _ h=>by obtain⟨a0,a1,rfl⟩:=Sb.len2 h;rfl),Sb.Zl KX G ?a3 ?l3 ?c3 ?k3 (λ_ _ _ _ _ _ _ h=>by obtain⟨a0,a1,rfl⟩:=Sb.len2 h;rfl),Sb.Zl KX G ?a4 ?l4 ?c4 ?k4 (λ_ _ _ _ _ _ _ h=>by obtain⟨a0,rfl⟩:=Sb.len1 h;rfl),Sb.Zl KX G ?a5 ?l5 ?c5 ?k5 (λ_ _ _ _ _ _ _ h=>by obtain⟨a0,a1,rfl⟩:=Sb.len2 h;rfl),Sb.Zl KX G ?a6 ?l6 ?c6 ?k6 (λ_ _ _ _ _ _ _ h=>by obtain⟨a0,rfl⟩:=Sb.len1 h;rfl),Sb.Zl KX G ?a7 ?l7 ?c7 ?k7 (λ_ _ _ _ _ _ _ h=>by obtain⟨a0,a1,rfl⟩:=Sb.len2 h;rfl),Sb.Zl KX G ?a8 ?l8 ?c8 ?k8 (λ_ _ _ _ _ _ _ h=>by obtain⟨a0,a1,rfl⟩:=Sb.len2 h;rfl),Sb.Zl KX G ?a9 ?l9 ?c9 ?k9 (λ_ _ _ _ _ _ _ h=>by obtain⟨a0,a1,rfl⟩:=Sb.len2 h;rfl),Sb.Zl KX G ?a10 ?l10 ?c10 ?k10 (λ_ _ _ _ _ _ _ h=>by obtain⟨a0,a1,a2,rfl⟩:=Sb.len3 h;rfl),Sb.Zl KX G ?a11 ?l11 ?c11 ?k11 (λ_ _ _ _ _ _ _ h=>by obtain⟨a0,a1,a2,rfl⟩:=Sb.len3 h;rfl)⟩
   case a0|l0|c0|k0|a1|l1|c1|k1|a2|l2|c2|k2|a3|l3|c3|k3|a4|l4|c4|k4|a5|l5|c5|k5|a6|l6|c6|k6|a7|l7|c7|k7|a8|l8|c8|k8|a9|l9|c9|k9|a10|l10|c10|k10|a11|l11|c11|k11=>k_is
  have⟨kK,mG,k6⟩:Sb.Def (L2.KOf KX) mg "_law_corner_book" Sb.iG VN/\Sb.Def (L2.KOf KX) mg "_law_made" Sb.jO VL/\Sb.Def (L2.KOf KX) mg "_law_mix_good" Sb.iQ VM:=by
   dsimp only [L2.KOf];refine'⟨Sb.Zl KX G ?a0 ?l0 ?c0 ?k0 (λ_ _ _ _ _ _ _ h=>by obtain⟨a0,a1,rfl⟩:=Sb.len2 h;rfl),Sb.Zl KX G ?a1 ?l1 ?c1 ?k1 (λ_ _ _ _ _ _ _ h=>by obtain⟨a0,a1,a2,rfl⟩:=Sb.len3 h;rfl),Sb.Zl KX G ?a2 ?l2 ?c2 ?k2 (λ_ _ _ _ _ _ _ h=>by obtain⟨a0,a1,a2,a3,rfl⟩:=Sb.len4 h;rfl)⟩
   case a0|l0|c0|k0|a1|l1|c1|k1|a2|l2|c2|k2=>k_is
  have kD:Sb.Con (L2.KOf KX) mg "NOUGHT" (0,1):=by
   dsimp only [L2.KOf];refine' Sb.Z02 KX G ?a ?l
   case a|l=>k_is
  have nR:Sb.Con (L2.KOf KX) mg "ONE" (1,1):=by
   dsimp only [L2.KOf];refine' Sb.Z02 KX G ?a ?l
   case a|l=>k_is
  have o4:Sb.ConI mg "ROW" 0:=by
   refine' Sb.Sg KX G ?a
   (case a=>k_is)
  have oS:Sb.ConI mg "ASK" 1:=by
   refine' Sb.Sg KX G ?a
   (case a=>k_is)
  have oR:Sb.ConI mg "BID" 2:=by
   refine' Sb.Sg KX G ?a
   (case a=>k_is)
  have n9:Sb.ConI mg "EVENT" 3:=by
   refine' Sb.Sg KX G ?a
   (case a=>k_is)
  have n_sorted:mg "sorted"=none:=by
   refine' XW KX G ?z
   (case z=>k_is)
  have n_all:mg "all"=none:=by
   refine' XW KX G ?z
   (case z=>k_is)
  have n_dict:mg "dict"=none:=by
   refine' XW KX G ?z
   (case z=>k_is)
  have y_rising:∃ cc,Sb.DefC (L2.KOf KX) mg "rising" Sb.iY ["rows"] cc/\PySem.W.codeHdIn (L2.KOf KX) cc 253=true:=by
   dsimp only [L2.KOf];refine' ⟨_,Sb.Z2c KX G ?a ?l ?c ?k (λ_ _ _ _ _ _ _ h=>by obtain⟨a0,rfl⟩:=Sb.len1 h;rfl),?t⟩
   case a|l|c|k=>k_is
   (case t=>kernel_rfl)
  obtain ⟨cc,dc_rising,hcc⟩:=y_rising;refine' Sb.Z22 (st:=Sb.j6) KX G hmg ?a ?l ?c ?k ?b ?ok
  case a|l|c|k=>k_is
  (case b=>exact λs v=>.of_eq rfl)
  case ok =>
   intro fd base kb hB F;have kY:=Sb.Z3q (P:=Sb.pk) (w:=w) (base:=base) mI T;have j9:=Sb.Z4x (P:=Sb.pk) (w:=w) (base:=base) mY T;have lF:=Sb.Z3r m4 kY;have kC:=Sb.Z3h (P:=Sb.pk) (w:=w) (base:=base) mD;have kF:=Sb.Z50 (P:=Sb.pk) (w:=w) (base:=base) kQ T;have kI:=Sb.Cp nW kF;have kE:=Sb.Z1k mE j9;have kP:=Sb.Cs lR j9;have kO:=Sb.Cr lO j9;have lY:=Sb.Z18 (P:=Sb.pk) (w:=w) (base:=base) lN T;have kH:=Sb.Z3n k7 T lY j9;have lI:=Sb.Cn lG j9;have kL:=Sb.Gk (P:=Sb.pk) (w:=w) (base:=base) lA T;have oO:=Sb.Cm oE kL kI;have lZ:=Sb.Ck lP kC j9;have lD:=Sb.Z3i mW T lZ;have kJ:=Sb.Lx lB T kC j9;have oQ:=Sb.Z3o (P:=Sb.pk) (w:=w) (base:=base) oG;have oU:=Sb.Z51 o5 T oQ kD;have lE:=Sb.Z3m (P:=Sb.pk) (w:=w) (base:=base) mZ T;have lC:=Sb.Z1e mQ oU nR;have k8:=Sb.Cw kZ kF;have m8:=Sb.Gh (P:=Sb.pk) (w:=w) (base:=base) mP;have kW:=Sb.Ct mF T kE kO;have mB:=Sb.Z1o lT T kC;have lU:=Sb.Z1f oF kI;have o0:=Sb.Z3p oY T lU oU o4 oS oR n9;have m6:=Sb.Z17 (P:=Sb.pk) (w:=w) (base:=base) mO oS oR;have oN:=Sb.Z1c oD T m6;have lX:=Sb.Cu oH oN o0;have nG:=Sb.Z4w mX T kW lE lI;have l6:=Sb.Co lQ T kC mB lD nG j9 kE kP;have l8:=Sb.Gm lS kP lE;have kN:=Sb.Z19 (P:=Sb.pk) (w:=w) (base:=base) oA;have nC:=Sb.Z1r mS T kN;have nY:=Sb.Cl dc_rising T n_sorted kb hcc hB nC;have kT:=Sb.Z1g oW T k8 m8 oO;have nN:=Sb.Gi nI T kT kD;have nZ:=Sb.Z3j oV kI;have oM:=Sb.Z1b oC kI;have nH:=Sb.Z1s oJ T nZ;have kG:=Sb.Pr lL T oM;have mJ:=Sb.Z1d nU kI;have nE:=Sb.Lz mU kT lU mJ nH kG nR;have kU:=Sb.Z3k (P:=Sb.pk) (w:=w) (base:=base) kR T n_all;have nP:=Sb.Cv nK n_dict nN kN kT kU nE kD;have lK:=Sb.Gn nL T lC lX nP nY;have lJ:=Sb.Z1l lH T kH;have mM:=Sb.Z1m mH T kE kW;have m9:=Sb.Z1j mR kN;have nX:=Sb.Cj nS kG;have nD:=Sb.Z1p mT T lC lX nX;have nO:=Sb.Z3l nJ kT mJ m9 kD;have oK:=Sb.Z1a oB nZ kD;have lV:=Sb.Z4z lM T oK kN kD nR;have mL:=Sb.Cq mC T kT kN kD;have o3:=Sb.Z1n oZ lV lX mL;have kL:=Sb.Ly (P:=Sb.pk) (w:=w) (base:=base) lA T;have nF:=Sb.Z52 mV kL;have nQ:=Sb.Cy nM T nF kT;have mK:=Sb.Z4v nV o3 nD lK nO nH kG lU kD;have n8:=Sb.Z1h oX nQ;have kX:=Sb.Z1i mG T kE kO;have k9:=Sb.Gj k6 T mK kH kE kX n8 lJ;have kM:=Sb.Z1q kK T lF kC kJ l6;exact Sb.Z4y F T kY kM l8 lK kJ lF kX mM mK k9 kC lD j9 n8
#print axioms PySem.Challenge.cw_surebook_k42_mixes_holds
