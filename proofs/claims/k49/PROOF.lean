import PyProof.Rows.All
import Wide.All
import OpenK.AllK
import Wide.FinOn
import Lean
import PyProof.EqAt
import PyProof.EqKinds
import PyProof.TupleCall
import PyProof.SetNew
import PyProof.SetRoads
import PyProof.StrOps2
import PySem.Challenge.RW_surebook_k49_texts_refused
set_option Elab.async false
set_option linter.all false
set_option maxRecDepth 100000
set_option maxHeartbeats 3200000
abbrev TB:=PySem.Str->Option PySem.Value
abbrev TC:=PySem.Value->PySem.Shared->Prop
abbrev TD:=List (PySem.Addr × PySem.Obj)
abbrev TF:=List PySem.Str
abbrev TH:=List PySem.Value
abbrev TJ:=List PySem.Addr
abbrev TK:=List PySem.Expr
abbrev TL:=List PySem.Stmt
abbrev TM:=List PySem.Env
abbrev TN:=Option PySem.Addr
abbrev TQ:=PySem.W.Frag
abbrev TR:=PySem.Program
abbrev TU:=List Int
abbrev TX:List PySem.Str:=["__module__","__name__","__qualname__","__doc__","__annotations__"]
abbrev TY:List PySem.Str:=["_law_script","_law_k"]
abbrev TZ:List PySem.Str:=["_law_top","_law_bottom"]
abbrev UA:List PySem.Str:=["_law_cell_here"]
abbrev UB:List PySem.Str:=["top","bottom"]
abbrev UC:List PySem.Str:=["text"]
abbrev UD:List PySem.Str:=["words"]
abbrev UE:List PySem.Str:=["names","words"]
abbrev UF:List PySem.Str:=["names","row"]
abbrev UG:List PySem.Str:=["self","at"]
abbrev UH:List PySem.Str:=["_law_bag_here","_law_count"]
abbrev UI:List PySem.Str:=["_law_world","_law_bag_here"]
abbrev UJ:List PySem.Str:=["_law_names_here","_law_offer"]
abbrev UK:List PySem.Str:=["_law_names_here","_law_offers"]
abbrev UL:List PySem.Str:=["_law_bag_here","_law_most"]
abbrev UM:List PySem.Str:=["_law_bag_here","_law_names_here","_law_big"]
abbrev UN:List PySem.Str:=["_law_text","_law_at"]
abbrev UO:List PySem.Str:=["_law_bag_here","_law_names_here","_law_offers","_law_big"]
abbrev YA:=@PySem.wpAny_bind
abbrev YB:=@List.length_map
abbrev YC:=@List.mem_cons
abbrev YD:=@PySem.Heap.get?_push_of_some
abbrev YE:=@PySem.wpAny_pure
abbrev YF:=@PySem.Str.length_append
abbrev YG:=@List.mem_cons_of_mem
abbrev YH:=@List.not_mem_nil
abbrev YI:=@List.mem_cons_self
abbrev YJ:=@PySem.Heap.lt_size
abbrev YK:=@List.append_assoc
abbrev YL:=@PySem.Heap.get?_push_size
abbrev YM:=@List.append_nil
abbrev YN:=@List.mem_append
abbrev YO:=@Nat.le_refl
abbrev YQ:=@List.getElem?_map
abbrev YR:=@List.length_cons
abbrev YS:=@List.cons_append
abbrev YT:=@List.map_cons
abbrev YU:=@Nat.lt_of_lt_of_le
abbrev YV:=@List.mem_of_getElem?
abbrev YW:=@List.flatten_cons
abbrev YX:=@PySem.sizeLine_eq
abbrev YY:=@List.size_toArray
abbrev YZ:=@List.mem_append_right
abbrev XA:=@List.map_append
abbrev XB:=@Bool.false_ne_true
abbrev XC:=@List.flatten_nil
abbrev XD:=@decide_eq_true
abbrev XE:=@List.mem_append_left
abbrev XF:=@List.length_append
abbrev XH:=@Option.some.inj
abbrev XI:=@decide_eq_false
abbrev XJ:=@List.map_nil
abbrev XL:=@or_false
abbrev XM:=@Nat.ne_of_lt
abbrev XN:=@PySem.F.plainAttrs_str
abbrev XO:=@PySem.wpAny_holding
abbrev XQ:=@if_neg
abbrev XR:=@of_decide_eq_true
abbrev XS:=@List.getElem?_eq_some_iff
abbrev XU:=@PySem.wpAny_field
abbrev XV:=@Nat.le_trans
abbrev XW:=@PySem.W.mg_none_of
abbrev XX:=@Nat.lt_irrefl
abbrev XY:=@List.getElem?_eq_getElem
abbrev XZ:=@List.cons.inj
abbrev JA:=@List.mem_singleton
abbrev JB:=@Int.eq_ofNat_of_zero_le
abbrev JC:=@List.mem_map
abbrev JD:=@if_pos
abbrev JE:=@PySem.wpAny_callSpecial?_slot
abbrev JF:=@List.take_of_length_le
abbrev JG:=@PySem.Heap.get?_update_other
abbrev JH:=@List.lookup_cons
abbrev JI:=@PySem.wpAny_call_entry
abbrev JJ:=@List.length_take
abbrev JK:=@Nat.lt_of_le_of_lt
abbrev JL:=@Array.getElem?_eq_some_iff
abbrev JM:=@PySem.wpAny_setField_rec
abbrev JN:=@PySem.Heap.get?_update_self
abbrev JO:=@beq_eq_false_iff_ne
abbrev JP:=@Bool.and_eq_true
abbrev JQ:=@Nat.min_eq_left
abbrev JR:=@List.take_length
abbrev JS:=@PyProof.Rows.boot_isinstance
abbrev JT:=@PySem.boot_len
abbrev JU:=@Nat.zero_le
abbrev JV:=@PySem.Heap.SameBut.update
abbrev JW:=@Array.length_toList
abbrev JX:=@List.getElem?_append_right
abbrev JY:=@PyProof.Rows.size_push'
abbrev JZ:=@Ne.symm
abbrev GA:=@PySem.wpAny_truthy_bool
abbrev GB:=@Nat.mul_le_mul_right
abbrev GC:=@List.getElem?_append_left
abbrev GD:=@Array.getElem?_eq_getElem
abbrev GE:=@Bool.false_eq_true
abbrev GF:=@PySem.wpAny_seqItems
abbrev GG:=@List.all_eq_true
abbrev GH:=@PySem.F.store_ValueError
abbrev GI:=@List.filterMap_cons
abbrev GJ:=@PySem.wpAny_newObj_type
abbrev GK:=@PySem.wpAny_loadPart_at
abbrev GL:=@PySem.F.plainAttrs_list
abbrev GM:=@PySem.Heap.size_push
abbrev GN:=@PySem.wpAny_mono
abbrev GO:=@PySem.codeAny_call_builtin
abbrev GP:=@PySem.codeAny_builtin
abbrev GQ:=@PySem.PassesOwn.never
abbrev GR:=@PySem.wpAny_attempt
abbrev GS:=@Bool.eq_iff_iff
abbrev GT:=@of_decide_eq_false
abbrev GU:=@PySem.wpAny_isInstance
abbrev GV:=@PySem.Around.under_plainId
abbrev GW:=@Int.toNat_natCast
abbrev GX:=@PySem.wpAny_rule
abbrev GY:=@PySem.wpAny_setField
abbrev GZ:=@decide_eq_true_eq
abbrev qc:=@PySem.F.excBase_ValueError
abbrev qd:=@List.forIn_cons
abbrev qe:=@List.pairwise_iff_getElem
abbrev qf:=@List.getElem?_toArray
abbrev qg:=@PySem.builtinLookup_eq_fast
abbrev qh:=@PySem.F.slot_str_join
abbrev qj:=@PySem.F.type_str_join
abbrev qk:=@Nat.le_of_not_lt
abbrev ql:=@beq_self_eq_true
abbrev qm:=@Nat.le_add_right
abbrev qo:=@PySem.W.looks_findIn
abbrev qp:=@List.eq_nil_of_length_eq_zero
abbrev qq:=@List.mem_of_mem_take
abbrev qr:=@PySem.wpAny_setState_of
abbrev qu:=@PyProof.Rows.boot_tuple
abbrev qv:=@List.mem_filter
abbrev qw:=@PySem.F.slot_zip_next
abbrev qx:=@PyProof.Rows.callWith_type1
abbrev qy:=@List.length_drop
abbrev qz:=@PySem.Obj.data_mapFields
abbrev qB:=@PySem.F.slot_tuple_iterator_next
abbrev qC:=@List.mem_range
abbrev qD:=@List.nodup_iff_pairwise_ne
abbrev qE:=@List.getElem?_eq_none
abbrev qF:=@PyProof.Rows.boot_str
abbrev qG:=@PySem.wpAny_passesOwn
abbrev qH:=@PySem.SeqAt.EqAt.same
abbrev qI:=@PySem.codeAny_mono
abbrev qJ:=@Nat.le_succ
abbrev qK:=@Nat.lt_trans
abbrev qL:=@List.pairwise_map
abbrev qM:=@PySem.wpAny_standAt
abbrev qO:=@PySem.Paired.length
abbrev qP:=@beq_iff_eq
abbrev qQ:=@List.idxOf_lt_length_iff
abbrev qR:=@PySem.F.slot_list_append
abbrev qS:=@PySem.F.type_list_append
abbrev qT:=@PySem.mem_of_lookup
abbrev qU:=@List.length_pos_iff
abbrev qV:=@PySem.isSubtype_stop
abbrev qW:=@PySem.W.kia_one
abbrev qX:=@PySem.F.attr_ValueError
abbrev qY:=@List.getElem?_set_self
abbrev qZ:=@List.mem_filterMap
abbrev z3:=@PySem.wpAny_call
abbrev z4:=@PySem.wpAny_Call_Name_kw
abbrev z9:=@PySem.Code.quiet_builtin
abbrev ze:=@PySem.F.called_set
abbrev zg:=@PySem.F.slot_str_split
abbrev zh:=@PySem.F.type_str_split
abbrev zi:=@if_false
abbrev zj:=@List.nodup_cons
abbrev zk:=@PySem.typeLookup_type
abbrev zm:=@PySem.plainId_quiet
abbrev zn:=@PySem.Obj.isFreed_of_fields
abbrev zo:=@List.length_replicate
abbrev zp:=@Array.getElem?_toList
abbrev zq:=@PyProof.Rows.boot_int
abbrev zr:=@PySem.wpAny_pyIter_list
abbrev zt:=@PySem.W.mg_of
abbrev zu:=@List.getElem?_set_ne
abbrev zv:=@List.forIn_nil
abbrev zw:=@List.getElem?_of_mem
abbrev zx:=@PySem.isSubtype_type
abbrev zy:=@PySem.wpAny_FormattedValue_plain
abbrev zA:=@Nat.ne_of_gt
abbrev zB:=@List.drop_eq_getElem_cons
abbrev zC:=@List.all_cons
abbrev zD:=@List.any_cons
abbrev zE:=@PySem.wpAny_execs_nil
abbrev zF:=@Int.emod_nonneg
abbrev zG:=@List.range_succ
abbrev zH:=@PySem.slot_listiter_next
abbrev zI:=@PySem.Calls.Constant_str
abbrev zJ:=@List.filter_append
abbrev zK:=@Int.emod_lt_of_pos
abbrev zL:=@List.mem_replicate
abbrev zM:=@PySem.F.slot_zip_getattribute
abbrev zN:=@PySem.F.slot_list_index
abbrev zO:=@PySem.F.type_list_index
abbrev zP:=@if_true
abbrev zQ:=@PySem.F.args_zip_next_1
abbrev zR:=@List.pairwise_lt_range
abbrev zS:=@List.tail_cons
abbrev zT:=@List.length_range
abbrev zU:=@List.drop_of_length_le
abbrev zV:=@PySem.F.slot_str_zfill
abbrev zW:=@PySem.F.type_str_zfill
abbrev zX:=@Nat.succ.inj
abbrev zY:=@PySem.F.slot_dict_get
abbrev zZ:=@PySem.wpAny_formatField_int
abbrev j3:=@PyProof.Rows.boot_abs
abbrev j4:=@List.take_append_drop
abbrev j5:=@PyProof.Rows.callWith_builtin1
abbrev j6:=@PySem.typeIs_str
abbrev j7:=@PySem.call_meets
abbrev j8:=@Nat.not_lt
abbrev j9:=@PySem.F.entry_zip_next
abbrev ja:=@Nat.mod_lt
abbrev jb:=@PySem.F.slot_str_ascii_iterator_next
abbrev jc:=@List.getElem_mem
abbrev jd:=@List.filter_cons
abbrev je:=@Nat.min_eq_right
abbrev jf:=@List.drop_one
abbrev jg:=@List.getElem?_append
abbrev jh:=@PySem.F.args_tuple_iterator_next_1
abbrev ji:=@List.length_set
abbrev jj:=@Option.map_some
abbrev jk:=@Nat.le_antisymm
abbrev jl:=@PySem.codeAny_of_tree
abbrev jm:=@PySem.wpAny_loadPart'
abbrev jn:=@List.find?_cons
abbrev jo:=@List.take_left'
abbrev jp:=@List.foldl_cons
abbrev jq:=@Nat.add_le_add_left
abbrev jr:=@PySem.wpAny_isSubtype_exc
abbrev jt:=@ne_true_of_eq_false
abbrev ju:=@List.length_zipWith
abbrev jv:=@List.getElem_of_mem
abbrev jw:=@List.map_congr_left
abbrev jx:=@PySem.F.entry_tuple_iterator_next
abbrev jy:=@Int.gcd_comm
abbrev jz:=@PySem.wpAny_typeOf
abbrev jW:=@Nat.min_self
abbrev jX:=@PySem.F.slot_str_startswith
abbrev jY:=@PySem.F.type_str_startswith
abbrev jZ:=@List.map_map
abbrev Y00:=@PySem.F.slot_range_iterator_next
abbrev Y01:=@List.drop_zero
abbrev Y02:=@PySem.Calls.Name_function_global
abbrev Y03:=@PySem.SeqAt.EqAt.int_int
abbrev Y04:=@PySem.SeqAt.EqAt.str_str
abbrev Y05:=@PySem.F.called_enumerate
abbrev Y06:=@PySem.F.args_str_split_2
abbrev Y07:=@List.length_eraseIdx_of_lt
abbrev Y08:=@PySem.W.KIN.val_back
abbrev Y09:=@List.map_replicate
abbrev Y0a:=@Int.gcd_sub_mul_left_left
abbrev Y0b:=@List.findIdx?_eq_none_iff
abbrev Y0c:=@List.rel_of_pairwise_cons
abbrev Y0d:=@List.mem_or_eq_of_mem_set
abbrev Y0e:=@PySem.Obj.cls_mapFields
abbrev Y0f:=@Nat.lt_of_succ_lt
abbrev Y0g:=@List.any_eq_false
abbrev Y0h:=@PySem.slot_list_getitem
abbrev Y0i:=@PySem.SeqAt.RcAt.tuples
abbrev Y0j:=@Option.some.injEq
abbrev Y0k:=@PySem.F.entry_str_split
abbrev Y0l:=@Nat.lt_trichotomy
abbrev Y0m:=@PySem.W.hideAll_get
abbrev Y0n:=@List.getElem?_take_of_lt
abbrev Y0o:=@PySem.wpAny_getItem_list_slice
abbrev Y0p:=@PySem.wpAny_comprehension_free
abbrev Y0q:=@PySem.StrLaws.sliceIdx_none_hi
abbrev Y0r:=@List.length_erase_of_mem
abbrev Y0s:=@PySem.entryFor_of_tree
abbrev Y0t:=@Option.getD_none
abbrev Y0u:=@List.ext_getElem
abbrev Y0v:=@Option.bind_eq_some_iff
abbrev Y0w:=@PySem.wpAny_askSetting
abbrev Y0x:=@PySem.F.slot_str_split
abbrev Y0y:=@List.range'_succ
abbrev Y0z:=@PySem.F.plainAttrs_dict
abbrev Y0A:=@List.drop_length
abbrev Y0B:=@PySem.Str.append_assoc
abbrev Y0C:=@Nat.le_of_lt
abbrev Y0D:=@Int.mul_comm
abbrev Y0E:=@Int.fmod_nonneg_of_pos
abbrev Y0F:=@List.range_succ_eq_map
abbrev Y0G:=@List.any_map
abbrev Y0H:=@Array.getElem?_eq_none
abbrev Y0I:=@Option.map_eq_some_iff
abbrev Y0J:=@Nat.sub_self
abbrev Y0K:=@PyProof.Rows.boot_bool
abbrev Y0L:=@Nat.le_total
abbrev Y0M:=@List.of_mem_zip
abbrev Y0N:=@List.drop_left'
abbrev Y0O:=@Int.natAbs_dvd_natAbs
abbrev Y0P:=@PyProof.Rows.boot_any
abbrev Y0Q:=@PyProof.Rows.boot_all
abbrev Y0R:=@List.cons_lt_cons_iff
abbrev Y0S:=@PyProof.Rows.boot_set
abbrev Y0T:=@List.length_filter_le
abbrev Y0U:=@PySem.F.type_dict_get
abbrev Y0V:=@PySem.wpAny_throw
abbrev Y0W:=@PySem.wpAny_of_eq
abbrev Y0X:=@PySem.wpAny_letGo
abbrev Y0Y:=@Bool.and_false
abbrev Y0Z:=@PySem.entryFor_alias
abbrev Y10:=@List.getElem_zipWith
abbrev Y11:=@Nat.log2_lt
abbrev Y12:=@List.mem_erase_of_ne
abbrev Y13:=@Nat.add_mul
abbrev Y14:=@List.mem_of_mem_drop
abbrev Y15:=@List.idxOf_eq_length
abbrev Y16:=@List.take_succ_cons
abbrev Y17:=@List.map_eq_nil_iff
abbrev Y18:=@List.drop_succ_cons
abbrev Y19:=@List.foldl_toArray'
abbrev Y1a:=@PySem.wpAny_onRaise
abbrev Y1b:=@PySem.W.looks_subIn
abbrev Y1c:=@Bool.not_true
abbrev Y1d:=@PySem.wpAny_load
abbrev Y1e:=@Option.isSome_none
abbrev Y1f:=@Array.append_assoc
abbrev Y1g:=@Array.find?_toList
abbrev Y1h:=@Int.fmod_lt_of_pos
abbrev Y1i:=@List.getElem?_drop
abbrev Y1j:=@List.contains_cons
abbrev Y1k:=@Array.forIn_toList
abbrev Y1l:=@List.getElem_idxOf
abbrev Y1m:=@Nat.sub_zero
abbrev Y1n:=@List.all_map
abbrev Y1o:=@Nat.mul_comm
abbrev Y1p:=@Nat.add_comm
theorem Sb.sz0:0<=PySem.sizeLine:=by decide
theorem Sb.sz1:1<=PySem.sizeLine:=by decide
theorem Sb.sz2:2<=PySem.sizeLine:=by decide
theorem Sb.sz3:3<=PySem.sizeLine:=by decide
theorem Sb.sz4:4<=PySem.sizeLine:=by decide
theorem Sb.sz5:5<=PySem.sizeLine:=by decide
theorem Sb.sz6:6<=PySem.sizeLine:=by decide
theorem Sb.sz7:7<=PySem.sizeLine:=by decide
variable {A:PySem.Around}{C D b f fI it:PySem.Addr}{E:TC}{K:TQ}{N ps:TF}{an dd od:TN}{ct oc pm u:PySem.Value}{env:PySem.Env}{es:TK}{fd:PySem.FuncData}{g:TG}{h h':PySem.Heap}{its us:TH}{l sr:Bool}{mg:TB}{ns:TU}{o oe:PySem.Obj}{pins:TD}{pos:PySem.Pos}{prog:TR}{qual xn:PySem.Str}{s:PySem.Shared}{scope:PySem.Scope}{st:PySem.Stmt}{tg:PySem.Expr}
theorem U{p:Prop}(h:p:=by omega):p:=h
theorem J7{p:Prop}(h:p:=by decide):p:=h
theorem J8{p:Prop}(h:p:=by simp):p:=h
theorem J9{p:Prop}(h:p:=by decide +kernel):p:=h
theorem ZJ{p:Prop}(h:p:=by grind):p:=h
namespace Sb
open PySem PySem.Spec PyProof.Rows
def NoCtx (o:Obj):Prop:=∃ vs,o.data=.fields vs/\vs[2]?=some .none
def Qt (A:Around)(h:Heap):Prop:=A.handled=none \/ ∃ a o,A.handled=some (.ref a)/\h.get? a=some o/\NoCtx o
def QtP (A:Around)(pn:TD):Prop:=A.handled=none \/ ∃ p∈pn,A.handled=some (.ref p.1)/\NoCtx p.2
theorem QtP.at {pn:TD}(q:QtP A pn)(k:∀ p∈pn,h.get? p.1=some p.2):Qt A h :=
 q.imp id λ⟨p,hp,e,n⟩=>⟨p.1,p.2,e,k p hp,n⟩
theorem QtP.sub {pn pm:TD}(q:QtP A pn)(k:∀ p∈pn,p∈pm):QtP A pm:=q.imp id λ⟨p,hp,e,n⟩=>⟨p,k p hp,e,n⟩
theorem Qt.keeps (q:Qt A h)(k:∀ b o,h.get? b=some o->NoCtx o->h'.get? b=some o):Qt A h':=q.imp id λ⟨a,o,e,g,n⟩=>⟨a,o,e,k a o g n,n⟩
theorem Qt.but {a:Addr}{f:Obj->Obj}(q:Qt A h)(ha:h.get? a=some o)(n:¬ NoCtx o):Qt A (h.update a f) :=
 q.imp id λ⟨b,u,e,g,m⟩=>⟨b,u,e,(JV ..).extBut b u (λz=>n (by rw[z,ha] at g;cases g;exact m)) g,m⟩
theorem R4:entryFor table "proto.unchain"=some Builtin.«proto.unchain»:=Y0s (by kernel_rfl)
section
variable {prog:TR}{w:World}{A:Around}{E:TC}{s:Shared}
theorem Mt {α:Type}{e:Addr}{oe:Obj}{vs:Array Value}{Q:α->Shared->Prop}(hq:Qt A s.heap)(he:s.heap.get? e=some oe)(hd:oe.data=.fields vs)(hz:2<vs.size)(hn:∀ a,A.handled=some (.ref a)->a≠e)
  (h:∀ h':Heap,Heap.SameBut e s.heap h'->(∃ o',h'.get? e=some o'/\o'.cls=oe.cls)->E (.ref e) { s with heap:=h' }):wpAny (model prog w) A (raiseNew (.ref e):Sem α) Q E s:=by
 unfold raiseNew;refine YA (wpAny_handled ?_);rcases hq with hh | ⟨a,o,hh,ha,xs,hx,h2⟩
 ·rw[hh]
  first
   | exact Y0V (h s.heap (Heap.SameBut.refl ..) ⟨_,he,rfl⟩)
   | exact YA (YE (Y0V (h s.heap (Heap.SameBut.refl ..) ⟨_,he,rfl⟩)))
 have ne:=hn a hh;rw[hh];dsimp only;have nb:(Value.ref a != Value.ref e)=true:=by simpa using ne
 rw[JD nb];refine YA (XO (wpAny_runValue (GP R4 ?_)));show wpAny _ _ (field (.ref a) 2 >>= _) _ _ s;refine YA (XU ha hx (x:=.none) h2 ?_);refine YE ?_;simp only [updateField];refine YA (YA (Y1d he ?_));rw[hd];show wpAny _ _ (if 2<vs.size then _ else _) _ _ _;rw[JD hz];refine wpAny_update he ?_;refine Y0V (h _ (JV ..) ⟨_,JN _ he ?_,?_⟩)
 ·exact zn (qz hd _)
 exact Y0e ..
theorem U5 {α:Type}{Q:α->Shared->Prop}(hq:Qt A s.heap)
  (h:∀ (h':Heap) (e:Addr),(∀ b o,s.heap.get? b=some o->h'.get? b=some o)->(∃ o,h'.get? e=some o/\o.cls=.type "StopIteration")->E (.ref e) { s with heap:=h' }) :
  wpAny (model prog w) A (newExc (.type "StopIteration") [] >>= λe=>(raiseNew e:Sem α)) Q E s:=by
 refine YA ?_;simp only [newExc,newTuple];refine YA (GJ ?_ (by size_fits));refine YA (m:=firstArgMember _ _) (Y0W (a:=Value.none) (by first | rfl | (simp only [firstArgMember];rfl)) ?_);refine GJ ?_ (by size_fits);have sz:∀ (o:Obj),(s.heap.push o).objs.size=s.heap.objs.size+1:=λo=>GM ..;refine Mt (hq.keeps λb o hb _=>YD _ (YD _ hb)) (YL _ rfl) rfl (by simp[ownMembersOf]) (λa ha z=>?_) λh' sb ho=>?_
 ·rcases hq with q | ⟨b,o,q,hb,_⟩
  ·rw[q] at ha;cases ha
  rw[q] at ha
  cases ha;have:=YJ hb;rw[z,sz] at this;exact XX _ (Y0f this)
 refine h h' _ (λb o hb=>?_) ho;refine sb.extBut b o (λz=>?_) (YD _ (YD _ hb));have:=YJ hb;rw[z,sz] at this;exact XX _ (Y0f this)
theorem Ty {l:Addr}{i:Nat}{items}{Q:Option Value->Shared->Prop}(hq:Qt A s.heap)
  (hit:s.heap.IsListIter it l i) (hl:s.heap.IsList l items) (hx:items[i]?=none)
  (hQ:∀ h',Heap.ExtBut it s.heap h'->Q none { s with heap:=h' }):wpAny (model prog w) A (pyNext (.ref it)) Q E s:=by
 obtain⟨o,ho,hc,hd⟩:=id hit;obtain⟨ol,hol,_,nl,hdl⟩:=hl;unfold pyNext;refine YA (GR (JE (name:=Str.ofString "__next__") hit.typeIs zH
  (JI zH hit.typeIs entry_listiter_next ?_ (args_listiter_next _))))
 show wpAny _ _ (field (.ref it) 0 >>= _) _ _ s;refine YA (XU ho hd (x:=.ref l) rfl ?_);show wpAny _ _ (if (Value.ref l == Value.none)=true then _ else _) _ _ s;rw[XQ (show ¬ ((Value.ref l == Value.none)=true) from XB)];show wpAny _ _ (field (.ref it) 1 >>= _) _ _ s;refine YA (XU ho hd (x:=.int i 0) rfl ?_);show wpAny _ _ (seqItems? (.ref l) >>= _) _ _ s;refine YA (GF hol hdl ?_);simp only [GW,hx];refine YA (GX (YA (GY ho hd J8 ?_)));refine U5 (hq:=(hq.but ho λn=>?_)) λh' e k he=>?_
 ·obtain⟨vs,e1,e2⟩:=n;rw[hd] at e1
  cases e1;simp at e2
 obtain⟨oe,h1,h2⟩:=he;refine YA (GU (T:="StopIteration") (b:=true) ⟨_,h1,h2⟩ qV ?_);exact YE (hQ _ λb o hb e=>k b o ((JV ..).extBut b o hb e))
theorem Ug {t:Addr}{i:Nat}{items}{Q:Option Value->Shared->Prop}(hq:Qt A s.heap)
  (hit:s.heap.IsTupleIter it t i) (ht:s.heap.IsTuple t items) (hx:items[i]?=none)
  (hQ:∀ h',Heap.ExtBut it s.heap h'->Q none { s with heap:=h' }):wpAny (model prog w) A (pyNext (.ref it)) Q E s:=by
 obtain⟨o,ho,hc,hd⟩:=id hit;obtain⟨ol,hol,_,nl,hdl⟩:=ht;unfold pyNext;refine YA (GR (JE (name:=Str.ofString "__next__") hit.typeIs qB
  (JI qB hit.typeIs jx ?_ (jh _))))
 show wpAny _ _ (field (.ref it) 0 >>= _) _ _ s;refine YA (XU ho hd (x:=.ref t) rfl ?_);show wpAny _ _ (if (Value.ref t == Value.none)=true then _ else _) _ _ s;rw[XQ (show ¬ ((Value.ref t == Value.none)=true) from XB)];show wpAny _ _ (field (.ref it) 1 >>= _) _ _ s;refine YA (XU ho hd (x:=.int i 0) rfl ?_);show wpAny _ _ (seqItems? (.ref t) >>= _) _ _ s;refine YA (GF hol hdl ?_);simp only [GW,hx];refine YA (GX (YA (GY ho hd J8 ?_)));refine U5 (hq:=(hq.but ho λn=>?_)) λh' e k he=>?_
 ·obtain⟨vs,e1,e2⟩:=n;rw[hd] at e1
  cases e1;simp at e2
 obtain⟨oe,h1,h2⟩:=he;refine YA (GU (T:="StopIteration") (b:=true) ⟨_,h1,h2⟩ qV ?_);exact YE (hQ _ λb o hb e=>k b o ((JV ..).extBut b o hb e))
theorem Pw {x left step:Int}{Q:Option Value->Shared->Prop}(hq:Qt A s.heap)(hit:IsRangeIter s.heap it x left step)(hleft:left<=0)
  (hQ:∀ h',Heap.ExtBut it s.heap h'->Q none { s with heap:=h' }):wpAny (model prog w) A (pyNext (.ref it)) Q E s:=by
 have hT:s.TypeIs (.ref it) "range_iterator":=⟨_,hit,rfl⟩;unfold pyNext;refine YA (GR (JE (name:=Str.ofString "__next__") hT Y00
  (JI Y00 hT F.entry_range_iterator_next ?_ (F.args_range_iterator_next_1 _))))
 show wpAny _ _ (field (.ref it) 0 >>= _) _ _ s;refine YA (XU hit rfl (x:=rawInt x) rfl ?_);show wpAny _ _ (field (.ref it) 1 >>= _) _ _ s;refine YA (XU hit rfl (x:=rawInt left) rfl ?_);show wpAny _ _ (field (.ref it) 2 >>= _) _ _ s;refine YA (XU hit rfl (x:=rawInt step) rfl ?_);show wpAny _ _ (if left<=0 then _ else _) _ _ s;rw[JD hleft];refine YA (GX ?_);refine YA ?_;refine U5 (hq:=hq) λh' e k he=>?_;obtain⟨oe,h1,h2⟩:=he;refine YA (GU (T:="StopIteration") (b:=true) ⟨_,h1,h2⟩ qV ?_);exact YE (hQ _ λb o hb e=>k b o e)
theorem Sx {t:Addr}{items:Array Value}{Q:List Value->Shared->Prop}(hq:Qt A s.heap)(ht:IsTup s.heap t items)
  (hQ:∀ h',Heap.ExtBut s.heap.objs.size s.heap h'->Q items.toList { s with heap:=h' }):wpAny (model prog w) A (unpackItems (.ref t) items.size none) Q E s:=by
 have hlt:t≠s.heap.objs.size:=by obtain⟨o,ho,_⟩:=ht;exact XM (YJ ho)
 unfold unpackItems;refine YA ?_;unfold notIterableAtAll;refine YA (wpAny_specialOf ht.typeIs slot_tuple_iter.lookup ?_);refine YE ?_;simp only [GE,zi];refine YA (XO (iter_tuple ht ?_));refine YA (XO (draw_tuple hlt items.size 0 _ _ ⟨_,YL _ rfl,rfl,rfl⟩ (ht.push _) U λh₁ hit₁ hs₁=>?_));have hall:List.take items.size (List.drop 0 items.toList)=items.toList:=by
  rw[Y01];exact JF J8
 rw[hall];rw[XQ J8];have ht₁:IsTup h₁ t items:=(ht.push _).extBut hs₁.extBut hlt;have kp:∀ b o,s.heap.get? b=some o->h₁.get? b=some o:=λb o e=>hs₁.extBut b o (λz=>by have:=YJ e;rw[z] at this;exact XX _ this) (YD _ e);refine YA (XO (Ug (hq.keeps λb o e _=>kp b o e) hit₁ ht₁ J8 λh₂ he₂=>?_));simp only [Y1e,GE,zi];refine YE (hQ h₂ λb o hb e=>he₂ b o hb (kp b o e))
theorem Sw {elts:TK}{x1}{pos:Pos}{t:Addr}{items:Array Value}{Q:Unit->Shared->Prop}(hq:Qt A s.heap)(ht:IsTup s.heap t items)
  (hn:(assignEach elts env).length=items.size) (hstar:(assignEach elts env).findIdx? (·.1)=none)
  (h:∀ h',Heap.ExtBut s.heap.objs.size s.heap h'->wpAny (model prog w) A (assignInOrder ((assignEach elts env).map (·.2)) items.toList) Q E { s with heap:=h' }) :
  wpAny (model prog w) A (assign (.Tuple elts x1 pos) env (.ref t)) Q E s:=by
 rw[assign_Tuple];refine YA (qM ?_);unfold unpack;rw[hn,hstar];exact YA (XO (Sx hq ht h))
end
theorem Walks.listQ {w:World}{qs:TD}(hq:QtP A qs)(I ax:Addr)(hne:ax≠I)(hqs:∀ p∈qs,p.1≠I)(items:Array Value) :
  Walks prog w A I (I::ax::qs.map Prod.fst) [I] items.size (λi v=>items[i]?=some v) (λi h=>h.IsListIter I ax i/\h.IsList ax items/\∀ p∈qs,h.get? p.1=some p.2) where
 sub:=λb hb=>by simp at hb;simp[hb]
 frame:=λ_ _ _ st hk=>⟨st.1.at λo e=>hk I J8 o e,st.2.1.at λo e=>hk ax J8 o e,λp hp=>hk p.1 (by simp;exact .inr (.inr ⟨p.2,hp⟩)) p.2 (st.2.2 p hp)⟩
 item:=λi s Q E hi st hQ=>by
  refine wpAny_pyNext_list_item st.1 st.2.1 (x:=items[i]) (by simp[hi]) λh' hit' hs'=>?_;exact hQ _ h' s.toks (by simp[hi]) ⟨hit',st.2.1.extBut hs'.extBut hne,λp hp=>hs'.extBut p.1 p.2 (hqs p hp) (st.2.2 p hp)⟩ λb o hb e=>hs'.extBut b o (λh=>hb (by simp[h])) e
 done:=λs Q E st hQ=>Ty (hq.at st.2.2) st.1 st.2.1 J8 λh' he'=>hQ h' s.toks λb o hb e=>he' b o (λh=>hb (by simp[h])) e
 self:=λ_ _ _ _ st hQ=>wpAny_pyIter_listiter st.1 hQ
theorem Ms {prog:TR}{w:World}{A:Around}{I:Addr}{a c:Int}{n:Nat}(i:Nat)(s:Shared)(Q:Option Value->Shared->Prop)(E:TC)(hi:i<n)(st:IsRangeIter s.heap I (a+(i:Nat)*c) ((n:Int) - (i:Nat)) c)
  (hQ:∀ v h' tk,(∃ t,v=Value.int (a+i*c) t)->IsRangeIter h' I (a+((i+1:Nat):Int)*c) ((n:Int) - ((i+1:Nat):Int)) c->(∀ b o,b ∉ [I]->s.heap.get? b=some o->h'.get? b=some o)->Q (some v) { s with heap:=h',toks:=tk }) :
  wpAny (model prog w) A (pyNext (.ref I)) Q E s:=by
 refine wpAny_pyNext_range_item st U λh' hit' hs'=>?_;refine hQ _ h' _ ⟨_,rfl⟩ ?_ λb o hb e=>hs'.extBut b o (λh=>hb (by simp[h])) e;have e1:a+((i+1:Nat):Int)*c=a+(i:Int)*c+c:=by push_cast;rw[Int.add_mul,Int.one_mul,Int.add_assoc]
 have e2:(n:Int) - ((i+1:Nat):Int)=(n:Int) - (i:Int) - 1:=by push_cast;omega
 rw[e1,e2];exact hit'
def QtE (A:Around)(h:Heap)(H:Addr->Option α)(fs:TJ):Prop:=A.handled=none \/ ∃ a o,A.handled=some (.ref a)/\h.get? a=some o/\NoCtx o/\H a=none/\a ∉ fs/\∀ v,o.data≠.cell v
def qpin (A:Around)(h:Heap):List (Addr × Obj):=match A.handled with
 | some (.ref a)=>match h.get? a with
  | some o=>[(a,o)]
  | none=>[]
 | _=>[]
theorem QtE.pin {H:Addr->Option α}{fs:TJ}(q:QtE A h H fs):QtP A (qpin A h):=by
 rcases q with q | ⟨a,o,e,g,n,_⟩
 ·exact .inl q
 refine .inr ⟨(a,o),?_,e,n⟩;unfold qpin;rw[e];dsimp only;rw[g];simp
theorem QtE.mem {H:Addr->Option α}{fs:TJ}(q:QtE A h H fs)(p:Addr × Obj)(hp:p∈qpin A h):h.get? p.1=some p.2/\H p.1=none/\p.1 ∉ fs/\∀ v,p.2.data≠.cell v:=by
 rcases q with q | ⟨a,o,e,g,n,h1,h2,h3⟩
 ·unfold qpin at hp;rw[q] at hp
  cases hp
 unfold qpin at hp;rw[e] at hp;dsimp only at hp;rw[g] at hp;obtain rfl:p=(a,o):=by simpa using hp
 exact⟨g,h1,h2,h3⟩
section
variable {prog:TR}{w:World}{A:Around}{E:TC}{s:Shared}
theorem Vv {l:Addr}{i:Nat}{items}{Q:TC}(hq:Qt A s.heap)
  (hit:s.heap.IsListIter it l i) (hl:s.heap.IsList l items) (hx:items[i]?=none)
  (hE:∀ h' e,Heap.ExtBut it s.heap h'->(∃ o,h'.get? e=some o/\o.cls=.type "StopIteration")->E (.ref e) { s with heap:=h' }) :
  wpAny (model prog w) A (Builtin.SmallTypes.nextOf (.ref it)) Q E s:=by
 obtain⟨o,ho,hc,hd⟩:=id hit;obtain⟨ol,hol,_,nl,hdl⟩:=hl;unfold Builtin.SmallTypes.nextOf;refine YA (JE (name:=Str.ofString "__next__") hit.typeIs zH
  (JI zH hit.typeIs entry_listiter_next ?_ (args_listiter_next _)))
 show wpAny _ _ (field (.ref it) 0 >>= _) _ _ s;refine YA (XU ho hd (x:=.ref l) rfl ?_);show wpAny _ _ (if (Value.ref l == Value.none)=true then _ else _) _ _ s;rw[XQ (show ¬ ((Value.ref l == Value.none)=true) from XB)];show wpAny _ _ (field (.ref it) 1 >>= _) _ _ s;refine YA (XU ho hd (x:=.int i 0) rfl ?_);show wpAny _ _ (seqItems? (.ref l) >>= _) _ _ s;refine YA (GF hol hdl ?_);simp only [GW,hx];refine YA (GX (YA (GY ho hd J8 ?_)));refine U5 (hq:=(hq.but ho λn=>?_)) λh' e k he=>?_
 ·obtain⟨vs,e1,e2⟩:=n;rw[hd] at e1
  cases e1;simp at e2
 exact hE _ _ (λb o hb e=>k b o ((JV ..).extBut b o hb e)) he
end
theorem Draws.listQ {w:World}{qs:TD}(hq:QtP A qs)(it l:Addr)(hne:l≠it)(hqs:∀ p∈qs,p.1≠it)(items:Array Value) :
  Draws prog w A it (it::l::qs.map Prod.fst) items.size (λi v=>items[i]?=some v) (λi h=>h.IsListIter it l i/\h.IsList l items/\∀ p∈qs,h.get? p.1=some p.2) where
 live:=λ_ _ st=>let ⟨o,ho,_⟩:=st.1;⟨o,ho⟩
 frame:=λ_ _ _ st hk=>⟨st.1.at λo e=>hk it J8 o e,st.2.1.at λo e=>hk l J8 o e,λp hp=>hk p.1 (by simp;exact .inr (.inr ⟨p.2,hp⟩)) p.2 (st.2.2 p hp)⟩
 item:=λi s Q E hi st hQ=>by
  refine wpAny_nextOf_list_item st.1 st.2.1 (x:=items[i]) (by simp[hi]) λh' hit' hs'=>?_;exact hQ _ h' s.toks (by simp[hi]) ⟨hit',st.2.1.extBut hs'.extBut hne,λp hp=>hs'.extBut p.1 p.2 (hqs p hp) (st.2.2 p hp)⟩ hs'
 done:=λs Q E st hE=>Vv (hq.at st.2.2) st.1 st.2.1 J8 hE
end Sb
namespace L2
open PySem PySem.Spec PyProof.Rows
abbrev Key:=Sum Int Str
def keyIs:Key->Value->Bool
 | .inl k,v=>Value.isInt k v
 | .inr x,v=>Value.isStrOf x v
def keyH (w:World):Key->Int
 | .inl k=>hashInt k
 | .inr x=>hashStr w x
theorem Y8:∀ {k:Key} {v:Value},keyIs k v=true->(∃ i t,k=Sum.inl i/\v=Value.int i t) \/ (∃ x t,k=Sum.inr x/\v=Value.str x t)
 | .inl i,v,h=>by
  obtain⟨t,e⟩:=Value.isInt_shape (k:=i) (v:=v) h;exact .inl ⟨i,t,rfl,e⟩
 | .inr x,v,h=>by
  obtain⟨t,e⟩:=Value.isStrOf_shape (x:=x) (v:=v) h;exact .inr ⟨x,t,rfl,e⟩
theorem G8 (i:Int)(t:Tok):keyIs (.inl i) (.int i t)=true:=by simp[keyIs,Value.isInt]
theorem Jz (x:Str)(t:Tok):keyIs (.inr x) (.str x t)=true:=by simp[keyIs,Value.isStrOf]
theorem Z1z (a b:Int):decide ((Sum.inl a:Key)=Sum.inl b)=(a == b):=by
 by_cases e:a=b
 ·subst e;simp
 have h:¬ (Sum.inl a:Key)=Sum.inl b:=λq=>e (Sum.inl.inj q);rw[XI h];exact (JO.mpr e).symm
theorem Z1w (a b:Str):decide ((Sum.inr a:Key)=Sum.inr b)=decide (a=b):=by
 by_cases e:a=b
 ·subst e;simp
 have h:¬ (Sum.inr a:Key)=Sum.inr b:=λq=>e (Sum.inr.inj q);rw[XI h,XI e]
theorem Z1y (a:Int)(b:Str):decide ((Sum.inl a:Key)=Sum.inr b)=false:=XI (λq=>nomatch q)
theorem Z1x (a:Str)(b:Int):decide ((Sum.inr a:Key)=Sum.inl b)=false:=XI (λq=>nomatch q)
def mixKind (prog:TR)(w:World):PySem.KeyKind prog w Key where
 is:=keyIs
 hash:=keyH w
 inj:=λv a b ha hb=>by
  rcases Y8 ha with ⟨i,t,rfl,rfl⟩ | ⟨x,t,rfl,rfl⟩
  ·rcases Y8 hb with ⟨j,u,rfl,e⟩ | ⟨y,u,rfl,e⟩
   ·injection e with e1 _;rw[e1]
   exact nomatch e
  rcases Y8 hb with ⟨j,u,rfl,e⟩ | ⟨y,u,rfl,e⟩
  ·exact nomatch e
  injection e with e1 _;rw[e1]
 byValue:=λk v h=>by
  rcases Y8 h with ⟨i,t,rfl,rfl⟩ | ⟨x,t,rfl,rfl⟩ <;> rfl
 pyHash:=λhv h=>by
  rcases Y8 hv with ⟨i,t,rfl,rfl⟩ | ⟨x,t,rfl,rfl⟩
  ·exact wpAny_pyHash_int h
  exact wpAny_pyHash_str h
 eqBool:=λhu hv h=>by
  rcases Y8 hu with ⟨i,t,rfl,rfl⟩ | ⟨x,t,rfl,rfl⟩
  ·rcases Y8 hv with ⟨j,u,rfl,rfl⟩ | ⟨y,u,rfl,rfl⟩
   ·rw[Z1z] at h;exact wpAny_eqBool_int h
   rw[Z1y] at h;exact SeqAt.EqAt.int_str i t y u _ _ _ _ h
  rcases Y8 hv with ⟨j,u,rfl,rfl⟩ | ⟨y,u,rfl,rfl⟩
  ·rw[Z1x] at h;exact SeqAt.EqAt.str_int x t j u _ _ _ _ h
  rw[Z1w] at h;exact wpAny_eqBool_str h
 «strs»:=λk x t v h=>by
  rcases Y8 h with ⟨i,u,rfl,e⟩ | ⟨y,u,rfl,e⟩
  ·exact nomatch e
  injection e with e1 _
  subst e1
  cases v <;> rfl
theorem Nf (prog:TR)(w:World)(i:Int)(t:Tok):(mixKind prog w).is (.inl i) (.int i t)=true:=G8 i t
theorem Nd (prog:TR)(w:World)(x:Str)(t:Tok):(mixKind prog w).is (.inr x) (.str x t)=true:=Jz x t
inductive V where
 | non | bl (b:Bool) | int (i:Int) | str (x:Str) | byt (b:Array UInt8) | flt (b:UInt64) | ref (a:Addr) | ty (n:String)
 deriving DecidableEq
abbrev _root_.TV:=List V
def RelV:V->Value->Prop
 | .non,u=>u=Value.none
 | .bl b,u=>u=Value.bool b
 | .int i,u=>∃ t,u=Value.int i t
 | .str x,u=>∃ t,u=Value.str x t
 | .byt b,u=>∃ t,u=Value.bytes b t
 | .flt b,u=>∃ t,u=Value.float b t
 | .ref a,u=>u=Value.ref a
 | .ty n,u=>u=Value.type n
abbrev Vals:List V->List Value->Prop:=Paired RelV
theorem Vals.length {xs:TV}{us:TH}(r:Vals xs us):xs.length=us.length:=qO r
theorem Vals.get:∀ {xs:TV} {us:TH} {i:Nat} {x:V},Vals xs us->xs[i]?=some x->∃ u,us[i]?=some u/\RelV x u
 | _,_,_,_,.nil,e=>by simp at e
 | _,_,0,_,.cons r _,e=>by simp at e;subst e;exact⟨_,rfl,r⟩
 | _,_,i+1,x,.cons _ t,e=>by
  obtain⟨u,h1,h2⟩:=Vals.get (i:=i) (x:=x) t (by simpa using e);exact⟨u,by simpa using h1,h2⟩
theorem Vals.set {x:V}{u:Value}(r:RelV x u):∀ {xs:TV} {us:TH} (i:Nat),Vals xs us->Vals (xs.set i x) (us.set i u)
 | _,_,_,.nil=>.nil
 | _,_,0,.cons _ t=>.cons r t
 | _,_,i+1,.cons q t=>.cons q (Vals.set r i t)
theorem Vals.append:∀ {xs ys:TV} {us ws:TH},Vals xs us->Vals ys ws->Vals (xs++ys) (us++ws)
 | _,_,_,_,.nil,s=>s
 | _,_,_,_,.cons r t,s=>.cons r (Vals.append t s)
theorem Vals.take:∀ {xs:TV} {us:TH} (n:Nat),Vals xs us->Vals (xs.take n) (us.take n)
 | _,_,0,_=>.nil
 | _,_,_+1,.nil=>.nil
 | _,_,n+1,.cons r t=>.cons r (Vals.take n t)
theorem Vals.drop:∀ {xs:TV} {us:TH} (n:Nat),Vals xs us->Vals (xs.drop n) (us.drop n)
 | _,_,0,r=>r
 | _,_,_+1,.nil=>.nil
 | _,_,n+1,.cons _ t=>Vals.drop n t
def RelO:Option V->Option Value->Prop
 | some v,some u=>RelV v u
 | none,none=>True
 | _,_=>False
def KV {κ:Type}:List (κ × V)->List (κ × Value)->Prop:=Paired λ(p:κ × V) (q:κ × Value)=>p.1=q.1/\RelV p.2 q.2
def kV:Key->V
 | .inl i=>.int i
 | .inr x=>.str x
inductive HO where
 | lst (xs:TV)
 | tup (xs:TV)
 | dK (kvs:List (Key × V)) | dT (kvs:List (List Key × V))
 | set (S:Int->Bool) (n:Nat)
 | ins (C dx:Addr) (fs:List (Str × V))
 | own (x:Addr)
 | xd (fs:List (Str × V))
 | met (f x:Addr)
 | rng (lo hi:Int)
 | frz (o:Obj) (u:HO)
 | tbl (ps:Array Value)
 | ext (φ:Heap->Prop)
abbrev Hp:=Addr->Option HO
def upd (H:Hp)(a:Addr)(o:HO):Hp:=λb=>if b=a then some o else H b
theorem Z5 {H:Hp}{a:Addr}{o:HO}:upd H a o a=some o:=by unfold upd;rw[JD rfl]
theorem Zj {H:Hp}{a:Addr}{o:HO}(h:b≠a):upd H a o b=H b:=by unfold upd;rw[XQ h]
theorem Z0r {H:Hp}{a:Addr}{o u:HO}(h:H a=some o)(h':H b=some u)(d:o≠u):a≠b:=by
 intro e;subst e;rw[h] at h';exact d (XH h')
theorem Zd {H:Hp}{a:Addr}{o:HO}(h:H a=some o)(h':H b=none):a≠b:=by
 intro e;subst e;rw[h] at h';cases h'
section
variable (P:TR)(w:World)
def ObjOk (H:Hp)(h:Heap)(a:Addr):HO->Prop
 | .lst xs=>xs.length<=sizeLine/\∃ (its:TH) (n:Nat),Vals xs its/\h.get? a=some { cls:=.type "list",data:=.seq its.toArray n }
 | .tup xs=>xs.length<=sizeLine/\∃ its:List Value,Vals xs its/\IsTup h a its.toArray
 | .dK kvs=>kvs.length<=sizeLine/\(a == sysModules)=false/\∃ vs,KV kvs vs/\h.DictOf (mixKind P w) a vs
 | .dT kvs=>kvs.length<=sizeLine/\(a == sysModules)=false/\∃ xs:List (List Key × Addr × Value),
   Paired (λ(p:List Key × V) (q:List Key × Addr × Value)=>p.1=q.1/\H q.2.1=some (.tup (p.1.map kV))/\RelV p.2 q.2.2) kvs xs ∧
   ∃ o es ep,h.get? a=some o/\o.ExactDict/\o.data=.dict es ep/\es.toList=xs.map (entryOfKey (tupleKind (mixKind P w)))/\(xs.map (·.1)).Nodup
 | .set S n=>h.SetOf (intKind P w) a S n
 | .ins C dx fs=>H dx=some (.own a)/\fs.length<=1000/\dx≠a/\h.get? a=some (W.instObj C dx) ∧
   ∃ mA,h.Ns1 dx mA/\(∀ f,RelO (fs.lookup f) (mA f))/\PySem.Within mA (fs.map (·.1))
 | .own _=>∃ o,h.get? a=some o
 | .xd fs=>∃ mA,h.Ns1 a mA/\∀ f,RelO (fs.lookup f) (mA f)
 | .rng lo hi=>∃ t u v,h.get? a=some { cls:=.type "range",data:=.fields #[.int lo t,.int hi u,.int 1 v] }
 | .frz o u=>h.get? a=some o/\ObjOk H h a u
 | .tbl ps=>h.get? a=some { cls:=.none,data:=.fields ps }
 | .met f x=>h.get? a=some (W.methodObj (.ref f) (.ref x))
 | .ext φ=>φ h/\(∃ o,h.get? a=some o)/\∀ h1 h2:Heap,φ h1->(∀ o,h1.get? a=some o->h2.get? a=some o)->φ h2
def HOk (H:Hp)(h:Heap):Prop:=∀ a o,H a=some o->ObjOk P w H h a o
end
section
variable {P:TR}{w:World}{H H':Hp}{h h':Heap}{a:Addr}{o:HO}
theorem ObjOk.lt (x:ObjOk P w H h a o):a<h.objs.size:=by
 cases o with
 | lst xs=>obtain⟨_,_,_,_,e⟩:=x;exact YJ e
 | tup xs=>obtain⟨_,_,_,p⟩:=x;exact p.lt
 | dK kvs=>obtain⟨_,_,_,_,o,_,_,e,_⟩:=x;exact YJ e
 | dT kvs=>obtain⟨_,_,_,_,o,_,_,e,_⟩:=x;exact YJ e
 | set S n=>obtain⟨o,_,_,_,e,_⟩:=x;exact YJ e
 | ins C dx fs=>obtain⟨_,_,_,e,_⟩:=x;exact YJ e
 | own y=>obtain⟨_,e⟩:=x;exact YJ e
 | xd fs=>obtain⟨_,⟨_,_,_,e,_⟩,_⟩:=x;exact YJ e
 | rng lo hi=>obtain⟨_,_,_,e⟩:=x;exact YJ e
 | frz ob u=>obtain⟨e,_⟩:=x;exact YJ e
 | tbl ps=>exact YJ (show h.get? a=some _ from x)
 | met f y=>exact YJ (show h.get? a=some _ from x)
 | ext φ=>obtain⟨_,⟨_,e⟩,_⟩:=x;exact YJ e
theorem Paired.mapP {α β:Type}{F G:α->β->Prop}:∀ {l₁:List α} {l₂:List β},Paired F l₁ l₂->(∀ a b,F a b->G a b)->Paired G l₁ l₂
 | _,_,.nil,_=>.nil
 | _,_,.cons r t,f=>.cons (f _ _ r) (Paired.mapP t f)
theorem ObjOk.stay (x:ObjOk P w H h a o)(k:∀ b u,(b=a \/ H b=some (.own a))->h.get? b=some u->h'.get? b=some u)
  (ho:∀ b,H b=some (.own a)->H' b=some (.own a)) (ht:∀ b xs,H b=some (.tup xs)->H' b=some (.tup xs)):ObjOk P w H' h' a o:=by
 induction o with
 | lst xs=>obtain⟨z,its,n,r,e⟩:=x;exact⟨z,its,n,r,k _ _ (.inl rfl) e⟩
 | tup xs=>obtain⟨z,its,r,ob,e,c⟩:=x;exact⟨z,its,r,ob,k _ _ (.inl rfl) e,c⟩
 | dK kvs=>obtain⟨z,y,vs,r,ob,es,ep,e,c⟩:=x;exact⟨z,y,vs,r,ob,es,ep,k _ _ (.inl rfl) e,c⟩
 | dT kvs =>
  obtain⟨z,y,xs,r,ob,es,ep,e,c⟩:=x;exact⟨z,y,xs,Paired.mapP r λp q z=>⟨z.1,ht _ _ z.2.1,z.2.2⟩,ob,es,ep,k _ _ (.inl rfl) e,c⟩
 | set S n=>obtain⟨ob,es,ep,t,e,c⟩:=x;exact⟨ob,es,ep,t,k _ _ (.inl rfl) e,c⟩
 | ins C dx fs =>
  obtain⟨d,z,ne,e,mA,⟨od,es,ep,e2,c⟩,r⟩:=x;exact⟨ho _ d,z,ne,k _ _ (.inl rfl) e,mA,⟨od,es,ep,k _ _ (.inr d) e2,c⟩,r⟩
 | own y=>obtain⟨ob,e⟩:=x;exact⟨ob,k _ _ (.inl rfl) e⟩
 | xd fs=>obtain⟨mA,⟨od,es,ep,e,c⟩,r⟩:=x;exact⟨mA,⟨od,es,ep,k _ _ (.inl rfl) e,c⟩,r⟩
 | rng lo hi=>obtain⟨t,u,v,e⟩:=x;exact⟨t,u,v,k _ _ (.inl rfl) e⟩
 | frz ob u ih=>obtain⟨e,q⟩:=x;exact⟨k _ _ (.inl rfl) e,ih q⟩
 | tbl ps =>
  have e:h.get? a=some { cls:=.none,data:=.fields ps }:=x;show h'.get? a=some { cls:=.none,data:=.fields ps };exact k a _ (.inl rfl) e
 | met f y =>
  have e:h.get? a=some (W.methodObj (.ref f) (.ref y)):=x;show h'.get? a=some (W.methodObj (.ref f) (.ref y));exact k a _ (.inl rfl) e
 | ext φ=>obtain⟨p,⟨o,e⟩,st⟩:=x;exact⟨st _ _ p λo q=>k _ _ (.inl rfl) q,⟨o,k _ _ (.inl rfl) e⟩,st⟩
theorem HOk.lt (x:HOk P w H h)(e:H a=some o):a<h.objs.size:=(x a o e).lt
theorem HOk.fresh (x:HOk P w H h)(e:h.objs.size<=a):H a=none:=by
 cases q:H a with
 | none=>rfl
 | some u=>exact absurd (YU (x.lt q) e) (XX _)
theorem HOk.kept (x:HOk P w H h)(k:∀ b u,h.get? b=some u->h'.get? b=some u):HOk P w H h':=λa o e =>
 (x a o e).stay (λb u _ q=>k b u q) (λ_ q=>q) λ_ _ q=>q
theorem HOk.laid (x:HOk P w H h)(k:∀ b u,h.get? b=some u->h'.get? b=some u)(hp:h.objs.size<=a)(new:ObjOk P w (upd H a o) h' a o):HOk P w (upd H a o) h':=λb u e=>by
 have hn:=x.fresh hp;by_cases hb:b=a
 ·subst hb;rw[Z5] at e;cases e;exact new
 rw[Zj hb] at e;exact (x b u e).stay (λc v _ q=>k c v q) (λc q=>by rw[Zj (Zd q hn)];exact q) λc xs q=>by rw[Zj (Zd q hn)];exact q
end
def Rd (H:Hp)(a:Addr)(u:HO):Prop:=H a=some u \/ ∃ o,H a=some (.frz o u)
theorem Rd.ok {P:TR}{w:World}{H:Hp}{a:Addr}{u:HO}(r:Rd H a u)(x:HOk P w H h):ObjOk P w H h a u:=by
 rcases r with r | ⟨o,r⟩
 ·exact x a u r
 obtain⟨_,q⟩:=x a _ r;exact q
def Mut:Option HO->Prop
 | some (.lst _)=>True
 | some (.dK _)=>True
 | some (.dT _)=>True
 | some (.set _ _)=>True
 | some (.ins _ _ _)=>True
 | some (.ext _)=>True
 | _=>False
section
variable {P:TR}{w:World}{H:Hp}{h h':Heap}{x e:Addr}{o':HO}
theorem HOk.write (ok:HOk P w H h)(mu:Mut (H x))(he:e=x \/ H e=some (.own x))(k:∀ b u,b≠e->h.get? b=some u->h'.get? b=some u)(heo:∃ u,h'.get? e=some u)
  (new:ObjOk P w (upd H x o') h' x o'):HOk P w (upd H x o') h':=λb u q=>by
 have nown:∀ c y,H c=some (.own y)->c≠x:=λc y r z=>by subst z;rw[r] at mu;exact mu
 have ntup:∀ c xs,H c=some (.tup xs)->c≠x:=λc xs r z=>by subst z;rw[r] at mu;exact mu
 by_cases hb:b=x
 ·subst hb;rw[Z5] at q;cases q;exact new
 rw[Zj hb] at q;by_cases hbe:b=e
 ·have q':H b=some (.own x):=by
   rcases he with z | z
   ·exact absurd (hbe.trans z) hb
   rw[hbe];exact z
  rw[q] at q';cases q';obtain⟨v,hv⟩:=heo;exact⟨v,by rw[hbe];exact hv⟩
 refine (ok b u q).stay (λc v hc r=>k c v ?_ r) (λc r=>by rw[Zj (nown c b r)];exact r) λc xs r=>by rw[Zj (ntup c xs r)];exact r
 rcases hc with rfl | hc
 ·exact hbe
 rintro rfl;rcases he with z | z
 ·exact nown c b hc z
 rw[hc] at z;cases z;exact hb rfl
end
structure Un (fs ex:TJ)(H H':Hp)(h h':Heap):Prop where
 keep:∀ b o,h.get? b=some o->H b=none->b ∉ fs->b ∉ ex->h'.get? b=some o
 slot:∀ b o,h.get? b=some o->H b=none->b∈fs->b ∉ ex->∃ sl,h'.get? b=some { o with slots:=sl }
 free:∀ b o,h.get? b=some o->H b=none->b ∉ ex->H' b=none
 there:∀ b o,h.get? b=some o->b ∉ ex->∃ o',h'.get? b=some o'
 tups:∀ b xs,H b=some (.tup xs)->H' b=some (.tup xs)
 frzs:∀ b o u,H b=some (.frz o u)->H' b=some (.frz o u)
 tbls:∀ b ps,H b=some (.tbl ps)->∃ more,H' b=some (.tbl (ps++more))
section
variable {fs ex:TJ}{H H1:Hp}{h h1 h':Heap}{a x e:Addr}{o:HO}
theorem Un.any (u:Un fs ex H H1 h h1){b:Addr}{ob:Obj}(q:h.get? b=some ob)(n:H b=none)(hx:b ∉ ex):∃ sl,h1.get? b=some { ob with slots:=sl }:=by
 by_cases hb:b∈fs
 ·exact u.slot b ob q n hb hx
 exact⟨ob.slots,u.keep b ob q n hb hx⟩
theorem Un.kept (k:∀ b u,h.get? b=some u->h'.get? b=some u):Un fs ex H H h h' :=
 ⟨λb ob q _ _ _=>k b ob q,λb ob q _ _ _=>⟨ob.slots,k b ob q⟩,λ_ _ _ n _=>n,λb ob q _=>⟨ob,k b ob q⟩,λ_ _ q=>q,λ_ _ _ q=>q,λ_ ps q=>⟨#[],by rw[q];simp⟩⟩
theorem Un.refl:Un fs ex H H h h:=Un.kept λ_ _ q=>q
theorem Un.laid (k:∀ b u,h.get? b=some u->h'.get? b=some u)(hp:h.objs.size<=a)(hn:H a=none):Un fs ex H (upd H a o) h h' where
 keep:=λb u q _ _ _=>k b u q
 slot:=λb u q _ _ _=>⟨u.slots,k b u q⟩
 free:=λb u q n _=>by rw[Zj (XM (YU (YJ q) hp))];exact n
 there:=λb u q _=>⟨u,k b u q⟩
 tups:=λb xs q=>by rw[Zj (Zd q hn)];exact q
 frzs:=λb u xs q=>by rw[Zj (Zd q hn)];exact q
 tbls:=λb ps q=>⟨#[],by rw[Zj (Zd q hn),q];simp⟩
theorem Un.write (mu:Mut (H x))(he:e=x \/ H e=some (.own x))(k:∀ b u,b≠e->h.get? b=some u->h'.get? b=some u)(heo:∃ u,h'.get? e=some u):Un fs ex H (upd H x o) h h':=by
 have hx:∀ b,H b=none->b≠x:=λb n z=>by subst z;rw[n] at mu;exact mu
 have hb:∀ b,H b=none->b≠e:=λb n z=>by
  subst z;rcases he with r | r
  ·exact hx b n r
  rw[n] at r;cases r
 have hm:∀ b u,H b=some u->¬ Mut (some u)->b≠x:=λb u q nm z=>by subst z;rw[q] at mu;exact nm mu
 refine⟨λb u q n _ _=>k b u (hb b n) q,λb u q n _ _=>⟨u.slots,k b u (hb b n) q⟩,λb u q n _=>by rw[Zj (hx b n)];exact n,λb u q _=>?_,
  λb xs q=>by rw[Zj (hm b _ q λz=>z)];exact q,λb u xs q=>by rw[Zj (hm b _ q λz=>z)];exact q,λb ps q=>⟨#[],by rw[Zj (hm b _ q λz=>z),q];simp⟩⟩
 by_cases hbe:b=e
 ·subst hbe;exact heo
 exact⟨u,k b u hbe q⟩
end
def trk (h:Heap)(H:Hp):List Addr:=(List.range h.objs.size).filter λa=>(H a).isSome
def hidT (h:Heap)(H:Hp):Heap:=W.hideAll h (trk h H)
theorem Gb (h:Heap)(H:Hp):(hidT h H).objs.size=h.objs.size:=W.hideAll_size _ _
theorem Dp {H:Hp}(e:h.get? b=some o)(n:H b=none):(hidT h H).get? b=some o :=
 Y0m _ e λhm=>by
  have q:(H b).isSome=true:=(qv.mp hm).2;rw[n] at q;simp at q
theorem Bp {h:Heap}{H:Hp}{b:Addr}{o:Obj}(e:(hidT h H).get? b=some o):h.get? b=some o/\H b=none:=by
 have e':h.get? b=some o:=W.of_hideAll (trk h H) e;refine⟨e',?_⟩
 cases q:H b with
 | none=>rfl
 | some x =>
  have hm:b∈trk h H:=qv.mpr ⟨qC.mpr (YJ e'),by simp[q]⟩;have z:(hidT h H).get? b=none:=W.hideAll_none (trk h H) hm;rw[z] at e;cases e
def allNews (g h:Heap)(L:Addr):List (Addr × Obj):=(List.range h.objs.size).filterMap λa=>if a=L \/ (g.get? a).isSome=true then none else (h.get? a).map λo=>(a,o)
def rest (g h:Heap)(L d:Addr):List (Addr × Obj):=(allNews g h L).filter λp=>decide (p.1≠d)
end L2
variable {H H' H1 H2:L2.Hp}{xs ys:TV}
namespace Sb
open PySem PySem.Spec PyProof.Rows
def Seen (P:TR)(l:TM):Prop:=P.given.tree=none/\∃ e r,l=e::r/\e.scope.isGenerator=false/\e.scope.isCoroutine=false/\e.builtins=builtinsNs/\e.globals=mainGlobals
end Sb
namespace L2
open PySem PySem.Spec PyProof.Rows
structure Mod (K:TQ)(mg:TB)(base:Heap):Prop where
 kin:K.In base
 glob:base.Ns mainGlobals mg
 blt:∃ mb,base.Ns builtinsNs mb/\∀ x:Str,x≠"__name__"->mb x=bootBuiltins x
 nolimit:base.NoLimit
 seer:base.NoSeer
structure Cx where
 prog:Program
 w:World
 K:W.Frag
 mg:Str->Option Value
 base:Heap
 A:Around
 N:List Str
 s₀:Shared
 H₀:Hp
 env:Env
 outer:List Env
 stack:List Env
 ex:List Addr
 fn:Str->Bool
 calm:Bool
 pn:List (Addr × Obj)
 xe:Value->Shared->Prop
def frs (l:TM):List Addr:=l.filterMap (·.frame)
abbrev Cx.fs (X:Cx):List Addr:=frs X.outer
def Vis (sc:Scope)(x:Str):Prop:=sc.names.lookup x=some .local \/ sc.names.lookup x=some .cell \/ sc.names.lookup x=some .free
def Loc (sc:Scope)(x:Str):Prop:=sc.names.lookup x=some .local \/ sc.names.lookup x=some .cell
def Look (env:Env)(h:Heap)(m:TB)(x:Str)(u:Value):Prop :=
 (env.kindOf x=some .local/\m x=some u) \/ ((env.kindOf x=some .cell \/ env.kindOf x=some .free)/\∃ c,env.cells.lookup x=some c/\h.IsCell c (some u))
structure Cx.Ok (X:Cx):Prop where
 mod:Mod X.K X.mg X.base
 kind:X.env.scope.kind=.function
 glob:X.env.globals=mainGlobals
 blt:X.env.builtins=builtinsNs
 above:X.s₀.heap.objs.size<=X.env.locals
 inj:∀ x y c,X.env.cells.lookup x=some c->X.env.cells.lookup y=some c->x=y
 has:∀ x,(X.env.kindOf x=some .cell \/ X.env.kindOf x=some .free)->∃ c,X.env.cells.lookup x=some c
 cab:∀ x c,X.fn x=true->X.env.cells.lookup x=some c->X.s₀.heap.objs.size<=c
 hd:X.calm=true->Sb.QtP X.A X.pn
 frames:X.A.frames=some X.stack
 stk:X.stack=X.outer \/ (X.stack=X.env::X.outer/\X.env.frame=some X.env.locals)
 exf:∀ b∈X.ex,b≠X.env.locals/\∀ x c,X.env.cells.lookup x=some c->c≠b
 bs:∀ b o,X.base.get? b=some o->X.s₀.heap.get? b=some o/\X.H₀ b=none
 bsz:X.base.objs.size<=X.s₀.heap.objs.size
 noex:∀ b o,X.base.get? b=some o->b ∉ X.ex
 exfs:∀ b∈X.ex,b ∉ X.fs
 funs:X.s₀.heap.FunFrames X.base X.outer
 frf:∀ b∈X.fs,X.H₀ b=none
 seen:Sb.Seen X.prog X.stack
 dpt:X.A.depth+100<recursionLimit
structure Inv (X:Cx)(pins:TD)(σ:List (Option V))(H:Hp)(s:Shared):Prop where
 ok:X.Ok
 os:s.os=X.s₀.os
 bare:AllBare s.gens
 base:Un X.fs X.ex X.H₀ H X.s₀.heap s.heap
 loc:∃ m,s.heap.Ns X.env.locals m/\∀ (i:Nat) (x:Str) (v:V),X.N[i]?=some x->σ[i]?=some (some v)->Vis X.env.scope x->∃ u,RelV v u/\Look X.env s.heap m x u
 cell:∀ x c,X.env.cells.lookup x=some c->∃ v,s.heap.IsCell c v
 free:H X.env.locals=none
 freeC:∀ x c,X.env.cells.lookup x=some c->H c=none
 pin:∀ p∈X.pn++pins,s.heap.get? p.1=some p.2/\H p.1=none/\p.1≠X.env.locals/\p.1 ∉ X.fs/\∀ v,p.2.data≠.cell v
 hok:HOk X.prog X.w H s.heap
 len:σ.length=X.N.length
theorem Inv.qt {X:Cx}{σ:List (Option V)}(I:Inv X pins σ H s)(hc:X.calm=true):Sb.Qt X.A s.heap:=(I.ok.hd hc).at λp hp=>(I.pin p (XE _ hp)).1
section
variable {X:Cx}{pins:TD}{σ:List (Option V)}{H H':Hp}{s:Shared}{h':Heap}
theorem Cx.Ok.nofr (ok:X.Ok){b:Addr}{o:Obj}(e:X.base.get? b=some o):b ∉ X.fs:=λhb=>by
 have:=(ok.funs.mem hb).1;rw[e] at this;cases this
theorem Inv.bs (I:Inv X pins σ H s):∀ b o,X.base.get? b=some o->s.heap.get? b=some o/\H b=none:=λb o e =>
 ⟨I.base.keep b o (I.ok.bs b o e).1 (I.ok.bs b o e).2 (I.ok.nofr e) (I.ok.noex b o e),I.base.free b o (I.ok.bs b o e).1 (I.ok.bs b o e).2 (I.ok.noex b o e)⟩
theorem Inv.bk (I:Inv X pins σ H s):∀ b o,X.base.get? b=some o->s.heap.get? b=some o:=λb o e=>(I.bs b o e).1
theorem Inv.mod (I:Inv X pins σ H s):Mod X.K X.mg X.base:=I.ok.mod
theorem Inv.kIn (I:Inv X pins σ H s):X.K.In s.heap:=I.ok.mod.kin.keeps I.bk
theorem Inv.nolimit (I:Inv X pins σ H s):s.heap.NoLimit:=I.ok.mod.nolimit.keeps I.bk
theorem Inv.pylong (I:Inv X pins σ H s):PySem.PylongRoom (model X.prog X.w) X.A s:=by
 obtain⟨ht,e,l,hs,h1,h2,h3,h4⟩:=I.ok.seen;exact PySem.PylongRoom.of I.nolimit I.ok.dpt (PySem.SeerAt.of (I.ok.mod.seer.keeps I.bk) ht (by rw[I.ok.frames,hs]) h1 h2 h3 h4)
theorem Inv.lt (I:Inv X pins σ H s):X.env.locals<s.heap.objs.size:=let ⟨_,hn,_⟩:=I.loc;hn.lt
theorem Inv.sz (I:Inv X pins σ H s):X.s₀.heap.objs.size<=s.heap.objs.size:=XV I.ok.above (Y0C I.lt)
theorem Inv.nofs (I:Inv X pins σ H s){a:Addr}(h:s.heap.objs.size<=a):a ∉ X.fs:=λhb=>by
 obtain⟨_,o,ho,_⟩:=I.ok.funs.mem hb;exact absurd (YU (YJ ho) (XV I.sz h)) (XX _)
theorem Inv.cne (I:Inv X pins σ H s):∀ x c,X.env.cells.lookup x=some c->c≠X.env.locals:=λx c e z=>by
 obtain⟨v,o,ho,hd⟩:=I.cell x c e;obtain⟨m,⟨o',es,ep,ho',hd',_⟩,_⟩:=I.loc;rw[z,ho'] at ho;cases ho;rw[hd'] at hd;cases hd
theorem Inv.funs (I:Inv X pins σ H s):s.heap.FunFrames X.base X.outer:=by
 have all:∀ (l:TM),(∀ b∈frs l,b∈X.fs)->X.s₀.heap.FunFrames X.base l->s.heap.FunFrames X.base l:=by
  intro l
  induction l with
  | nil=>intro _ _;trivial
  | cons env r ih =>
   intro hs hl;obtain⟨hk,⟨L,o,hf,hn,ho,hd⟩,hr⟩:=hl;have hL:L∈X.fs:=hs L (by unfold frs;rw[GI,hf];exact YI);obtain⟨sl,e⟩:=I.base.slot L o ho (I.ok.frf L hL) hL λz=>I.ok.exfs L z hL;exact⟨hk,⟨L,_,hf,hn,e,hd⟩,ih (λb hb=>hs b (by unfold frs;rw[GI,hf];exact YG _ hb)) hr⟩
 exact all X.outer (λ_ hb=>hb) I.ok.funs
theorem Inv.stack (I:Inv X pins σ H s):s.heap.FunFrames X.base X.stack:=by
 rcases I.ok.stk with e | ⟨e,hf⟩
 ·rw[e];exact I.funs
 rw[e];obtain⟨m,hn,_⟩:=I.loc;refine .cons (by rw[I.ok.kind];decide) hf hn ?_ I.funs;exact Heap.get?_none_of_le (XV I.ok.bsz I.ok.above)
theorem Inv.stkSub (I:Inv X pins σ H s):∀ b∈frs X.stack,b∈X.env.locals::X.fs:=λb hb=>by
 rcases I.ok.stk with e | ⟨e,hf⟩
 ·rw[e] at hb;exact YG _ hb
 rw[e] at hb;unfold frs at hb;rw[GI,hf] at hb;exact hb
theorem Inv.stkFree (I:Inv X pins σ H s):∀ b∈frs X.stack,H b=none:=λb hb=>by
 rcases YC.mp (I.stkSub b hb) with e | hb
 ·rw[e];exact I.free
 obtain⟨_,o,ho,_⟩:=I.ok.funs.mem hb;exact I.base.free b o ho (I.ok.frf b hb) λz=>I.ok.exfs b z hb
theorem Inv.step {g':Array GenState}{t':Nat}{d':Drawn}{ch:TJ}(I:Inv X pins σ H s)
  (hch:∀ b∈ch,(b∈X.ex \/ X.s₀.heap.objs.size<=b)/\b≠X.env.locals/\(∀ x c,X.env.cells.lookup x=some c->c≠b)/\∀ p∈X.pn++pins,p.1≠b)
  (keep:∀ b o,b≠X.env.locals->b ∉ X.fs->b ∉ ch->s.heap.get? b=some o->H b=none->h'.get? b=some o)
  (slot:∀ b o,b≠X.env.locals->b∈X.fs->b ∉ ch->s.heap.get? b=some o->H b=none->∃ sl,h'.get? b=some { o with slots:=sl }) (free:∀ b o,b ∉ ch->s.heap.get? b=some o->H b=none->H' b=none)
  (there:∀ b o,b ∉ ch->s.heap.get? b=some o->∃ o',h'.get? b=some o')
  (tups:∀ b xs,H b=some (.tup xs)->H' b=some (.tup xs)) (frzs:∀ b o u,H b=some (.frz o u)->H' b=some (.frz o u)) (tbls:∀ b ps,H b=some (.tbl ps)->∃ more,H' b=some (.tbl (ps++more)))
  (ns:∀ m,s.heap.Ns X.env.locals m->h'.Ns X.env.locals m) (hok:HOk X.prog X.w H' h') (hg:AllBare g') :
  Inv X pins σ H' { s with heap:=h',gens:=g',drawn:=d',toks:=t' }:=by
 have neL:∀ b o,X.s₀.heap.get? b=some o->b≠X.env.locals:=λb o e=>XM (YU (YJ e) I.ok.above);have neC:∀ b o,X.s₀.heap.get? b=some o->b ∉ X.ex->b ∉ ch:=λb o e hx hb=>by
  rcases (hch b hb).1 with z | z
  ·exact hx z
  exact absurd (YU (YJ e) z) (XX _)
 have cellK:∀ x c,X.env.cells.lookup x=some c->∀ v,s.heap.IsCell c v->h'.IsCell c v:=λx c e v ⟨o,ho,hd⟩=>by
  have nch:c ∉ ch:=λz=>(hch c z).2.2.1 x c e rfl;by_cases hc:c∈X.fs
  ·obtain⟨sl,q⟩:=slot c o (I.cne x c e) hc nch ho (I.freeC x c e);exact⟨_,q,hd⟩
  exact⟨o,keep c o (I.cne x c e) hc nch ho (I.freeC x c e),hd⟩
 refine⟨I.ok,I.os,hg,⟨λb o e n hb hx=>?_,λb o e n hb hx=>?_,λb o e n hx=>?_,λb o e hx=>?_,λb xs e=>tups b xs (I.base.tups b xs e),λb o xs e=>frzs b o xs (I.base.frzs b o xs e),λb ps e=>?_⟩,?_,λx c e=>?_,?_,λx c e=>?_,λp hp=>?_,hok,I.len⟩
 ·exact keep b o (neL b o e) hb (neC b o e hx) (I.base.keep b o e n hb hx) (I.base.free b o e n hx)
 ·obtain⟨sl,e1⟩:=I.base.slot b o e n hb hx;obtain⟨sl',e2⟩:=slot b _ (neL b o e) hb (neC b o e hx) e1 (I.base.free b o e n hx);exact⟨sl',e2⟩
 ·obtain⟨o',e1⟩:=I.base.there b o e hx;exact free b o' (neC b o e hx) e1 (I.base.free b o e n hx)
 ·obtain⟨o',e1⟩:=I.base.there b o e hx;exact there b o' (neC b o e hx) e1
 ·obtain⟨m1,e1⟩:=I.base.tbls b ps e;obtain⟨m2,e2⟩:=tbls b _ e1;exact⟨m1++m2,by rw[e2,Y1f]⟩
 ·obtain⟨m,hn,hl⟩:=I.loc;refine⟨m,ns m hn,λi x v e1 e2 e3=>?_⟩;obtain⟨u,r,l⟩:=hl i x v e1 e2 e3;refine⟨u,r,?_⟩;rcases l with l | ⟨k,c,e,z⟩
  ·exact .inl l
  exact .inr ⟨k,c,e,cellK x c e _ z⟩
 ·obtain⟨v,z⟩:=I.cell x c e;exact⟨v,cellK x c e v z⟩
 ·obtain⟨m,⟨o,_,_,ho,_⟩,_⟩:=I.loc;exact free _ o (λz=>(hch _ z).2.1 rfl) ho I.free
 ·obtain⟨v,o,ho,hd⟩:=I.cell x c e;exact free c o (λz=>(hch c z).2.2.1 x c e rfl) ho (I.freeC x c e)
 obtain⟨e,n,ne,nf,d⟩:=I.pin p hp;have nch:p.1 ∉ ch:=λz=>(hch p.1 z).2.2.2 p hp rfl;exact⟨keep p.1 p.2 ne nf nch e n,free p.1 p.2 nch e n,ne,nf,d⟩
theorem Inv.un {t':Nat}(I:Inv X pins σ H s)(u:Un X.fs [] H H' s.heap h')(hok:HOk X.prog X.w H' h'):Inv X pins σ H' { s with heap:=h',toks:=t' }:=by
 obtain⟨m,⟨o,es,ep,ho,r⟩,_⟩:=id I.loc;obtain⟨sl,hL⟩:=u.any ho I.free J8;exact I.step (g':=s.gens) (d':=s.drawn) (ch:=[]) (λ_ z=>nomatch z) (λb o _ hb _ e n=>u.keep b o e n hb J8) (λb o _ hb _ e n=>u.slot b o e n hb J8) (λb o _ e n=>u.free b o e n J8) (λb o _ e=>u.there b o e J8) u.tups u.frzs u.tbls (λm' hm=>by
  obtain⟨o',es',ep',ho',r'⟩:=hm;rw[ho] at ho';cases ho';exact⟨_,es',ep',hL,r'⟩) hok I.bare
theorem Inv.call {g':Array GenState}{t':Nat}{d':Drawn}{ch:TJ}(I:Inv X pins σ H s)(u:Un (frs X.stack) ch H H' s.heap h')(hok:HOk X.prog X.w H' h')(hg:AllBare g')
  (hch:∀ b∈ch,(b∈X.ex \/ X.s₀.heap.objs.size<=b)/\b≠X.env.locals/\(∀ x c,X.env.cells.lookup x=some c->c≠b)/\∀ p∈X.pn++pins,p.1≠b) :
  Inv X pins σ H' { s with heap:=h',gens:=g',drawn:=d',toks:=t' }:=by
 obtain⟨m,⟨o,es,ep,ho,r⟩,_⟩:=id I.loc;obtain⟨sl,hL⟩:=u.any ho I.free λz=>(hch _ z).2.1 rfl;exact I.step (ch:=ch) hch (λb o hL hb hc e n=>u.keep b o e n (λz=>(YC.mp (I.stkSub b z)).elim hL hb) hc) (λb o _ _ hc e n=>u.any e n hc) (λb o hc e n=>u.free b o e n hc) (λb o hc e=>u.there b o e hc) u.tups u.frzs u.tbls (λm' hm=>by
  obtain⟨o',es',ep',ho',r'⟩:=hm;rw[ho] at ho';cases ho';exact⟨_,es',ep',hL,r'⟩) hok hg
theorem Inv.turned {t':Nat}(I:Inv X pins σ H s)(k:∀ b o,b≠it->s.heap.get? b=some o->h'.get? b=some o)(hn:H it=none)(hL:it≠X.env.locals)
  (h1:it∈X.ex \/ X.s₀.heap.objs.size<=it) (h2:∀ x c,X.env.cells.lookup x=some c->c≠it) (h3:∀ p∈X.pn++pins,p.1≠it):Inv X pins σ H { s with heap:=h',toks:=t' }:=by
 have nit:∀ b u,H b=some u->b≠it:=λb u e z=>by rw[z,hn] at e;cases e
 refine I.step (g':=s.gens) (d':=s.drawn) (ch:=[it]) (λb hb=>?_) (λb o _ _ hc e _=>k b o (λz=>hc (by simp[z])) e) (λb o _ _ hc e _=>⟨o.slots,k b o (λz=>hc (by simp[z])) e⟩) (λ_ _ _ _ n=>n)
  (λb o hc e=>⟨o,k b o (λz=>hc (by simp[z])) e⟩) (λ_ _ e=>e) (λ_ _ _ e=>e) (λb ps e=>⟨#[],by rw[e];simp⟩) (λm hm=>?_) (λb u e=>?_) I.bare
 ·have e:b=it:=by simpa using hb
  subst e;exact⟨h1,hL,h2,h3⟩
 ·obtain⟨o,es,ep,ho,r⟩:=hm;exact⟨o,es,ep,k _ o (JZ hL) ho,r⟩
 refine (I.hok b u e).stay (λc v hc q=>k c v ?_ q) (λ_ q=>q) λ_ _ q=>q;rcases hc with z | z
 ·rw[z];exact nit b u e
 exact nit c _ z
theorem Inv.tok (I:Inv X pins σ H s)(t:Nat):Inv X pins σ H { s with toks:=t }:=I.un (h':=s.heap) (t':=t) Un.refl I.hok
theorem Inv.kept {t':Nat}(I:Inv X pins σ H s)(k:∀ b u,s.heap.get? b=some u->h'.get? b=some u):Inv X pins σ H { s with heap:=h',toks:=t' }:=I.un (Un.kept k) (I.hok.kept k)
theorem Inv.laid {a:Addr}{o:HO}{t':Nat}(I:Inv X pins σ H s)(k:∀ b u,s.heap.get? b=some u->h'.get? b=some u)(hp:s.heap.objs.size<=a)(new:ObjOk X.prog X.w (upd H a o) h' a o) :
  Inv X pins σ (upd H a o) { s with heap:=h',toks:=t' }:=I.un (Un.laid k hp (I.hok.fresh hp)) (I.hok.laid k hp new)
theorem Inv.write {x e:Addr}{o:HO}{t':Nat}(I:Inv X pins σ H s)(mu:Mut (H x))(he:e=x \/ H e=some (.own x))(k:∀ b u,b≠e->s.heap.get? b=some u->h'.get? b=some u)(heo:∃ u,h'.get? e=some u)
  (new:ObjOk X.prog X.w (upd H x o) h' x o):Inv X pins σ (upd H x o) { s with heap:=h',toks:=t' }:=I.un (Un.write mu he k heo) (I.hok.write mu he k heo new)
theorem Inv.weak {σ':List (Option V)}(I:Inv X pins σ H s)(hl:σ'.length=σ.length)(w:∀ (i:Nat) v,σ'[i]?=some (some v)->σ[i]?=some (some v)):Inv X pins σ' H s :=
 ⟨I.ok,I.os,I.bare,I.base,let ⟨m,hn,hl'⟩:=I.loc;⟨m,hn,λi x v e1 e2 e3=>hl' i x v e1 (w i v e2) e3⟩,I.cell,I.free,I.freeC,I.pin,I.hok,hl.trans I.len⟩
theorem Inv.pins_of {pins':TD}(I:Inv X pins σ H s)(h:∀ p∈pins',s.heap.get? p.1=some p.2/\H p.1=none/\p.1≠X.env.locals/\p.1 ∉ X.fs/\∀ v,p.2.data≠.cell v):Inv X pins' σ H s :=
 ⟨I.ok,I.os,I.bare,I.base,I.loc,I.cell,I.free,I.freeC,λp hp=>(YN.mp hp).elim (λz=>I.pin p (XE _ z)) (h p),I.hok,I.len⟩
theorem Tt (hN:N.Nodup){i j:Nat}{x:Str}(a:N[i]?=some x)(b:N[j]?=some x):i=j:=by
 obtain⟨h1,e1⟩:=XS.mp a;obtain⟨h2,e2⟩:=XS.mp b;exact (List.getElem_inj hN).mp (e1.trans e2.symm)
theorem Ra {M:Model}{A:Around}{E:TC}{i:Nat}{x:Str}{v:V}{Q:Unit->Shared->Prop}(I:Inv X pins σ H s)(hN:X.N.Nodup)(hi:X.N[i]?=some x)(hx:Loc X.env.scope x)(r:RelV v u)
  (h:∀ s',Inv X pins (σ.set i (some v)) H s'->(∃ a,Heap.SameBut a s.heap s'.heap/\(a=X.env.locals \/ X.env.cells.lookup x=some a))->Q () s') (hf:X.fn x=true \/ X.env.scope.names.lookup x=some .local:=by first | exact .inl rfl | exact .inr rfl | assumption):wpAny M A (storeName X.env x u) Q E s:=by
 obtain⟨m,hn,hl⟩:=id I.loc;have hcls:(X.env.scope.kind == .class || (X.env.scope.kind == .module && X.env.locals != X.env.globals))=false:=by rw[I.ok.kind];rfl
 have hiσ:i<σ.length:=by rw[I.len];exact (XS.mp hi).1
 have cne:=I.cne;have tracked:∀ {a:Addr} {h':Heap},(∃ o,s.heap.get? a=some o/\H a=none)->Heap.SameBut a s.heap h'->HOk X.prog X.w H h':=λ{a h'} ha hs b ob e=>by
  obtain⟨_,_,hfree⟩:=ha;refine (I.hok b ob e).stay (λc w' hc q=>(hs.2 c ?_).trans q) (λ_ q=>q) λ_ _ q=>q;rintro rfl;rcases hc with rfl | hc
  ·rw[hfree] at e;cases e
  rw[hfree] at hc;cases hc
 rcases hx with hk | hk
 ·refine wpAny_storeName_local hk hn (λh' hn' hs=>?_) hcls;obtain⟨oL,_,_,hoL,_⟩:=id hn;refine h _ ⟨I.ok,I.os,I.bare,⟨λb o e n hb hx=>?_,λb o e n hb hx=>?_,I.base.free,λb o e hx=>?_,I.base.tups,I.base.frzs,I.base.tbls⟩,⟨_,hn',λj y v' e1 e2 e3=>?_⟩,λy c e=>?_,I.free,I.freeC,λp hp=>?_,tracked ⟨oL,hoL,I.free⟩ hs,by simpa using I.len⟩ ⟨_,hs,.inl rfl⟩
  ·exact (hs.2 b (XM (YU (YJ e) I.ok.above))).trans (I.base.keep b o e n hb hx)
  ·obtain⟨sl,e1⟩:=I.base.slot b o e n hb hx;exact⟨sl,(hs.2 b (XM (YU (YJ e) I.ok.above))).trans e1⟩
  ·obtain⟨o',e1⟩:=I.base.there b o e hx;exact⟨o',(hs.2 b (XM (YU (YJ e) I.ok.above))).trans e1⟩
  ·by_cases hj:j=i
   ·subst hj;rw[hi] at e1;cases e1;rw[qY hiσ] at e2
    cases e2;exact⟨u,r,.inl ⟨hk,J8⟩⟩
   rw[zu (JZ hj)] at e2;obtain⟨u',r',q⟩:=hl j y v' e1 e2 e3;refine⟨u',r',?_⟩;rcases q with ⟨k,e⟩ | ⟨k,c,e,z⟩
   ·refine .inl ⟨k,?_⟩;have:y≠x:=λe=>hj (Tt hN e1 (e ▸ hi));simp[this,e]
   exact .inr ⟨k,c,e,z.sameBut hs (cne y c e)⟩
  ·obtain⟨w',z⟩:=I.cell y c e;exact⟨w',z.sameBut hs (cne y c e)⟩
  obtain⟨e,n,ne,nf,d⟩:=I.pin p hp;exact⟨(hs.2 p.1 ne).trans e,n,ne,nf,d⟩
 have hfn:X.fn x=true:=by
  rcases hf with z | z
  ·exact z
  rw[z] at hk;cases hk
 obtain⟨c,hc⟩:=I.ok.has x (.inl hk);obtain⟨w',z⟩:=I.cell x c hc;refine wpAny_storeName_cell I.ok.kind hk hc z (λh' hc' hs=>?_);obtain⟨oc,hoc,hocd⟩:=id z;refine h { s with heap:=h' } ⟨I.ok,I.os,I.bare,⟨λb o e n hb hx=>?_,λb o e n hb hx=>?_,I.base.free,λb o e hx=>?_,I.base.tups,I.base.frzs,I.base.tbls⟩,⟨m,hn.sameBut hs (JZ (cne x c hc)),λj y v' e1 e2 e3=>?_⟩,λy c' e=>?_,I.free,I.freeC,λp hp=>?_,tracked ⟨oc,hoc,I.freeC x c hc⟩ hs,by simpa using I.len⟩ ⟨c,hs,.inr hc⟩
 ·exact (hs.2 b (XM (YU (YJ e) (I.ok.cab x c hfn hc)))).trans (I.base.keep b o e n hb hx)
 ·obtain⟨sl,e1⟩:=I.base.slot b o e n hb hx;exact⟨sl,(hs.2 b (XM (YU (YJ e) (I.ok.cab x c hfn hc)))).trans e1⟩
 ·obtain⟨o',e1⟩:=I.base.there b o e hx;exact⟨o',(hs.2 b (XM (YU (YJ e) (I.ok.cab x c hfn hc)))).trans e1⟩
 ·by_cases hj:j=i
  ·subst hj;rw[hi] at e1;cases e1;rw[qY hiσ] at e2
   cases e2;exact⟨u,r,.inr ⟨.inl hk,c,hc,hc'⟩⟩
  rw[zu (JZ hj)] at e2;obtain⟨u',r',q⟩:=hl j y v' e1 e2 e3;refine⟨u',r',?_⟩;rcases q with q | ⟨k,c',e,z'⟩
  ·exact .inl q
  refine .inr ⟨k,c',e,z'.sameBut hs ?_⟩;rintro rfl;exact hj (Tt hN e1 (I.ok.inj _ _ _ e hc ▸ hi))
 ·by_cases hcc:c'=c
  ·subst hcc;exact⟨_,hc'⟩
  obtain⟨w2,z2⟩:=I.cell y c' e;exact⟨w2,z2.sameBut hs hcc⟩
 obtain⟨e,n,ne,nf,d⟩:=I.pin p hp;refine⟨(hs.2 p.1 ?_).trans e,n,ne,nf,d⟩;intro q;rw[q,hoc] at e;have q':oc=p.2:=XH e;exact d w' (by rw[<-q'];exact hocd)
theorem T5 {M:Model}{A:Around}{E:TC}{i:Nat}{x:Str}{v:V}{Q:Unit->Shared->Prop}(I:Inv X pins σ H s)(hN:X.N.Nodup)(hi:X.N[i]?=some x)(hx:Loc X.env.scope x)(r:RelV v u)
  (h:∀ s',Inv X pins (σ.set i (some v)) H s'->Q () s') (hf:X.fn x=true \/ X.env.scope.names.lookup x=some .local:=by first | exact .inl rfl | exact .inr rfl | assumption):wpAny M A (storeName X.env x u) Q E s :=
 Ra I hN hi hx r (λs' I' _=>h s' I') hf
theorem Inv.call' {s':Shared}{ch:TJ}(I:Inv X pins σ H s)(ho:s'.os=s.os)(u:Un (frs X.stack) ch H H' s.heap s'.heap)(hok:HOk X.prog X.w H' s'.heap)(hg:AllBare s'.gens)
  (hch:∀ b∈ch,(b∈X.ex \/ X.s₀.heap.objs.size<=b)/\b≠X.env.locals/\(∀ x c,X.env.cells.lookup x=some c->c≠b)/\∀ p∈X.pn++pins,p.1≠b):Inv X pins σ H' s':=by
 obtain⟨h',g',d',t',o'⟩:=s';have e:o'=s.os:=ho;subst e;exact I.call (g':=g') (t':=t') (d':=d') u hok hg hch
end
abbrev XK:=Value->Option Addr->Hp->Prop
abbrev St:=List (Option V)
abbrev VK:=V->Hp->Prop
abbrev TE:=St->Hp->VK->Prop
abbrev TT:=St->Hp->(Bool->Hp->Prop)->Prop
abbrev TA:=St->Hp->(List V->Hp->Prop)->Prop
structure Ends where
 nx:St->Hp->Prop
 rt:VK
 bk:St->Hp->Prop:=λ_ _=>False
 ct:St->Hp->Prop:=λ_ _=>False
abbrev TS:=Ends->St->Hp->Prop
def EP (X:Cx)(pins:TD)(σ:St)(Q:VK)(u:Value)(s':Shared):Prop:=∃ v H',Inv X pins σ H' s'/\RelV v u/\Q v H'
def TP (X:Cx)(pins:TD)(σ:St)(Q:Bool->Hp->Prop)(b:Bool)(s':Shared):Prop:=∃ H',Inv X pins σ H' s'/\Q b H'
def AP (X:Cx)(pins:TD)(σ:St)(Q:List V->Hp->Prop)(us:TH)(s':Shared):Prop:=∃ vs H',Inv X pins σ H' s'/\Vals vs us/\Q vs H'
def SP (X:Cx)(pins:TD)(D:Ends)(f:Flow)(s':Shared):Prop :=
 match f with
 | .next=>∃ σ' H',Inv X pins σ' H' s'/\D.nx σ' H'
 | .brk=>∃ σ' H',Inv X pins σ' H' s'/\D.bk σ' H'
 | .cont=>∃ σ' H',Inv X pins σ' H' s'/\D.ct σ' H'
 | .ret u=>∃ v σ' H',Inv X pins σ' H' s'/\RelV v u/\D.rt v H'
def PE (X:Cx)(e:Expr)(t:TE):Prop :=
 ∀ (pins:TD) (s:Shared) (σ:St) (H:Hp) (Q:VK),Inv X pins σ H s->t σ H Q->wpAny (model X.prog X.w) X.A (eval e X.env) (EP X pins σ Q) X.xe s
def PT (X:Cx)(e:Expr)(t:TT):Prop :=
 ∀ (pins:TD) (s:Shared) (σ:St) (H:Hp) (Q:Bool->Hp->Prop),Inv X pins σ H s->t σ H Q->wpAny (model X.prog X.w) X.A (isTrue e X.env (eval e X.env)) (TP X pins σ Q) X.xe s
def PW (X:Cx)(e:Expr)(t:TT):Prop :=
 ∀ (whole:Sem Value) (pins:TD) (s:Shared) (σ:St) (H:Hp) (Q:Bool->Hp->Prop),Inv X pins σ H s->t σ H Q->wpAny (model X.prog X.w) X.A (isTrue e X.env whole) (TP X pins σ Q) X.xe s
theorem PW.pt {X:Cx}{e:Expr}{t:TT}(h:PW X e t):PT X e t:=h _
def PA (X:Cx)(es:TK)(t:TA):Prop :=
 ∀ (pos:Pos) (pins:TD) (s:Shared) (σ:St) (H:Hp) (Q:List V->Hp->Prop),Inv X pins σ H s->t σ H Q->wpAny (model X.prog X.w) X.A (spliced (backTo pos (starEach es X.env))) (AP X pins σ Q) X.xe s
def PS (X:Cx)(st:Stmt)(t:TS):Prop :=
 ∀ (pins:TD) (s:Shared) (σ:St) (H:Hp) (D:Ends),Inv X pins σ H s->t D σ H->wpAny (model X.prog X.w) X.A (exec st X.env) (SP X pins D) X.xe s
def PSs (X:Cx)(st:TL)(t:TS):Prop :=
 ∀ (pins:TD) (s:Shared) (σ:St) (H:Hp) (D:Ends),Inv X pins σ H s->t D σ H->wpAny (model X.prog X.w) X.A (execs st X.env) (SP X pins D) X.xe s
theorem thn {α:Type}{t:Sem α}{Q Q':α->Shared->Prop}{M:Model}(h:wpAny M A t Q E s)(hQ:∀ a s,Q a s->Q' a s):wpAny M A t Q' E s:=GN h hQ λ_ _ x=>x
end L2
variable {X:L2.Cx}{tb:L2.TS}{te tl:L2.TE}{σ:L2.St}
namespace L2
open PySem PySem.Spec PyProof.Rows
section
variable {X:Cx}
inductive tVar (i:Nat) (σ:L2.St) (H:Hp) (Q:VK):Prop
 | mk (v:_) (zz0:σ[i]?=some (some v)) (zz1:Q v H)
def tC (v:V):TE:=λ_ H Q=>Q v H
theorem Z1f {i:Nat}{x:Str}{pos:Pos}(hN:X.N[i]?=some x)(hv:Vis X.env.scope x)(hd:(x == ("__debug__":Str))=false:=by decide)(hcd:(x == ("__classdict__":Str))=false:=by decide):PE X (.Name x pos) (tVar i):=by
 intro pins s σ H Q I h;obtain⟨v,e,h⟩:=h;obtain⟨m,hn,hl⟩:=I.loc;obtain⟨u,r,l⟩:=hl i x v hN e hv;have fin:EP X pins σ Q u s:=⟨v,H,I,r,h⟩;rcases l with ⟨hk,hm⟩ | ⟨hk,c,hc,hcell⟩
 ·exact wpAny_Name (wpAny_loadName_local I.ok.kind hk hn hm fin) hd
 rcases hk with hk | hk
 ·exact wpAny_Name (wpAny_loadName_cell I.ok.kind hk hc hcell fin) hd
 exact wpAny_Name (wpAny_loadName_free I.ok.kind hk hc hcell fin hcd) hd
theorem Z8 {i j pos}:PE X (.Constant (.int i) j pos) (tC (.int i)):=λ_ _ _ H _ I h=>wpAny_Constant_int ⟨.int i,H,I.tok _,⟨_,rfl⟩,h⟩
theorem Tj {b j pos}:PE X (.Constant (.bool b) j pos) (tC (.bl b)):=λ_ _ _ H _ I h=>Constant_bool ⟨.bl b,H,I,rfl,h⟩
theorem Zr {j pos}:PE X (.Constant .none j pos) (tC .non):=λ_ _ _ H _ I h=>Constant_none ⟨.non,H,I,rfl,h⟩
theorem Z9 {x j pos}:PE X (.Constant (.str x) j pos) (tC (.str x)):=λ_ _ _ H _ I h=>zI ⟨.str x,H,I.tok _,⟨_,rfl⟩,h⟩
def Gl (X:Cx)(x:Str):Prop:=X.env.kindOf x=some .globalImplicit
theorem V9 {E:TC}{x:Str}{pos:Pos}{Q:TC}(I:Inv X pins σ H s)(hg:Gl X x)(hm:X.mg x=some u)(h:Q u s)
  (hd:(x == ("__debug__":Str))=false:=by decide):wpAny (model X.prog X.w) X.A (eval (.Name x pos) X.env) Q E s :=
 Y02 I.ok.kind hg (Calls.loadGlobal_global (by rw[I.ok.glob];exact I.mod.glob.keeps I.bk) hm h) hd
theorem Vh {E:TC}{x:Str}{pos:Pos}{Q:TC}(I:Inv X pins σ H s)(hg:Gl X x)(hm:X.mg x=none)(hv:bootBuiltins x=some u)(h:Q u s)
  (hn:x≠"__name__":=by decide) (hd:(x == ("__debug__":Str))=false:=by decide):wpAny (model X.prog X.w) X.A (eval (.Name x pos) X.env) Q E s:=by
 obtain⟨mb,h1,h2⟩:=I.mod.blt;exact Y02 I.ok.kind hg (Calls.loadGlobal_builtin (by rw[I.ok.glob];exact I.mod.glob.keeps I.bk) hm (by rw[I.ok.blt];exact h1.keeps I.bk) ((h2 x hn).trans hv) h) hd
theorem Yf {x:Str}{v:V}{pos:Pos}(hg:Gl X x)(hm:X.mg x=some u)(r:RelV v u)(hd:(x == ("__debug__":Str))=false:=by decide):PE X (.Name x pos) (tC v) :=
 λ_ _ _ H _ I h=>V9 I hg hm ⟨v,H,I,r,h⟩ hd
theorem Bf {x:Str}{v:V}{pos:Pos}(hg:Gl X x)(hm:X.mg x=none)(hv:bootBuiltins x=some u)(r:RelV v u)(hn:x≠"__name__":=by decide)(hd:(x == ("__debug__":Str))=false:=by decide):PE X (.Name x pos) (tC v) :=
 λ_ _ _ H _ I h=>Vh I hg hm hv ⟨v,H,I,r,h⟩ hn hd
variable {a b:Expr}{ta tb:TE}{pos:Pos}
inductive tB_i (Q:(Bool->Hp->Prop)) (x:V) (H1:Hp):Prop
 | mk (c:_) (zz0:x=.bl c) (zz1:Q c H1)
def tB (t:TE):TT:=λσ H Q=>t σ H (tB_i Q)
theorem Yr {e:Expr}{t:TE}(h:PE X e t)(he:∀ whole,isTrue e X.env whole=(do let v <-whole;standAt e.pos;holding [v] (truthy v)):=by intro _;rfl):PT X e (tB t):=by
 intro pins s σ H Q I hw;refine isTrue_plain (thn (h pins s σ H _ I hw) λv s1 ⟨x,H1,I1,r1,q1⟩=>?_) (he _);obtain⟨d,rfl,q⟩:=q1
 cases r1;exact GA ⟨H1,I1,q⟩
variable {tA tB':TT}{rest:TK}
def tOr (t u:TT):TT:=λσ H Q=>t σ H λc H1=>if c=true then Q true H1 else u σ H1 Q
def tNot (t:TT):TT:=λσ H Q=>t σ H λc H1=>Q (!c) H1
theorem Xf (ha:PT X a tA):PW X (.BoolOp .Or [a] pos) tA:=by
 intro wh pins s σ H Q I h;refine isTrue_or (thn (ha pins s σ H Q I h) λc s1 e=>?_)
 cases c with
 | false=>exact isTrue_or_nil e
 | true=>exact e
theorem Yx (ha:PT X a tA)(hb:PW X (.BoolOp .Or (b::rest) pos) tB'):PW X (.BoolOp .Or (a::b::rest) pos) (tOr tA tB'):=by
 intro wh pins s σ H Q I h;refine isTrue_or (thn (ha pins s σ H _ I h) λc s1 ⟨H1,I1,q1⟩=>?_)
 cases c with
 | true=>exact⟨H1,I1,q1⟩
 | false=>exact hb wh pins s1 σ H1 Q I1 q1
theorem Xg (ha:PT X a tA):PT X (.UnaryOp .Not a pos) (tNot tA):=by
 intro pins s σ H Q I h;exact isTrue_not (ha pins s σ H (λc H1=>Q (!c) H1) I h)
inductive tAndV_i (tb:TE) (σ:L2.St) (Q:VK) (x:V) (H1:Hp):Prop
 | mk (c:_) (zz0:x=.bl c) (zz1:if c=true then tb σ H1 Q else Q (.bl false) H1)
def tAndV (ta tb:TE):TE:=λσ H Q=>ta σ H (tAndV_i tb σ Q)
inductive tOrV_i (tb:TE) (σ:L2.St) (Q:VK) (x:V) (H1:Hp):Prop
 | mk (c:_) (zz0:x=.bl c) (zz1:if c=true then Q (.bl true) H1 else tb σ H1 Q)
def tOrV (ta tb:TE):TE:=λσ H Q=>ta σ H (tOrV_i tb σ Q)
inductive tNotV_i (Q:VK) (x:V) (H1:Hp):Prop
 | mk (c:_) (zz0:x=.bl c) (zz1:Q (.bl (!c)) H1)
def tNotV (ta:TE):TE:=λσ H Q=>ta σ H (tNotV_i Q)
theorem Ti {op}{t:TE}(h:PE X a t):PE X (.BoolOp op [a] pos) t:=λpins s σ H Q I hw=>BoolOp_one (h pins s σ H Q I hw)
theorem Ql (ha:PE X a ta)(hb:PE X (.BoolOp .And (b::rest) pos) tb):PE X (.BoolOp .And (a::b::rest) pos) (tAndV ta tb):=by
 intro pins s σ H Q I h;refine BoolOp_and (thn (ha pins s σ H _ I h) λv s1 ⟨x,H1,I1,r1,q1⟩=>?_);obtain⟨c,rfl,q1⟩:=q1
 cases r1;refine GA ?_
 cases c with
 | true=>exact hb pins s1 σ H1 Q I1 q1
 | false=>exact⟨.bl false,H1,I1,rfl,q1⟩
theorem Z2g (ha:PE X a ta)(hb:PE X (.BoolOp .Or (b::rest) pos) tb):PE X (.BoolOp .Or (a::b::rest) pos) (tOrV ta tb):=by
 intro pins s σ H Q I h;refine BoolOp_or (thn (ha pins s σ H _ I h) λv s1 ⟨x,H1,I1,r1,q1⟩=>?_);obtain⟨c,rfl,q1⟩:=q1
 cases r1;refine GA ?_
 cases c with
 | false=>exact hb pins s1 σ H1 Q I1 q1
 | true=>exact⟨.bl true,H1,I1,rfl,q1⟩
theorem Ft (ha:PE X a ta):PE X (.UnaryOp .Not a pos) (tNotV ta):=by
 intro pins s σ H Q I h;refine UnaryOp_ (thn (ha pins s σ H _ I h) λv s1 ⟨x,H1,I1,r1,q1⟩=>?_);obtain⟨c,rfl,q1⟩:=q1
 cases r1;exact not_of (GA ⟨.bl (!c),H1,I1,rfl,q1⟩)
def tIf (t:TT)(ta tb:TE):TE:=λσ H Q=>t σ H λc H1=>if c=true then ta σ H1 Q else tb σ H1 Q
theorem Yi {c:Expr}(hc:PT X c tA)(ha:PE X a ta)(hb:PE X b tb):PE X (.IfExp c a b pos) (tIf tA ta tb):=by
 intro pins s σ H Q I h;refine wpAny_IfExp (thn (hc pins s σ H _ I h) λd s1 ⟨H1,I1,q1⟩=>?_)
 cases d with
 | true=>exact ha pins s1 σ H1 Q I1 q1
 | false=>exact hb pins s1 σ H1 Q I1 q1
end
def SqL (K:TQ)(H:Hp)(a:Addr)(xs:TV):Prop :=
 Rd H a (.lst xs) ∨
  ∃ (o:Obj) (its:Array Value) (n:Nat),K.lookup a=some o/\o.cls=.type "list"/\o.dict=none/\o.data=.seq its n/\its.size<=sizeLine/\Vals xs its.toList
def SqT (K:TQ)(H:Hp)(a:Addr)(xs:TV):Prop :=
 Rd H a (.tup xs) ∨
  ∃ (o:Obj) (its:Array Value) (n:Nat),K.lookup a=some o/\o.cls=.type "tuple"/\o.data=.seq its n/\its.size<=sizeLine/\Vals xs its.toList
def absV:Value->Option V
 | .none=>some .non
 | .bool b=>some (.bl b)
 | .int i _=>some (.int i)
 | .str x _=>some (.str x)
 | .bytes b _=>some (.byt b)
 | .float b _=>some (.flt b)
 | .ref a=>some (.ref a)
 | .type n=>some (.ty n)
 | _=>none
theorem RelV.abs {x:V}{u:Value}(r:RelV x u):absV u=some x:=by
 cases x with
 | non=>cases r;rfl
 | bl _=>cases r;rfl
 | int _=>obtain⟨t,rfl⟩:=r;rfl
 | str _=>obtain⟨t,rfl⟩:=r;rfl
 | byt _=>obtain⟨t,rfl⟩:=r;rfl
 | flt _=>obtain⟨t,rfl⟩:=r;rfl
 | ref _=>cases r;rfl
 | ty _=>cases r;rfl
theorem RelV.inj {x y:V}(r:RelV x u)(q:RelV y u):x=y:=XH (r.abs.symm.trans q.abs)
theorem Vals.inj:∀ {xs ys:TV} {us:TH},Vals xs us->Vals ys us->xs=ys
 | _,_,_,.nil,.nil=>rfl
 | _,_,_,.cons r t,.cons r' t'=>by rw[r.inj r',Vals.inj t t']
section
variable {X:Cx}{pins:TD}{σ:St}{H:Hp}{s:Shared}{a:Addr}{xs ys:TV}
theorem SqL.of (h:H a=some (.lst xs)):SqL K H a xs:=.inl (.inl h)
theorem SqT.of (h:H a=some (.tup xs)):SqT K H a xs:=.inl (.inl h)
theorem Inv.list (I:Inv X pins σ H s)(h:SqL X.K H a xs):∃ its:List Value,Vals xs its/\PlainL s.heap a its.toArray/\xs.length<=sizeLine:=by
 rcases h with h | ⟨o,its,n,hk,hc,hd,hs,hz,r⟩
 ·obtain⟨z,its,n,r,e⟩:=h.ok I.hok;exact⟨its,r,⟨_,n,e,rfl,rfl,rfl⟩,z⟩
 refine⟨its.toList,r,⟨o,n,I.kIn a o hk,hc,hd,by simpa using hs⟩,?_⟩;have e:=r.length;simp only [JW] at e;omega
theorem Inv.tuple (I:Inv X pins σ H s)(h:SqT X.K H a xs):∃ its:List Value,Vals xs its/\IsTup s.heap a its.toArray/\xs.length<=sizeLine:=by
 rcases h with h | ⟨o,its,n,hk,hc,hs,hz,r⟩
 ·obtain⟨z,its,r,p⟩:=h.ok I.hok;exact⟨its,r,p,z⟩
 refine⟨its.toList,r,⟨o,I.kIn a o hk,hc,n,by simpa using hs⟩,?_⟩;have e:=r.length;simp only [JW] at e;omega
theorem Inv.list_inj (I:Inv X pins σ H s)(h:SqL X.K H a xs)(h':SqL X.K H a ys):xs=ys:=by
 obtain⟨its,r,⟨o,n,e,_,_,d⟩,_⟩:=I.list h;obtain⟨its',r',⟨o',n',e',_,_,d'⟩,_⟩:=I.list h';rw[e] at e';cases e';rw[d] at d';injection d' with d1 _
 have:its=its':=by simpa using congrArg Array.toList d1
 subst this;exact r.inj r'
theorem Inv.tuple_inj (I:Inv X pins σ H s)(h:SqT X.K H a xs)(h':SqT X.K H a ys):xs=ys:=by
 obtain⟨its,r,⟨o,e,_,n,d⟩,_⟩:=I.tuple h;obtain⟨its',r',⟨o',e',_,n',d'⟩,_⟩:=I.tuple h';rw[e] at e';cases e';rw[d] at d';injection d' with d1 _
 have:its=its':=by simpa using congrArg Array.toList d1
 subst this;exact r.inj r'
end
abbrev Cx.wish (X:Cx)(E:TC):Cx:={ X with xe:=E }
abbrev Cx.nox (X:Cx):Cx:=X.wish λ_ _=>False
theorem Cx.Ok.wish {X:Cx}(ok:X.Ok)(E:TC):(X.wish E).Ok :=
 ⟨ok.mod,ok.kind,ok.glob,ok.blt,ok.above,ok.inj,ok.has,ok.cab,ok.hd,ok.frames,ok.stk,ok.exf,ok.bs,ok.bsz,ok.noex,ok.exfs,ok.funs,ok.frf,ok.seen,ok.dpt⟩
theorem Cx.Ok.unwish (ok:(X.wish E).Ok):X.Ok :=
 ⟨ok.mod,ok.kind,ok.glob,ok.blt,ok.above,ok.inj,ok.has,ok.cab,ok.hd,ok.frames,ok.stk,ok.exf,ok.bs,ok.bsz,ok.noex,ok.exfs,ok.funs,ok.frf,ok.seen,ok.dpt⟩
section
variable {X:Cx}{pins:TD}{σ:St}{H:Hp}{s:Shared}{E:TC}
theorem Inv.wish (I:Inv X pins σ H s)(E:TC):Inv (X.wish E) pins σ H s:=⟨I.ok.wish E,I.os,I.bare,I.base,I.loc,I.cell,I.free,I.freeC,I.pin,I.hok,I.len⟩
theorem Inv.unwish (I:Inv (X.wish E) pins σ H s):Inv X pins σ H s:=⟨I.ok.unwish,I.os,I.bare,I.base,I.loc,I.cell,I.free,I.freeC,I.pin,I.hok,I.len⟩
theorem SP.unwish {D:Ends}{f:Flow}{s':Shared}(h:SP (X.wish E) pins D f s'):SP X pins D f s':=by
 cases f with
 | next=>obtain⟨σ',H',I,q⟩:=h;exact⟨σ',H',I.unwish,q⟩
 | brk=>obtain⟨σ',H',I,q⟩:=h;exact⟨σ',H',I.unwish,q⟩
 | cont=>obtain⟨σ',H',I,q⟩:=h;exact⟨σ',H',I.unwish,q⟩
 | ret u=>obtain⟨v,σ',H',I,r,q⟩:=h;exact⟨v,σ',H',I.unwish,r,q⟩
theorem PSs.nox {st:TL}{t:TS}(h:PSs X.nox st t):PSs X st t:=λpins s σ H D I hw =>
 GN (h pins s σ H D (I.wish _) hw) (λ_ _ q=>q.unwish) λ_ _ z=>False.elim z
end
section
variable {X:Cx}{st:Stmt}{rest:TL}{t u:TS}{e:Expr}{te:TE}{pos:Pos}
def tNext:TS:=λD σ H=>D.nx σ H
def tSeq (t u:TS):TS:=λD σ H=>t { D with nx:=u D } σ H
theorem Zm:PSs X [] tNext:=λ_ _ σ H _ I h=>zE ⟨σ,H,I,h⟩
theorem Z4 (h1:PS X st t)(h2:PSs X rest u):PSs X (st::rest) (tSeq t u):=by
 intro pins s σ H D I h;refine wpAny_execs_cons (thn (h1 pins s σ H { D with nx:=u D } I h) λf s1 q=>?_)
 cases f with
 | next =>
  obtain⟨σ',H',I',q⟩:=q;exact h2 pins s1 σ' H' D I' q
 | ret v=>exact q
 | brk=>exact q
 | cont=>exact q
theorem Zb (h1:PS X st t):PSs X [st] t:=by
 intro pins s σ H D I h;refine wpAny_execs_cons (thn (h1 pins s σ H D I h) λf s1 q=>?_)
 cases f with
 | next=>exact zE q
 | ret v=>exact q
 | brk=>exact q
 | cont=>exact q
theorem Inv.quiet (I:Inv X pins σ H s):interactive X.env=false:=by simp[interactive,I.ok.kind]
def tDrop (te:TE):TS:=λD σ H=>te σ H λ_ H1=>D.nx σ H1
theorem V3 (he:PE X e te)(hs:swapsWith e none pos.line X.env=pure false:=by rfl):PS X (.Expr e pos) (tDrop te):=by
 intro pins s σ H D I h;exact wpAny_Expr_any (thn (he pins s σ H _ I h) λv s1 ⟨x,H1,I1,r1,q1⟩=>⟨σ,H1,I1,q1⟩) I.quiet hs
def tRet (te:TE):TS:=λD σ H=>te σ H D.rt
theorem Zi (he:PE X e te):PS X (.Return (some e) pos) (tRet te):=by
 intro pins s σ H D I h;exact wpAny_Return_some (thn (he pins s σ H _ I h) λv s1 ⟨x,H1,I1,r1,q1⟩=>⟨x,σ,H1,I1,r1,q1⟩)
def tIfS (c:TT)(t u:TS):TS:=λD σ H=>c σ H λb H1=>if b=true then t D σ H1 else u D σ H1
theorem Zy {c:Expr}{a b:TL}{tc:TT}(hc:PT X c tc)(ha:PSs X a t)(hb:PSs X b u):PS X (.If c a b pos) (tIfS tc t u):=by
 intro pins s σ H D I h;refine wpAny_If (thn (hc pins s σ H _ I h) λd s1 ⟨H1,I1,q1⟩=>?_)
 cases d with
 | true=>exact ha pins s1 σ H1 D I1 q1
 | false=>exact hb pins s1 σ H1 D I1 q1
def tNever:TS:=λ_ _ _=>False
theorem Pz:PS X st tNever:=λ_ _ _ _ _ _ h=>h.elim
end
abbrev TG:=V->St->Hp->(St->Hp->Prop)->Prop
abbrev TGs:=List V->St->Hp->(St->Hp->Prop)->Prop
def PG (X:Cx)(target:Expr)(t:TG):Prop :=
 ∀ (pins:TD) (s:Shared) (σ:St) (H:Hp) (v:V) (u:Value) (Q:St->Hp->Prop),Inv X pins σ H s->RelV v u->t v σ H Q →
  wpAny (model X.prog X.w) X.A (assign target X.env u) (λ_ s'=>∃ σ' H',Inv X pins σ' H' s'/\Q σ' H') X.xe s
def PGs (X:Cx)(ts:TK)(t:TGs):Prop :=
 ∀ (pins:TD) (s:Shared) (σ:St) (H:Hp) (vs:TV) (us:TH) (Q:St->Hp->Prop),Inv X pins σ H s->Vals vs us->t vs σ H Q →
  wpAny (model X.prog X.w) X.A (assignInOrder ((assignEach ts X.env).map (·.2)) us) (λ_ s'=>∃ σ' H',Inv X pins σ' H' s'/\Q σ' H') X.xe s
abbrev TSet:=V->V->V->Hp->(Hp->Prop)->Prop
def PSet (X:Cx)(t:TSet):Prop :=
 ∀ (pins:TD) (s:Shared) (σ:St) (H:Hp) (o i v:V) (ov iv u:Value) (Q:Hp->Prop),Inv X pins σ H s->RelV o ov->RelV i iv->RelV v u->t o i v H Q →
  wpAny (model X.prog X.w) X.A (setItem ov iv u) (λ_ s'=>∃ H',Inv X pins σ H' s'/\Q H') X.xe s
section
variable {X:Cx}{pos:Pos}
def gName (i:Nat):TG:=λv σ H Q=>Q (σ.set i (some v)) H
theorem Zx {i:Nat}{x:Str}(hN:X.N.Nodup)(hi:X.N[i]?=some x)(hx:Loc X.env.scope x)(hf:X.fn x=true \/ X.env.scope.names.lookup x=some .local:=by first | exact .inl rfl | exact .inr rfl | assumption):PG X (.Name x pos) (gName i):=by
 intro pins s σ H v u Q I r h;exact wpAny_assign_Name (T5 I hN hi hx r (λs' I'=>⟨_,H,I',h⟩) hf)
def gNil:TGs:=λvs σ H Q=>vs=[]/\Q σ H
inductive gCons (t:TG) (u:TGs) (vs:TV) (σ:L2.St) (H:Hp) (Q:(L2.St->Hp->Prop)):Prop
 | mk (v r:_) (zz0:vs=v::r) (zz1:t v σ H λσ' H'=>u r σ' H' Q)
theorem Bc:PGs X [] gNil:=by
 intro pins s σ H vs us Q I r h;obtain⟨e,h⟩:=h;subst e
 cases r;exact assignInOrder_nil ⟨σ,H,I,h⟩
theorem N3 {e:Expr}{es:TK}{t:TG}{u:TGs}(h1:PG X e t)(h2:PGs X es u)
  (hs:(assignEach (e::es) X.env).map (·.2)=assign e X.env::(assignEach es X.env).map (·.2):=by rfl):PGs X (e::es) (gCons t u):=by
 intro pins s σ H vs us Q I r h;obtain⟨v,vr,e1,h⟩:=h;subst e1
 cases r with
 | cons r rr =>
  rw[hs];refine assignInOrder_cons (thn (h1 pins s σ H _ _ _ I r h) λ_ s1 ⟨σ1,H1,I1,q1⟩=>?_);exact h2 pins s1 σ1 H1 _ _ Q I1 rr q1
inductive gTup (K:TQ) (n:Nat) (t:TGs) (v:V) (σ:L2.St) (H:Hp) (Q:(L2.St->Hp->Prop)):Prop
 | mk (a xs:_) (zz0:v=.ref a) (zz1:SqT K H a xs) (zz2:xs.length=n) (zz3:t xs σ H Q)
theorem Z1e {k:Nat}{t:TGs}{n:Nat}(hc:X.calm=true)(h:PGs X es t)
  (hn:(assignEach es X.env).length=n:=by rfl) (hst:(assignEach es X.env).findIdx? (·.1)=none:=by rfl):PG X (.Tuple es k pos) (gTup X.K n t):=by
 intro pins s σ H v u Q I r hw;obtain⟨a,xs,e1,hq,hl,hw⟩:=hw;subst e1
 cases r;obtain⟨its,rv,ht,hz⟩:=I.tuple hq;refine Sb.Sw (I.qt hc) ht (by simp[hn,<-hl,rv.length]) hst λh' hx=>?_;have I1:Inv X pins σ H { s with heap:=h' }:=I.kept (t':=s.toks) λb o e=>hx b o (XM (YJ e)) e;exact h pins _ σ H xs _ Q I1 (by simpa using rv) hw
def gSub (to ti:TE)(t:TSet):TG:=λv σ H Q=>to σ H λo H1=>ti σ H1 λi H2=>t o i v H2 λH3=>Q σ H3
theorem Th {o i:Expr}{to ti:TE}{t:TSet}(ho:PE X o to)(hi:PE X i ti)(hs:PSet X t)
  (ha:∀ v,assign (.Subscript o i pos) X.env v=(do
   let ov <-holding [v] (eval o X.env);let iv <-holding [v,ov] (eval i X.env)
   standAt pos
   holding [v,ov,iv] (setItem ov iv v)
   release [v,ov,iv] []):=by intro _;rfl):PG X (.Subscript o i pos) (gSub to ti t):=by
 intro pins s σ H v u Q I r h;rw[ha];refine YA (XO (thn (ho pins s σ H _ I h) λov s1 ⟨x,H1,I1,r1,q1⟩=>?_));refine YA (XO (thn (hi pins s1 σ H1 _ I1 q1) λiv s2 ⟨y,H2,I2,r2,q2⟩=>?_));refine YA (qM (YA (XO (thn (hs pins s2 σ H2 x y v ov iv u _ I2 r1 r2 r q2) λ_ s3 ⟨H3,I3,q3⟩=>?_))));exact wpAny_release ⟨σ,H3,I3,q3⟩
def tAsg (te:TE)(g:TG):TS:=λD σ H=>te σ H λx H1=>g x σ H1 D.nx
theorem Td {e:Expr}(he:PE X e te)(hg:PG X tg g)(hs:swapsWithSole [tg] e pos.line X.env=pure false:=by rfl)(hw:swappedStores [tg] e X.env=pure none:=by rfl)
  (h1:(assignEach [tg] X.env).map (·.2)=[assign tg X.env]:=by rfl):PS X (.Assign [tg] e pos) (tAsg te g):=by
 intro pins s σ H D I h;refine wpAny_Assign_stores (thn (he pins s σ H _ I h) λv s1 ⟨x,H1,I1,r1,q1⟩=>?_) hs hw;rw[h1];exact thn (hg pins s1 σ H1 x v _ I1 r1 q1) λ_ s2 q=>q
theorem Zc {i:Nat}{x:Str}{e:Expr}{te:TE}{pos':Pos}(hN:X.N.Nodup)(hi:X.N[i]?=some x)(hx:Loc X.env.scope x)(he:PE X e te)(hs:swapsWith e (some (.Name x pos')) pos.line X.env=pure false:=by rfl)(hf:X.fn x=true \/ X.env.scope.names.lookup x=some .local:=by first | exact .inl rfl | exact .inr rfl | assumption) :
  PS X (.Assign [.Name x pos'] e pos) (tAsg te (gName i)):=by
 intro pins s σ H D I h;refine wpAny_Assign_Name (thn (he pins s σ H _ I h) λv s1 ⟨y,H1,I1,r1,q1⟩=>?_) hs;exact T5 I1 hN hi hx r1 (λs2 I2=>⟨_,H1,I2,q1⟩) hf
def tWhile (c:TT)(tb:TS):TS:=λD σ H=>∃ W:Nat->St->Hp->Prop,(∃ m,W m σ H)/\∀ m σ H,W m σ H →
 c σ H λb H1=>if b=true then ∃ N:St->Hp->Prop,(∀ σ' H',N σ' H'->∃ m',m'<m/\W m' σ' H')/\tb { D with nx:=N,ct:=N,bk:=D.nx } σ H1 else D.nx σ H1
theorem Tc {c:Expr}{body:TL}{tc:TT}{tb:TS}(hp:PassesOwn (model X.prog X.w) X.A X.env X.xe)(hc:PT X c tc)(hb:PSs X body tb):PS X (.While c body [] pos) (tWhile tc tb):=by
 intro pins s σ H D I h;obtain⟨W,⟨m0,w0⟩,turn⟩:=h;refine wpAny_While (codeAny_whileLoop (λn s'=>∃ σ' H',Inv X pins σ' H' s'/\W n σ' H') ?_ m0 ⟨σ,H,I,w0⟩);rintro n s1 ⟨σ1,H1,I1,w1⟩;refine qG hp (thn (hc pins s1 σ1 H1 _ I1 (turn n σ1 H1 w1)) λb s2 ⟨H2,I2,q2⟩=>?_)
 cases b with
 | true =>
  obtain⟨N,hN,q2⟩:=q2;rw[JD rfl];refine qG hp (thn (hb pins s2 σ1 H2 _ I2 q2) λf s3 q3=>?_)
  cases f with
  | next =>
   obtain⟨σ3,H3,I3,n3⟩:=q3;obtain⟨m',hm,w3⟩:=hN σ3 H3 n3;exact⟨m',hm,σ3,H3,I3,w3⟩
  | cont =>
   obtain⟨σ3,H3,I3,n3⟩:=q3;obtain⟨m',hm,w3⟩:=hN σ3 H3 n3;exact⟨m',hm,σ3,H3,I3,w3⟩
  | brk=>exact q3
  | ret v=>exact q3
 | false =>
  rw[XQ XB];exact zE ⟨σ1,H2,I2,q2⟩
end
structure It where
 go:Nat->Hp->Prop
 yld:Nat->Hp->V->Hp->Prop
 stop:Nat->Hp->Prop
def FpOk (X:Cx)(pins:TD)(H:Hp)(b:Addr):Prop :=
 H b=none/\b≠X.env.locals/\b ∉ X.fs/\(b∈X.ex \/ X.s₀.heap.objs.size<=b)/\(∀ x c,X.env.cells.lookup x=some c->c≠b)/\∀ p∈X.pn++pins,p.1≠b
theorem Inv.fpOk (I:Inv X pins σ H s)(hb:s.heap.objs.size<=b)(hn:H' b=none):FpOk X pins H' b:=by
 refine⟨hn,zA (YU I.lt hb),I.nofs hb,.inr (XV I.sz hb),λx c e z=>?_,λp hp z=>?_⟩
 ·obtain⟨v,q⟩:=I.cell x c e;exact absurd (YU q.lt (by rw[z];exact hb)) (XX _)
 exact absurd (YU (YJ (I.pin p hp).1) (by rw[z];exact hb)) (XX _)
structure Turn (P:TR)(w:World)(K:TQ)(tg:Expr)(J:It)(fp:TJ)(it:Addr)(tn:Nat->Heap->Prop):Prop where
 mem:it∈fp
 obj:∀ i h,tn i h->∀ b∈fp,∃ o,h.get? b=some o/\∀ v,o.data≠.cell v
 keep:∀ i h h',tn i h->(∀ b∈fp,∀ o,h.get? b=some o->h'.get? b=some o)->tn i h'
 item:∀ (X:Cx),X.prog=P->X.w=w->X.K=K->X.calm=true->∀ (i:Nat) (pins:TD) (s:Shared) (σ:St) (H:Hp) (E:TC),Inv X pins σ H s->(∀ b∈fp,FpOk X pins H b)->tn i s.heap->J.go i H →
  wpAny (model P w) X.A (pyNext (.ref it)) (λr s1=>∃ u,r=some u ∧
   wpAny (model P w) X.A (letOwnedTupleGo tg (.ref it) u) (λ_ s2=>∃ x H',Inv X pins σ H' s2/\RelV x u/\J.yld i H x H'/\tn (i+1) s2.heap/\∀ b∈fp,H' b=none) E s1) E s
 done:∀ (X:Cx),X.prog=P->X.w=w->X.K=K->X.calm=true->∀ (i:Nat) (pins:TD) (s:Shared) (σ:St) (H:Hp) (E:TC),Inv X pins σ H s->(∀ b∈fp,FpOk X pins H b)->tn i s.heap->J.stop i H →
  wpAny (model P w) X.A (pyNext (.ref it)) (λr s1=>r=none/\Inv X pins σ H s1) E s
 self:∀ (A:Around) (i:Nat) (s:Shared) (Q:TC) (E:TC),tn i s.heap->Q (.ref it) s->wpAny (model P w) A (pyIter (.ref it)) Q E s
abbrev TI:=St->Hp->(It->Hp->Prop)->Prop
def PIE (X:Cx)(pins:TD)(σ:St)(tg:Expr)(R:It->Hp->Prop)(itv:Value)(s2:Shared):Prop :=
 ∃ (it:Addr) (fp:TJ) (tn:Nat->Heap->Prop) (J:It) (H':Hp),itv=.ref it/\Inv X pins σ H' s2/\Turn X.prog X.w X.K tg J fp it tn/\tn 0 s2.heap/\(∀ b∈fp,FpOk X pins H' b)/\R J H'
def PI (X:Cx)(tg iter:Expr)(wi:TI):Prop :=
 ∀ (pins:TD) (s:Shared) (σ:St) (H:Hp) (R:It->Hp->Prop),Inv X pins σ H s->wi σ H R →
  wpAny (model X.prog X.w) X.A (eval iter X.env) (λv s1=>wpAny (model X.prog X.w) X.A (pyIter v) (PIE X pins σ tg R) X.xe s1) X.xe s
theorem Kk {M:Model}{A:Around}{E:TC}{s:Shared}{tg:Expr}{it:Addr}{u:Value}{o:Obj}{n:String}{vs:Array Value}{Q:Unit->Shared->Prop}(ho:s.heap.get? it=some o)(hc:o.cls=.type n)(hd:o.data=.fields vs)
  (hn:["enumerate","zip","dict_itemiterator","dict_reverseitemiterator","odict_iterator","itertools.zip_longest","itertools.pairwise"].contains n=false) (hQ:Q () s):wpAny M A (letOwnedTupleGo tg (.ref it) u) Q E s:=by
 unfold letOwnedTupleGo
 cases tg <;> first
  | exact YE hQ
  | (cases u <;> first
    | exact YE hQ
    | (refine YA (Y1d ho ?_)
       rw[hc,hd];show wpAny M A (if (["enumerate","zip","dict_itemiterator","dict_reverseitemiterator","odict_iterator","itertools.zip_longest","itertools.pairwise"].contains n && vs[0]? == some (rawInt _))=true then _ else _) Q E s;rw[XQ (by intro h;rw[hn,Bool.false_and] at h;cases h)];exact YE hQ))
def Itl (K:TQ)(a:Addr):It :=
 ⟨λi H=>∃ xs x,SqL K H a xs/\xs[i]?=some x,λi H x H'=>H'=H/\∀ xs,SqL K H a xs->xs[i]?=some x,λi H=>∃ xs,SqL K H a xs/\xs.length<=i⟩
def Itt (K:TQ)(a:Addr):It :=
 ⟨λi H=>∃ xs x,SqT K H a xs/\xs[i]?=some x,λi H x H'=>H'=H/\∀ xs,SqT K H a xs->xs[i]?=some x,λi H=>∃ xs,SqT K H a xs/\xs.length<=i⟩
def Itr (lo:Int)(n:Nat):It:=⟨λi _=>i<n,λi H x H'=>H'=H/\x=.int (lo+i),λi _=>n<=i⟩
theorem Ky {P:TR}{w:World}(a it:Addr):Turn P w K tg (Itl K a) [it] it (λi h=>h.IsListIter it a i) where
 mem:=J8
 obj:=λi h st b hb=>by
  have e:b=it:=by simpa using hb
  subst e;obtain⟨o,e,c,d⟩:=st;exact⟨o,e,λv z=>by rw[d] at z;cases z⟩
 keep:=λi h h' st k=>st.at λo e=>k it J8 o e
 item:=by
  intro X hP hw hK hc i pins s σ H E I hf st hg;subst hP hw hK;obtain⟨xs,x,hq,hx⟩:=hg;obtain⟨its,rv,p,hz⟩:=I.list hq;obtain⟨u,hu,ru⟩:=rv.get hx;obtain⟨f0,f1,f2,f3,f4,f5⟩:=hf it J8;refine wpAny_pyNext_list_item st p.isList (x:=u) (by simpa using hu) λh' st' sb=>?_;have I1:Inv X pins σ H { s with heap:=h' }:=I.turned (t':=s.toks) (λb o hb e=>(sb.2 b hb).trans e) f0 f1 f3 f4 f5;obtain⟨o,e,c,d⟩:=id st';exact⟨u,rfl,Kk (s:={ s with heap:=h' }) e c d J7 ⟨x,H,I1,ru,⟨rfl,λys hy=>by rw[I.list_inj hy hq];exact hx⟩,st',λb hb=>(hf b hb).1⟩⟩
 done:=by
  intro X hP hw hK hc i pins s σ H E I hf st hg;subst hP hw hK;obtain⟨xs,hq,hx⟩:=hg;obtain⟨its,rv,p,hz⟩:=I.list hq;obtain⟨f0,f1,f2,f3,f4,f5⟩:=hf it J8;have hl:=rv.length;exact Sb.Ty (I.qt hc) st p.isList (by simp;omega) λh' eb=>⟨rfl,I.turned (t':=s.toks) (λb o hb e=>eb b o hb e) f0 f1 f3 f4 f5⟩
 self:=λ_ _ _ _ _ st h=>wpAny_pyIter_listiter st h
theorem Me {P:TR}{w:World}(a it:Addr):Turn P w K tg (Itt K a) [it] it (λi h=>h.IsTupleIter it a i) where
 mem:=J8
 obj:=λi h st b hb=>by
  have e:b=it:=by simpa using hb
  subst e;obtain⟨o,e,c,d⟩:=st;exact⟨o,e,λv z=>by rw[d] at z;cases z⟩
 keep:=λi h h' st k=>st.at λo e=>k it J8 o e
 item:=by
  intro X hP hw hK hc i pins s σ H E I hf st hg;subst hP hw hK;obtain⟨xs,x,hq,hx⟩:=hg;obtain⟨its,rv,p,hz⟩:=I.tuple hq;obtain⟨u,hu,ru⟩:=rv.get hx;obtain⟨f0,f1,f2,f3,f4,f5⟩:=hf it J8;refine wpAny_pyNext_tuple_item st (show s.heap.IsTuple a its.toArray from p) (x:=u) (by simpa using hu) λh' st' sb=>?_;have I1:Inv X pins σ H { s with heap:=h' }:=I.turned (t':=s.toks) (λb o hb e=>(sb.2 b hb).trans e) f0 f1 f3 f4 f5;obtain⟨o,e,c,d⟩:=id st';exact⟨u,rfl,Kk (s:={ s with heap:=h' }) e c d J7 ⟨x,H,I1,ru,⟨rfl,λys hy=>by rw[I.tuple_inj hy hq];exact hx⟩,st',λb hb=>(hf b hb).1⟩⟩
 done:=by
  intro X hP hw hK hc i pins s σ H E I hf st hg;subst hP hw hK;obtain⟨xs,hq,hx⟩:=hg;obtain⟨its,rv,p,hz⟩:=I.tuple hq;obtain⟨f0,f1,f2,f3,f4,f5⟩:=hf it J8;have hl:=rv.length;exact Sb.Ug (I.qt hc) st (show s.heap.IsTuple a its.toArray from p) (by simp;omega) λh' eb=>⟨rfl,I.turned (t':=s.toks) (λb o hb e=>eb b o hb e) f0 f1 f3 f4 f5⟩
 self:=λ_ _ _ _ _ st h=>wpAny_pyIter_tupleiter st h
theorem Mf {P:TR}{w:World}(it:Addr)(lo:Int)(n:Nat):Turn P w K tg (Itr lo n) [it] it (λi h=>IsRangeIter h it (lo+(i:Nat)*1) ((n:Int) - (i:Nat)) 1) where
 mem:=J8
 obj:=λi h st b hb=>by
  have e:b=it:=by simpa using hb
  subst e;exact⟨_,st,λv z=>by
   have z':Data.fields _=Data.cell v:=z
   cases z'⟩
 keep:=λi h h' st k=>k it J8 _ st
 item:=by
  intro X hP hw hK hc i pins s σ H E I hf st hg;subst hP hw hK;obtain⟨f0,f1,f2,f3,f4,f5⟩:=hf it J8;refine Sb.Ms i s _ _ hg st λv h' tk hv st' kk=>?_;obtain⟨t,rfl⟩:=hv;have I1:Inv X pins σ H { s with heap:=h',toks:=tk }:=I.turned (λb o hb e=>kk b o (by simpa using hb) e) f0 f1 f3 f4 f5;refine⟨_,rfl,Kk (s:={ s with heap:=h',toks:=tk }) (n:="range_iterator") st' rfl rfl J7 ⟨.int (lo+i),H,I1,⟨t,?_⟩,⟨rfl,rfl⟩,st',λb hb=>(hf b hb).1⟩⟩;rw[Int.mul_one]
 done:=by
  intro X hP hw hK hc i pins s σ H E I hf st hg;subst hP hw hK;obtain⟨f0,f1,f2,f3,f4,f5⟩:=hf it J8;exact Sb.Pw (I.qt hc) st (by have:n<=i:=hg;omega) λh' eb=>⟨rfl,I.turned (t':=s.toks) (λb o hb e=>eb b o hb e) f0 f1 f3 f4 f5⟩
 self:=λ_ _ _ _ _ st h=>wpAny_pyIter_rangeiter st h
section
variable {X:Cx}{tg:Expr}
inductive iList_i (K:TQ) (R:(It->Hp->Prop)) (x:V) (H1:Hp):Prop
 | mk (a:_) (zz0:x=.ref a) (zz1:(∃ xs,SqL K H1 a xs)) (zz2:R (Itl K a) H1)
def iList (K:TQ)(tl:TE):TI:=λσ H R=>tl σ H (iList_i K R)
inductive iTup_i (K:TQ) (R:(It->Hp->Prop)) (x:V) (H1:Hp):Prop
 | mk (a:_) (zz0:x=.ref a) (zz1:(∃ xs,SqT K H1 a xs)) (zz2:R (Itt K a) H1)
def iTup (K:TQ)(tl:TE):TI:=λσ H R=>tl σ H (iTup_i K R)
theorem Wl {l:Expr}(hl:PE X l tl):PI X tg l (iList X.K tl):=by
 intro pins s σ H R I h;refine thn (hl pins s σ H _ I h) λv s1 ⟨x,H1,I1,r1,q1⟩=>?_;obtain⟨a,e,⟨xs,hq⟩,q⟩:=q1;subst e
 cases r1;obtain⟨its,rv,p,hz⟩:=I1.list hq;refine zr p.isList ?_;refine⟨s1.heap.objs.size,[s1.heap.objs.size],_,_,H1,rfl,I1.kept (t':=s1.toks) λb o e=>YD _ e,Ky a _,⟨_,YL _ rfl,rfl,rfl⟩,λb hb=>?_,q⟩;have e:b=s1.heap.objs.size:=by simpa using hb
 subst e;exact I1.fpOk (YO _) (I1.hok.fresh (YO _))
theorem Fq {l:Expr}(hl:PE X l tl):PI X tg l (iTup X.K tl):=by
 intro pins s σ H R I h;refine thn (hl pins s σ H _ I h) λv s1 ⟨x,H1,I1,r1,q1⟩=>?_;obtain⟨a,e,⟨xs,hq⟩,q⟩:=q1;subst e
 cases r1;obtain⟨its,rv,p,hz⟩:=I1.tuple hq;refine wpAny_pyIter_tuple (show s1.heap.IsTuple a its.toArray from p) ?_;refine⟨s1.heap.objs.size,[s1.heap.objs.size],_,_,H1,rfl,I1.kept (t':=s1.toks) λb o e=>YD _ e,Me a _,⟨_,YL _ rfl,rfl,rfl⟩,λb hb=>?_,q⟩;have e:b=s1.heap.objs.size:=by simpa using hb
 subst e;exact I1.fpOk (YO _) (I1.hok.fresh (YO _))
theorem Fm {R:It->Hp->Prop}{lo hi:Int}{t u v:Tok}{tk:Nat}(I:Inv X pins σ H s)(h1:-(2 ^ 62)<=lo)(h2:lo<2 ^ 62)(h3:-(2 ^ 62)<=hi)(h4:hi<2 ^ 62)
  (q:R (Itr lo (hi - lo).toNat) H):wpAny (model X.prog X.w) X.A (pyIter (.ref s.heap.objs.size)) (PIE X pins σ tg R) E { s with heap:=s.heap.push { cls:=.type "range",data:=.fields #[.int lo t,.int hi u,.int 1 v] },toks:=tk }:=by
 refine wpAny_pyIter_range (IsRange.new ..) (small_one h1 h2 h3 h4) ?_;have I1:Inv X pins σ H { s with heap:=s.heap.push { cls:=.type "range",data:=.fields #[.int lo t,.int hi u,.int 1 v] },toks:=tk }:=I.kept λb o e=>YD _ e;refine⟨(s.heap.push { cls:=.type "range",data:=.fields #[.int lo t,.int hi u,.int 1 v] }).objs.size,[(s.heap.push { cls:=.type "range",data:=.fields #[.int lo t,.int hi u,.int 1 v] }).objs.size],_,_,H,rfl,
  I1.kept (t':=tk) λb o e=>YD _ e,Mf _ lo (hi - lo).toNat,?_,λb hb=>?_,q⟩
 ·have e1:lo+((0:Nat):Int)*1=lo:=J8
  have e2:(((hi - lo).toNat:Nat):Int) - ((0:Nat):Int)=Builtin.Range.rangeSize lo hi 1:=by rw[rangeSize_one];split <;> omega
  show IsRangeIter _ _ (lo+((0:Nat):Int)*1) ((((hi - lo).toNat:Nat):Int) - ((0:Nat):Int)) 1;rw[e1,e2];exact YL _ rfl
 have e:b=(s.heap.push { cls:=.type "range",data:=.fields #[.int lo t,.int hi u,.int 1 v] }).objs.size:=by simpa using hb
 subst e;exact I1.fpOk (YO _) (I1.hok.fresh (YO _))
inductive iRng1_i (R:(It->Hp->Prop)) (vs:TV) (H1:Hp):Prop
 | mk (j:Int) (zz0:vs=[.int j]) (zz1:-(2 ^ 62)<=j) (zz2:j<2 ^ 62) (zz3:R (Itr 0 j.toNat) H1)
def iRng1 (ta:TA):TI:=λσ H R=>ta σ H (iRng1_i R)
theorem Yj {a:Expr}{ta:TA}{p pos:Pos}(hg:Gl X "range")(hm:X.mg "range"=none)(ha:PA X [a] ta)(hs:starEach [a] X.env=[(false,eval a X.env)]:=by rfl):PI X tg (.Call (.Name "range" p) [a] [] pos) (iRng1 ta):=by
 intro pins s σ H R I h;refine Call_ (Vh I hg hm boot_range (qx (thn (ha pos pins s σ H _ I h) λus s1 ⟨vs,H1,I1,r1,q1⟩=>?_) hs rfl));obtain⟨j,e,q1,q2,q⟩:=q1;subst e
 cases r1 with
 | cons r rr =>
  cases rr;obtain⟨t,rfl⟩:=r;exact call_range_1 (Fm I1 U U q1 q2 (by simpa using q))
def tFor (wi:TI)(g:TG)(tb:TS):TS:=λD σ H=>wi σ H λJ H1=>∃ W:Nat->Nat->St->Hp->Prop,(∃ m,W 0 m σ H1)/\∀ i m σ H,W i m σ H →
 (J.stop i H/\D.nx σ H) \/ (J.go i H/\∃ N:St->Hp->Prop,(∀ σ' H',N σ' H'->∃ m',m'<m/\W (i+1) m' σ' H')/\∀ x H',J.yld i H x H'->g x σ H' λσ2 H2=>tb { D with nx:=N,ct:=N,bk:=D.nx } σ2 H2)
def pinsAt (fp:TJ)(h:Heap):List (Addr × Obj):=fp.filterMap λb=>(h.get? b).map λo=>(b,o)
theorem Wm {fp:TJ}(hb:b∈fp)(e:h.get? b=some o):(b,o)∈pinsAt fp h:=qZ.mpr ⟨b,hb,by rw[e];rfl⟩
theorem Jr {fp:TJ}{h:Heap}{p:Addr × Obj}(hp:p∈pinsAt fp h):p.1∈fp/\h.get? p.1=some p.2:=by
 obtain⟨b,hb,e⟩:=qZ.mp hp
 cases q:h.get? b with
 | none=>rw[q] at e;cases e
 | some o =>
  rw[q] at e;have e':(b,o)=p:=XH e;subst e';exact⟨hb,q⟩
theorem Inv.pinned {fp:TJ}(I:Inv X pins σ H s)(hf:∀ b∈fp,FpOk X pins H b)(ho:∀ b∈fp,∃ o,s.heap.get? b=some o/\∀ v,o.data≠.cell v):Inv X (pins++pinsAt fp s.heap) σ H s :=
 I.pins_of λp hp=>(YN.mp hp).elim (λz=>I.pin p (YZ _ z)) λz=>by
  obtain⟨hb,e⟩:=Jr z;obtain⟨f0,f1,f2,_⟩:=hf p.1 hb;obtain⟨o,e',d⟩:=ho p.1 hb;rw[e] at e';cases e';exact⟨e,f0,f1,f2,d⟩
theorem Inv.unpinned {pl:TD}(I:Inv X (pins++pl) σ H s):Inv X pins σ H s:=I.pins_of λp hp=>I.pin p (YZ _ (XE _ hp))
theorem Wk {iter:Expr}{body:TL}{wi:TI}{g:TG}{tb:TS}{pos:Pos}(hp:PassesOwn (model X.prog X.w) X.A X.env X.xe)(hc:X.calm=true)(hi:PI X tg iter wi)(hg:PG X tg g)(hb:PSs X body tb)
  (hs:∀ x,foldedSetIterable iter X.env x=pure x:=by intro _;rfl):PS X (.For tg iter body [] pos) (tFor wi g tb):=by
 intro pins s σ H D I h;refine wpAny_For (thn (hi pins s σ H _ I h) λv s1 h1=>thn h1 λitv s2 h2=>?_) hs;obtain⟨it,fp,tn,J,H2,e,I2,T,st2,f2,W,⟨m0,w0⟩,turn⟩:=h2;subst e;have stat:∀ {H':Hp},(∀ b∈fp,H' b=none)->∀ b∈fp,FpOk X pins H' b:=λhn b hb=>⟨hn b hb,(f2 b hb).2⟩;refine codeAny_forLoop_any (λn s'=>∃ i σ' H',Inv X pins σ' H' s'/\tn i s'.heap/\(∀ b∈fp,H' b=none)/\W i n σ' H') ?_ m0 ⟨0,σ,H2,I2,st2,λb hb=>(f2 b hb).1,w0⟩;rintro n s3 ⟨i,σ3,H3,I3,st3,fr3,w3⟩;rcases turn i n σ3 H3 w3 with ⟨stop,qn⟩ | ⟨go,N,hN,step⟩
 ·refine qG hp (thn (T.done X rfl rfl rfl hc i pins s3 σ3 H3 X.xe I3 (stat fr3) st3 stop) λr s4 ⟨hr,I4⟩=>?_);subst hr;exact zE ⟨σ3,H3,I4,qn⟩
 refine qG hp (thn (T.item X rfl rfl rfl hc i pins s3 σ3 H3 X.xe I3 (stat fr3) st3 go) λr s4 ⟨u,hr,h4⟩=>?_);subst hr;refine qG hp (thn h4 λ_ s5 ⟨x,H5,I5,r5,y5,st5,fr5⟩=>?_);have I5':=I5.pinned (stat fr5) (T.obj _ _ st5);refine qG hp (thn (hg _ s5 σ3 H5 x u _ I5' r5 (step x H5 y5)) λ_ s6 ⟨σ6,H6,I6,q6⟩=>?_);refine qG hp (thn (hb _ s6 σ6 H6 _ I6 q6) λf s7 q7=>?_);have again:∀ {σ7:St} {H7:Hp},Inv X (pins++pinsAt fp s5.heap) σ7 H7 s7->N σ7 H7->∃ m,m<n/\∃ i σ' H',Inv X pins σ' H' s7/\tn i s7.heap/\(∀ b∈fp,H' b=none)/\W i m σ' H':=λ{σ7 H7} I7 n7=>by
  obtain⟨m',hm,w7⟩:=hN σ7 H7 n7;refine⟨m',hm,i+1,σ7,H7,I7.unpinned,T.keep _ _ _ st5 λb hb o e=>(I7.pin (b,o) (YZ _ (YZ _ (Wm hb e)))).1,λb hb=>?_,w7⟩;obtain⟨o,e,d⟩:=T.obj _ _ st5 b hb;exact (I7.pin (b,o) (YZ _ (YZ _ (Wm hb e)))).2.1
 cases f with
 | next=>obtain⟨σ7,H7,I7,n7⟩:=q7;exact again I7 n7
 | cont=>obtain⟨σ7,H7,I7,n7⟩:=q7;exact again I7 n7
 | brk=>obtain⟨σ7,H7,I7,q7⟩:=q7;exact⟨σ7,H7,I7.unpinned,q7⟩
 | ret v=>obtain⟨x7,σ7,H7,I7,r7,q7⟩:=q7;exact⟨x7,σ7,H7,I7.unpinned,r7,q7⟩
end
theorem Ub {lo:Int}{n:Nat}{D:Ends}(Pv:Nat->St->Hp->Prop)(h0:Pv 0 σ H)
  (hs:∀ i σ H,i<n->Pv i σ H->g (.int (lo+i)) σ H λσ2 H2=>tb { D with nx:=Pv (i+1),ct:=Pv (i+1),bk:=D.nx } σ2 H2) (hd:∀ σ H,Pv n σ H->D.nx σ H) :
  ∃ W:Nat->Nat->St->Hp->Prop,(∃ m,W 0 m σ H)/\∀ i m σ H,W i m σ H →
   ((Itr lo n).stop i H/\D.nx σ H) \/ ((Itr lo n).go i H/\∃ N:St->Hp->Prop,(∀ σ' H',N σ' H'->∃ m',m'<m/\W (i+1) m' σ' H')/\∀ x H',(Itr lo n).yld i H x H'->g x σ H' λσ2 H2=>tb { D with nx:=N,ct:=N,bk:=D.nx } σ2 H2):=by
 refine⟨λi m σ H=>m=n - i/\i<=n/\Pv i σ H,⟨n,J8,JU _,h0⟩,?_⟩;rintro i m σ H ⟨rfl,hi,p⟩;by_cases hlt:i<n
 ·refine .inr ⟨hlt,Pv (i+1),λσ' H' p'=>⟨n - (i+1),U,rfl,hlt,p'⟩,λx H' y=>?_⟩;obtain⟨e,y⟩:=y;subst e y;exact hs i σ _ hlt p
 have e:i=n:=U
 subst e;exact .inl ⟨YO _,hd σ H p⟩
theorem Pe {c:TT}{tb:TS}{D:Ends}{σ:St}{H:Hp}(Pv:St->Hp->Prop)(μ:St->Hp->Nat)(h0:Pv σ H)
  (hs:∀ σ H,Pv σ H->c σ H λb H1=>if b=true then tb { D with nx:=λσ' H'=>Pv σ' H'/\μ σ' H'<μ σ H,ct:=λσ' H'=>Pv σ' H'/\μ σ' H'<μ σ H,bk:=D.nx } σ H1 else D.nx σ H1)
  (mono:∀ σ H Q Q',(∀ b H1,Q b H1->Q' b H1)->c σ H Q->c σ H Q'):tWhile c tb D σ H:=by
 refine⟨λm σ H=>m=μ σ H/\Pv σ H,⟨_,rfl,h0⟩,?_⟩;rintro m σ H ⟨rfl,p⟩;refine mono σ H _ _ (λb H1 q=>?_) (hs σ H p)
 cases b with
 | true=>exact⟨_,λσ' H' ⟨p',l⟩=>⟨_,l,rfl,p'⟩,q⟩
 | false=>exact q
abbrev R2:=V->V->Hp->VK->Prop
def OpR (X:Cx)(f:Value->Value->Sem Value)(r:R2):Prop :=
 ∀ (pins:TD) (s:Shared) (σ:St) (H:Hp) (x y:V) (v u:Value) (Q:VK),Inv X pins σ H s->RelV x v->RelV y u->r x y H Q →
  wpAny (model X.prog X.w) X.A (f v u) (EP X pins σ Q) X.xe s
def UnR (X:Cx)(f:Value->Sem Value)(r:V->Hp->VK->Prop):Prop :=
 ∀ (pins:TD) (s:Shared) (σ:St) (H:Hp) (x:V) (v:Value) (Q:VK),Inv X pins σ H s->RelV x v->r x H Q →
  wpAny (model X.prog X.w) X.A (f v) (EP X pins σ Q) X.xe s
def CallR (X:Cx)(f:Value)(r:List V->Hp->VK->Prop):Prop :=
 ∀ (pins:TD) (s:Shared) (σ:St) (H:Hp) (xs:TV) (us:TH) (Q:VK),Inv X pins σ H s->Vals xs us->r xs H Q →
  wpAny (model X.prog X.w) X.A (call f us) (EP X pins σ Q) X.xe s
def TruR (X:Cx)(r:V->Hp->(Bool->Hp->Prop)->Prop):Prop :=
 ∀ (pins:TD) (s:Shared) (σ:St) (H:Hp) (x:V) (v:Value) (Q:Bool->Hp->Prop),Inv X pins σ H s->RelV x v->r x H Q →
  wpAny (model X.prog X.w) X.A (truthy v) (TP X pins σ Q) X.xe s
def tOp (r:R2)(ta tb:TE):TE:=λσ H Q=>ta σ H λx H1=>tb σ H1 λy H2=>r x y H2 Q
def tUn (r:V->Hp->VK->Prop)(ta:TE):TE:=λσ H Q=>ta σ H λx H1=>r x H1 Q
inductive rI (C:Int->Int->Prop) (g:Int->Int->V) (x:V) (y:V) (H:Hp) (Q:VK):Prop
 | mk (i j:_) (zz0:x=.int i) (zz1:y=.int j) (zz2:C i j) (zz3:Q (g i j) H)
inductive rI0 (g:Int->Int->V) (x:V) (y:V) (H:Hp) (Q:VK):Prop
 | mk (i j:_) (zz0:x=.int i) (zz1:y=.int j) (zz2:Q (g i j) H)
inductive rU (g:Int->V) (x:V) (H:Hp) (Q:VK):Prop
 | mk (i:_) (zz0:x=.int i) (zz1:Q (g i) H)
section
variable {X:Cx}{a b:Expr}{ta tb:TE}{pos:Pos}
theorem Z27 (ha:PE X a ta)(hb:PE X b tb){pins:TD}{s:Shared}{σ:St}{H:Hp}{R:V->V->Hp->Prop}(I:Inv X pins σ H s)
  (h:ta σ H λx H1=>tb σ H1 λy H2=>R x y H2) {Q:TC} {f:Value->Value->Sem Value}
  (hf:∀ v u s2 x y H2,Inv X pins σ H2 s2->RelV x v->RelV y u->R x y H2->wpAny (model X.prog X.w) X.A (f v u) Q X.xe s2) :
  wpAny (model X.prog X.w) X.A (eval a X.env) (λv s₁=>wpAny (model X.prog X.w) X.A (eval b X.env) (λu s₂=>wpAny (model X.prog X.w) X.A (f v u) Q X.xe s₂) X.xe s₁) X.xe s:=by
 refine thn (ha pins s σ H _ I h) λv s1 ⟨x,H1,I1,r1,q1⟩=>?_;refine thn (hb pins s1 σ H1 _ I1 q1) λu s2 ⟨y,H2,I2,r2,q2⟩=>?_;exact hf v u s2 x y H2 I2 r1 r2 q2
theorem Za {op:Operator}{r:R2}(ho:OpR X (binaryOp op) r)(ha:PE X a ta)(hb:PE X b tb):PE X (.BinOp a op b pos) (tOp r ta tb):=by
 intro pins s σ H Q I h;exact wpAny_BinOp (Z27 ha hb I h λv u s2 x y H2 I2 rx ry q=>ho pins s2 σ H2 x y v u Q I2 rx ry q)
theorem Fs {op:UnaryOp}{r:V->Hp->VK->Prop}(ho:UnR X (unaryOp op) r)(ha:PE X a ta):PE X (.UnaryOp op a pos) (tUn r ta):=by
 intro pins s σ H Q I h;exact UnaryOp_ (thn (ha pins s σ H _ I h) λv s1 ⟨x,H1,I1,r1,q1⟩=>ho pins s1 σ H1 x v Q I1 r1 q1)
theorem opI {f:Value->Value->Sem Value}{C:Int->Int->Prop}{g:Int->Int->Int}
  (rule:∀ (i j:Int) (t u:Tok) (s:Shared) (Q:TC) (E:TC),C i j->Q (.int (g i j) s.toks) { s with toks:=s.toks+1 }->wpAny (model X.prog X.w) X.A (f (.int i t) (.int j u)) Q E s) :
  OpR X f (rI C λi j=>.int (g i j)):=by
 intro pins s σ H x y v u Q I rx ry h;obtain⟨i,j,rfl,rfl,hc,q⟩:=h;obtain⟨t,rfl⟩:=rx;obtain⟨t',rfl⟩:=ry;exact rule i j t t' s _ _ hc ⟨.int (g i j),H,I.tok _,⟨_,rfl⟩,q⟩
theorem Z2h {f:Value->Value->Sem Value}{g:Int->Int->Int}
  (rule:∀ (i j:Int) (t u:Tok) (s:Shared) (Q:TC) (E:TC),Q (.int (g i j) s.toks) { s with toks:=s.toks+1 }->wpAny (model X.prog X.w) X.A (f (.int i t) (.int j u)) Q E s) :
  OpR X f (rI0 λi j=>.int (g i j)):=by
 intro pins s σ H x y v u Q I rx ry h;obtain⟨i,j,rfl,rfl,q⟩:=h;obtain⟨t,rfl⟩:=rx;obtain⟨t',rfl⟩:=ry;exact rule i j t t' s _ _ ⟨.int (g i j),H,I.tok _,⟨_,rfl⟩,q⟩
theorem Z1m {f:Value->Value->Sem Value}{g:Int->Int->Bool}
  (rule:∀ (i j:Int) (t u:Tok) (s:Shared) (Q:TC) (E:TC),Q (.bool (g i j)) s->wpAny (model X.prog X.w) X.A (f (.int i t) (.int j u)) Q E s) :
  OpR X f (rI0 λi j=>.bl (g i j)):=by
 intro pins s σ H x y v u Q I rx ry h;obtain⟨i,j,rfl,rfl,q⟩:=h;obtain⟨t,rfl⟩:=rx;obtain⟨t',rfl⟩:=ry;exact rule i j t t' s _ _ ⟨.bl (g i j),H,I,rfl,q⟩
def CPow (i j:Int):Prop:=0<=j/\j<=1000000/\i.natAbs<2 ^ 64
def CMul (i j:Int):Prop:=(-(2 ^ 64)<i/\i<2 ^ 64) \/ (-(2 ^ 64)<j/\j<2 ^ 64)
theorem Ya:OpR X (binaryOp .Add) (rI0 λi j=>.int (i+j)):=Z2h λ_ _ _ _ _ _ _ q=>add_int q
theorem Tm:OpR X (binaryOp .Sub) (rI0 λi j=>.int (i - j)):=Z2h λ_ _ _ _ _ _ _ q=>sub_int q
theorem Xp:OpR X (binaryOp .Mod) (rI (λ_ j=>0<j) λi j=>.int (i % j)):=opI λi j _ _ _ _ _ hc q=>by
 have h1:(0:Int)<j:=hc;exact mod_int' U (by rw[Int.fmod_eq_emod_of_nonneg i U];exact q)
theorem Bh:OpR X (binaryOp .Mod) (rI (λ_ j=>j≠0) λi j=>.int (i.fmod j)):=opI λ_ _ _ _ _ _ _ hc q=>mod_int' hc q
theorem To:OpR X (binaryOp .Pow) (rI CPow λi j=>.int (i ^ j.toNat)):=opI λ_ _ _ _ _ _ _ hc q=>pow_int_small hc.1 hc.2.1 hc.2.2 q
theorem unI {f:Value->Sem Value}{g:Int->Int}
  (rule:∀ (i:Int) (t:Tok) (s:Shared) (Q:TC) (E:TC),Q (.int (g i) s.toks) { s with toks:=s.toks+1 }->wpAny (model X.prog X.w) X.A (f (.int i t)) Q E s) :
  UnR X f (rU λi=>.int (g i)):=by
 intro pins s σ H x v Q I rx h;obtain⟨i,rfl,q⟩:=h;obtain⟨t,rfl⟩:=rx;exact rule i t s _ _ ⟨.int (g i),H,I.tok _,⟨_,rfl⟩,q⟩
theorem Mc:UnR X (unaryOp .USub) (rU λi=>.int (-i)):=unI λ_ _ _ _ _ q=>neg_int q
end
def scal:V->V->Bool
 | .non,.non=>true | .non,.int _=>true | .int _,.non=>true | .non,.bl _=>true | .bl _,.non=>true | .non,.str _=>true | .str _,.non=>true
 | .int _,.int _=>true | .bl _,.bl _=>true | .str _,.str _=>true | .byt _,.byt _=>true
 | .int _,.str _=>true | .str _,.int _=>true | .bl _,.str _=>true | .str _,.bl _=>true
 | _,_=>false
def rEq:R2:=λx y H Q=>scal x y=true/\Q (.bl (decide (x=y))) H
def rNe:R2:=λx y H Q=>scal x y=true/\Q (.bl (!decide (x=y))) H
theorem Kp {i j:Int}:decide (V.int i=V.int j)=(i == j):=by
 rw[GS];simp
theorem C7 {i j:Bool}:decide (V.bl i=V.bl j)=(i == j):=by
 rw[GS];simp
theorem Ko {i j:Str}:decide (V.str i=V.str j)=(i == j):=by
 rw[GS];simp
theorem Kq {i j:Array UInt8}:decide (V.byt i=V.byt j)=(i.toList == j.toList):=by
 rw[GS]
 cases i
 cases j;simp
section
variable {X:Cx}{a b c:Expr}{ta tb tc:TE}{pos:Pos}
theorem Zs {Q:VK}{k k':Bool}(I:Inv X pins σ H s)(q:Q (.bl k) H)(e:k=k'):EP X pins σ Q (.bool k') s:=by
 subst e;exact⟨.bl k,H,I,rfl,q⟩
theorem W2:OpR X (compareOp .Eq) rEq:=by
 intro pins s σ H x y v u Q I rx ry h;obtain⟨hs,q⟩:=h
 cases x with
 | non =>
  cases rx
  cases y with
  | non=>cases ry;exact PySem.EqNone.eq_none_none (Zs I q J8)
  | bl j=>cases ry;exact PySem.EqNone.eq_none_bool (Zs I q J8)
  | int j=>obtain⟨t',rfl⟩:=ry;exact PySem.EqNone.eq_none_int (Zs I q J8)
  | str j=>obtain⟨t',rfl⟩:=ry;exact PySem.EqNone.eq_none_str (Zs I q J8)
  | _=>exact absurd (show false=true from hs) XB
 | bl i =>
  cases rx
  cases y with
  | non=>cases ry;exact PySem.EqNone.eq_bool_none (Zs I q J8)
  | bl j=>cases ry;exact eq_bool (Zs I q C7)
  | str j=>obtain⟨t',rfl⟩:=ry;exact PySem.EqMixed.eq_bool_str (Zs I q J8)
  | _=>exact absurd (show false=true from hs) XB
 | int i =>
  obtain⟨t,rfl⟩:=rx
  cases y with
  | non=>cases ry;exact PySem.EqNone.eq_int_none (Zs I q J8)
  | int j=>obtain⟨t',rfl⟩:=ry;exact eq_int (Zs I q Kp)
  | str j=>obtain⟨t',rfl⟩:=ry;exact PySem.EqMixed.eq_int_str (Zs I q J8)
  | _=>exact absurd (show false=true from hs) XB
 | str i =>
  obtain⟨t,rfl⟩:=rx
  cases y with
  | non=>cases ry;exact PySem.EqNone.eq_str_none (Zs I q J8)
  | bl j=>cases ry;exact PySem.EqMixed.eq_str_bool (Zs I q J8)
  | int j=>obtain⟨t',rfl⟩:=ry;exact PySem.EqMixed.eq_str_int (Zs I q J8)
  | str j=>obtain⟨t',rfl⟩:=ry;exact eq_str (Zs I q Ko)
  | _=>exact absurd (show false=true from hs) XB
 | byt i =>
  obtain⟨t,rfl⟩:=rx
  cases y with
  | byt j=>obtain⟨t',rfl⟩:=ry;exact W.eq_bytes (Zs I q Kq)
  | _=>exact absurd (show false=true from hs) XB
 | _=>cases y <;> exact absurd (show false=true from hs) XB
theorem K7:OpR X (compareOp .NotEq) rNe:=by
 intro pins s σ H x y v u Q I rx ry h;obtain⟨hs,q⟩:=h
 cases x with
 | non =>
  cases rx
  cases y with
  | non=>cases ry;exact PySem.EqNone.ne_none_none (Zs I q J8)
  | bl j=>cases ry;exact PySem.EqNone.ne_none_bool (Zs I q J8)
  | int j=>obtain⟨t',rfl⟩:=ry;exact PySem.EqNone.ne_none_int (Zs I q J8)
  | str j=>obtain⟨t',rfl⟩:=ry;exact PySem.EqNone.ne_none_str (Zs I q J8)
  | _=>exact absurd (show false=true from hs) XB
 | bl i =>
  cases rx
  cases y with
  | non=>cases ry;exact PySem.EqNone.ne_bool_none (Zs I q J8)
  | bl j=>cases ry;exact ne_bool (Zs I q (congrArg not C7))
  | str j=>obtain⟨t',rfl⟩:=ry;exact PySem.EqMixed.ne_bool_str (Zs I q J8)
  | _=>exact absurd (show false=true from hs) XB
 | int i =>
  obtain⟨t,rfl⟩:=rx
  cases y with
  | non=>cases ry;exact PySem.EqNone.ne_int_none (Zs I q J8)
  | int j=>obtain⟨t',rfl⟩:=ry;exact ne_int (Zs I q (congrArg not Kp))
  | str j=>obtain⟨t',rfl⟩:=ry;exact PySem.EqMixed.ne_int_str (Zs I q J8)
  | _=>exact absurd (show false=true from hs) XB
 | str i =>
  obtain⟨t,rfl⟩:=rx
  cases y with
  | non=>cases ry;exact PySem.EqNone.ne_str_none (Zs I q J8)
  | bl j=>cases ry;exact PySem.EqMixed.ne_str_bool (Zs I q J8)
  | int j=>obtain⟨t',rfl⟩:=ry;exact PySem.EqMixed.ne_str_int (Zs I q J8)
  | str j=>obtain⟨t',rfl⟩:=ry;exact ne_str (Zs I q (congrArg not Ko))
  | _=>exact absurd (show false=true from hs) XB
 | byt i =>
  obtain⟨t,rfl⟩:=rx
  cases y with
  | byt j=>obtain⟨t',rfl⟩:=ry;exact W.ne_bytes (Zs I q (congrArg not Kq))
  | _=>exact absurd (show false=true from hs) XB
 | _=>cases y <;> exact absurd (show false=true from hs) XB
theorem Wv:OpR X (compareOp .Lt) (rI0 λi j=>.bl (decide (i<j))):=Z1m λ_ _ _ _ _ _ _ q=>lt_int q
theorem Vt:OpR X (compareOp .LtE) (rI0 λi j=>.bl (decide (i<=j))):=Z1m λ_ _ _ _ _ _ _ q=>le_int q
theorem Z0q:OpR X (compareOp .Gt) (rI0 λi j=>.bl (decide (j<i))):=Z1m λ_ _ _ _ _ _ _ q=>gt_int q
theorem Xu:OpR X (compareOp .Is) (λx y H Q=>y=.non/\Q (.bl (decide (x=.non))) H):=by
 intro pins s σ H x y v u Q I rx ry h;obtain⟨rfl,q⟩:=h
 cases ry;refine is_none_gen (Zs I q ?_)
 cases x <;> first
  | (cases rx;rfl)
  | (obtain⟨t,rfl⟩:=rx;rfl)
theorem Uu:OpR X (compareOp .IsNot) (λx y H Q=>y=.non/\Q (.bl (!decide (x=.non))) H):=by
 intro pins s σ H x y v u Q I rx ry h;obtain⟨rfl,q⟩:=h
 cases ry;refine isnot_none_gen (Zs I q ?_)
 cases x <;> first
  | (cases rx;rfl)
  | (obtain⟨t,rfl⟩:=rx;rfl)
theorem Zl (b:Expr){op:CmpOp}(h:op≠.In:=by decide)(h2:op≠.NotIn:=by decide):behindInMarks op b=false:=by
 have e1:(op == CmpOp.In)=false:=by cases op <;> first | rfl | exact absurd rfl h
 have e2:(op == CmpOp.NotIn)=false:=by cases op <;> first | rfl | exact absurd rfl h2
 cases b <;> simp[behindInMarks,e1,e2]
theorem Vq {op:CmpOp}{r:R2}(ho:OpR X (compareOp op) r)(ha:PE X a ta)(hb:PE X b tb)(hm:behindInMarks op b=false):PE X (.Compare a [op] [b] pos) (tOp r ta tb):=by
 intro pins s σ H Q I h;exact wpAny_Compare1 (Z27 ha hb I h λv u s2 x y H2 I2 rx ry q=>ho pins s2 σ H2 x y v u Q I2 rx ry q) hm
def tTest (t:TE):TT:=λσ H Q=>t σ H λx H'=>∃ k,x=.bl k/\Q k H'
theorem Zf {op:CmpOp}{r:R2}(ho:OpR X (compareOp op) r)(ha:PE X a ta)(hb:PE X b tb)(hm:behindInMarks op b=false):PT X (.Compare a [op] [b] pos) (tTest (tOp r ta tb)):=by
 intro pins s σ H Q I h;refine wpAny_isTrue_Compare1 (thn (ha pins s σ H _ I h) λv s1 ⟨x,H1,I1,r1,q1⟩=>thn (hb pins s1 σ H1 _ I1 q1) λu s2 ⟨y,H2,I2,r2,q2⟩ =>
  thn (ho pins s2 σ H2 x y v u _ I2 r1 r2 q2) λc s3 ⟨z,H3,I3,r3,k,e,q3⟩=>?_) hm
 subst e
 cases r3;exact GA ⟨H3,I3,q3⟩
inductive tChain_i (r':R2) (tc:TE) (σ:L2.St) (Q:VK) (y:V) (z:V) (H3:Hp):Prop
 | mk (k:_) (zz0:z=.bl k) (zz1:(if k=true then tc σ H3 λw' H4=>r' y w' H4 Q else Q (.bl false) H3))
def tChain (r r':R2)(ta tb tc:TE):TE:=λσ H Q=>ta σ H λx H1=>tb σ H1 λy H2=>r x y H2 (tChain_i r' tc σ Q y)
theorem N5 {op op':CmpOp}{r r':R2}(ho:OpR X (compareOp op) r)(ho':OpR X (compareOp op') r')(ha:PE X a ta)(hb:PE X b tb)(hc:PE X c tc)
  (hm:lastMarks [op,op'] [b,c]=false:=by with_unfolding_all rfl):PE X (.Compare a [op,op'] [b,c] pos) (tChain r r' ta tb tc):=by
 intro pins s σ H Q I h;refine Compare_chain (thn (ha pins s σ H _ I h) λv s1 ⟨x,H1,I1,r1,q1⟩=>chain_link (thn (hb pins s1 σ H1 _ I1 q1) λu s2 ⟨y,H2,I2,r2,q2⟩ =>
  thn (ho pins s2 σ H2 x y v u _ I2 r1 r2 q2) λd s3 ⟨z,H3,I3,r3,k,e,q3⟩=>?_)) hm
 subst e
 cases r3;refine GA ?_
 cases k with
 | false=>exact ite_ff ⟨.bl false,H3,I3,rfl,q3⟩
 | true=>exact ite_tt (chain_last (thn (hc pins s3 σ H3 _ I3 q3) λw' s4 ⟨z',H4,I4,r4,q4⟩=>ho' pins s4 σ H4 y z' u w' Q I4 r2 r4 q4))
theorem Tb {op op':CmpOp}{r r':R2}(ho:OpR X (compareOp op) r)(ho':OpR X (compareOp op') r')(ha:PE X a ta)(hb:PE X b tb)(hc:PE X c tc)
  (hm:lastMarks [op,op'] [b,c]=false:=by with_unfolding_all rfl):PT X (.Compare a [op,op'] [b,c] pos) (tTest (tChain r r' ta tb tc)):=by
 intro pins s σ H Q I h;refine isTrue_chain (thn (ha pins s σ H _ I h) λv s1 ⟨x,H1,I1,r1,q1⟩=>test_link (thn (hb pins s1 σ H1 _ I1 q1) λu s2 ⟨y,H2,I2,r2,q2⟩ =>
  thn (ho pins s2 σ H2 x y v u _ I2 r1 r2 q2) λd s3 ⟨z,H3,I3,r3,k,e,q3⟩=>?_)) hm
 subst e
 cases r3;refine GA ?_
 cases k with
 | false =>
  obtain⟨k',e',q'⟩:=q3
  cases e';exact ite_ff ⟨H3,I3,q'⟩
 | true =>
  refine ite_tt (test_last (thn (hc pins s3 σ H3 _ I3 q3) λw' s4 ⟨z',H4,I4,r4,q4⟩=>thn (ho' pins s4 σ H4 y z' u w' _ I4 r2 r4 q4) λd' s5 ⟨z2,H5,I5,r5,k2,e2,q5⟩=>?_));subst e2
  cases r5;exact GA ⟨H5,I5,q5⟩
def TruV (K:TQ)(x:V)(H:Hp)(k:Bool):Prop :=
 match x with
 | .non=>k=false
 | .bl b=>k=b
 | .int i=>k=(i != 0)
 | .str y=>y.length<=sizeLine/\k=((y.length:Int) != 0)
 | .byt y=>y.size<=sizeLine/\k=((y.size:Int) != 0)
 | .ref p=>(∃ xs,SqL K H p xs/\k=!xs.isEmpty) \/ (∃ xs,SqT K H p xs/\k=!xs.isEmpty) \/ ∃ kvs,H p=some (.dK kvs)/\k=!kvs.isEmpty
 | _=>False
theorem Lj {κ:Type}{kvs:List (κ × V)}{vs:List (κ × Value)}(r:KV kvs vs):(!vs.isEmpty)=!kvs.isEmpty:=by
 cases r <;> rfl
theorem Sd (r:Vals xs its):(!its.toArray.isEmpty)=!xs.isEmpty:=by
 cases r <;> simp
theorem Vg:(sizeLine:Nat)<2 ^ 63:=by rw[YX];decide
theorem Z11:TruR X (λx H Q=>∃ k,TruV X.K x H k/\Q k H):=by
 intro pins s σ H x v Q I rx h;obtain⟨k,e,q⟩:=h;have hl:=Vg;have hs:sizeLine=16777216:=YX
 cases x with
 | non =>
  cases rx;have e':k=false:=e;subst e';exact truthy_none ⟨H,I,q⟩
 | bl b =>
  cases rx;have e':k=b:=e;subst e';exact GA ⟨H,I,q⟩
 | int i =>
  obtain⟨t,rfl⟩:=rx;have e':k=(i != 0):=e;subst e';exact PySem.P.truthy_int ⟨H,I,q⟩
 | str y =>
  obtain⟨t,rfl⟩:=rx;obtain⟨hy,e'⟩:y.length<=sizeLine/\k=((y.length:Int) != 0):=e;subst e';exact PySem.P.truthy_str U ⟨H,I.tok _,q⟩
 | byt y =>
  obtain⟨t,rfl⟩:=rx;obtain⟨hy,e'⟩:y.size<=sizeLine/\k=((y.size:Int) != 0):=e;subst e';exact W.truthy_bytes U ⟨H,I.tok _,q⟩
 | ref p =>
  cases rx;have e':(∃ xs,SqL X.K H p xs/\k=!xs.isEmpty) \/ (∃ xs,SqT X.K H p xs/\k=!xs.isEmpty) \/ ∃ kvs,H p=some (.dK kvs)/\k=!kvs.isEmpty:=e;rcases e' with ⟨xs,hx,e'⟩ | ⟨xs,hx,e'⟩ | ⟨kvs,hx,e'⟩
  ·subst e';obtain⟨its,r,pl,hz⟩:=I.list hx;have hlen:=r.length;exact wpAny_truthy_list pl.isList (by simp only [YY];omega) ⟨H,I.tok _,by rw[Sd r];exact q⟩
  ·subst e';obtain⟨its,r,pl,hz⟩:=I.tuple hx;have hlen:=r.length;exact truthy_tuple pl (by simp only [YY];omega) ⟨H,I.tok _,by rw[Sd r];exact q⟩
  subst e';obtain⟨hz,hS,vs,r,m⟩:kvs.length<=sizeLine/\(p == sysModules)=false/\∃ vs,KV kvs vs/\s.heap.DictOf (mixKind X.prog X.w) p vs:=I.hok p _ hx;have hlen:kvs.length=vs.length:=qO r;exact wpAny_truthy_dict hS m U ⟨H,I.tok _,by rw[Lj r];exact q⟩
 | _=>exact (show False from e).elim
theorem Py (ha:PE X a ta)(he:∀ whole,isTrue a X.env whole=(do let v <-whole;standAt a.pos;holding [v] (truthy v))) :
  PT X a (λσ H Q=>ta σ H λx H'=>∃ k,TruV X.K x H' k/\Q k H'):=by
 intro pins s σ H Q I h;exact isTrue_plain (thn (ha pins s σ H _ I h) λv s1 ⟨x,H1,I1,r1,q1⟩=>Z11 pins s1 σ H1 x v Q I1 r1 q1) (he _)
theorem Z7:OpR X (binaryOp .Add) (λx y H Q=>∃ i j,x=.str i/\y=.str j/\i.length+j.length<=sizeLine/\Q (.str (i++j)) H):=by
 intro pins s σ H x y v u Q I rx ry h;obtain⟨i,j,rfl,rfl,hz,q⟩:=h;obtain⟨t,rfl⟩:=rx;obtain⟨t',rfl⟩:=ry;exact add_str (λt' tk=>⟨.str (i++j),H,I.tok _,⟨_,rfl⟩,q⟩) hz
theorem W7 {x:V}{us:TH}(r:Vals [x] us):∃ u,us=[u]/\RelV x u:=by
 cases r with
 | cons r1 r2=>cases r2;exact⟨_,rfl,r1⟩
theorem Gz {x y:V}{us:TH}(r:Vals [x,y] us):∃ u w',us=[u,w']/\RelV x u/\RelV y w':=by
 cases r with
 | cons r1 r2 =>
  cases r2 with
  | cons r3 r4=>cases r4;exact⟨_,_,rfl,r1,r3⟩
theorem Ss:CallR X (.builtin "abs") (λxs H Q=>∃ i,xs=[.int i]/\Q (.int (if i<0 then -i else i)) H):=by
 intro pins s σ H xs us Q I r h;obtain⟨i,rfl,q⟩:=h;obtain⟨u,rfl,t,rfl⟩:=W7 r;exact call_abs_int λu tk=>⟨.int (if i<0 then -i else i),H,I.tok _,⟨_,rfl⟩,q⟩
theorem Xc:CallR X (.type "str") (λxs H Q=>∃ i,xs=[.int i]/\i.natAbs.log2<1920/\Q (.str (toString i)) H):=by
 intro pins s σ H xs us Q I r h;obtain⟨i,rfl,hz,q⟩:=h;obtain⟨u,rfl,t,rfl⟩:=W7 r;exact PySem.P.str_of_int hz ⟨.str _,H,I.tok _,⟨_,rfl⟩,q⟩
end
structure ObjM (h:Heap)(x dx C:Addr)(mA:TB):Prop where
 obj:h.get? x=some (W.instObj C dx)
 ns:h.Ns1 dx mA
 ne:dx≠x
theorem Jw {dx:Addr}{mA:TB}(n:h.Ns1 dx mA):∃ od,h.get? dx=some od/\∀ name,W.lookIn name od=some (mA name):=by
 obtain⟨o,es,ep,ho,hd,hk,_,hm⟩:=n;refine⟨o,ho,λname=>?_⟩;have e:=hm name;unfold nsFind findBy at e;rw[<-Y1g] at e;unfold W.lookIn;rw[hd];dsimp only;split
 ·rename_i y q
  rw[q] at e;exact congrArg some e
 rename_i q
 rw[q] at e;have a:es.toList.any (·.refKey)=false:=by
  rw[Y0g];intro y hy;obtain⟨z,t,hkey⟩:=hk y (Array.mem_toList_iff.mp hy);simp[DictEntry.refKey,hkey]
 have a':¬ es.toList.any (·.refKey)=true:=by rw[a];exact XB
 rw[XQ a'];exact congrArg some e
theorem ObjM.look {x dx:Addr}{mA:TB}(I:ObjM h x dx C mA):∃ od,W.InstAt h x (W.instObj C dx) C (some od)/\∀ name,W.lookIn name od=some (mA name) :=
 let ⟨od,ho,hl⟩:=Jw I.ns
 ⟨od,⟨I.obj,rfl,rfl,ho⟩,hl⟩
theorem RelO.some_of {v:V}{o:Option Value}(r:RelO (some v) o):∃ u,o=some u/\RelV v u:=by
 cases o with
 | none=>exact (show False from r).elim
 | some u=>exact⟨u,rfl,r⟩
theorem Gd {v:V}{u:Value}(r:RelV v u):W.handedIn u=true:=by
 cases v with
 | non=>cases (show u=Value.none from r);rfl
 | bl b=>cases (show u=Value.bool b from r);rfl
 | int i=>obtain⟨t,e⟩:=(show ∃ t,u=Value.int i t from r);cases e;rfl
 | str x=>obtain⟨t,e⟩:=(show ∃ t,u=Value.str x t from r);cases e;rfl
 | byt b=>obtain⟨t,e⟩:=(show ∃ t,u=Value.bytes b t from r);cases e;rfl
 | flt b=>obtain⟨t,e⟩:=(show ∃ t,u=Value.float b t from r);cases e;rfl
 | ref a=>cases (show u=Value.ref a from r);rfl
 | ty n=>cases (show u=Value.type n from r);rfl
section
variable {P:TR}{w:World}{H:Hp}{h:Heap}{a C dx:Addr}{fs:List (Str × V)}
theorem Vy (hok:HOk P w H h)(e:H a=some (.ins C dx fs)):∃ mA,ObjM h a dx C mA/\(∀ f,RelO (fs.lookup f) (mA f))/\PySem.Within mA (fs.map (·.1))/\fs.length<=1000/\H dx=some (.own a):=by
 obtain⟨d,z,ne,ob,mA,n,r,q⟩:=(show ObjOk P w H h a (.ins C dx fs) from hok a _ e);exact⟨mA,⟨ob,n,ne⟩,r,q,z,d⟩
end
structure Cls (K:TQ)(C:Addr):Prop where
 pg:W.plainGet K C Str.empty=true
 hd:W.hasDictIn K C=true
 po:W.plainOver K C=true
 sa:W.findIn K (.ref C) "__setattr__"=some (some (.builtin "object.__setattr__"))
theorem Cls.get (c:Cls K C)(f:Str):W.plainGet K C f=true:=c.pg
section
variable {s:Shared}{f:Str}{A:Around}{E:TC}
theorem Z0f {w:World}{e:Expr}{f:Str}{Q:TC}(hb:attributeBase e f env (eval e env)=eval e env)
  (h:wpAny (model prog w) A (eval e env) (λo s₁=>wpAny (model prog w) A (getAttr o f true) Q E s₁) E s):wpAny (model prog w) A (eval (.Attribute e f pos) env) Q E s :=
 Attribute_any_ h (by rw[arm_eval_Attribute,hb])
end
section
variable {X:Cx}{pins:TD}{σ:St}{H:Hp}{s:Shared}{A:Around}{E:TC}{Q:TC}{c:Value}{b:Bool}
inductive TyOf (K:TQ) (H:Hp):V->Value->Prop where
 | non:TyOf K H .non (.type "NoneType")
 | bl (x:Bool):TyOf K H (.bl x) (.type "bool")
 | int (i:Int):TyOf K H (.int i) (.type "int")
 | str (x:Str):TyOf K H (.str x) (.type "str")
 | flt (x:UInt64):TyOf K H (.flt x) (.type "float")
 | lst {a:Addr} {xs:TV} (e:H a=some (.lst xs)):TyOf K H (.ref a) (.type "list")
 | frz {a:Addr} {o:Obj} {xs:TV} (e:H a=some (.frz o (.lst xs))):TyOf K H (.ref a) (.type "list")
 | tup {a:Addr} {xs:TV} (e:H a=some (.tup xs)):TyOf K H (.ref a) (.type "tuple")
 | dK {a:Addr} {kvs:List (Key × V)} (e:H a=some (.dK kvs)):TyOf K H (.ref a) (.type "dict")
 | dT {a:Addr} {kvs:List (List Key × V)} (e:H a=some (.dT kvs)):TyOf K H (.ref a) (.type "dict")
 | ins {a C dx:Addr} {fs:List (Str × V)} (e:H a=some (.ins C dx fs)) (cl:Cls K C) (ha:W.findIn K (.ref C) "__class__"=some (some (.builtin "object.__class__")))
   (hn:W.specialIn K (.builtin "object.__class__") "__get__"=some (some (.builtin "getset_descriptor.__get__"))) (htk:W.takesIn K (.builtin "object.__class__")=some true)
   (hm:W.mroIn K C (.type "object")=some true):TyOf K H (.ref a) (.ref C)
theorem G9 {x:V}{u t:Value}(I:Inv X pins σ H s)(rx:RelV x u)(ty:TyOf X.K H x t)(e:W.kitOne X.K t c=some b)(h:∀ tk,Q (.bool b) { s with toks:=tk }) :
  wpAny (model X.prog X.w) A (call (.builtin "isinstance") [u,c]) Q E s:=by
 cases ty with
 | non=>cases (show u=Value.none from rx);exact qW W.kitx_none I.kIn True.intro e (λz=>nomatch z) h
 | bl y=>cases (show u=Value.bool y from rx);exact qW W.kitx_bool I.kIn True.intro e (λz=>nomatch z) h
 | int i=>obtain⟨t,q⟩:=(show ∃ t,u=Value.int i t from rx);cases q;exact qW W.kitx_int I.kIn True.intro e (λz=>nomatch z) h
 | str y=>obtain⟨t,q⟩:=(show ∃ t,u=Value.str y t from rx);cases q;exact qW W.kitx_str I.kIn True.intro e (λz=>nomatch z) h
 | flt y=>obtain⟨t,q⟩:=(show ∃ t,u=Value.float y t from rx);cases q;exact qW W.kitx_float I.kIn True.intro e (λz=>nomatch z) h
 | @lst a xs ea =>
  cases (show u=Value.ref a from rx);obtain⟨_,_,n,_,h1⟩:=(show ObjOk X.prog X.w H s.heap a (.lst xs) from I.hok a _ ea);exact qW W.kitx_list I.kIn ⟨_,h1,rfl⟩ e (λz=>nomatch z) h
 | @frz a ob xs ea =>
  cases (show u=Value.ref a from rx);obtain⟨_,_,_,n,_,h1⟩:=(show ObjOk X.prog X.w H s.heap a (.frz ob (.lst xs)) from I.hok a _ ea);exact qW W.kitx_list I.kIn ⟨_,h1,rfl⟩ e (λz=>nomatch z) h
 | @tup a xs ea =>
  cases (show u=Value.ref a from rx);obtain⟨_,_,_,p⟩:=(show ObjOk X.prog X.w H s.heap a (.tup xs) from I.hok a _ ea);obtain⟨o,h1,h2,_⟩:=p;exact qW W.kitx_tuple I.kIn ⟨o,h1,h2⟩ e (λz=>nomatch z) h
 | @dK a kvs ea =>
  cases (show u=Value.ref a from rx);obtain⟨_,_,vs,_,p⟩:=(show ObjOk X.prog X.w H s.heap a (.dK kvs) from I.hok a _ ea);obtain⟨o,es,ep,h1,h2,_⟩:=p;exact qW W.kitx_dict I.kIn ⟨o,h1,h2.1⟩ e (λz=>nomatch z) h
 | @dT a kvs ea =>
  cases (show u=Value.ref a from rx);obtain⟨_,_,xs,_,o,es,ep,h1,h2,_⟩:=(show ObjOk X.prog X.w H s.heap a (.dT kvs) from I.hok a _ ea);exact qW W.kitx_dict I.kIn ⟨o,h1,h2.1⟩ e (λz=>nomatch z) h
 | @ins a C dx fs ea cl ha hn htk hm =>
  cases (show u=Value.ref a from rx);obtain⟨mA,O,_⟩:=Vy I.hok ea;obtain⟨od,J,_⟩:=O.look;exact qW (W.kitx_own (cl.get _) cl.hd ha hn htk hm) I.kIn J e (λz=>nomatch z) h
end
structure Room (k:Nat)(A:Around)(sr:Bool:=false):Prop where
 hd:sr=true->A.handled=none
 dp:A.depth+3*k+105<recursionLimit
 un:A.units+16*k+200<cLine
theorem Room.mono {j k:Nat}(r:Room k A sr)(h:j<=k):Room j A sr:=⟨r.hd,by have:=r.dp;omega,by have:=r.un;omega⟩
theorem Room.deeper {k:Nat}{A:Around}{sr:Bool}(r:Room (k+1) A sr)(env:Env):Room k (A.deeper env) sr :=
 ⟨r.hd,by have:=r.dp;show A.depth+1+3*k+105<_;omega,by have:=r.un;show A.units+3+16*k+200<_;omega⟩
theorem Le {kw:List (Str × Value)}:(A.under (.builtin "type.__call__" ⟨.ref C::us,kw⟩)).depth=A.depth+1:=by
 first | rfl | simp[Around.under,Code.weight,Code.isCreation,Code.isGuard,Code.isCaller,Code.frames,Code.isFrame,guardIds]
theorem Ld {kw:List (Str × Value)}:(A.under (.builtin "type.__call__" ⟨.ref C::us,kw⟩)).units=A.units+1:=by
 first | rfl | simp[Around.under,Code.cUnits,Code.frames,Code.isFrame]
theorem Room.make {k:Nat}(r:Room (k+1) A sr)(C:Addr)(us:TH)(kw:List (Str × Value)):Room k (A.under (.builtin "type.__call__" ⟨.ref C::us,kw⟩)) sr :=
 ⟨r.hd,by have:=r.dp;rw[Le];omega,by have:=r.un;rw[Ld];omega⟩
theorem Room.depth {k:Nat}{A:Around}{sr:Bool}(r:Room k A sr):A.depth<recursionLimit:=by have:=r.dp;omega
theorem Room.units {k:Nat}{A:Around}{sr:Bool}(r:Room k A sr):A.units+64<cLine:=by have:=r.un;omega
theorem Room.loose {k:Nat}(r:Room k A sr):Room k A:=⟨(λz=>nomatch z),r.dp,r.un⟩
def tNil:TA:=λ_ H Q=>Q [] H
def tCons (ta:TE)(tr:TA):TA:=λσ H Q=>ta σ H λx H1=>tr σ H1 λxs H2=>Q (x::xs) H2
section
variable {X:Cx}{e:Expr}{es:TK}{te:TE}{t:TA}{pos:Pos}
theorem Z3:PA X [] tNil:=λ_ _ _ _ H Q I h=>Calls.spliced_nil ⟨[],H,I,.nil,h⟩
theorem Z0 (ha:PE X e te)(hr:PA X es t)(hs:starEach (e::es) X.env=(false,eval e X.env)::starEach es X.env:=by rfl):PA X (e::es) (tCons te t):=by
 intro pos pins s σ H Q I h;rw[hs];show wpAny _ _ (spliced ((false,eval e X.env)::backTo pos (starEach es X.env))) _ _ s;refine Calls.spliced_cons (thn (ha pins s σ H _ I h) λu s1 ⟨x,H1,I1,r1,q1⟩=>?_);exact thn (hr pos pins s1 σ H1 _ I1 q1) λus s2 ⟨xs,H2,I2,r2,q2⟩=>⟨x::xs,H2,I2,.cons r1 r2,q2⟩
def tTup (t:TA):TE:=λσ H Q=>t σ H λxs H1=>xs.length<=sizeLine/\∀ p,H1 p=none->Q (.ref p) (upd H1 p (.tup xs))
def tLst (t:TA):TE:=λσ H Q=>t σ H λxs H1=>xs.length<=sizeLine/\∀ p,H1 p=none->Q (.ref p) (upd H1 p (.lst xs))
theorem Xt {x1}(h:PA X es t):PE X (.Tuple es x1 pos) (tTup t):=by
 intro pins s σ H Q I hq;refine wpAny_Tuple_spliced (thn (h pos pins s σ H _ I hq) λus s1 ⟨xs,H1,I1,r,z,q⟩=>⟨by rw[<-r.length];exact z,?_⟩);have hf:H1 s1.heap.objs.size=none:=I1.hok.fresh (YO _);refine⟨.ref s1.heap.objs.size,upd H1 s1.heap.objs.size (.tup xs),I1.laid (t':=s1.toks) (λb u e=>YD _ e) (YO _) ?_,rfl,q _ hf⟩;exact⟨z,us,r,⟨_,YL _ rfl,rfl,_,rfl⟩⟩
theorem Y3 (h:PA X es t):PE X (.List es pos) (tLst t):=by
 intro pins s σ H Q I hq;refine wpAny_List_spliced (thn (h pos pins s σ H _ I hq) λus s1 ⟨xs,H1,I1,r,z,q⟩=>⟨by rw[<-r.length];exact z,?_⟩);have hf:H1 s1.heap.objs.size=none:=I1.hok.fresh (YO _);refine⟨.ref s1.heap.objs.size,upd H1 s1.heap.objs.size (.lst xs),I1.laid (t':=s1.toks) (λb u e=>YD _ e) (YO _) ?_,rfl,q _ hf⟩;exact⟨z,us,0,r,YL _ rfl⟩
end
abbrev Sp:=List V->Hp->VK->XK->Prop
abbrev CXT:=List Env->Hp->Shared->XK->Value->Shared->Prop
structure Env0 (P:TR)(w:World)(K:TQ)(mg:TB)(base:Heap)(A:Around)(outer:TM)(s:Shared)(H:Hp):Prop where
 frames:A.frames=some outer
 mod:Mod K mg base
 bs:∀ b o,base.get? b=some o->s.heap.get? b=some o/\H b=none
 bsz:base.objs.size<=s.heap.objs.size
 funs:s.heap.FunFrames base outer
 frf:∀ b∈frs outer,H b=none
 hok:HOk P w H s.heap
 bare:AllBare s.gens
 qt:Sb.QtE A s.heap H (frs outer)
 tree:P.given.tree=none
def CE (outer:TM)(P:TR)(w:World)(H:Hp)(s:Shared)(Q:VK)(u:Value)(s':Shared):Prop :=
 ∃ v H',s'.os=s.os/\AllBare s'.gens/\Un (frs outer) [] H H' s.heap s'.heap/\HOk P w H' s'.heap/\RelV v u/\Q v H'
def CR (CX:CXT)(outer:TM)(P:TR)(w:World)(H:Hp)(s:Shared)(Q:VK)(E:XK)(r:Result)(s':Shared):Prop :=
 match r with
 | .ok (.ret u)=>CE outer P w H s Q u s'
 | .ok _=>False
 | .error e=>CX outer H s E e s'
structure FnOk (P:TR)(w:World)(K:TQ)(mg:TB)(base:Heap)(CX:CXT)(k:Nat)(f:Addr)(fd:FuncData)(ps:TF)(sp:Sp)(sr:Bool:=false):Prop where
 len:∀ vs H Q E,sp vs H Q E->vs.length=ps.length
 run:∀ (A:Around) (outer:TM) (s:Shared) (H:Hp) (args:Args) (us:TH) (vs:TV) (Q:VK) (E:XK),Room k A sr->Env0 P w K mg base A outer s H->BindsTo s fd args (ps.zip us)->Vals vs us->sp vs H Q E →
  codeAny (model P w) A (.call (.ref f) args) (CR CX outer P w H s Q E) s
theorem FnOk.imp {P:TR}{w:World}{base:Heap}{CX:CXT}{k:Nat}{sp sp':Sp}(F:FnOk P w K mg base CX k f fd ps sp sr)
  (h:∀ vs H Q E,sp' vs H Q E->sp vs H Q E):FnOk P w K mg base CX k f fd ps sp' sr :=
 ⟨λvs H Q E q=>F.len vs H Q E (h _ _ _ _ q),λA outer s H args us vs Q E hr he hb hv hs=>F.run A outer s H args us vs Q E hr he hb hv (h _ _ _ _ hs)⟩
theorem Env0.make {P:TR}{w:World}{base:Heap}{outer:TM}(e:Env0 P w K mg base A outer s H)(C:Addr)(us:TH)(kw:List (Str × Value)) :
  Env0 P w K mg base (A.under (.builtin "type.__call__" ⟨.ref C::us,kw⟩)) outer s H:=⟨by first | exact e.frames | (simpa [Around.under,Code.envs,Code.isFrame,pushEnvs] using e.frames),e.mod,e.bs,e.bsz,e.funs,e.frf,e.hok,e.bare,e.qt,e.tree⟩
section
variable {X:Cx}{pins:TD}{σ:St}{H:Hp}{s s':Shared}
theorem Inv.env0 (I:Inv X pins σ H s)(hc:X.calm=true):Env0 X.prog X.w X.K X.mg X.base X.A X.stack s H :=
 ⟨I.ok.frames,I.ok.mod,I.bs,XV I.ok.bsz I.sz,I.stack,I.stkFree,I.hok,I.bare,(I.ok.hd hc).imp id λ⟨p,hp,e,n⟩=>by
  obtain⟨a1,a2,a3,a4,a5⟩:=I.pin p (XE _ hp);exact⟨p.1,p.2,e,a1,n,a2,λz=>(YC.mp (I.stkSub p.1 z)).elim a3 a4,a5⟩,I.ok.seen.1⟩
theorem Inv.after {Q:VK}(I:Inv X pins σ H s)(h:CE X.stack X.prog X.w H s Q u s'):EP X pins σ Q u s':=by
 obtain⟨v,H',os,bare,un,hok,r,q⟩:=h;obtain⟨hh,g,d,t,os'⟩:=s';obtain rfl:os'=s.os:=os;exact⟨v,H',I.call (h':=hh) (g':=g) (d':=d) (t':=t) (ch:=[]) un hok bare (λb z=>absurd z J8),r,q⟩
end
def tCall (sp:Sp)(dvs:TV)(E:XK)(t:TA):TE:=λσ H Q=>t σ H λvs H1=>sp (vs++dvs) H1 Q E
def Binds (K:TQ)(fd:FuncData)(ps:TF)(ds:TH):Prop :=
 ∀ (s:Shared) (us:TH),K.In s.heap->(us++ds).length=ps.length->BindsTo s fd ⟨us,[]⟩ (ps.zip (us++ds))
theorem Binds.all (h:∀ us:List Value,us.length=ps.length->bindArgs fd ⟨us,[]⟩=pure (ps.zip us)):Binds K fd ps []:=λs us _ hl=>by
 rw[YM] at hl ⊢;exact .of_eq (h us hl)
def Passes (CX:CXT)(X:Cx)(E:XK):Prop:=∀ (pins:TD) (σ:St) (H:Hp) (s:Shared) (e:Value) (s':Shared),Inv X pins σ H s->CX X.stack H s E e s'->X.xe e s'
section
variable {X:Cx}{CX:CXT}{k:Nat}{f:Addr}{fd:FuncData}{ps:TF}{sp:Sp}{dvs:TV}{ds:TH}{E:XK}{x:Str}{p pos:Pos}{e:Expr}{es:TK}{t:TA}
theorem Z1a {pins:TD}{σ:St}{H:Hp}{s:Shared}{Q:VK}{us:TH}{vs:TV}{sr:Bool}(F:FnOk X.prog X.w X.K X.mg X.base CX k f fd ps sp sr)(hr:Room k X.A sr)(hb:Binds X.K fd ps ds)(hd:Vals dvs ds)(hx:Passes CX X E)(hc:X.calm=true)
  (I:Inv X pins σ H s) (r:Vals vs us) (h:sp (vs++dvs) H Q E):wpAny (model X.prog X.w) X.A (call (.ref f) us) (EP X pins σ Q) X.xe s:=by
 have r2:Vals (vs++dvs) (us++ds):=r.append hd;have hl:(us++ds).length=ps.length:=by rw[<-r2.length];exact F.len _ _ _ _ h
 refine z3 (qI (F.run X.A X.stack s H ⟨us,[]⟩ (us++ds) (vs++dvs) Q E hr (I.env0 hc) (hb s us I.kIn hl) r2 h) λr s' hq=>?_)
 cases r with
 | error e=>exact hx pins σ H s e s' I hq
 | ok fl =>
  cases fl with
  | ret u=>exact I.after hq
  | next=>exact False.elim hq
  | brk=>exact False.elim hq
  | cont=>exact False.elim hq
theorem K5 (F:FnOk X.prog X.w X.K X.mg X.base CX k f fd ps sp sr)(hr:Room k X.A sr)(hg:Gl X x)(hm:X.mg x=some (.ref f))(hk:W.keepIn X.K (.ref f)=true)(hb:Binds X.K fd ps ds)(hd:Vals dvs ds)(hx:Passes CX X E)
  (ha:PA X (e::es) t) (hdb:(x == ("__debug__":Str))=false:=by decide) (he:starEach (e::es) X.env=(false,eval e X.env)::starEach es X.env:=by rfl) (hpl:(backTo pos (starEach es X.env)).any (·.1)=false:=by rfl) (hc:X.calm=true:=by rfl) :
  PE X (.Call (.Name x p) (e::es) [] pos) (tCall sp dvs E t):=by
 intro pins s σ H Q I h;refine z4 (V9 I hg hm ?_ hdb);refine W.callWith_K (h₀:=X.base) I.ok.mod.kin hk (thn (ha pos pins s σ H _ I h) λus s1 ⟨vs,H1,I1,r,q⟩=>⟨I1.kIn,?_⟩) he hpl;exact Z1a F hr hb hd hx hc I1 r q
end
structure FnScope (N P:TF)(sc:Scope):Prop where
 kind:sc.kind=.function
 co:sc.isCoroutine=false
 gen:sc.isGenerator=false
 nd:N.Nodup
 pre:N.take P.length=P
 par:∀ x∈P,sc.names.lookup x=some .local \/ sc.names.lookup x=some .cell
 nofree:∀ y∈sc.names,y.2≠.free
theorem fsc {N P:TF}{sc:Scope}(a:sc.kind=.function:=by rfl)(b:sc.isCoroutine=false:=by rfl)(c:sc.isGenerator=false:=by rfl)(d:N.Nodup:=by decide +kernel)(e:N.take P.length=P:=by rfl)(f:∀ x∈P,sc.names.lookup x=some .local ∨ sc.names.lookup x=some .cell:=by decide +kernel)(g:∀ y∈sc.names,y.2≠.free:=by decide +kernel):FnScope N P sc:=⟨a,b,c,d,e,f,g⟩
theorem Q2 {kindOf:Str->Option NameKind}{x:Str}:∀ {binds:List (Str × Value)} {m:TB},(∀ v,(x,v) ∉ binds)->bindL kindOf binds m x=m x
 | [],_,_=>rfl
 | (n,v)::r,m,h=>by
  unfold bindL;rw[Q2 λw hw=>h w (YG _ hw)];split
  ·have:x≠n:=by rintro rfl;exact h v YI
   simp[this]
  rfl
theorem Q4 {kindOf:Str->Option NameKind}{x:Str}:∀ {binds:List (Str × Value)} {m:TB},(∀ v,(x,v) ∉ binds)->bindC kindOf binds m x=m x
 | [],_,_=>rfl
 | (n,v)::r,m,h=>by
  unfold bindC;rw[Q4 λw hw=>h w (YG _ hw)];split
  ·rfl
  have:x≠n:=by rintro rfl;exact h v YI
  simp[this]
theorem Q3 {kindOf:Str->Option NameKind}{x:Str}{v:Value}:∀ {P:TF} {vs:TH} {i:Nat} {m:TB},P.Nodup->P[i]?=some x->vs[i]?=some v->kindOf x=some .local →
  bindL kindOf (P.zip vs) m x=some v
 | [],_,_,_,_,h,_,_=>by simp at h
 | _::_,[],_,_,_,_,h,_=>by simp at h
 | p::P,w::vs,0,m,nd,h1,h2,hk=>by
  simp at h1 h2;subst h1;subst h2;show bindL kindOf ((p,w)::P.zip vs) m p=_;unfold bindL;rw[Q2 λv hv=>(zj.mp nd).1 (Y0M hv).1,JD hk];simp
 | p::P,w::vs,i+1,m,nd,h1,h2,hk=>by
  show bindL kindOf ((p,w)::P.zip vs) m x=_;unfold bindL;exact Q3 (i:=i) (zj.mp nd).2 (by simpa using h1) (by simpa using h2) hk
theorem Q5 {kindOf:Str->Option NameKind}{x:Str}{v:Value}:∀ {P:TF} {vs:TH} {i:Nat} {m:TB},P.Nodup->P[i]?=some x->vs[i]?=some v->kindOf x≠some .local →
  bindC kindOf (P.zip vs) m x=some v
 | [],_,_,_,_,h,_,_=>by simp at h
 | _::_,[],_,_,_,_,h,_=>by simp at h
 | p::P,w::vs,0,m,nd,h1,h2,hk=>by
  simp at h1 h2;subst h1;subst h2;show bindC kindOf ((p,w)::P.zip vs) m p=_;unfold bindC;rw[Q4 λv hv=>(zj.mp nd).1 (Y0M hv).1,XQ hk];simp
 | p::P,w::vs,i+1,m,nd,h1,h2,hk=>by
  show bindC kindOf ((p,w)::P.zip vs) m x=_;unfold bindC;exact Q5 (i:=i) (zj.mp nd).2 (by simpa using h1) (by simpa using h2) hk
def start (N:TF)(vs:TV):St:=vs.map some++List.replicate (N.length - vs.length) none
def cxOf (CX:CXT)(P:TR)(w:World)(K:TQ)(mg:TB)(base:Heap)(N:TF)(qual:Str)(scope:Scope)(f:Addr)(cd:Value)(A:Around)(outer:TM)(s:Shared)(H:Hp)(E:XK):Cx where
 prog:=P
 w:=w
 K:=K
 mg:=mg
 base:=base
 A:=A.deeper (envOfC qual scope s.heap.objs.size f cd)
 N:=N
 s₀:=s
 H₀:=H
 env:=envOfC qual scope s.heap.objs.size f cd
 outer:=outer
 stack:=envOfC qual scope s.heap.objs.size f cd::outer
 ex:=[]
 calm:=true
 fn:=λ_=>true
 pn:=Sb.qpin A s.heap
 xe:=λe s'=>wpAny (model P w) (A.deeper (envOfC qual scope s.heap.objs.size f cd)) (leaving (envOfC qual scope s.heap.objs.size f cd) e) (λ_ s''=>CX outer H s E e s'') (λe' s''=>CX outer H s E e' s'') s'
theorem M2 {sc:Scope}{n:Nat}{x:Str}(h:sc.names.lookup x=some .cell):∃ c,(cellsFrom n sc.names []).lookup x=some c:=by
 have q:=W.cellsFrom_some sc.names n [] (.inl h);exact Option.isSome_iff_exists.mp q
theorem Ga {CX:CXT}{P:TR}{w:World}{K:TQ}{mg:TB}{base:Heap}{N ps:TF}{qual:Str}{scope:Scope}{f:Addr}{cd:Value}{A:Around}{outer:TM}{s s1:Shared}{H:Hp}{E:XK}{us:TH}{vs:TV}
  (S:FnScope N ps scope) (e0:Env0 P w K mg base A outer s H) (hdp:A.depth+1+100<recursionLimit) (hl:vs.length=ps.length) (r:Vals vs us)
  (x:InCallC s s.heap.objs.size (bindL (envOfC qual scope s.heap.objs.size f cd).kindOf (ps.zip us) λ_=>none) (cellsFrom (s.heap.objs.size+1) scope.names []) (bindC (envOfC qual scope s.heap.objs.size f cd).kindOf (ps.zip us) λ_=>none) s1) :
  Inv (cxOf CX P w K mg base N qual scope f cd A outer s H E) [] (start N vs) H s1:=by
 have hpl:ps.length<=N.length:=by have:=congrArg List.length S.pre;rw[JJ] at this;omega
 obtain⟨h1,tk,rfl,hk⟩:=x.done;have noA:∀ b:Addr,b ∉ (cxOf CX P w K mg base N qual scope f cd A outer s H E).ex:=λb z=>absurd (show b∈([]:TJ) from z) J8;refine⟨⟨e0.mod,S.kind,rfl,rfl,YO _,λy z c h1 h2=>?_,λy hy=>?_,λy c _ h=>?_,λ_=>e0.qt.pin,Around.frames_deeper e0.frames,.inr ⟨rfl,rfl⟩,λb z=>absurd z (noA b),e0.bs,e0.bsz,λb _ _=>noA b,λb z=>absurd z (noA b),e0.funs,e0.frf,⟨e0.tree,_,_,rfl,S.gen,S.co,rfl,rfl⟩,hdp⟩,
  rfl,e0.bare,Un.kept hk,⟨_,x.toInCall.ns,λi y v h1 h2 h3=>?_⟩,λy c h=>⟨_,x.cell y c h⟩,e0.hok.fresh (YO _),λy c h=>?_,λp hp=>?_,e0.hok.kept hk,?_⟩
 rotate_right 2
 ·obtain⟨a1,a2,a3,a4⟩:=e0.qt.mem p ((YN.mp hp).elim id λz=>absurd z J8);exact⟨hk _ _ a1,a2,XM (YJ a1),a3,a4⟩
 rotate_left 1
 ·exact name_of_addr x.apart (qT h1) (qT h2)
 ·have hy:scope.names.lookup y=some .cell \/ scope.names.lookup y=some .free:=hy;rcases hy with hy | hy
  ·exact M2 hy
  exact absurd rfl (S.nofree _ (qT hy))
 ·exact Y0C (x.above y c (qT h))
 ·have hi:i<vs.length:=by
   unfold start at h2;by_cases hi:i<vs.length
   ·exact hi
   rw[JX (by simpa using hi)] at h2;rw[List.getElem?_replicate] at h2;split at h2 <;> cases h2
  have ha:vs[i]?=some v:=by
   unfold start at h2;rw[GC (by simpa using hi),YQ] at h2
   cases e:vs[i]? with
   | none=>rw[e] at h2;cases h2
   | some a=>rw[e] at h2;cases h2;rfl
  obtain⟨u,hu,rv⟩:=r.get ha;have hp:ps[i]?=some y:=by
   rw[<-S.pre,Y0n U];exact h1
  have ndP:ps.Nodup:=by rw[<-S.pre];exact S.nd.sublist (List.take_sublist _ _)
  refine⟨u,rv,?_⟩;rcases S.par y (YV hp) with k | k
  ·exact .inl ⟨k,Q3 ndP hp hu k⟩
  obtain⟨c,e⟩:=M2 (n:=s.heap.objs.size+1) k;refine .inr ⟨.inl k,c,e,?_⟩;have q:=x.cell y c e;rw[Q5 ndP hp hu (by show scope.names.lookup y≠_;rw[k];decide)] at q;exact q
 ·exact e0.hok.fresh (Y0C (x.above y c (qT h)))
 unfold start;show _=N.length;rw[XF,YB,zo];omega
theorem Z0w {CX:CXT}{P:TR}{w:World}{K:TQ}{mg:TB}{base:Heap}{k:Nat}{f:Addr}{name qual:Str}{params:Arguments}{body:TL}{scope:Scope}{dV kV doc pm cdv ct oc:Value}{an od:TN}
  {osl:Array (Option Value)} {N ps:TF} {sp:Sp} {sr:Bool} (lk:K.lookup f=some ⟨oc,od,.func (W.fnOf name qual params body scope dV kV doc pm an cdv ct),osl⟩) (hcd:W.codeIn K cdv qual=true) (S:FnScope N ps scope)
  (len:∀ vs H Q E,sp vs H Q E->vs.length=ps.length)
  (hbody:∀ (A:Around) (outer:TM) (s:Shared) (H:Hp) (vs:TV) (Q:VK) (E:XK),Room k (A.deeper (envOfC qual scope s.heap.objs.size f cdv)) sr->sp vs H Q E →
   ∃ t,PSs (cxOf CX P w K mg base N qual scope f cdv A outer s H E) body t/\t { nx:=λ_ H'=>Q .non H',rt:=Q } (start N vs) H) :
  FnOk P w K mg base CX (k+1) f (W.fnOf name qual params body scope dV kV doc pm an cdv ct) ps sp sr:=by
 refine⟨len,λA outer s H args us vs Q E hr e0 hb r hsp=>?_⟩;have hl:=len _ _ _ _ hsp;have KX:K.In s.heap:=e0.mod.kin.keeps λb o e=>(e0.bs b o e).1;have lim:s.heap.NoLimit:=e0.mod.nolimit.keeps λb o e=>(e0.bs b o e).1;have hkind:∀ y∈ps.zip us,scope.names.lookup y.1=some .local \/ (scope.names.lookup y.1=some .cell/\((cellsFrom (s.heap.objs.size+1) scope.names []).lookup y.1).isSome=true):=λ⟨n,v⟩ hy=>by
  rcases S.par n (Y0M hy).1 with q | q
  ·exact .inl q
  exact .inr ⟨q,W.cellsFrom_some _ _ _ (.inl q)⟩
 refine codeAny_call_function hr.depth (KX _ _ lk) rfl S.co S.gen rfl (W.codeRec_of KX hcd) (hb _ _ _ _ ?_);refine wpAny_newFunctionEnv_cells S.kind hkind λenv he s1 x=>?_;subst he;refine⟨lim.keeps x.toInCall.keep,codeAny_func ?_⟩;obtain⟨t,ht,hq⟩:=hbody A outer s H vs Q E (hr.deeper _) hsp;have I:Inv (cxOf CX P w K mg base N qual scope f cdv A outer s H E) [] (start N vs) H s1:=Ga S e0 (by have:=(hr.deeper (envOfC qual scope s.heap.objs.size f cdv)).dp;have:A.depth+1+3*k+105<recursionLimit:=this;omega) hl r x;refine GN (ht [] s1 (start N vs) H _ I hq) (λfl s' hs=>?_) λe s' hs=>hs;have fin:∀ {σ':St} {H':Hp} {v:V} {u:Value},Inv (cxOf CX P w K mg base N qual scope f cdv A outer s H E) [] σ' H' s'->RelV v u->Q v H'->CE outer P w H s Q u s' :=
  λ{σ' H' v u} J rv q=>⟨v,H',J.os,J.bare,J.base,J.hok,rv,q⟩
 cases fl with
 | ret u =>
  obtain⟨v,σ',H',J,rv,q⟩:=hs;exact fin J rv q
 | next =>
  obtain⟨σ',H',J,q⟩:=hs;exact fin (v:=V.non) (u:=Value.none) J rfl q
 | brk =>
  obtain⟨_,_,_,q⟩:=hs;exact False.elim q
 | cont =>
  obtain⟨_,_,_,q⟩:=hs;exact False.elim q
end L2
variable {sp:L2.Sp}
namespace L2
open PySem PySem.Spec PyProof.Rows
section
variable {X:Cx}{x:Str}{p pos:Pos}{e:Expr}{es:TK}{t:TA}{id T:String}{r:List V->Hp->VK->Prop}
def tCB (r:List V->Hp->VK->Prop)(t:TA):TE:=λσ H Q=>t σ H λvs H1=>r vs H1 Q
theorem Zg (hc:CallR X (.builtin id) r)(hg:Gl X x)(hm:X.mg x=none)(hv:bootBuiltins x=some (.builtin id))(ha:PA X (e::es) t)(hn:x≠"__name__":=by decide)(hdb:(x == ("__debug__":Str))=false:=by decide)
  (he:starEach (e::es) X.env=(false,eval e X.env)::starEach es X.env:=by rfl) (hpl:(backTo pos (starEach es X.env)).any (·.1)=false:=by rfl):PE X (.Call (.Name x p) (e::es) [] pos) (tCB r t):=by
 intro pins s σ H Q I h;refine z4 (Vh I hg hm hv ?_ hn hdb);exact j5 (thn (ha pos pins s σ H _ I h) λus s1 ⟨vs,H1,I1,r1,q1⟩=>hc pins s1 σ H1 vs us Q I1 r1 q1) he hpl
theorem Y1 (hc:CallR X (.type T) r)(hg:Gl X x)(hm:X.mg x=none)(hv:bootBuiltins x=some (.type T))(ha:PA X (e::es) t)(hn:x≠"__name__":=by decide)(hdb:(x == ("__debug__":Str))=false:=by decide)
  (he:starEach (e::es) X.env=(false,eval e X.env)::starEach es X.env:=by rfl) (hpl:(backTo pos (starEach es X.env)).any (·.1)=false:=by rfl):PE X (.Call (.Name x p) (e::es) [] pos) (tCB r t):=by
 intro pins s σ H Q I h;refine z4 (Vh I hg hm hv ?_ hn hdb);exact qx (thn (ha pos pins s σ H _ I h) λus s1 ⟨vs,H1,I1,r1,q1⟩=>hc pins s1 σ H1 vs us Q I1 r1 q1) he hpl
end
end L2
namespace HT
open PySem PyProof.Rows
section
def sIx (n d:Nat):Option Int->Nat
 | none=>d
 | some v=>if v<0 then (v+(n:Int)).toNat else min v.toNat n
theorem sIx_none (n d:Nat):sIx n d none=d:=rfl
theorem sIx_nat (n d k:Nat):sIx n d (some (k:Int))=min k n:=by
 show (if (k:Int)<0 then ((k:Int)+(n:Int)).toNat else min (k:Int).toNat n)=min k n;rw[XQ U,GW]
end
end HT
namespace L2
open PySem PySem.Spec PyProof.Rows
abbrev TO:=St->Hp->(Option Int->Hp->Prop)->Prop
def PO (X:Cx)(e:Option Expr)(t:TO):Prop :=
 ∀ (pins:TD) (s:Shared) (σ:St) (H:Hp) (Q:Option Int->Hp->Prop),Inv X pins σ H s->t σ H Q →
  wpAny (model X.prog X.w) X.A (evalPart e X.env) (λu s'=>∃ o H',Inv X pins σ H' s'/\IsPart u o/\Q o H') X.xe s
def tNoPart:TO:=λ_ H Q=>Q none H
inductive tPart_i (Q:(Option Int->Hp->Prop)) (x:V) (H1:Hp):Prop
 | mk (i:_) (zz0:x=.int i) (zz1:Q (some i) H1)
def tPart (t:TE):TO:=λσ H Q=>t σ H (tPart_i Q)
section
variable {X:Cx}{e:Expr}{te:TE}{lo hi:Option Expr}{tl th:TO}{pos p2:Pos}
theorem Y0:PO X none tNoPart:=by
 intro pins s σ H Q I h;rw[evalPart_none];exact YE ⟨none,H,I,.none,h⟩
theorem Zw (h:PE X e te):PO X (some e) (tPart te):=by
 intro pins s σ H Q I hw;rw[evalPart_some];refine thn (h pins s σ H _ I hw) λu s1 ⟨x,H1,I1,r1,q1⟩=>?_;obtain⟨i,rfl,q⟩:=q1;obtain⟨t,rfl⟩:=r1;exact⟨some i,H1,I1,.int i t,q⟩
def SlR (X:Cx)(r:V->Option Int->Option Int->Hp->VK->Prop):Prop :=
 ∀ (pins:TD) (s:Shared) (σ:St) (H:Hp) (x:V) (v vl vu:Value) (lo hi:Option Int) (sl:Addr) (Q:VK),Inv X pins σ H s->RelV x v->s.heap.IsSliceOf sl vl vu .none->IsPart vl lo->IsPart vu hi->r x lo hi H Q →
  ∃ T id,typeLookup (.type T) "__getitem__"=pure (some (.builtin id))/\s.TypeIs v T/\wpAny (model X.prog X.w) X.A (getItem v (.ref sl)) (EP X pins σ Q) X.xe s
def tSl (r:V->Option Int->Option Int->Hp->VK->Prop)(te:TE)(tl th:TO):TE:=λσ H Q=>te σ H λx H1=>tl σ H1 λl H2=>th σ H2 λu H3=>r x l u H3 Q
theorem Zz {r:V->Option Int->Option Int->Hp->VK->Prop}(hr:SlR X r)(he:PE X e te)(hl:PO X lo tl)(hu:PO X hi th):PE X (.Subscript e (.Slice lo hi none p2) pos) (tSl r te tl th):=by
 intro pins s σ H Q I h;refine Subscript_ (thn (he pins s σ H _ I h) λv s1 ⟨x,H1,I1,r1,q1⟩=>?_);refine wpAny_Slice (thn (hl pins s1 σ H1 _ I1 q1) λvl s2 ⟨l,H2,I2,pl,q2⟩=>thn (hu pins s2 σ H2 _ I2 q2) λvu s3 ⟨u,H3,I3,pu,q3⟩=>?_);rw[evalPart_none];refine YE ?_;have I4:Inv X pins σ H3 { s3 with heap:=s3.heap.push { cls:=.type "slice",data:=.fields #[vl,vu,.none] } }:=I3.kept (t':=s3.toks) λb ob q=>YD _ q;obtain⟨T,id,hT,ht,hg⟩:=hr pins { s3 with heap:=s3.heap.push { cls:=.type "slice",data:=.fields #[vl,vu,.none] } } σ H3 x v vl vu l u s3.heap.objs.size Q I4 r1 (Heap.IsSliceOf.new ..) pl pu q3;show wpAny (model X.prog X.w) X.A (subscriptTail e (.Slice lo hi none p2) v (.ref s3.heap.objs.size)) (EP X pins σ Q) X.xe { s3 with heap:=s3.heap.push { cls:=.type "slice",data:=.fields #[vl,vu,.none] } };exact tail_any (ops:=[.ref s3.heap.objs.size,v]) ht hT hg (by with_unfolding_all rfl)
def cutV (xs:TV)(lo hi:Option Int):List V:=(xs.drop (HT.sIx xs.length 0 lo)).take (HT.sIx xs.length xs.length hi - HT.sIx xs.length 0 lo)
theorem Ny (xs:TV)(lo hi:Option Int):(cutV xs lo hi).length<=xs.length:=by
 unfold cutV;rw[JJ,qy];omega
end
def ixN (n:Nat)(i:Int):Option Nat:=if 0<=i then (if i<n then some i.toNat else none) else if -(n:Int)<=i then some (i+n).toNat else none
def atI {α:Type}(xs:List α)(i:Int):Option α:=(ixN xs.length i).bind λj=>xs[j]?
theorem Kf {n:Nat}{i:Int}{j:Nat}(h:ixN n i=some j):seqIndex? i n=some j/\j<n/\-(n:Int)<=i/\i<n:=by
 unfold ixN at h;by_cases h0:0<=i
 ·rw[JD h0] at h;by_cases h1:i<n
  ·rw[JD h1] at h;have e:i.toNat=j:=XH h;exact⟨by rw[seqIndex_of h0 h1,e],U,U,h1⟩
  rw[XQ h1] at h;cases h
 rw[XQ h0] at h;by_cases h1:-(n:Int)<=i
 ·rw[JD h1] at h;have e:(i+n).toNat=j:=XH h;exact⟨by rw[seqIndex_neg U h1,e],U,h1,U⟩
 rw[XQ h1] at h;cases h
theorem Pa {α:Type}{xs:List α}{i:Int}{v:α}(h:atI xs i=some v):∃ j,seqIndex? i xs.length=some j/\xs[j]?=some v/\j<xs.length/\-(xs.length:Int)<=i/\i<xs.length:=by
 unfold atI at h
 cases e:ixN xs.length i with
 | none=>rw[e] at h;cases h
 | some j =>
  rw[e] at h;obtain⟨h1,h2,h3,h4⟩:=Kf e;exact⟨j,h1,h,h2,h3,h4⟩
theorem Yh {α:Type}{xs:List α}{j:Nat}{v:α}(h:xs[j]?=some v):atI xs (j:Int)=some v:=by
 have hj:j<xs.length:=(XS.mp h).1;have e:ixN xs.length (j:Int)=some j:=by
  unfold ixN;rw[JD U,JD U];simp
 unfold atI;rw[e];exact h
def PlainIx (b:Expr):Prop:=∀ o i,subscripted b false o i=operate [o,i] (getItem o i)
def IxR (X:Cx)(r:R2):Prop :=
 ∀ (value slice:Expr) (pins:TD) (s:Shared) (σ:St) (H:Hp) (x y:V) (v u:Value) (Q:VK),Inv X pins σ H s->RelV x v->RelV y u->r x y H Q →
  subscripted slice false v u=operate [v,u] (getItem v u)->wpAny (model X.prog X.w) X.A (subscriptTail value slice v u) (EP X pins σ Q) X.xe s
def MtR (X:Cx)(id:String)(r:V->List V->Hp->VK->Prop):Prop :=
 ∀ (pins:TD) (s:Shared) (σ:St) (H:Hp) (x:V) (xs:TV) (v:Value) (us:TH) (Q:VK),Inv X pins σ H s->RelV x v->Vals xs us->r x xs H Q →
  wpAny (model X.prog X.w) X.A (call (.builtin id) (v::us)) (EP X pins σ Q) X.xe s
section
variable {X:Cx}{a b:Expr}{ta tb:TE}{pos:Pos}
theorem Zq {r:R2}(hr:IxR X r)(ha:PE X a ta)(hb:PE X b tb)(hs:PlainIx b):PE X (.Subscript a b pos) (tOp r ta tb):=by
 intro pins s σ H Q I h;exact Subscript_ (Z27 ha hb I h λv u s2 x y H2 I2 rx ry q=>hr a b pins s2 σ H2 x y v u Q I2 rx ry q (hs _ _))
inductive rIxL (K:TQ) (x:V) (y:V) (H:Hp) (Q:VK):Prop
 | mk (p xs i v:_) (zz0:x=.ref p) (zz1:y=.int i) (zz2:SqL K H p xs) (zz3:atI xs i=some v) (zz4:Q v H)
inductive rIxT (K:TQ) (x:V) (y:V) (H:Hp) (Q:VK):Prop
 | mk (p xs i v:_) (zz0:x=.ref p) (zz1:y=.int i) (zz2:SqT K H p xs) (zz3:atI xs i=some v) (zz4:Q v H)
inductive rIxS (x:V) (y:V) (H:Hp) (Q:VK):Prop
 | mk (z i c:_) (zz0:x=.str z) (zz1:y=.int i) (zz2:z.length<=sizeLine) (zz3:atI z.cps.toList i=some c) (zz4:Q (.str ⟨#[c]⟩) H)
theorem Y5:IxR X (rIxL X.K):=by
 intro value slice pins s σ H x y v u Q I rx ry h hs;obtain⟨p,xs,i,z,rfl,rfl,hq,he,q⟩:=h
 cases rx;obtain⟨t,rfl⟩:=ry;obtain⟨its,r,pl,hz⟩:=I.list hq;obtain⟨j,h1,h2,h3,h4,h5⟩:=Pa he;obtain⟨w,ew,rw'⟩:=r.get h2;have hl:=r.length;have hn:=Vg;have fin:EP X pins σ Q w s:=⟨z,H,I,rw',q⟩;by_cases h0:0<=i
 ·have hj:i.toNat=j:=by
   rw[seqIndex_of h0 h5] at h1;exact XH h1
  exact item_listR pl.isList h0 U (by rw[hj];simpa using ew) fin hs
 have hj:(i+(its.toArray.size:Int)).toNat=j:=by
  rw[seqIndex_neg U h4] at h1;rw[YY,<-hl];exact XH h1
 exact subscriptTail_builtinR (x:=w) pl.isList.typeIs Y0h.lookup
  (wpAny_getItem_list_neg (Q:=λr s'=>r=w/\EP X pins σ Q r s') pl.isList U (by rw[YY] <;> omega) U (by rw[hj];simpa using ew) ⟨rfl,fin⟩) hs
theorem Ye:IxR X (rIxT X.K):=by
 intro value slice pins s σ H x y v u Q I rx ry h hs;obtain⟨p,xs,i,z,rfl,rfl,hq,he,q⟩:=h
 cases rx;obtain⟨t,rfl⟩:=ry;obtain⟨its,r,pl,hz⟩:=I.tuple hq;obtain⟨j,h1,h2,h3,h4,h5⟩:=Pa he;obtain⟨w,ew,rw'⟩:=r.get h2;have hl:=r.length;have hn:=Vg;have fin:EP X pins σ Q w s:=⟨z,H,I,rw',q⟩;exact subscriptTail_builtinR (x:=w) pl.typeIs slot_tuple_getitem.lookup
  (getItem_tuple (j:=j) (Q:=λr s'=>r=w/\EP X pins σ Q r s') pl U U (by rw[YY,<-hl];exact h1) (by simpa using ew) ⟨rfl,fin⟩) hs
theorem Lh:IxR X rIxS:=by
 intro value slice pins s σ H x y v u Q I rx ry h hs;obtain⟨z,i,c,rfl,rfl,hz,he,q⟩:=h;obtain⟨t,rfl⟩:=rx;obtain⟨t',rfl⟩:=ry;obtain⟨j,h1,h2,h3,h4,h5⟩:=Pa he;have hl:z.cps.toList.length=z.length:=by simp[Str.length]
 rw[hl] at h1 h4 h5;have hn:=Vg;exact tail_any (j6 s z t) slot_str_getitem.lookup (getItem_str (c:=c) (by
  have e1:decide (i < -(2 ^ 63:Int))=false:=XI U;have e2:decide (i ≥ 2 ^ 63)=false:=XI U;rw[e1,e2,Bool.or_false]) (by rw[h1];simpa using h2) ⟨.str ⟨#[c]⟩,H,I.tok _,⟨_,rfl⟩,q⟩) hs
theorem Lc (its:TH)(n j:Nat)(u:Value):Obj.mapSeq (·.setIfInBounds j u) { cls:=.type "list",data:=.seq its.toArray n }={ cls:=.type "list",data:=.seq (its.set j u).toArray n }:=by
 simp[Obj.mapSeq]
theorem Inv.lst {pins:TD}{σ:St}{H:Hp}{s:Shared}{p:Addr}{xs:TV}(I:Inv X pins σ H s)(h:H p=some (.lst xs)) :
  ∃ (its:TH) (n:Nat),Vals xs its/\s.heap.get? p=some { cls:=.type "list",data:=.seq its.toArray n }/\xs.length<=sizeLine:=by
 obtain⟨z,its,n,r,e⟩:=I.hok p _ h;exact⟨its,n,r,e,z⟩
theorem Inv.lstUpd {p:Addr}{ys:TV}{its its':TH}{n n':Nat}{f:Obj->Obj}(I:Inv X pins σ H s)(h:H p=some (.lst xs))
  (ho:s.heap.get? p=some { cls:=.type "list",data:=.seq its.toArray n }) (hf:f { cls:=.type "list",data:=.seq its.toArray n }={ cls:=.type "list",data:=.seq its'.toArray n' }) (r:Vals ys its') (hz:ys.length<=sizeLine) (t:Nat) :
  Inv X pins σ (upd H p (.lst ys)) { s with heap:=s.heap.update p f,toks:=t }:=by
 have e:(s.heap.update p f).get? p=some { cls:=.type "list",data:=.seq its'.toArray n' }:=by
  rw[JN f ho (by rw[hf] <;> rfl),hf]
 refine I.write (x:=p) (e:=p) (by rw[h];trivial) (.inl rfl) (λb u hb q=>(JG _ _ (JZ hb)).trans q) ⟨_,e⟩ ?_;exact⟨hz,its',n',r,e⟩
inductive rSetL (o:V) (i:V) (v:V) (H:Hp) (Q:(Hp->Prop)):Prop
 | mk (p xs k j:_) (zz0:o=.ref p) (zz1:i=.int k) (zz2:H p=some (.lst xs)) (zz3:ixN xs.length k=some j) (zz4:Q (upd H p (.lst (xs.set j v))))
theorem Wu:PSet X rSetL:=by
 intro pins s σ H o i v ov iv u Q I ro ri rv h;obtain⟨p,xs,k,j,rfl,rfl,hp,hj,q⟩:=h
 cases ro;obtain⟨t,rfl⟩:=ri;obtain⟨its,n,r,ho,hz⟩:=I.lst hp;obtain⟨h1,h2,h3,h4⟩:=Kf hj;have hl:=r.length;have hn:=Vg;have I':Inv X pins σ (upd H p (.lst (xs.set j v))) { s with heap:=s.heap.update p (Obj.mapSeq (·.setIfInBounds j u)) } :=
  I.lstUpd hp ho (Lc its n j u) (r.set rv j) (by rw[ji];exact hz) s.toks
 by_cases h0:0<=k
 ·have hk:k.toNat=j:=by
   rw[seqIndex_of h0 h4] at h1;exact XH h1
  exact W.ki_setAt ho h0 U (by rw[YY,<-hl];exact h4) (by rw[hk];exact⟨_,I',q⟩)
 have hk:(k+(its.toArray.size:Int)).toNat=j:=by
  rw[seqIndex_neg U h3] at h1;rw[YY,<-hl];exact XH h1
 exact W.ki_setBack ho U (by rw[YY,<-hl];exact h3) U (by rw[hk];exact⟨_,I',q⟩)
theorem Qb (lo hi:Option Int)(n:Nat):(sliceBounds lo hi none n).1=((HT.sIx n 0 lo:Nat):Int)/\(sliceBounds lo hi none n).2.1=((HT.sIx n n hi:Nat):Int)/\(sliceBounds lo hi none n).2.2=1:=by
 refine⟨?_,?_,rfl⟩
 ·cases lo with
  | none=>simp[sliceBounds,HT.sIx]
  | some i =>
   simp only [sliceBounds,HT.sIx,Y0t,show (1:Int) > 0 by decide,zP];by_cases h:i<0
   ·simp only [h,zP] <;> omega
   simp only [h,zi] <;> omega
 cases hi with
 | none=>simp[sliceBounds,HT.sIx]
 | some i =>
  simp only [sliceBounds,HT.sIx,Y0t,show (1:Int) > 0 by decide,zP];by_cases h:i<0
  ·simp only [h,zP] <;> omega
  simp only [h,zi] <;> omega
theorem Sz (its:TH)(lo hi:Option Int):slicePick its.toArray lo hi none=((its.drop (HT.sIx its.length 0 lo)).take (HT.sIx its.length its.length hi - HT.sIx its.length 0 lo)).toArray:=by
 obtain⟨h1,h2,h3⟩:=Qb lo hi its.toArray.size;unfold slicePick;rw[h1,h2,h3];simp only [sliceRange_one,pick_run,YY] <;> rfl
inductive rSlL (K:TQ) (x:V) (lo:Option Int) (hi:Option Int) (H:Hp) (Q:VK):Prop
 | mk (a xs:_) (zz0:x=.ref a) (zz1:SqL K H a xs) (zz2:∀ p,H p=none->Q (.ref p) (upd H p (.lst (cutV xs lo hi))))
theorem Yw:SlR X (rSlL X.K):=by
 intro pins s σ H x v vl vu lo hi sl Q I rx hs pl pu h;obtain⟨a,xs,rfl,hx,q⟩:=h
 cases rx;obtain⟨its,r,ht,hz⟩:=I.list hx;have hlen:=r.length;refine⟨"list",_,Y0h.lookup,ht.isList.typeIs,?_⟩;refine Y0o ht.isList hs pl pu .none J8 ?_ (by rw[YY] <;> omega);rw[Sz,<-hlen];refine⟨.ref s.heap.objs.size,_,I.laid (t':=s.toks) (o:=.lst (cutV xs lo hi)) (λb ob q=>YD _ q) (YO _) ?_,rfl,q _ (I.hok.fresh (YO _))⟩;exact⟨XV (Ny xs lo hi) hz,_,0,(r.drop (HT.sIx xs.length 0 lo)).take (HT.sIx xs.length xs.length hi - HT.sIx xs.length 0 lo),YL _ rfl⟩
def flatV:V->Bool
 | .non=>true
 | .bl _=>true
 | .int _=>true
 | .str _=>true
 | _=>false
def eqV:V->V->Bool
 | .non,.non=>true
 | .bl a,.bl b=>a == b
 | .bl a,.int b=>(if a then 1 else 0) == b
 | .int a,.bl b=>a == (if b then 1 else 0)
 | .int a,.int b=>a == b
 | .str a,.str b=>a == b
 | _,_=>false
theorem Z26 {A:Around}{s:Shared}{y x:V}{u v:Value}(ry:RelV y u)(rx:RelV x v)(fy:flatV y=true)(fx:flatV x=true):SeqAt.EqAt A s u v (eqV y x):=by
 cases y with
 | non =>
  cases ry
  cases x with
  | non=>cases rx;exact qH _
  | bl b=>cases rx;exact SeqAt.EqAt.none_bool b
  | int b=>obtain⟨t,rfl⟩:=rx;exact SeqAt.EqAt.none_int b t
  | str b=>obtain⟨t,rfl⟩:=rx;exact SeqAt.EqAt.none_str b t
  | _=>exact absurd (show false=true from fx) XB
 | bl a =>
  cases ry
  cases x with
  | non=>cases rx;exact SeqAt.EqAt.bool_none a
  | bl b=>cases rx;exact SeqAt.EqAt.bool_bool a b
  | int b=>obtain⟨t,rfl⟩:=rx;exact SeqAt.EqAt.bool_int a b t
  | str b=>obtain⟨t,rfl⟩:=rx;exact SeqAt.EqAt.bool_str a b t
  | _=>exact absurd (show false=true from fx) XB
 | int a =>
  obtain⟨t',rfl⟩:=ry
  cases x with
  | non=>cases rx;exact SeqAt.EqAt.int_none a t'
  | bl b=>cases rx;exact SeqAt.EqAt.int_bool a t' b
  | int b=>obtain⟨t,rfl⟩:=rx;exact Y03 a t' b t
  | str b=>obtain⟨t,rfl⟩:=rx;exact SeqAt.EqAt.int_str a t' b t
  | _=>exact absurd (show false=true from fx) XB
 | str a =>
  obtain⟨t',rfl⟩:=ry
  cases x with
  | non=>cases rx;exact SeqAt.EqAt.str_none a t'
  | bl b=>cases rx;exact SeqAt.EqAt.str_bool a t' b
  | int b=>obtain⟨t,rfl⟩:=rx;exact SeqAt.EqAt.str_int a t' b t
  | str b=>obtain⟨t,rfl⟩:=rx;exact Y04 a t' b t
  | _=>exact absurd (show false=true from fx) XB
 | _=>exact absurd (show false=true from fy) XB
def eqU (x:V)(u:Value):Bool:=match u with
 | .none=>eqV .non x
 | .bool b=>eqV (.bl b) x
 | .int i _=>eqV (.int i) x
 | .str z _=>eqV (.str z) x
 | _=>false
theorem Lm {x y:V}{u:Value}(r:RelV y u)(f:flatV y=true):eqU x u=eqV y x:=by
 cases y with
 | non=>cases r;rfl
 | bl b=>cases r;rfl
 | int i=>obtain⟨t,rfl⟩:=r;rfl
 | str z=>obtain⟨t,rfl⟩:=r;rfl
 | _=>exact absurd (show false=true from f) XB
theorem U1 {x:V}:∀ {xs:TV} {us:TH},Vals xs us->xs.all flatV=true->us.any (eqU x)=xs.any λy=>eqV y x
 | _,_,.nil,_=>rfl
 | y::xs,u::us,.cons r t,f=>by
  rw[zC,JP] at f;rw[zD,zD,Lm r f.1,U1 t f.2]
theorem Wd {A:Around}{s:Shared}{x:V}{v:Value}(rx:RelV x v)(fx:flatV x=true):∀ {xs:TV} {us:TH},Vals xs us->xs.all flatV=true->∀ u∈us,SeqAt.EqAt A s u v (eqU x u)
 | _,_,.nil,_=>λu hu=>by cases hu
 | y::xs,u::us,.cons r t,f=>λu' hu=>by
  rw[zC,JP] at f;rcases YC.mp hu with rfl | hu
  ·rw[Lm r f.1];exact Z26 r rx f.1 fx
  exact Wd rx fx t f.2 u' hu
def inV (x:V)(xs:TV):Bool:=xs.any λy=>eqV y x
inductive rIn (K:TQ) (neg:Bool) (x:V) (y:V) (H:Hp) (Q:VK):Prop
 | mk (p xs:_) (zz0:y=.ref p) (zz1:(SqL K H p xs \/ SqT K H p xs)) (zz2:flatV x=true) (zz3:xs.all flatV=true) (zz4:Q (.bl (if neg then !inV x xs else inV x xs)) H)
theorem U8:OpR X (compareOp .In) (rIn X.K false):=by
 intro pins s σ H x y v u Q I rx ry h;obtain⟨p,xs,rfl,hq,fx,fs,q⟩:=h
 cases ry;rcases hq with hq | hq
 ·obtain⟨its,r,pl,hz⟩:=I.list hq;refine SeqAt.in_listAt (eqU x) pl.isList (λw hw=>Wd rx fx r fs w (by simpa using hw)) ⟨.bl _,H,I,rfl,?_⟩;rw[show its.toArray.any (eqU x)=its.any (eqU x) by simp,U1 r fs];exact q
 obtain⟨its,r,pl,hz⟩:=I.tuple hq;refine SeqAt.in_tupleAt (eqU x) pl (λw hw=>Wd rx fx r fs w (by simpa using hw)) ⟨.bl _,H,I,rfl,?_⟩;rw[show its.toArray.any (eqU x)=its.any (eqU x) by simp,U1 r fs];exact q
theorem Vs:OpR X (compareOp .NotIn) (rIn X.K true):=by
 intro pins s σ H x y v u Q I rx ry h;obtain⟨p,xs,rfl,hq,fx,fs,q⟩:=h
 cases ry;rcases hq with hq | hq
 ·obtain⟨its,r,pl,hz⟩:=I.list hq;refine SeqAt.notIn_listAt (eqU x) pl.isList (λw hw=>Wd rx fx r fs w (by simpa using hw)) ⟨.bl _,H,I,rfl,?_⟩;rw[show its.toArray.any (eqU x)=its.any (eqU x) by simp,U1 r fs];exact q
 obtain⟨its,r,pl,hz⟩:=I.tuple hq;refine SeqAt.notIn_tupleAt (eqU x) pl (λw hw=>Wd rx fx r fs w (by simpa using hw)) ⟨.bl _,H,I,rfl,?_⟩;rw[show its.toArray.any (eqU x)=its.any (eqU x) by simp,U1 r fs];exact q
theorem Vr:OpR X (compareOp .NotIn) (λx y H Q=>∃ i j,x=.str i/\y=.str j/\Q (.bl (!(!(Builtin.Str.occurrences j i 0 j.length 1).isEmpty))) H):=by
 intro pins s σ H x y v u Q I rx ry h;obtain⟨i,j,rfl,rfl,q⟩:=h;obtain⟨t,rfl⟩:=rx;obtain⟨t',rfl⟩:=ry;exact notIn_str ⟨.bl _,H,I,rfl,q⟩
theorem Zh:CallR X (.builtin "len") (λxs H Q=>∃ p ys,xs=[.ref p]/\(SqL X.K H p ys \/ SqT X.K H p ys)/\Q (.int ys.length) H):=by
 intro pins s σ H xs us Q I r h;obtain⟨p,ys,rfl,hq,q⟩:=h;obtain⟨u,rfl,rx⟩:=W7 r
 cases rx;have hn:=Vg;rcases hq with hq | hq
 ·obtain⟨its,r',pl,hz⟩:=I.list hq;have hlen:=r'.length;exact Calls.call_len_list pl.isList (by simp only [YY] <;> omega) ⟨.int ys.length,H,I.tok _,⟨s.toks+1,by rw[YY,hlen]⟩,q⟩
 obtain⟨its,r',pl,hz⟩:=I.tuple hq;have hlen:=r'.length;exact len_tuple pl (by simp only [YY] <;> omega) ⟨.int ys.length,H,I.tok _,⟨s.toks+1,by rw[YY,hlen]⟩,q⟩
theorem Wp:CallR X (.builtin "len") (λxs H Q=>∃ z,xs=[.str z]/\z.length<=sizeLine/\Q (.int z.length) H):=by
 intro pins s σ H xs us Q I r h;obtain⟨z,rfl,hz,q⟩:=h;obtain⟨u,rfl,t,rfl⟩:=W7 r;have hn:=Vg;exact len_str U ⟨.int z.length,H,I.tok _,⟨_,rfl⟩,q⟩
theorem Yo:CallR X (.type "tuple") (λxs H Q=>∃ p ys,xs=[.ref p]/\((SqL X.K H p ys/\∀ l,H l=none->Q (.ref l) (upd H l (.tup ys))) \/ (SqT X.K H p ys/\Q (.ref p) H))):=by
 intro pins s σ H xs us Q I r h;obtain⟨p,ys,rfl,h⟩:=h;obtain⟨u,rfl,rx⟩:=W7 r
 cases rx;rcases h with ⟨hq,q⟩ | ⟨hq,q⟩
 ·obtain⟨its,r',pl,hz⟩:=I.list hq;have hlen:=r'.length;refine call_tuple_list pl.isList (λh' kp=>?_) (by simp only [YY] <;> omega);have I1:Inv X pins σ H { s with heap:=h' }:=I.kept (t':=s.toks) kp;have I2:Inv X pins σ (upd H h'.objs.size (.tup ys)) { s with heap:=h'.push { cls:=.type "tuple",data:=.seq its.toArray } } :=
   I1.laid (t':=s.toks) (λb o e=>YD _ e) (YO _) (show ObjOk X.prog X.w _ _ _ (.tup ys) from ⟨hz,its,r',IsTup.new _ _⟩)
  exact⟨.ref h'.objs.size,_,I2,rfl,q _ (I1.hok.fresh (YO _))⟩
 obtain⟨its,r',pl,hz⟩:=I.tuple hq;exact call_tuple_same pl ⟨.ref p,H,I,rfl,q⟩
def tyV (K:TQ)(T:String)(x:V)(H:Hp):Prop:=match x with
 | .str _=>T="str"
 | .int _=>T="int"
 | .ref p=>(T="list"/\∃ xs,SqL K H p xs) \/ (T="tuple"/\∃ o,K.lookup p=some o/\o.cls=.type "tuple"/\o.dict=none) ∨
   (T="dict"/\((∃ kvs,H p=some (.dK kvs)) \/ ∃ kvs,H p=some (.dT kvs))) \/ (T="set"/\∃ S n,H p=some (.set S n))
 | _=>False
theorem Z10 {pins:TD}{σ:St}{H:Hp}{s:Shared}{T:String}{x:V}{v:Value}(I:Inv X pins σ H s)(r:RelV x v)(ty:tyV X.K T x H) :
  s.TypeIs v T/\∀ a,v=.ref a->∃ ob,s.heap.get? a=some ob/\ob.dict=none:=by
 cases x with
 | str z =>
  obtain⟨t,rfl⟩:=r
  cases (show T="str" from ty);exact⟨j6 s z t,λ_ e=>nomatch e⟩
 | int i =>
  obtain⟨t,rfl⟩:=r
  cases (show T="int" from ty);exact⟨typeIs_int s i t,λ_ e=>nomatch e⟩
 | ref p =>
  cases r;rcases ty with ⟨rfl,xs,hq⟩ | ⟨rfl,o,hk,hc,hd⟩ | ⟨rfl,hk⟩ | ⟨rfl,S,n,hk⟩
  ·obtain⟨its,_,pl,_⟩:=I.list hq;refine⟨pl.isList.typeIs,λa e=>?_⟩
   cases e;obtain⟨o,n,e,c,hd,_⟩:=pl;exact⟨o,e,hd⟩
  ·refine⟨⟨o,I.kIn p o hk,hc⟩,λa e=>?_⟩
   cases e;exact⟨o,I.kIn _ o hk,hd⟩
  ·have z:∃ o,s.heap.get? p=some o/\o.ExactDict:=by
    rcases hk with ⟨kvs,hk⟩ | ⟨kvs,hk⟩
    ·obtain⟨_,_,_,_,o,_,_,e,ex,_⟩:=I.hok p _ hk;exact⟨o,e,ex⟩
    obtain⟨_,_,_,_,o,_,_,e,ex,_⟩:=I.hok p _ hk;exact⟨o,e,ex⟩
   obtain⟨o,e,ex⟩:=z;refine⟨⟨o,e,ex.1⟩,λa e2=>?_⟩
   cases e2;exact⟨o,e,ex.2.1⟩
  obtain⟨o,_,_,_,e,ex,_⟩:=I.hok p _ hk;refine⟨⟨o,e,ex.1⟩,λa e2=>?_⟩
  cases e2;exact⟨o,e,ex.2.1⟩
 | _=>exact False.elim ty
def tBM (K:TQ)(T:String)(r:V->List V->Hp->VK->Prop)(to:TE)(t:TA):TE:=λσ H Q=>to σ H λx H1=>tyV K T x H1/\t σ H1 λxs H2=>r x xs H2 Q
variable {o e:Expr}{es:TK}{to:TE}{t:TA}{name:Str}{apos cpos:Pos}{T id:String}{r:V->List V->Hp->VK->Prop}
theorem Yg (pa:PlainAttrs T)(slot:Slot T name id)(hty:typeOf (.builtin id)=pure (.type "method_descriptor"))(hm:MtR X id r)(ho:PE X o to)(ha:PA X (e::es) t)
  (hbase:attributeBase o name X.env (eval o X.env)=eval o X.env:=by rfl)
  (hfew:((backTo cpos (starEach (e::es) X.env)).all (λx=>!x.1) && (backToKw cpos (keywordEach [] X.env)).all (λx=>x.1.isSome)
   && decide ((e::es).length+([]:List Keyword).length+(if ([]:List Keyword).isEmpty then 0 else 1)<30))=true:=by rfl)
  (hline:(apos.endLine == cpos.line)=true:=by rfl) (hs:starEach (e::es) X.env=(false,eval e X.env)::starEach es X.env:=by rfl) (hplain:(backTo cpos (starEach es X.env)).any (·.1)=false:=by rfl) :
  PE X (.Call (.Attribute o name apos) (e::es) [] cpos) (tBM X.K T r to t):=by
 intro pins s σ H Q I h;refine wpAny_Call_method_late hbase hfew hline rfl (thn (ho pins s σ H _ I h) λv s1 ⟨x,H1,I1,r1,ty,q1⟩=>?_);obtain⟨h1,h2⟩:=Z10 I1 r1 ty;refine⟨T,id,pa,slot,hty,h1,h2,?_⟩;have hA:=ha cpos pins s1 σ H1 _ I1 q1;rw[hs] at hA ⊢;refine Calls.callWith_builtin (by show (false || (backTo cpos (starEach es X.env)).any (·.1))=false;rw[hplain] <;> rfl) (Calls.evalArgs_plain ?_);exact thn hA λus s2 ⟨vs,H2,I2,r2,q2⟩=>hm pins s2 σ H2 x vs v us Q I2 r1 r2 q2
end
def MtM (X:Cx)(id:String)(r:V->List V->Hp->VK->Prop):Prop :=
 ∀ (pins:TD) (s:Shared) (σ:St) (H:Hp) (x:V) (xs:TV) (v:Value) (us:TH) (Q:VK),Inv X pins σ H s->RelV x v->Vals xs us->r x xs H Q →
  wpAny (model X.prog X.w) X.A (call (.builtin id) (v::us)) (EP X pins σ Q) X.xe s
theorem Vals.one:∀ {x:V} {us:TH},Vals [x] us->∃ u,us=[u]/\RelV x u
 | _,_,.cons r .nil=>⟨_,rfl,r⟩
section
variable {X:Cx}{pins:TD}{σ:St}{H:Hp}{s:Shared}{l:Addr}{xs ys:TV}
theorem Inv.lset {its its':TH}{n:Nat}{f:Array Value->Array Value}{t':Nat}(I:Inv X pins σ H s)(hH:H l=some (.lst xs))
  (e:s.heap.get? l=some { cls:=.type "list",data:=.seq its.toArray n }) (hf:f its.toArray=its'.toArray) (hv:Vals ys its') (hz:ys.length<=sizeLine) :
  Inv X pins σ (upd H l (.lst ys)) { s with heap:=s.heap.update l (Obj.mapSeq f),toks:=t' }:=by
 have q:=PySem.IsL.update e f;rw[hf] at q;refine I.write (x:=l) (e:=l) (by rw[hH];exact trivial) (.inl rfl) (λb' u hb hu=>(JG s.heap (Obj.mapSeq f) (JZ hb)).trans hu) ⟨_,q⟩ ?_;exact⟨hz,its',_,hv,q⟩
theorem Inv.lnew {t':Nat}(I:Inv X pins σ H s)(hv:Vals ys its)(hz:ys.length<=sizeLine) :
  Inv X pins σ (upd H s.heap.objs.size (.lst ys)) { s with heap:=s.heap.push { cls:=.type "list",data:=.seq its.toArray },toks:=t' } :=
 I.laid (λ_ _ q=>YD _ q) (YO _) ⟨hz,its,0,hv,YL _ rfl⟩
theorem Inv.fresh (I:Inv X pins σ H s):H s.heap.objs.size=none:=I.hok.fresh (YO _)
theorem Inv.lstM (I:Inv X pins σ H s)(hH:H l=some (.lst xs)):xs.length<=sizeLine/\∃ (its:TH) (n:Nat),Vals xs its/\xs.length=its.length/\s.heap.get? l=some { cls:=.type "list",data:=.seq its.toArray n }:=by
 obtain⟨z,its,n,r,e⟩:=I.hok l _ hH;exact⟨z,its,n,r,r.length,e⟩
end
section
variable {X:Cx}
inductive rAppend (x:V) (vs:TV) (H:Hp) (Q:VK):Prop
 | mk (l xs y:_) (zz0:x=.ref l) (zz1:vs=[y]) (zz2:H l=some (.lst xs)) (zz3:xs.length<sizeLine) (zz4:Q .non (upd H l (.lst (xs++[y]))))
theorem Wc:MtM X "list.append" rAppend:=by
 intro pins s σ H x vs v us Q I rx rv h;obtain⟨l,xs,y,rfl,rfl,hH,hz,q⟩:=h
 cases rx;obtain⟨u,rfl,ru⟩:=rv.one;obtain⟨z,its,n,r,hl,e⟩:=I.lstM hH;refine j7 F.slot_list_append ⟨_,e,rfl⟩ F.entry_list_append (F.args_list_append_2 _ _) (PySem.list_append l its.toArray n u (by rw[YY];omega)) ⟨e,?_⟩;refine⟨.non,_,I.lset (its':=its++[u]) hH e J8 (r.append (.cons ru .nil)) ?_,rfl,q⟩;rw[XF,List.length_singleton];omega
inductive rCat (x:V) (y:V) (H:Hp) (Q:VK):Prop
 | mk (l b xs zs:_) (zz0:x=.ref l) (zz1:y=.ref b) (zz2:H l=some (.lst xs)) (zz3:H b=some (.lst zs)) (zz4:xs.length+zs.length<=sizeLine) (zz5:∀ p,H p=none->Q (.ref p) (upd H p (.lst (xs++zs))))
theorem Ym:OpR X (binaryOp .Add) rCat:=by
 intro pins s σ H x y v u Q I rx ry h;obtain⟨l,b,xs,zs,rfl,rfl,hH,hB,hz,q⟩:=h
 cases rx
 cases ry;obtain⟨z,its,n,r,hl,e⟩:=I.lstM hH;obtain⟨z2,its2,n2,r2,hl2,e2⟩:=I.lstM hB;refine PySem.P.add_list e e2 ?_ (by rw[YY,YY];omega);have ea:its.toArray++its2.toArray=(its++its2).toArray:=J8
 rw[ea];exact⟨.ref _,_,I.lnew (t':=s.toks) (r.append r2) (by rw[XF];omega),rfl,q _ I.fresh⟩
end
end L2
namespace Att
open PySem PySem.W PySem.Calls PyProof.Rows
theorem Us {P:Params}{h:Heap}:∀ (ns:TU) (vs:TH),WellAll P h vs (ns.map WData.int)->IntsAre vs ns:=by
 intro ns
 induction ns with
 | nil =>
  intro vs w;rw[XJ] at w
  cases w;exact .nil
 | cons n ns ih =>
  intro vs w;rw[YT] at w
  cases w with
  | cons a b =>
   cases a;exact .cons _ _ (ih _ b)
theorem J6 {l:OpenLaw}{n:Nat}(hn:l.most=some n){P:Params}{h:Heap}{args:List WData}{vals:TH}
  (hpre:l.row.toRowW.claim.pre args=true) (hwl:WellAll P h vals args) :
  ∃ a vs ns,vals=[Value.ref a]/\args=[WData.list (ns.map WData.int)]/\h.get? a=some { cls:=.type "list",data:=.seq vs.toArray }/\IntsAre vs ns/\ns.length<=n:=by
 have hsh:WShape.hasAll [] args [.list .int]=true:=(pre_splitW hpre).1;have hc:l.pre.holds [] { args:=args }=true:=(pre_splitW hpre).2;obtain⟨d,r,rfl,h1,h2⟩:=hasAllW_cons hsh;obtain rfl:=hasAllW_nil h2;obtain⟨xs,rfl,h3⟩:=hasW_list h1;obtain⟨ns,rfl⟩:=items_int h3;have hlen:ns.length<=n:=by
  unfold OpenLaw.pre at hc;have h4:(WTm.not (.lt (.lit (.int (n:Int))) (.len (.arg 0)))).holds [] { args:=[.list (ns.map .int)] }=true:=by
   have h4:=(holds_andW hc).1;rw[hn] at h4;exact h4
  have h5:=condW_of h4 (w_not (w_lt w_lit (w_len_list (w_arg rfl))));rw[YB] at h5;refine qk λq=>?_;have q':(n:Int)<((ns.length:Nat):Int):=U
  first
   | (rw[XD q'] at h5;exact absurd h5 J7)
   | (simp at h5;omega)
 cases hwl with
 | cons w1 w2 =>
  cases w2
  cases w1 with
  | list ho hall=>exact⟨_,_,ns,rfl,rfl,ho,Us ns _ hall,hlen⟩
theorem Jh (l:OpenLaw)(args:List WData):l.row.toRowW.claim.post args (.bool true) args=true :=
 postW_of (r:=l.row.toRowW) (X:=(true == true))
  (show WShape.has [] (.bool true) .bool=true by first | rfl | decide | simp[WShape.has,WShape.arms,WShape.armsAll])
  (show (WTm.eq .res (.lit (.bool true))).value [] { args:=args,res:=some (.bool true),after:=args }=some (.bool (true == true)) from w_eq_bool (w_res rfl) w_lit) rfl
theorem attach_call {l:OpenLaw}{n:Nat}{q:TR}{loose:TF}{XP:(Str->Option Value)->Heap->Prop}{YP:World->Heap->Prop}{d:DefRec}
  (hn:l.most=some n) (hdf:d.params.defaults=[])
  (call:∀ (w:World) (s₀ s₁:Shared) (mg mb:TB) (fa:Addr) (o:Obj) (pm cd doc:Value) (a:Addr) (vs:TH) (ns:TU),
   Ground q loose [] XP w s₀ mg mb s₁.heap->YP w s₁.heap →
   s₁.heap.get? fa=some o->o.data=.func (docDef d.name d.params d.body d.scope pm cd doc)->s₁.heap.CodeRec cd d.name->mg d.name=some (.ref fa) →
   s₁.heap.get? a=some { cls:=.type "list",data:=.seq vs.toArray }->IntsAre vs ns->ns.length<=n->s₁.gens=#[] →
   codeAny (model l.prog w) callerA (.call (.ref fa) ⟨[.ref a],[]⟩) (λr s'=>r=.ok (.ret (.bool true))/\OldK s₁.heap s'.heap/\s'.os=s₁.os/\AllBare s'.gens) s₁) :
  WalkO q loose XP YP l.row.toRowW d [] (λf vs=>PySem.call f vs):=by
 intro w s₀ s₁ mg mb G Y fa o pm cd doc dV kV ho hd hcd hD hmg hg args vals as hpre hlay hrd hwl hlo;obtain rfl:dV=.none:=Dflts.none hD hdf;obtain rfl:kV=.none:=Dflts.noKw hD;obtain⟨a,vs,ns,rfl,rfl,hobj,hints,hlen⟩:=J6 hn hpre hwl;refine enter_call (qI (call w s₀ s₁ mg mb fa o pm cd doc a vs ns G Y ho (fd_plain hd) hcd hmg hobj hints hlen hg) λr s' hq=>?_);obtain⟨rfl,h2,h3,h4⟩:=hq;exact⟨.inl ⟨.bool true,.bool true,[],rfl,λ_=>rfl,.bool true,Jh l _,λ_=>⟨List.Pairwise.nil,λ_ hm=>(nomatch hm)⟩⟩,h2,h3,h4⟩
section
def ledger (h:Heap)(L d:Addr):List (Addr × Obj):=(List.range h.objs.size).filterMap λa=>if a=L \/ a=d then none else (h.get? a).map λo=>(a,o)
end
end Att
namespace L2
open PySem PySem.Spec PyProof.Rows
theorem W6:∀ {vs:TH} {ns:TU},IntsAre vs ns->Vals (ns.map V.int) vs
 | _,_,.nil=>.nil
 | _,_,.cons n t h=>.cons ⟨t,rfl⟩ (W6 h)
def Only (H:Hp):Prop:=∀ b,H b=none \/ ∃ o xs,H b=some (.frz o (.lst xs))
theorem Dc {P:TR}{w:World}{K:TQ}{mg mb:TB}{CX:CXT}{k:Nat}{fa a:Addr}{fd:FuncData}{x:Str}{sp:Sp}{s₁:Shared}{vs:TH}{ns:TU}
  (KX:K.In s₁.heap) (hns:s₁.heap.Ns mainGlobals mg) (hb:s₁.heap.Ns builtinsNs mb) (hbb:∀ x:Str,x≠"__name__"->mb x=bootBuiltins x) (hlim:s₁.heap.NoLimit) (hsee:s₁.heap.NoSeer) (htree:P.given.tree=none) (hg:s₁.gens=#[])
  (ha:s₁.heap.get? a=some { cls:=.type "list",data:=.seq vs.toArray }) (hi:IntsAre vs ns) (hl:ns.length<=sizeLine) {sr:Bool} (hr:Room k callerA sr)
  (F:∀ base:Heap,K.In base->base.Ns mainGlobals mg->FnOk P w K mg base CX k fa fd [x] sp sr) (hbind:∀ (s:Shared) (u:Value),BindsTo s fd ⟨[u],[]⟩ [(x,u)])
  (hsp:∀ H:Hp,Only H->SqL K H a (ns.map V.int)->sp [.ref a] H (λv _=>v=.bl true) λ_ _ _=>False)
  (hCX:∀ H e s',CX [] H s₁ (λ_ _ _=>False) e s'->False) :
  codeAny (model P w) callerA (.call (.ref fa) ⟨[.ref a],[]⟩) (λr s'=>r=.ok (.ret (.bool true))/\OldK s₁.heap s'.heap/\s'.os=s₁.os/\AllBare s'.gens) s₁:=by
 have rv:=W6 hi;have lenV:=hi.length;have core:∀ H:Hp,Only H->SqL K H a (ns.map V.int)->HOk P w H s₁.heap->(∀ b,H b≠none->b=a)->(H a≠none->K.lookup a=none) →
   codeAny (model P w) callerA (.call (.ref fa) ⟨[.ref a],[]⟩) (λr s'=>r=.ok (.ret (.bool true))/\OldK s₁.heap s'.heap/\s'.os=s₁.os/\AllBare s'.gens) s₁:=by
  intro H hO hS hok hA hK;have base_of:∀ {b:Addr} {o:Obj},s₁.heap.get? b=some o->H b=none->(hidT s₁.heap H).get? b=some o:=λe n=>Dp e n;have noA:∀ {b:Addr} {o:Obj} {es:Array DictEntry} {ep:Nat},s₁.heap.get? b=some o->o.data=.dict es ep->H b=none:=λ{b o es ep} e d=>by
   cases q:H b with
   | none=>rfl
   | some u =>
    have e':b=a:=hA b (by rw[q];simp);subst e';rw[ha] at e;cases e;have d':Data.seq vs.toArray _=Data.dict es ep:=d
    cases d'
  have noM:∀ {b:Addr} {o:Obj},s₁.heap.get? b=some o->o.cls=.type "module"->H b=none:=λ{b o} e d=>by
   cases q:H b with
   | none=>rfl
   | some u =>
    have e':b=a:=hA b (by rw[q];simp);subst e';rw[ha] at e
    cases e;injection d with z
    exact absurd z J7
  have nsK:∀ {b:Addr} {m:TB},s₁.heap.Ns b m->(hidT s₁.heap H).Ns b m:=λ{b m} ⟨o,es,ep,e,d,r⟩=>⟨o,es,ep,base_of e (noA e d),d,r⟩;have hKb:K.In (hidT s₁.heap H):=λb o e=>base_of (KX b o e) (by
   cases q:H b with
   | none=>rfl
   | some u =>
    have e':b=a:=hA b (by rw[q];simp);subst e';rw[hK (by rw[q];simp)] at e;cases e)
  have hM:Mod K mg (hidT s₁.heap H):=⟨hKb,nsK hns,⟨mb,nsK hb,hbb⟩,let ⟨mc,h1,h2⟩:=hlim;⟨mc,nsK h1,h2⟩,⟨let ⟨mc,a1,a2⟩:=hsee.statics;⟨mc,nsK a1,a2⟩,let ⟨mc,a1,a2⟩:=hsee.mods;⟨mc,nsK a1,a2⟩,let ⟨mc,a1,a2⟩:=hsee.imp;⟨mc,nsK a1,a2⟩,let ⟨mg',bm,ob,a1,a2,a3,a4,a5⟩:=hsee.main;⟨mg',bm,ob,nsK a1,a2,base_of a3 (noM a3 a4),a4,a5⟩⟩⟩;have e0:Env0 P w K mg (hidT s₁.heap H) callerA [] s₁ H:=⟨rfl,hM,λb o e=>Bp e,Nat.le_of_eq (Gb _ _),trivial,λb hb=>absurd (show b∈([]:TJ) from hb) J8,hok,.of_eq hg,.inl rfl,htree⟩;refine qI ((F _ hKb (nsK hns)).run callerA [] s₁ H ⟨[.ref a],[]⟩ [.ref a] [.ref a] _ _ hr e0 (hbind s₁ (.ref a)) (.cons rfl .nil) (hsp H hO hS)) λr s' h=>?_
  cases r with
  | error e=>exact (hCX H e s' h).elim
  | ok fl =>
   cases fl with
   | next=>exact False.elim h
   | brk=>exact False.elim h
   | cont=>exact False.elim h
   | ret u =>
    obtain⟨v,H',os,bare,un,hok',r',q⟩:=h;have q':v=.bl true:=q;subst q';obtain rfl:u=Value.bool true:=r';refine⟨rfl,OldK.of_keep λb o e=>?_,os,bare⟩
    cases q:H b with
    | none=>exact un.keep b o e q (by intro z;exact absurd (show b∈([]:TJ) from z) J8) J8
    | some u =>
     rcases hO b with z | ⟨ob,xs,z⟩
     ·rw[q] at z;cases z
     have z2:=un.frzs b ob _ z;obtain⟨e1,_⟩:=hok b _ z;obtain⟨e2,_⟩:=hok' b _ z2;rw[e] at e1;cases e1;exact e2
 cases hk:K.lookup a with
 | some o =>
  have e:=KX a o hk;rw[ha] at e
  cases e;refine core (λ_=>none) (λ_=>.inl rfl) (.inr ⟨_,vs.toArray,_,hk,rfl,rfl,rfl,by rw[YY,lenV];exact hl,by simpa using rv⟩) (λb u z=>by have z':(none:Option HO)=some u:=z;cases z') (λb z=>absurd rfl z) λz=>absurd rfl z
 | none =>
  refine core (λb=>if b=a then some (.frz { cls:=.type "list",data:=.seq vs.toArray } (.lst (ns.map V.int))) else none) (λb=>?_) (.inl (.inr ⟨{ cls:=.type "list",data:=.seq vs.toArray },JD rfl⟩)) (λb u z=>?_) (λb z=>?_) λ_=>hk
  ·by_cases hb:b=a
   ·exact .inr ⟨_,_,JD hb⟩
   exact .inl (XQ hb)
  ·by_cases hb:b=a
   ·have z':=(JD hb).symm.trans z
    cases z';subst hb;exact⟨ha,by rw[YB];exact hl,vs,_,rv,ha⟩
   have z':=(XQ hb).symm.trans z
   cases z'
  by_cases hb:b=a
  ·exact hb
  exact absurd (XQ hb) z
abbrev KOf {K:TQ}{h:Heap}(_:K.In h):W.Frag:=K
theorem Co {l:W.OpenLaw}{n k:Nat}{q:TR}{loose:TF}{XP:(Str->Option Value)->Heap->Prop}{YP:World->Heap->Prop}{d:DefRec}{K:Params->W.Frag}{CX:World->CXT}{sp:World->Sp}{x:Str}
  (hn:l.most=some n) (hn2:n<=sizeLine) (hq:PyProof.Rows.importsNone q=true) (htr:l.prog.given.tree=none) (hdf:d.params.defaults=[]) {sr:Bool} (hr:Room k callerA sr)
  (hY:∀ (w:World) (h:Heap),YP w h->(K w.params).In h)
  (F:∀ (w:World) (mg:TB) (fa:Addr) (h:Heap),(K w.params).In h->h.Ns mainGlobals mg->mg d.name=some (.ref fa) →
   ∃ fd:FuncData,(∀ (s:Shared) (u:Value),BindsTo s fd ⟨[u],[]⟩ [(x,u)]) ∧
    ∀ base:Heap,(K w.params).In base->base.Ns mainGlobals mg->FnOk l.prog w (K w.params) mg base (CX w) k fa fd [x] (sp w) sr)
  (hsp:∀ (w:World) (H:Hp) (a:Addr) (ns:TU),ns.length<=n->Only H->SqL (K w.params) H a (ns.map V.int)->sp w [.ref a] H (λv _=>v=.bl true) λ_ _ _=>False)
  (hCX:∀ (w:World) (H:Hp) (s:Shared) (e:Value) (s':Shared),CX w [] H s (λ_ _ _=>False) e s'->False) :
  W.WalkO q loose XP YP l.row.toRowW d [] (λf vs=>PySem.call f vs):=by
 refine Att.attach_call hn hdf λw s₀ s₁ mg mb fa o pm cd doc a vs ns G Y ho hd hcd hmg hobj hints hlen hg=>?_;have KX:=hY w _ Y;obtain⟨fd,hb,hF⟩:=F w mg fa _ KX G.T.g hmg;exact Dc KX G.T.g G.T.b G.T.builtins G.T.nolimit (G.T.seer hq) htr hg hobj hints (XV hlen hn2) hr hF hb (λH hO hS=>hsp w H a ns hlen hO hS) λH e s'=>hCX w H s₁ e s'
theorem Gy {l:W.OpenLaw}{n k:Nat}{q:TR}{loose:TF}{XP:(Str->Option Value)->Heap->Prop}{YP:World->Heap->Prop}{d:DefRec}{K:Params->W.Frag}{CX:CXT}{sp:W.Frag->Sp}{x:Str}
  (hn:l.most=some n) (hn2:n<=sizeLine) (hq:PyProof.Rows.importsNone q=true) (htr:l.prog.given.tree=none) (hdf:d.params.defaults=[]) {sr:Bool} (hr:Room k callerA sr)
  (hY:∀ (w:World) (h:Heap),YP w h->(K w.params).In h)
  (F:∀ (w:World) (mg:TB) (fa:Addr) (h:Heap),(K w.params).In h->h.Ns mainGlobals mg->mg d.name=some (.ref fa) →
   ∃ fd:FuncData,(∀ (s:Shared) (u:Value),BindsTo s fd ⟨[u],[]⟩ [(x,u)]) ∧
    ∀ base:Heap,(K w.params).In base->base.Ns mainGlobals mg->FnOk l.prog w (K w.params) mg base CX k fa fd [x] (sp (K w.params)) sr)
  (hsp:∀ (K:TQ) (H:Hp) (a:Addr) (ns:TU),ns.length<=n->Only H->SqL K H a (ns.map V.int)->sp K [.ref a] H (λv _=>v=.bl true) λ_ _ _=>False)
  (hCX:∀ (H:Hp) (s:Shared) (e:Value) (s':Shared),CX [] H s (λ_ _ _=>False) e s'->False) :
  W.WalkO q loose XP YP l.row.toRowW d [] (λf vs=>PySem.call f vs) :=
 Co (K:=K) (CX:=λ_=>CX) (sp:=λw=>sp (K w.params)) hn hn2 hq htr hdf hr hY F (λw H a ns h1 h2 h3=>hsp (K w.params) H a ns h1 h2 h3) λ_ H s e s'=>hCX H s e s'
def inClass (s:Stmt)(j:Nat):Stmt:=match s with
 | .ClassDef _ _ _ body _ _ _ _ _ _ _=>body.getD j (.Pass ⟨0,0,0,0⟩)
 | _=>.Pass ⟨0,0,0,0⟩
def defArgs (s:Stmt):Arguments:=match s with
 | .FunctionDef _ a _ _ _ _ _ _ _ _=>a
 | _=>{ posonlyargs:=[],args:=[],vararg:=none,kwonlyargs:=[],kw_defaults:=[],kwarg:=none,defaults:=[] }
def defBody (s:Stmt):List Stmt:=match s with
 | .FunctionDef _ _ b _ _ _ _ _ _ _=>b
 | _=>[]
def defScope (s:Stmt):Scope:=match s with
 | .FunctionDef _ _ _ _ _ _ sc _ _ _=>sc
 | _=>{ kind:=.function,names:=[],isGenerator:=false,isCoroutine:=false }
abbrev CX0:CXT:=λ_ _ _ _ _ _=>False
abbrev E0:XK:=λ_ _ _=>False
theorem Z0p:Passes CX0 X E0:=λ_ _ _ _ _ _ _ h=>h.elim
structure Fun (K:TQ)(x qual:Str)(st:Stmt)(f:Addr)(fd:FuncData):Prop where
 ex:∃ (oc:Value) (od:TN) (kV doc pm:Value) (an:TN) (cdv ct:Value) (osl:Array (Option Value)),
  fd=W.fnOf x qual (defArgs st) (defBody st) (defScope st) .none kV doc pm an cdv ct/\K.lookup f=some ⟨oc,od,.func fd,osl⟩/\W.codeIn K cdv qual=true
 kp:W.keepIn K (.ref f)=true
section
variable {P:TR}{w:World}{K:TQ}{mg:TB}{base:Heap}
theorem Fun.ok {x:Str}{k:Nat}(F:Fun K x qual st f fd)(S:FnScope N ps (defScope st))(len:∀ vs H Q E,sp vs H Q E->vs.length=ps.length)
  (hbody:∀ (cdv:Value) (A:Around) (outer:TM) (s:Shared) (H:Hp) (vs:TV) (Q:VK) (E:XK),Room k (A.deeper (envOfC qual (defScope st) s.heap.objs.size f cdv)) sr->sp vs H Q E →
   ∃ t,PSs (cxOf CX0 P w K mg base N qual (defScope st) f cdv A outer s H E).nox (defBody st) t/\t { nx:=λ_ H'=>Q .non H',rt:=Q } (start N vs) H):FnOk P w K mg base CX0 (k+1) f fd ps sp sr:=by
 obtain⟨oc,od,kV,doc,pm,an,cdv,ct,osl,rfl,lk,hcd⟩:=F.ex;refine Z0w lk hcd S len λA outer s H vs Q E hr hsp=>?_;obtain⟨t,h,q⟩:=hbody cdv A outer s H vs Q E hr hsp;exact⟨t,h.nox,q⟩
theorem Fun.binds {x:Str}(F:Fun K x qual st f fd)
  (h:∀ (kV doc pm:Value) (an:TN) (cdv ct:Value) (us:TH),us.length=ps.length->bindArgs (W.fnOf x qual (defArgs st) (defBody st) (defScope st) .none kV doc pm an cdv ct) ⟨us,[]⟩=pure (ps.zip us)):Binds K fd ps []:=by
 obtain⟨oc,od,kV,doc,pm,an,cdv,ct,osl,rfl,lk,hcd⟩:=F.ex;exact .all (h kV doc pm an cdv ct)
theorem Qx {x:Str}{osl:Array (Option Value)}{kV doc cdv:Value}(l:K.lookup f=some ⟨oc,od,.func (W.fnOf x qual (defArgs st) (defBody st) (defScope st) .none kV doc pm an cdv ct),osl⟩)
  (c:W.codeIn K cdv qual=true) (k:W.keepIn K (.ref f)=true):Fun K x qual st f (W.fnOf x qual (defArgs st) (defBody st) (defScope st) .none kV doc pm an cdv ct):=⟨⟨oc,od,kV,doc,pm,an,cdv,ct,osl,rfl,l,c⟩,k⟩
end
theorem Z2s {k:Nat}(hr:Room k A sr):A.units+1<cLine:=JK (jq (by decide:1<=64) _) hr.units
section
variable {X:Cx}
theorem pv (i:Nat){x:Str}{pos:Pos}(hN:X.N[i]?=some x:=by rfl)(hv:Vis X.env.scope x:=by first | exact Or.inl rfl | exact Or.inr (Or.inl rfl) | exact Or.inr (Or.inr rfl))(hd:(x == ("__debug__":Str))=false:=by decide)
  (hcd:(x == ("__classdict__":Str))=false:=by decide):PE X (.Name x pos) (tVar i):=Z1f hN hv hd hcd
end
theorem Yb {A B:Prop}(h:B):if false=true then A else B:=by
 rw[XQ XB];exact h
theorem Xq {A B:Prop}(h:A):if true=true then A else B:=by
 rw[JD rfl];exact h
theorem Qs {c A B:Prop}[Decidable c](h1:c->A)(h2:¬ c->B):if c then A else B:=by
 by_cases h:c
 ·rw[JD h];exact h1 h
 rw[XQ h];exact h2 h
def Same (H H':Hp):Prop:=∀ b o,H b=some o->H' b=some o
theorem Same.refl (H:Hp):Same H H:=λ_ _ h=>h
theorem Same.trans (a:Same H H1)(b:Same H1 H2):Same H H2:=λc o h=>b c o (a c o h)
end L2
namespace Sb
def Bd (n:Nat)(x:Int):Prop:=x.natAbs<2 ^ n
def gI (p q:Int):Int:=(Int.gcd p q:Int)
def sg (p q:Int):Int:=if q<0 then -(gI p q) else gI p q
def nT (p q:Int):Int:=p.fdiv (sg p q)
def nB (p q:Int):Int:=q.fdiv (sg p q)
theorem Lk {p q:Int}(h:q≠0):0<gI p q:=by
 have:=Int.gcd_pos_of_ne_zero_right p h;unfold gI;omega
theorem Rb {p q:Int}(h:q≠0):sg p q≠0:=by
 have:=Lk (p:=p) h;unfold sg;split <;> omega
theorem Mk (p q:Int):sg p q ∣ p:=by
 unfold sg gI;split
 ·exact Int.neg_dvd.mpr (Int.gcd_dvd_left ..)
 exact Int.gcd_dvd_left ..
theorem Ml (p q:Int):sg p q ∣ q:=by
 unfold sg gI;split
 ·exact Int.neg_dvd.mpr (Int.gcd_dvd_right ..)
 exact Int.gcd_dvd_right ..
theorem Sg {a b:Int}(h:b ∣ a):a.fdiv b*b=a:=by
 rw[Int.fdiv_eq_ediv_of_dvd h];exact Int.ediv_mul_cancel h
theorem L9 (p q:Int):nT p q*sg p q=p:=Sg (Mk p q)
theorem Tu (p q:Int):nB p q*sg p q=q:=Sg (Ml p q)
theorem Qr {p q:Int}(h:q≠0):0<nB p q:=by
 have e:=Tu p q;have g:=Lk (p:=p) h;by_cases hq:q<0
 ·have s:sg p q=-(gI p q):=by unfold sg;rw[JD hq]
  rw[s] at e;rcases Int.lt_trichotomy 0 (nB p q) with k | k | k
  ·exact k
  ·rw[<-k] at e;simp at e;omega
  have:=Int.mul_pos_of_neg_of_neg k (show -(gI p q)<0 by omega);omega
 have s:sg p q=gI p q:=by unfold sg;rw[XQ hq]
 rw[s] at e;rcases Int.lt_trichotomy 0 (nB p q) with k | k | k
 ·exact k
 ·rw[<-k] at e;simp at e;omega
 have:=Int.mul_neg_of_neg_of_pos k g;omega
theorem Bs (p q:Int):nT p q*q=p*nB p q:=by
 have h1:=L9 p q;have h2:=Tu p q
 calc nT p q*q=nT p q*(nB p q*sg p q):=by rw[h2]
  _=(nT p q*sg p q)*nB p q:=by rw[Y0D (nB p q),Int.mul_assoc]
  _=p*nB p q:=by rw[h1]
theorem D8 {p q:Int}(h:q≠0):Int.gcd (nT p q) (nB p q)=1:=by
 have g:=Lk (p:=p) h;have e1:=L9 p q;have e2:=Tu p q;have e:Int.gcd p q=Int.gcd (nT p q) (nB p q)*(sg p q).natAbs:=by
  have z:=Int.gcd_mul_right (nT p q) (sg p q) (nB p q);rw[e1,e2] at z;exact z
 have s:(sg p q).natAbs=Int.gcd p q:=by
  unfold sg gI;split <;> simp
 rw[s] at e;have gp:0<Int.gcd p q:=by unfold gI at g;omega
 have e':1*Int.gcd p q=Int.gcd (nT p q) (nB p q)*Int.gcd p q:=U
 exact (Nat.eq_of_mul_eq_mul_right gp e').symm
theorem Fb {p q:Int}(h:q≠0):1<=(sg p q).natAbs:=by
 have:=Rb (p:=p) h;omega
theorem Ua {a b c:Int}(h:a*b=c)(hb:1<=b.natAbs):a.natAbs<=c.natAbs:=by
 rw[<-h,Int.natAbs_mul];exact Nat.le_mul_of_pos_right _ hb
theorem Z0s {p q:Int}(h:q≠0):(nT p q).natAbs<=p.natAbs:=Ua (L9 p q) (Fb h)
theorem Z0t {p q:Int}(h:q≠0):(nB p q).natAbs<=q.natAbs:=Ua (Tu p q) (Fb h)
theorem Z2c {p q:Int}(h:q≠0):(sg p q).natAbs<=q.natAbs:=by
 have e:=Tu p q;rw[Y0D] at e;have:=Qr (p:=p) h;exact Ua e U
theorem gcd_step {a b:Int}:Int.gcd b (a % b)=Int.gcd a b:=by
 rw[jy b,Int.emod_def];rw[Y0a]
theorem Gf (a b:Int):Int.gcd b (a.fmod b)=Int.gcd a b:=by
 rw[jy b,Int.fmod_def];rw[Y0a]
theorem Dr (a:Int){b:Int}(h:b≠0):(a.fmod b).natAbs<b.natAbs:=by
 rcases Int.lt_or_gt_of_ne h with k | k
 ·have h0:=Int.neg_fmod_neg a b;have h1:=Y0E (-a) (show 0 < -b by omega);have h2:=Y1h (-a) (show 0 < -b by omega);omega
 have h1:=Y0E a k;have h2:=Y1h a k;omega
theorem Z23 (a b:Int)(ha:0<=a)(h:b=0):a=(Int.gcd a b:Int):=by
 subst h;simp;omega
end Sb
namespace Sb
open PySem PySem.Spec PyProof.Rows L2
theorem La {x y:Int}(h1:-(2 ^ 64)<x)(h2:x<2 ^ 64):IntMulOk x y:=IntMulOk.of_left (intBits_le_64 h1 h2)
theorem Jt {x y:Int}(h1:-(2 ^ 64)<y)(h2:y<2 ^ 64):IntMulOk x y:=IntMulOk.of_right (intBits_le_64 h1 h2)
section
variable {X:Cx}
theorem Xl:OpR X (binaryOp .Mult) (rI IntMulOk λi j=>.int (i*j)):=opI λ_ _ _ _ _ _ _ hc q=>mul_int q hc
def DivOk (_ j:Int):Prop:=j≠0/\j.natAbs.log2<450000
theorem V5:OpR X (binaryOp .FloorDiv) (rI DivOk λi j=>.int (i.fdiv j)):=by
 intro pins s σ H x y v u Q I rx ry h;obtain⟨i,j,rfl,rfl,hc,q⟩:=h;obtain⟨t,rfl⟩:=rx;obtain⟨t',rfl⟩:=ry;exact floordiv_int hc.1 ⟨.int (i.fdiv j),H,I.tok _,⟨_,rfl⟩,q⟩ (.inr I.pylong)
inductive rP0 (K:TQ) (x:V) (y:V) (H:Hp) (Q:VK):Prop
 | mk (p u v:_) (zz0:x=.ref p) (zz1:y=.int 0) (zz2:SqT K H p [u,v]) (zz3:Q u H)
inductive rP1 (K:TQ) (x:V) (y:V) (H:Hp) (Q:VK):Prop
 | mk (p u v:_) (zz0:x=.ref p) (zz1:y=.int 1) (zz2:SqT K H p [u,v]) (zz3:Q v H)
inductive rL0 (K:TQ) (x:V) (y:V) (H:Hp) (Q:VK):Prop
 | mk (p u v:_) (zz0:x=.ref p) (zz1:y=.int 0) (zz2:SqL K H p [u,v]) (zz3:Q u H)
inductive rL1 (K:TQ) (x:V) (y:V) (H:Hp) (Q:VK):Prop
 | mk (p u v:_) (zz0:x=.ref p) (zz1:y=.int 1) (zz2:SqL K H p [u,v]) (zz3:Q v H)
theorem at0 {α:Type}(x:α)(xs:List α):atI (x::xs) 0=some x:=Yh (j:=0) rfl
theorem at1 {α:Type}(x y:α)(xs:List α):atI (x::y::xs) 1=some y:=Yh (j:=1) rfl
theorem Di:IxR X (rP0 X.K):=λvl sl pins s σ H x y v u Q I rx ry ⟨p,a,b,e1,e2,h,q⟩ hs=>Ye vl sl pins s σ H x y v u Q I rx ry ⟨p,_,_,_,e1,e2,h,at0 _ _,q⟩ hs
theorem Dh:IxR X (rP1 X.K):=λvl sl pins s σ H x y v u Q I rx ry ⟨p,a,b,e1,e2,h,q⟩ hs=>Ye vl sl pins s σ H x y v u Q I rx ry ⟨p,_,_,_,e1,e2,h,at1 _ _ _,q⟩ hs
theorem Ke:IxR X (rL0 X.K):=λvl sl pins s σ H x y v u Q I rx ry ⟨p,a,b,e1,e2,h,q⟩ hs=>Y5 vl sl pins s σ H x y v u Q I rx ry ⟨p,_,_,_,e1,e2,h,at0 _ _,q⟩ hs
theorem Kd:IxR X (rL1 X.K):=λvl sl pins s σ H x y v u Q I rx ry ⟨p,a,b,e1,e2,h,q⟩ hs=>Y5 vl sl pins s σ H x y v u Q I rx ry ⟨p,_,_,_,e1,e2,h,at1 _ _ _,q⟩ hs
theorem N4 {x:Str}{T:String}{pos:Pos}(hm:X.mg x=none)(hv:bootBuiltins x=some (.type T))(hg:Gl X x:=by rfl)(hn:x≠"__name__":=by decide)(hd:(x == ("__debug__":Str))=false:=by decide):PE X (.Name x pos) (tC (.ty T)) :=
 Bf hg hm hv rfl hn hd
theorem W4:CallR X (.builtin "isinstance") (λxs H Q=>∃ x T t b,xs=[x,.ty T]/\TyOf X.K H x t/\W.kitOne X.K t (.type T)=some b/\Q (.bl b) H):=by
 intro pins s σ H xs us Q I r h;obtain⟨x,T,t,b,rfl,ty,k,q⟩:=h;obtain⟨u,w',rfl,rx,ry⟩:=Gz r
 cases (show w'=Value.type T from ry);exact G9 I rx ty k λtk=>⟨.bl b,H,I.tok tk,rfl,q⟩
end
theorem Nl {T:String}:W.kitOne K (.type T) (.type T)=some true:=by
 unfold W.kitOne;rw[JD J8]
theorem Vx:W.kitOne K (.type "int") (.type "bool")=some false:=by
 show (if (Value.type "int" == Value.type "bool")=true then some true else (if W.kitMeta "bool"=true then (fastBuiltinMro "int").map (·.contains (Value.type "bool")) else none))=some false
 decide +kernel
def Has (P:TR)(w:World)(K:TQ)(mg:TB)(base:Heap)(k:Nat)(x:Str)(ps:TF)(sp:Sp)(sr:Bool:=false):Prop :=
 ∃ (f:Addr) (fd:FuncData),FnOk P w K mg base CX0 k f fd ps sp sr/\mg x=some (.ref f)/\W.keepIn K (.ref f)=true/\Binds K fd ps []
def Def (K:TQ)(mg:TB)(x:Str)(st:Stmt)(ps:TF):Prop :=
 ∃ (f:Addr) (fd:FuncData),Fun K x x st f fd/\mg x=some (.ref f)/\Binds K fd ps []
theorem Def.has {P:TR}{w:World}{base:Heap}{k:Nat}{x:Str}(D:Def K mg x st ps)
  (h:∀ (f:Addr) (fd:FuncData),Fun K x x st f fd->FnOk P w K mg base CX0 k f fd ps sp sr):Has P w K mg base k x ps sp sr:=by
 obtain⟨f,fd,F,hm,b⟩:=D;exact⟨f,fd,h f fd F,hm,F.kp,b⟩
section
variable {X:Cx}{k:Nat}{x:Str}{ps:TF}{sp:Sp}{e:Expr}{es:TK}{t:TA}{p pos:Pos}
theorem Z1g (h:Has X.prog X.w X.K X.mg X.base k x ps sp)(hr:Room k X.A sr)(hg:Gl X x)(ha:PA X (e::es) t)(hdb:(x == ("__debug__":Str))=false:=by decide)
  (he:starEach (e::es) X.env=(false,eval e X.env)::starEach es X.env:=by rfl) (hpl:(backTo pos (starEach es X.env)).any (·.1)=false:=by rfl) (hc:X.calm=true:=by rfl):PE X (.Call (.Name x p) (e::es) [] pos) (tCall sp [] E0 t):=by
 obtain⟨f,fd,F,hm,hk,hb⟩:=h;exact K5 F hr.loose hg hm hk hb .nil Z0p ha hdb he hpl hc
theorem Yk (h:Has X.prog X.w X.K X.mg X.base k x ps sp true)(hr:Room k X.A true)(hg:Gl X x)(ha:PA X (e::es) t)(hdb:(x == ("__debug__":Str))=false:=by decide)
  (he:starEach (e::es) X.env=(false,eval e X.env)::starEach es X.env:=by rfl) (hpl:(backTo pos (starEach es X.env)).any (·.1)=false:=by rfl) (hc:X.calm=true:=by rfl):PE X (.Call (.Name x p) (e::es) [] pos) (tCall sp [] E0 t):=by
 obtain⟨f,fd,F,hm,hk,hb⟩:=h;exact K5 F hr hg hm hk hb .nil Z0p ha hdb he hpl hc
theorem Zo {j:Nat}(h:Has X.prog X.w X.K X.mg X.base k x ps sp)(hr:Room j X.A sr)(ha:PA X (e::es) t)(hg:Gl X x:=by rfl)(hj:k<=j:=by decide)(hdb:(x == ("__debug__":Str))=false:=by decide)
  (he:starEach (e::es) X.env=(false,eval e X.env)::starEach es X.env:=by rfl) (hpl:(backTo pos (starEach es X.env)).any (·.1)=false:=by rfl) (hc:X.calm=true:=by rfl):PE X (.Call (.Name x p) (e::es) [] pos) (tCall sp [] E0 t):=Z1g h (hr.mono hj) hg ha hdb he hpl hc
end
section
variable {X:Cx}{st:Stmt}{t:TS}
inductive tJ (t:TS) (D:Ends) (σ:L2.St) (H:Hp):Prop
 | mk (J:L2.St->Hp->Prop) (zz0:t { D with nx:=J } σ H) (zz1:∀ σ' H',J σ' H'->D.nx σ' H')
theorem Zn (h:PS X st t):PS X st (tJ t):=by
 intro pins s σ H D I ⟨J,a,b⟩;refine thn (h pins s σ H _ I a) λf s' q=>?_
 cases f with
 | next=>obtain⟨σ',H',I',q⟩:=q;exact⟨σ',H',I',b _ _ q⟩
 | brk=>exact q
 | cont=>exact q
 | ret v=>exact q
end
def SameX (a:Addr)(H H':Hp):Prop:=∀ b o,H b=some o->b≠a->H' b=some o
theorem SameX.trans {a:Addr}(x:SameX a H H1)(y:SameX a H1 H2):SameX a H H2:=λb o h n=>y b o (x b o h n) n
theorem SameX.of {a:Addr}(x:Same H H'):SameX a H H':=λb o h _=>x b o h
theorem SameX.upd (a:Addr)(H:Hp)(o:HO):SameX a H (upd H a o):=λb u h n=>by rw[Zj n];exact h
theorem Same.new {a:Addr}{o:HO}(h:H a=none):Same H (upd H a o):=λb u e=>by rw[Zj (Zd e h)];exact e
theorem Z0n {a:Addr}(e:Same H H')(h:SqT K H a xs):SqT K H' a xs:=by
 rcases h with (h | ⟨o,h⟩) | h
 ·exact .inl (.inl (e _ _ h))
 ·exact .inl (.inr ⟨o,e _ _ h⟩)
 exact .inr h
def BagAt (H:Hp)(a:Addr)(n:Nat):Prop:=∃ x y:Int,H a=some (.lst [.int x,.int y])/\0<=y/\y<=n
theorem BagAt.mono {a:Addr}{m n:Nat}(h:BagAt H a m)(k:m<=n):BagAt H a n:=by
 obtain⟨x,y,e,h1,h2⟩:=h;exact⟨x,y,e,h1,U⟩
theorem BagAt.same {a:Addr}{n:Nat}(h:BagAt H a n)(x:Same H H'):BagAt H' a n:=by
 obtain⟨p,q,e,r⟩:=h;exact⟨p,q,x _ _ e,r⟩
theorem BagAt.upd {H:Hp}{a l:Addr}{o:HO}{n:Nat}(h:BagAt H a n)(k:a≠l):BagAt (L2.upd H l o) a n:=by
 obtain⟨p,q,e,r⟩:=h;exact⟨p,q,by rw[Zj k];exact e,r⟩
theorem BagAt.lst {H:Hp}{a:Addr}{n:Nat}(h:BagAt H a n):∃ ys,H a=some (.lst ys):=by
 obtain⟨x,y,e,_⟩:=h;exact⟨_,e⟩
theorem Zt {x:Str}{sl:Array (Option Value)}{kV dc cd:Value}(X:K.In h)(G:h.Ns mainGlobals mg)
  (a:W.nsIn K mainGlobals x=some (some (.ref f)):=by k_is) (l:K.lookup f=some ⟨oc,od,.func (W.fnOf x x (defArgs st) (defBody st) (defScope st) .none kV dc pm an cd ct),sl⟩:=by k_is) (c:W.codeIn K cd x=true:=by k_is) (k:W.keepIn K (.ref f)=true:=by k_is)
  (b:∀ (kV doc pm:Value) (an:TN) (cdv ct:Value) (us:TH),us.length=ps.length->bindArgs (W.fnOf x x (defArgs st) (defBody st) (defScope st) .none kV doc pm an cdv ct) ⟨us,[]⟩=pure (ps.zip us):=by intro _ _ _ _ _ _ us h;(iterate 9 (try (rcases us with _|⟨_,us⟩;·cases h)));rcases us with _|⟨_,us⟩<;>first|rfl|cases h):Def K mg x st ps :=
 ⟨f,_,Qx l c k,zt X G a,(Qx l c k).binds b⟩
theorem Z1u {P:TR}{w:World}{x:Str}{fa:Addr}{sl:Array (Option Value)}{kV dc cd:Value}{n:Nat}(X:K.In h)(G:h.Ns mainGlobals mg)(hfa:mg "law"=some (.ref fa))
  (a:W.nsIn K mainGlobals "law"=some (some (.ref f))) (l:K.lookup f=some ⟨oc,od,.func (W.fnOf "law" "law" (defArgs st) (defBody st) (defScope st) .none kV dc pm an cd ct),sl⟩) (c:W.codeIn K cd "law"=true) (k:W.keepIn K (.ref f)=true)
  (b:∀ (s:Shared) (v:Value),BindsTo s (W.fnOf "law" "law" (defArgs st) (defBody st) (defScope st) .none kV dc pm an cd ct) ⟨[v],[]⟩ [(x,v)])
  (ok:∀ (fd:FuncData) (base:Heap),Fun K "law" "law" st fa fd->FnOk P w K mg base CX0 n fa fd [x] sp sr) :
  ∃ fd:FuncData,(∀ (s:Shared) (v:Value),BindsTo s fd ⟨[v],[]⟩ [(x,v)])/\∀ base:Heap,K.In base->base.Ns mainGlobals mg->FnOk P w K mg base CX0 n fa fd [x] sp sr:=by
 have e:=hfa.symm.trans (zt X G a)
 cases e;exact⟨_,b,λbase _ _=>ok _ base (Qx l c k)⟩
theorem Vk (env:Env):∀ (ns:List (Str × NameKind)) (cs:List (Str × Addr)),(∀ y∈ns,y.2=.free->∃ c,env.cells.lookup y.1=some c)->(∀ y c,cs.lookup y=some c->env.cells.lookup y=some c) →
  ∃ cl,(forIn ns cs (λ(x:Str × NameKind) (r:List (Str × Addr))=>(if (x.2 == .free)=true then do let a <-cellOf env x.1;pure (ForInStep.yield ((x.1,a)::r)) else pure (ForInStep.yield r):Sem (ForInStep (List (Str × Addr))))))=pure cl ∧
   (∀ y c,cl.lookup y=some c->env.cells.lookup y=some c)/\(∀ y c,cs.lookup y=some c->∃ c',cl.lookup y=some c')/\∀ y∈ns,y.2=.free->∃ c,cl.lookup y.1=some c
 | [],cs,_,hs=>⟨cs,J8,hs,λy c e=>⟨c,e⟩,λy hy=>nomatch hy⟩
 | (n,k)::r,cs,hf,hs=>by
  have hr:∀ y∈r,y.2=.free->∃ c,env.cells.lookup y.1=some c:=λy hy=>hf y (YG _ hy);by_cases hk:k=.free
  ·subst hk;obtain⟨c,hc⟩:=hf (n,.free) YI rfl;have hc':env.cells.lookup n=some c:=hc;have hs':∀ y d,((n,c)::cs).lookup y=some d->env.cells.lookup y=some d:=λy d e=>by
    by_cases hy:y=n
    ·subst hy;simp only [JH,ql] at e
     cases e;exact hc'
    have hb:(y == n)=false:=JO.mpr hy;simp only [JH,hb] at e;exact hs y d e
   obtain⟨cl,h1,h2,h3,h4⟩:=Vk env r ((n,c)::cs) hr hs';have up:∃ c',cl.lookup n=some c':=h3 n c (by simp[JH]);refine⟨cl,?_,h2,λy d e=>?_,λy hy hyf=>?_⟩
   ·have e:cellOf env n=pure c:=by unfold cellOf;rw[hc']
    simp only [qd,ql,zP,e];exact h1
   ·by_cases hy:y=n
    ·subst hy;exact up
    have hb:(y == n)=false:=JO.mpr hy;exact h3 y d (by simp only [JH,hb];exact e)
   rcases YC.mp hy with z | z
   ·subst z;exact up
   exact h4 y z hyf
  obtain⟨cl,h1,h2,h3,h4⟩:=Vk env r cs hr hs;refine⟨cl,?_,h2,h3,λy hy hyf=>?_⟩
  ·have hb:(k == NameKind.free)=false:=JO.mpr hk;simp only [qd,hb,GE,zi];exact h1
  rcases YC.mp hy with z | z
  ·subst z;exact absurd hyf hk
  exact h4 y z hyf
theorem Vd (hf:∀ y∈scope.names,y.2=.free->∃ c,env.cells.lookup y.1=some c) :
  ∃ cl,closureFor scope env=pure cl/\(∀ y c,cl.lookup y=some c->env.cells.lookup y=some c)/\∀ y∈scope.names,y.2=.free->∃ c,cl.lookup y.1=some c:=by
 obtain⟨cl,h1,h2,_,h4⟩:=Vk env scope.names [] hf (λy c e=>by simp at e);refine⟨cl,?_,h2,h4⟩;have e:closureFor scope env=((forIn scope.names ([]:List (Str × Addr)) (λ(x:Str × NameKind) (r:List (Str × Addr))=>(if (x.2 == .free)=true then do let a <-cellOf env x.1;pure (ForInStep.yield ((x.1,a)::r)) else pure (ForInStep.yield r):Sem (ForInStep (List (Str × Addr)))))) >>= λr=>pure r):=by
  unfold closureFor
  congr 1
 rw[e,h1];rfl
theorem Lb {l:List (Str × NameKind)}{x:Str}{q:NameKind}(h:l.lookup x=some q):(x,q)∈l:=by
 obtain⟨a,b,e,_⟩:=List.lookup_eq_some_iff.mp h;rw[e];simp
theorem Vp {env:Env}(hf:env.scope.kind=.function):∀ {names:List (Str × NameKind)} {x:Str},names.lookup x=some .free->env.kindOf x=some .cell →
  (names.map λ(n,k)=>if (k == .free && env.scope.kind == .function && env.kindOf n == some .cell) then (n,NameKind.cell) else (n,k)).lookup x=some .cell
 | [],_,h,_=>by simp at h
 | (n,k)::r,x,h,hx=>by
  by_cases e:x=n
  ·subst e;simp only [JH,ql] at h
   cases h;simp[JH,hf,hx]
  have hb:(x == n)=false:=JO.mpr e;simp only [JH,hb] at h;have ih:=Vp hf h hx;show List.lookup x ((if (k == .free && env.scope.kind == .function && env.kindOf n == some .cell)=true then (n,NameKind.cell) else (n,k))::_)=_;by_cases c:(k == .free && env.scope.kind == .function && env.kindOf n == some .cell)=true
  ·rw[JD c];simp only [JH,hb];exact ih
  rw[XQ c];simp only [JH,hb];exact ih
theorem Wj {env:Env}:∀ {names:List (Str × NameKind)} {x:Str} {q:NameKind},(q=.cell \/ q=.free) →
  (names.map λ(n,k)=>if (k == .free && env.scope.kind == .function && env.kindOf n == some .cell) then (n,NameKind.cell) else (n,k)).lookup x=some q →
  ∃ y∈names,y.1=x/\(y.2=.free \/ y.2=.cell)
 | [],_,_,_,h=>by simp at h
 | (n,k)::r,x,q,hq,h=>by
  by_cases e:x=n
  ·subst e;refine⟨(x,k),YI,rfl,?_⟩;replace h:List.lookup x ((if (k == .free && env.scope.kind == .function && env.kindOf x == some .cell)=true then (x,NameKind.cell) else (x,k))::_)=some q:=h;by_cases c:(k == .free && env.scope.kind == .function && env.kindOf x == some .cell)=true
   ·have:k=.free:=by
     rw[JP,JP] at c;exact qP.mp c.1.1
    exact .inl this
   rw[XQ c] at h;simp only [JH,ql] at h
   cases h;rcases hq with z | z
   ·exact .inr z
   exact .inl z
  have hb:(x == n)=false:=JO.mpr e;replace h:List.lookup x ((if (k == .free && env.scope.kind == .function && env.kindOf n == some .cell)=true then (n,NameKind.cell) else (n,k))::_)=some q:=h;have h':(r.map λ(n,k)=>if (k == .free && env.scope.kind == .function && env.kindOf n == some .cell) then (n,NameKind.cell) else (n,k)).lookup x=some q:=by
   by_cases c:(k == .free && env.scope.kind == .function && env.kindOf n == some .cell)=true
   ·rw[JD c] at h;simp only [JH,hb] at h;exact h
   rw[XQ c] at h;simp only [JH,hb] at h;exact h
  obtain⟨y,hy,z⟩:=Wj hq h';exact⟨y,YG _ hy,z⟩
section
variable {prog:TR}{w:World}{A:Around}{R:Result->Shared->Prop}{s:Shared}
abbrev noX:Value->Shared->Prop:=λ_ _=>False
theorem Gm {elt tg iter:Expr}{ifs:TK}{scope:Scope}{pos:Pos}{it acc:Value}{env:Env}(J:Nat->Shared->Prop)
  (turn:∀ n s,J n s->wpAny (model prog w) A (pyNext it) (λr s1=>match r with
   | none=>R (.ok .next) s1
   | some v=>wpAny (model prog w) A (letOwnedTupleGo tg it v) (λ_ s2=>wpAny (model prog w) A (assign tg env v) (λ_ s3 =>
     wpAny (model prog w) A (forIn ifs true λc r=>if r=true then do let ok <-isTrue c env (eval c env);pure (ForInStep.yield ok) else pure (ForInStep.yield r)) (λok s4 =>
      if ok=true then wpAny (model prog w) A (eval elt env) (λx s5=>wpAny (model prog w) A (call (.builtin "list.append") [acc,x]) (λ_ s6=>∃ m,m<n/\J m s6) noX s5) noX s4
      else ∃ m,m<n/\J m s4) noX s3) noX s2) noX s1) noX s)
  (n:Nat) (h:J n s):codeAny (model prog w) A (.compLoop (.ListComp elt [⟨tg,iter,ifs,0⟩] scope pos) 0 it acc env) R s:=by
 have no:∀ {Z:TC} (a:Value) (b:Shared),noX a b->Z a b:=λ_ _ f=>f.elim;refine codeAny_loop rfl J (λn s hJ=>?_) n h;show wpAny _ A ((compTurn (.ListComp elt [⟨tg,iter,ifs,0⟩] scope pos) 0 it acc env).onRaise (λx=>do noteFrame x env;theTreesLotGoes x)) _ _ s;refine wpAny_noted ?_;rw[compTurn_list];refine YA (qM (YA (GN (turn n s hJ) (λr s1 h1=>?_) no)))
 cases r with
 | none=>exact YE h1
 | some v =>
  refine YA (GN h1 (λ_ s2 h2=>YA (GN h2 (λ_ s3 h3=>YA (GN h3 (λok s4 h4=>?_) no)) no)) no)
  cases ok with
  | false=>exact YE ⟨rfl,h4⟩
  | true=>exact YA (YA (GN h4 (λx s5 h5=>YA (GN h5 (λ_ s6 h6=>YE (YE ⟨rfl,h6⟩)) no)) no))
end
def cellsO (ox:Option Str)(n:Addr)(cl:List (Str × Addr)):List (Str × Addr):=ox.elim cl λx=>(x,n)::cl
def compCx (X:Cx)(N:TF)(scope:Scope)(ox:Option Str)(cl:List (Str × Addr))(C:Addr)(fp:TJ)(s:Shared)(H:Hp):Cx where
 prog:=X.prog
 w:=X.w
 K:=X.K
 mg:=X.mg
 base:=X.base
 A:=X.A
 N:=N
 s₀:=s
 H₀:=H
 env:=compEnvC scope (cellsO ox (C+1) cl) C X.env
 outer:=X.stack
 stack:=X.stack
 ex:=fp
 fn:=λy=>ox.elim false λx=>y == x
 calm:=true
 pn:=X.pn
 xe:=noX
def comp0 (k:Nat)(fv:List Nat)(σ:L2.St):L2.St:=List.replicate k none++fv.map λj=>σ.getD j none
def PTs (X:Cx)(ifs:TK)(t:TT):Prop :=
 ∀ (pins:TD) (s:Shared) (σ:L2.St) (H:Hp) (Q:Bool->Hp->Prop),Inv X pins σ H s->t σ H Q →
  wpAny (model X.prog X.w) X.A (forIn ifs true λc r=>if r=true then do let ok <-isTrue c X.env (eval c X.env);pure (ForInStep.yield ok) else pure (ForInStep.yield r)) (TP X pins σ Q) X.xe s
def tYes:TT:=λ_ H Q=>Q true H
theorem Yy:PTs X [] tYes:=λ_ _ _ H _ I h=>wpAny_tests_nil ⟨H,I,h⟩
theorem K2 {c:Expr}{t:TT}(h:PT X c t):PTs X [c] t:=λpins s σ H Q I q=>wpAny_tests_one (h pins s σ H Q I q)
def Weaker (σ4 σ0:L2.St):Prop:=σ0.length=σ4.length/\∀ (i:Nat) (v:V),σ0[i]?=some (some v)->σ4[i]?=some (some v)
def tComp (wi:TI)(g:TG)(tt:TT)(te:TE)(k:Nat)(fv:List Nat):TE:=λσ H Q=>wi σ H λJ H1=>∀ d,H1 d=none->∃ (n:Nat) (W:Nat->List V->Hp->Prop),n<=sizeLine/\W 0 [] (upd H1 d (.lst [])) ∧
 (∀ i ys H2,i<n->W i ys H2->H2 d=some (.lst ys)->J.go i H2/\∀ x H3,J.yld i H2 x H3->g x (comp0 k fv σ) H3 λσ4 H4=>tt σ4 H4 λb H5 =>
  if b=true then te σ4 H5 λy H6=>H6 d=some (.lst ys)/\W (i+1) (ys++[y]) (upd H6 d (.lst (ys++[y]))) else H5 d=some (.lst ys)/\W (i+1) ys H5) ∧
 (∀ ys H2,W n ys H2->H2 d=some (.lst ys)->J.stop n H2/\Q (.ref d) H2)
theorem By {P:TR}{w:World}(x:HOk P w H h)(hn:H C=none)(k:∀ b,b≠C->h'.get? b=h.get? b):HOk P w H h':=λa o e =>
 (x a o e).stay (λb u hb q=>by
  rw[k b]
  ·exact q
  rintro rfl;rcases hb with rfl | hb
  ·rw[hn] at e;cases e
  rw[hn] at hb;cases hb) (λ_ q=>q) λ_ _ q=>q
theorem Z0z {fs ex:TJ}{h1 h2:Heap}(u:Un fs ex H H' h h1)(hC:h.get? C=none)(k:∀ b,b≠C->h2.get? b=h1.get? b):Un fs ex H H' h h2:=by
 have ne:∀ b o,h.get? b=some o->b≠C:=λb o e z=>by rw[z,hC] at e;cases e
 exact⟨λb o e n hf hx=>by rw[k b (ne b o e)];exact u.keep b o e n hf hx,λb o e n hf hx=>by rw[k b (ne b o e)];exact u.slot b o e n hf hx,u.free,λb o e hx=>by rw[k b (ne b o e)];exact u.there b o e hx,u.tups,u.frzs,u.tbls⟩
theorem Z0a:∀ (names:List (Str × NameKind)) (ox:Option Str) (n:Nat) (acc:List (Str × Addr)) (h:Heap),(names.filter λy=>y.2 == .cell)=ox.toList.map (λx=>(x,.cell))->cellsFrom n names acc=cellsO ox n acc/\pushCells h names=ox.elim h λ_=>h.push { cls:=.type "cell",data:=.cell none }:=by
 intro names
 induction names with
 | nil =>
  intro ox n acc h e
  cases ox with
  | none=>exact⟨rfl,rfl⟩
  | some x=>cases e
 | cons y r ih =>
  obtain⟨m,k⟩:=y;intro ox n acc h e;by_cases hk:(k == NameKind.cell)=true
  ·rw[List.filter_cons_of_pos (a:=(m,k)) (l:=r) (p:=λy:Str × NameKind=>y.2 == .cell) hk] at e
   cases ox with
   | none=>cases e
   | some x =>
    injection e with e1 e2
    cases e1;unfold cellsFrom pushCells;rw[JD hk,JD hk];exact ih none _ _ _ e2
  rw[List.filter_cons_of_neg (a:=(m,k)) (l:=r) (p:=λy:Str × NameKind=>y.2 == .cell) hk] at e;unfold cellsFrom pushCells;rw[XQ hk,XQ hk];exact ih ox n acc h e
theorem Z2m {M:Model}{A:Around}{E:TC}{globals:Addr}{cl:List (Str × Addr)}{func:TN}{code:Value}{outer:Env}{builtins:Addr}{Q:Env->Shared->Prop}{ox:Option Str}
  (hone:(scope.names.filter λy=>y.2 == .cell)=ox.toList.map (λx=>(x,.cell)))
  (hQ:∀ h',h'.Ns s.heap.objs.size (λ_=>none)->(∀ x,ox=some x->h'.IsCell (s.heap.objs.size+1) none)->(∀ b o,s.heap.get? b=some o->h'.get? b=some o)->Q (newEnv scope s.heap.objs.size globals (cellsO ox (s.heap.objs.size+1) cl) qual func code (some outer) builtins) { s with heap:=h' }) :
  wpAny M A (newFunctionEnv scope globals cl [] qual func code (some outer) builtins) Q E s:=by
 simp only [newFunctionEnv,Option.isSome_some,zP];refine YA (wpAny_alloc ?_);refine YA (wpAny_layCells _ (λname kind cells=>by cases hkc:kind == NameKind.cell <;> simp[hkc]) _ _ _ _ ?_);have e:=GM s.heap { cls:=.type "dict",data:=.dict #[] };obtain⟨c1,c2⟩:=Z0a scope.names ox (s.heap.objs.size+1) cl (s.heap.push { cls:=.type "dict",data:=.dict #[] }) hone;rw[show ({ s with heap:=s.heap.push { cls:=.type "dict",data:=.dict #[] } }:Shared).heap.objs.size=s.heap.objs.size+1 from e,c1,c2];refine YA ?_;rw[zv];refine YE (YE (hQ _ ?_ ?_ ?_))
 ·cases ox
  ·exact Heap.Ns.new s.heap (.type "dict")
  exact (Heap.Ns.new s.heap (.type "dict")).keeps λb o e=>YD _ e
 ·rintro x rfl;rw[<-e];exact⟨_,YL _ rfl,rfl⟩
 intro b o q
 cases ox
 ·exact YD _ q
 exact YD _ (YD _ q)
theorem Nh {ox:Option Str}{n:Addr}{cl:List (Str × Addr)}{y:Str}{c:Addr}(h:(cellsO ox n cl).lookup y=some c):(ox=some y/\c=n) \/ (ox≠some y/\cl.lookup y=some c):=by
 cases ox with
 | none=>exact .inr ⟨nofun,h⟩
 | some x =>
  replace h:((x,n)::cl).lookup y=some c:=h;rw[JH] at h
  cases hb:y == x with
  | true=>rw[hb] at h;cases h;exact .inl ⟨by rw[qP.mp hb],rfl⟩
  | false=>rw[hb] at h;exact .inr ⟨λz=>JO.mp hb (XH z).symm,h⟩
theorem Z2n {ox:Option Str}{n:Addr}{cl:List (Str × Addr)}{y:Str}(h:ox≠some y):(cellsO ox n cl).lookup y=cl.lookup y:=by
 cases ox with
 | none=>rfl
 | some x =>
  show ((x,n)::cl).lookup y=_;rw[JH,JO.mpr λz=>h (by rw[z])]
section
variable {X:Cx}{pins:TD}{σ:L2.St}{H:Hp}{s:Shared}{N:TF}{scope:Scope}{cl:List (Str × Addr)}{fp:TJ}{k:Nat}{fv:List Nat}{ox:Option Str}
theorem Z09 (I:Inv X pins σ H s)(hc:X.calm=true)(hf:∀ b∈fp,FpOk X pins H b)(hl:∀ b∈fp,b<s.heap.objs.size)(hkind:scope.kind=.function)(hone:(scope.names.filter λy=>y.2 == .cell)=ox.toList.map (λx=>(x,.cell)))
  (h1:∀ y c,cl.lookup y=some c->X.env.cells.lookup y=some c) (h2:∀ y∈scope.names,y.2=.free->∃ c,cl.lookup y.1=some c):(compCx X N scope ox cl s.heap.objs.size fp s H).Ok where
 mod:=I.ok.mod
 kind:=hkind
 glob:=I.ok.glob
 blt:=I.ok.blt
 above:=YO _
 inj:=λy z c a b=>by
  have old:∀ {n:Str} {d:Addr},cl.lookup n=some d->d<s.heap.objs.size:=λ{n d} e=>by
   obtain⟨v,ic⟩:=I.cell n d (h1 n d e);exact ic.lt
  rcases Nh a with ⟨ey,ec⟩ | ⟨ny,a'⟩
  ·rcases Nh b with ⟨ez,_⟩ | ⟨nz,b'⟩
   ·exact XH (ey.symm.trans ez)
   have:=old b';rw[ec] at this;exact absurd this (j8.mpr (qJ _))
  rcases Nh b with ⟨ez,ec⟩ | ⟨nz,b'⟩
  ·have:=old a';rw[ec] at this;exact absurd this (j8.mpr (qJ _))
  exact I.ok.inj y z c (h1 y c a') (h1 z c b')
 has:=λz hz=>by
  have:∃ y∈scope.names,y.1=z/\(y.2=.free \/ y.2=.cell):=by
   rcases hz with q | q
   ·exact Wj (.inl rfl) q
   exact Wj (.inr rfl) q
  obtain⟨y,hy,e,q⟩:=this;by_cases hx:ox=some z
  ·refine⟨s.heap.objs.size+1,?_⟩;show (cellsO ox _ cl).lookup z=_;rw[hx];show ((z,_)::cl).lookup z=_;rw[JH,ql]
  rcases q with q | q
  ·obtain⟨c,hcl⟩:=h2 y hy q;exact⟨c,(Z2n hx).trans (by rw[<-e];exact hcl)⟩
  have m:y∈scope.names.filter λy=>y.2 == .cell:=qv.mpr ⟨hy,by rw[q];rfl⟩;rw[hone] at m;obtain⟨x,hx',rfl⟩:=JC.mp m;exact absurd ((Option.mem_toList.mp hx').trans (by rw[<-e])) hx
 cab:=λy c z e=>by
  rcases Nh e with ⟨_,rfl⟩ | ⟨n,_⟩
  ·exact qJ _
  cases ox with
  | none=>cases z
  | some x=>exact absurd (congrArg some (qP.mp z).symm) n
 hd:=λ_=>I.ok.hd hc
 frames:=I.ok.frames
 stk:=.inl rfl
 exf:=λb hb=>⟨XM (hl b hb),λy c e=>by
  rcases Nh e with ⟨_,rfl⟩ | ⟨_,e⟩
  ·exact λz=>absurd (hl b hb) (j8.mpr (by rw[<-z];exact qJ _))
  exact (hf b hb).2.2.2.2.1 y c (h1 y c e)⟩
 bs:=I.bs
 bsz:=XV I.ok.bsz I.sz
 noex:=λb o e hb=>by
  rcases (hf b hb).2.2.2.1 with z | z
  ·exact I.ok.noex b o e z
  exact absurd (YU (YJ (I.ok.bs b o e).1) z) (XX _)
 exfs:=λb hb z=>(YC.mp (I.stkSub b z)).elim (λe=>(hf b hb).2.1 e) λe=>(hf b hb).2.2.1 e
 funs:=I.stack
 frf:=I.stkFree
 seen:=I.ok.seen
 dpt:=I.ok.dpt
theorem Cd (I:Inv X pins σ H s)(hc:X.calm=true)(hf:∀ b∈fp,FpOk X pins H b)(hl:∀ b∈fp,b<s.heap.objs.size)(hkind:scope.kind=.function)(hone:(scope.names.filter λy=>y.2 == .cell)=ox.toList.map (λx=>(x,.cell)))(hx:∀ y∈N.drop k,ox≠some y)
  (h1:∀ y c,cl.lookup y=some c->X.env.cells.lookup y=some c) (h2:∀ y∈scope.names,y.2=.free->∃ c,cl.lookup y.1=some c)
  (hN:N.length=k+fv.length) (hfv:fv.map (λj=>X.N[j]?)=(N.drop k).map some) (hk:(N.drop k).map X.env.kindOf=(N.drop k).map λ_=>some .cell) (hfl:∀ y∈N.drop k,scope.names.lookup y=some .free)
  {h':Heap} {tk:Nat} (hn:h'.Ns s.heap.objs.size λ_=>none) (hcn:∀ x,ox=some x->h'.IsCell (s.heap.objs.size+1) none) (hb:∀ b o,s.heap.get? b=some o->h'.get? b=some o) :
  Inv (compCx X N scope ox cl s.heap.objs.size fp s H) [] (comp0 k fv σ) H { s with heap:=h',toks:=tk } where
 ok:=Z09 I hc hf hl hkind hone h1 h2
 os:=rfl
 bare:=I.bare
 base:=Un.kept hb
 loc:=⟨_,hn,λi y v e1 e2 e3=>by
  have hik:k<=i:=by
   apply qk;intro z;have:(comp0 k fv σ)[i]?=some none:=by
    unfold comp0;rw[GC (by simpa using z)];simp[z]
   rw[this] at e2
   cases e2
  obtain⟨j,rfl⟩:∃ j,i=k+j:=⟨i - k,U⟩;have e2':(fv.map λj=>σ.getD j none)[j]?=some (some v):=by
   have:(comp0 k fv σ)[k+j]?=(fv.map λj=>σ.getD j none)[j]?:=by
    unfold comp0;rw[JX J8];simp
   rw[<-this];exact e2
  rw[YQ] at e2'
  cases hj:fv[j]? with
  | none=>rw[hj] at e2';cases e2'
  | some m =>
   rw[hj] at e2';have e4:σ.getD m none=some v:=XH e2';have e5:(N.drop k)[j]?=some y:=by rw[Y1i];exact e1
   have e6:X.N[m]?=some y:=by
    have a:=congrArg (λl=>l[j]?) hfv;simp only [YQ,hj,e5,jj] at a;exact XH a
   have e7:X.env.kindOf y=some .cell:=by
    have a:=congrArg (λl=>l[j]?) hk;simp only [YQ,e5,jj] at a;exact XH a
   have e8:σ[m]?=some (some v):=by
    cases q:σ[m]? with
    | none=>rw[List.getD,q] at e4;cases e4
    | some o=>rw[List.getD,q] at e4;rw[show o=some v from e4]
   obtain⟨m0,hm0,hl0⟩:=I.loc;obtain⟨u,ru,lk⟩:=hl0 m y v e6 e8 (.inr (.inl e7));refine⟨u,ru,?_⟩;rcases lk with ⟨z,_⟩ | ⟨_,c,hcc,ic⟩
   ·rw[e7] at z;cases z
   have mem:y∈N.drop k:=YV e5;have fr:=hfl y mem;obtain⟨c',hc'⟩:=h2 (y,.free) (Lb fr) rfl;have ec:=h1 y c' hc';rw[hcc] at ec
   cases ec;refine .inr ⟨.inl (Vp I.ok.kind fr e7),c,(Z2n (hx y mem)).trans hc',?_⟩;obtain⟨o,ho,hd⟩:=ic;exact⟨o,hb _ _ ho,hd⟩⟩
 cell:=λy c e=>by
  rcases Nh e with ⟨z,rfl⟩ | ⟨_,e⟩
  ·exact⟨_,hcn y z⟩
  obtain⟨v,o,ho,hd⟩:=I.cell y c (h1 y c e);exact⟨v,o,hb _ _ ho,hd⟩
 free:=I.hok.fresh (YO _)
 freeC:=λy c e=>by
  rcases Nh e with ⟨_,rfl⟩ | ⟨_,e⟩
  ·exact I.hok.fresh (qJ _)
  exact I.freeC y c (h1 y c e)
 pin:=λp hp=>by
  obtain⟨a1,a2,a3,a4,a5⟩:=I.pin p (XE _ ((YN.mp hp).elim id λz=>nomatch z));exact⟨hb _ _ a1,a2,XM (YJ a1),λz=>(YC.mp (I.stkSub p.1 z)).elim a3 a4,a5⟩
 hok:=I.hok.kept hb
 len:=by
  show (comp0 k fv σ).length=N.length;unfold comp0;simp[hN]
end
section
variable {X:Cx}
theorem So {elt iter tg:Expr}{ifs:TK}{scope:Scope}{pos:Pos}{g:TG}{tt:TT}{te:TE}{N:TF}{k:Nat}{fv:List Nat}{cl:List (Str × Addr)}{ox:Option Str}
  {pins:TD} {σ:L2.St} {H:Hp} {s:Shared} {it:Addr} {fp:TJ} {tn:Nat->Heap->Prop} {J:It} {Q:VK} {RR:Value->Addr->Result->Shared->Prop} {E:TC}
  (hc:X.calm=true) (hg:∀ cl C fp s H,PG (compCx X N scope ox cl C fp s H) tg g) (ht:∀ cl C fp s H,PTs (compCx X N scope ox cl C fp s H) ifs tt) (he:∀ cl C fp s H,PE (compCx X N scope ox cl C fp s H) elt te)
  (hw:∀ r x H Q,g x (List.replicate k none++r) H Q->g x (List.replicate k none++r) H λσ4 H4=>Q σ4 H4/\Weaker σ4 (List.replicate k none++r))
  (hN:N.length=k+fv.length) (hfv:fv.map (λj=>X.N[j]?)=(N.drop k).map some) (hk:(N.drop k).map X.env.kindOf=(N.drop k).map λ_=>some .cell) (hfl:∀ y∈N.drop k,scope.names.lookup y=some .free)
  (hone:(scope.names.filter λy=>y.2 == .cell)=ox.toList.map (λx=>(x,.cell))) (hx0:∀ y∈N.drop k,ox≠some y) (hkind:scope.kind=.function) (h1:∀ y c,cl.lookup y=some c->X.env.cells.lookup y=some c) (h2:∀ y∈scope.names,y.2=.free->∃ c,cl.lookup y.1=some c)
  (I:Inv X pins σ H s) (T:Turn X.prog X.w X.K tg J fp it tn) (st:tn 0 s.heap) (f:∀ b∈fp,FpOk X pins H b)
  (body:∀ d,H d=none->∃ (n:Nat) (W:Nat->List V->Hp->Prop),n<=sizeLine/\W 0 [] (upd H d (.lst [])) ∧
   (∀ i ys H2,i<n->W i ys H2->H2 d=some (.lst ys)->J.go i H2/\∀ x H3,J.yld i H2 x H3->g x (comp0 k fv σ) H3 λσ4 H4=>tt σ4 H4 λb H5 =>
    if b=true then te σ4 H5 λy H6=>H6 d=some (.lst ys)/\W (i+1) (ys++[y]) (upd H6 d (.lst (ys++[y]))) else H5 d=some (.lst ys)/\W (i+1) ys H5) ∧
   (∀ ys H2,W n ys H2->H2 d=some (.lst ys)->J.stop n H2/\Q (.ref d) H2))
  (hR:∀ (D C:Addr) (H':Hp) (s':Shared),(∃ m,s'.heap.Ns C m)->FpOk X pins H' C->Q (.ref D) H'->(∀ h',Heap.SameBut C s'.heap h'->Inv X pins σ H' { s' with heap:=h' })->RR (.ref D) C (.ok .next) s') :
  wpAny (model X.prog X.w) X.A (newList []) (λacc s3=>wpAny (model X.prog X.w) X.A (newFunctionEnv scope X.env.globals cl [] X.env.qual none .none (some X.env)) (λcenv s4 =>
   codeAny (model X.prog X.w) X.A (.compStart (.ListComp elt [⟨tg,iter,ifs,0⟩] scope pos) 0 (.ref it) acc { cenv with scope:=relabel scope X.env }) (RR acc cenv.locals) s4) E s3) E s:=by
 refine GJ ?_;have I3:=I.lnew (its:=[]) (ys:=[]) (t':=s.toks) .nil (JU _);have fresh:=I.fresh;generalize hD:s.heap.objs.size=D at I3 fresh ⊢;have f3:∀ b∈fp,FpOk X pins (upd H D (.lst [])) b:=λb hb=>by
  refine⟨?_,(f b hb).2⟩;have hne:b≠D:=by
   obtain⟨o,e,_⟩:=T.obj 0 _ st b hb;rw[<-hD];exact XM (YJ e)
  rw[Zj hne];exact (f b hb).1
 have up3:∀ b o,s.heap.get? b=some o->(s.heap.push { cls:=.type "list",data:=.seq ([]:TH).toArray }).get? b=some o:=λb o e=>YD _ e;have st3:tn 0 (s.heap.push { cls:=.type "list",data:=.seq ([]:TH).toArray }):=T.keep 0 _ _ st λb _ o e=>up3 b o e;have hl3:∀ b∈fp,b<(s.heap.push { cls:=.type "list",data:=.seq ([]:TH).toArray }).objs.size:=λb hb=>by
  obtain⟨o,e,_⟩:=T.obj 0 _ st3 b hb;exact YJ e
 obtain⟨n,W,hn,w0,step,fin⟩:=body D fresh;generalize hS3:({ s with heap:=s.heap.push { cls:=.type "list",data:=.seq ([]:TH).toArray },toks:=s.toks }:Shared)=s3 at I3;have eS3:s3.heap=s.heap.push { cls:=.type "list",data:=.seq ([]:TH).toArray }:=by rw[<-hS3]
 rw[<-eS3] at st3 hl3;refine Z2m hone (λh4 hns hcn old=>?_);have I4:=Cd (N:=N) (tk:=s3.toks) I3 hc f3 hl3 hkind hone hx0 h1 h2 hN hfv hk hfl (h':=h4) hns hcn old;have st4:tn 0 h4:=T.keep 0 _ _ st3 λb _ o e=>old b o e;have hCn:s3.heap.get? s3.heap.objs.size=none:=by
  cases e:s3.heap.get? s3.heap.objs.size with
  | none=>rfl
  | some o=>exact absurd (YJ e) (XX _)
 generalize hC:s3.heap.objs.size=C at I4 hCn ⊢;have stat:∀ {H':Hp} {ps:TD},(∀ b∈fp,H' b=none)->(∀ p∈ps,p.1 ∉ fp)->∀ b∈fp,FpOk (compCx X N scope ox cl C fp s3 (upd H D (.lst []))) ps H' b:=λ{H' ps} hn hp b hb =>
  ⟨hn b hb,by rw[<-hC];exact XM (hl3 b hb),λz=>(YC.mp (I3.stkSub b z)).elim (λe=>(f3 b hb).2.1 e) λe=>(f3 b hb).2.2.1 e,.inl hb,λx c e=>(Nh e).elim (λz q=>absurd (hl3 b hb) (j8.mpr (by rw[<-q,z.2,<-hC];exact qJ _))) (λz=>(f3 b hb).2.2.2.2.1 x c (h1 x c z.2)),λp q z=>(YN.mp q).elim (λq=>(f3 b hb).2.2.2.2.2 p (XE _ q) z) λq=>hp p q (by rw[z];exact hb)⟩
 have loop:∀ s4:Shared,s4={ s3 with heap:=h4,toks:=s3.toks } →
   codeAny (model X.prog X.w) X.A (.compLoop (.ListComp elt [⟨tg,iter,ifs,0⟩] scope pos) 0 (.ref it) (.ref D) (compEnvC scope (cellsO ox (C+1) cl) C X.env)) (RR (.ref D) C) s4:=by
  rintro s4 rfl;refine Gm (λm s'=>∃ i ys H',Inv (compCx X N scope ox cl C fp s3 (upd H D (.lst []))) [] (comp0 k fv σ) H' s'/\tn i s'.heap/\(∀ b∈fp,H' b=none)/\i<=n/\m=n+1 - i/\ys.length<=i/\H' D=some (.lst ys)/\W i ys H') ?_ (n+1)
   ⟨0,[],_,I4,st4,λb hb=>(f3 b hb).1,JU _,rfl,YO _,Z5,w0⟩
  rintro m s5 ⟨i,ys,H5,I5,st5,fr5,hi,rfl,hys,hD5,w5⟩;by_cases hlt:i<n
  ·obtain⟨go,stp⟩:=step i ys H5 hlt w5 hD5;refine thn (T.item (compCx X N scope ox cl C fp s3 (upd H D (.lst []))) rfl rfl rfl rfl i [] s5 _ H5 noX I5 (stat fr5 J8) st5 go) λr s6 ⟨u,er,h6⟩=>?_;subst er;refine thn h6 λ_ s7 ⟨x,H7,I7,r7,y7,st7,fr7⟩=>?_;have I7':=I7.pinned (stat fr7 J8) (T.obj _ _ st7);refine thn (hg cl C fp s3 _ _ s7 _ H7 x u _ I7' r7 (hw _ x H7 _ (stp x H7 y7))) λ_ s8 ⟨σ8,H8,I8,q8,wk⟩=>?_;refine thn (ht cl C fp s3 _ _ s8 σ8 H8 _ I8 q8) λok s9 ⟨H9,I9,q9⟩=>?_;have back:∀ {σ':L2.St} {H':Hp} {s':Shared},Inv (compCx X N scope ox cl C fp s3 (upd H D (.lst []))) ([]++pinsAt fp s7.heap) σ' H' s'->Weaker σ' (comp0 k fv σ) →
     Inv (compCx X N scope ox cl C fp s3 (upd H D (.lst []))) [] (comp0 k fv σ) H' s'/\tn (i+1) s'.heap/\∀ b∈fp,H' b=none:=λ{σ' H' s'} I' wk'=>by
    refine⟨I'.unpinned.weak wk'.1 wk'.2,T.keep _ _ _ st7 λb hb o e=>(I'.pin (b,o) (YZ _ (YZ _ (Wm hb e)))).1,λb hb=>?_⟩;obtain⟨o,e,_⟩:=T.obj _ _ st7 b hb;exact (I'.pin (b,o) (YZ _ (YZ _ (Wm hb e)))).2.1
   cases ok with
   | false =>
    rw[XQ XB] at q9 ⊢;obtain⟨hD9,w9⟩:=q9;obtain⟨a1,a2,a3⟩:=back I9 wk;exact⟨n+1 - (i+1),U,i+1,ys,H9,a1,a2,a3,hlt,rfl,Nat.le_succ_of_le hys,hD9,w9⟩
   | true =>
    rw[JD rfl] at q9 ⊢;refine thn (he cl C fp s3 _ _ s9 σ8 H9 _ I9 q9) λy s10 ⟨yv,H10,I10,r10,hD10,w10⟩=>?_;refine thn (Wc _ s10 σ8 H10 (.ref D) [yv] (.ref D) [y] (λ_ H'=>H'=upd H10 D (.lst (ys++[yv]))) I10 rfl (.cons r10 .nil) ⟨D,ys,yv,rfl,rfl,hD10,JK hys (YU hlt hn),rfl⟩) λ_ s11 ⟨_,H11,I11,_,e11⟩=>?_;subst e11;obtain⟨a1,a2,a3⟩:=back I11 wk;exact⟨n+1 - (i+1),U,i+1,ys++[yv],_,a1,a2,a3,hlt,rfl,by rw[XF];show ys.length+1<=i+1;omega,Z5,w10⟩
  obtain rfl:i=n:=jk hi (j8.mp hlt);obtain⟨stop,q⟩:=fin ys H5 w5 hD5;refine thn (T.done (compCx X N scope ox cl C fp s3 (upd H D (.lst []))) rfl rfl rfl rfl i [] s5 _ H5 noX I5 (stat fr5 J8) st5 stop) λr s6 ⟨er,I6⟩=>?_;subst er;refine hR D C H5 s6 ?_ (I3.fpOk (by rw[hC];exact YO _) I6.free) q λh' hs'=>?_
  ·obtain⟨m,hm,_⟩:=I6.loc;exact⟨m,hm⟩
  have hs2:∀ b,b≠C->h'.get? b=s6.heap.get? b:=λb hb=>hs'.2 b hb;refine I3.call' (s':={ s6 with heap:=h' }) (ch:=fp) ?_ (Z0z I6.base hCn hs2) (By I6.hok I6.free hs2) I6.bare λb hb=>?_
  ·exact I6.os
  exact⟨(f3 b hb).2.2.2.1,(f3 b hb).2.1,(f3 b hb).2.2.2.2.1,(f3 b hb).2.2.2.2.2⟩
 exact codeAny_compStart_list (loop _ rfl) (T.self _ 0 _ _ _ st4 (loop _ rfl))
theorem Xk {elt iter:Expr}{ifs:TK}{pos:Pos}{wi:TI}{tt:TT}{k:Nat}{fv:List Nat}{ox:Option Str}
  (hc:X.calm=true) (hi:PI X tg iter wi) (hg:∀ cl C fp s H,PG (compCx X N scope ox cl C fp s H) tg g) (ht:∀ cl C fp s H,PTs (compCx X N scope ox cl C fp s H) ifs tt) (he:∀ cl C fp s H,PE (compCx X N scope ox cl C fp s H) elt te)
  (hw:∀ r x H Q,g x (List.replicate k none++r) H Q->g x (List.replicate k none++r) H λσ4 H4=>Q σ4 H4/\Weaker σ4 (List.replicate k none++r))
  (hN:N.length=k+fv.length:=by rfl) (hfv:fv.map (λj=>X.N[j]?)=(N.drop k).map some:=by rfl) (hk:(N.drop k).map X.env.kindOf=(N.drop k).map (λ_=>some .cell):=by rfl)
  (hfl:∀ y∈N.drop k,scope.names.lookup y=some .free:=by decide +kernel) (hfr:∀ y∈scope.names,y.2=.free->y.1∈N.drop k:=by decide +kernel)
  (hone:(scope.names.filter λy=>y.2 == .cell)=ox.toList.map (λx=>(x,.cell)):=by decide +kernel) (hx0:∀ y∈N.drop k,ox≠some y:=by decide +kernel) (hkind:scope.kind=.function:=by rfl) (hnames:∀ y∈scope.names,y.2=.local->scope.names.lookup y.1=some .local:=by decide +kernel)
  (hs:∀ x,foldedSetIterable iter X.env x=pure x:=by intro _;rfl):PE X (.ListComp elt [⟨tg,iter,ifs,0⟩] scope pos) (tComp wi g tt te k fv):=by
 intro pins s σ H Q I h;have kc:∀ y∈N.drop k,X.env.kindOf y=some .cell:=λy hy=>by
  obtain⟨j,hj⟩:=zw hy;have a:=congrArg (λl=>l[j]?) hk;simp only [YQ,hj,jj] at a;exact XH a
 obtain⟨cl,hclos,h1,h2⟩:=Vd (env:=X.env) (scope:=scope) λy hy hf=>I.ok.has y.1 (.inl (kc y.1 (hfr y hy hf)));rw[eval_ListComp];refine Y0p (use:=none) rfl hs hclos hkind hnames (thn (hi pins s σ H _ I h) λxv s1 h1'=>thn h1' λitv s2 h2'=>?_);obtain⟨it,fp,tn,J,H2,e,I2,T,st2,f2,body⟩:=h2';subst e;exact So (RR:=λacc C=>compPost (model X.prog X.w) X.A X.xe none (EP X pins σ Q) acc C) hc hg ht he hw hN hfv hk hfl hone hx0 hkind h1 h2 I2 T st2 f2 body λD C H' s' ⟨m,hm⟩ _ q iv=>⟨m,hm,λh' hs'=>⟨.ref D,H',iv h' hs',rfl,q⟩⟩
theorem Y6:∀ (r:L2.St) (x:V) (H:Hp) (Q:L2.St->Hp->Prop),gName 0 x (List.replicate 1 none++r) H Q->gName 0 x (List.replicate 1 none++r) H λσ4 H4=>Q σ4 H4/\Weaker σ4 (List.replicate 1 none++r):=λr x H Q h =>
 ⟨h,J8,λi v e=>by
  cases i with
  | zero=>cases e
  | succ j=>exact e⟩
end
theorem W3 {x:V}{σ:L2.St}{A B:L2.St->Hp->Prop}(h:A (σ.set 0 (some x)) H):gName 0 x σ H λσ4 H4=>tYes σ4 H4 λb H5=>if b=true then A σ4 H5 else B σ4 H5:=by
 show if true=true then A (σ.set 0 (some x)) H else B (σ.set 0 (some x)) H
 exact Xq h
section
variable {X:Cx}{K:TQ}
theorem Z2o (h:X.K=K:=by rfl):IxR X (rIxL K):=h ▸ Y5
end
theorem Nb {x:V}{σ:L2.St}{A B:L2.St->Hp->Prop}{t:TT}(h:t (σ.set 0 (some x)) H λb H5=>if b=true then A (σ.set 0 (some x)) H5 else B (σ.set 0 (some x)) H5) :
  gName 0 x σ H λσ4 H4=>t σ4 H4 λb H5=>if b=true then A σ4 H5 else B σ4 H5:=h
theorem Gv (bs:List Bool):(List.range bs.length).any (λi=>bs.getD i false)=bs.any id:=by
 induction bs with
 | nil=>rfl
 | cons b r ih =>
  rw[YR,Y0F,zD,Y0G,zD,<-ih];rfl
section
variable {X:Cx}
theorem Q0 (hc:X.calm=true):CallR X (.builtin "any") (λxs H Q=>∃ (p:Addr) (bs:List Bool),xs=[.ref p]/\SqL X.K H p (bs.map V.bl)/\Q (.bl (bs.any id)) H):=by
 intro pins s σ H xs us Q I r h;obtain⟨p,bs,rfl,hs,q⟩:=h;obtain⟨u,e0,rx⟩:=W7 r
 cases (show u=Value.ref p from rx);subst e0;obtain⟨its,rv,pl,hz⟩:=I.list hs;have hl:=rv.length;rw[YB] at hl;have lp:s.heap.IsList p its.toArray:=pl.isList;have lt:p<s.heap.objs.size:=by
  obtain⟨o,e,_⟩:=lp;exact YJ e
 have ip:∀ p∈X.pn,s.heap.get? p.1=some p.2:=λp hp=>(I.pin p (XE _ hp)).1;refine call_any_walk (zr lp ?_);refine⟨s.heap.objs.size,_,_,_,_,_,λi=>bs.getD i false,rfl,Walks.listQ (A:=X.A.in1) (I.ok.hd hc) s.heap.objs.size p (XM lt) (λp hp=>XM (YJ (ip p hp))) its.toArray,⟨⟨_,YL _ rfl,rfl,rfl⟩,lp.push _,λp hp=>YD _ (ip p hp)⟩,?_,λh' tk k=>?_⟩
 ·intro i v s' Q' E' hP hQ;have hi:i<its.length:=by
   have:=(JL.mp hP).1
   simpa using this
  have hb:i<bs.length:=U
  have e1:(bs.map V.bl)[i]?=some (V.bl bs[i]):=by simp[hb]
  obtain⟨w,e2,rw'⟩:=rv.get e1;have e3:its[i]?=some v:=by simpa using hP
  rw[e2] at e3
  cases e3
  cases (show v=Value.bool bs[i] from rw');have e4:bs.getD i false=bs[i]:=by simp[List.getD,hb]
  replace hQ:Q' (bs.getD i false) s':=hQ;rw[e4] at hQ;exact GA hQ
 have e:(List.range its.toArray.size).any (λi=>bs.getD i false)=bs.any id:=by
  rw[YY,<-hl];exact Gv bs
 rw[e];refine⟨.bl (bs.any id),H,?_,rfl,q⟩;exact I.kept (t':=tk) λb o z=>k b o (by
  intro m;have:b=s.heap.objs.size:=by simpa using m
  rw[this] at z;exact absurd (YJ z) (XX _)) (YD _ z)
end
end Sb
namespace Sb
open PySem PySem.Builtin.SmallTypes
def kN (l:Bool):String:=cond l "list" "tuple"
def kI (l:Bool):String:=cond l "list_iterator" "tuple_iterator"
def Iq (l:Bool)(h:Heap)(a:Addr)(ys:Array Value):Prop:=∃ o,h.get? a=some o/\o.cls=.type (kN l)/\∃ n,o.data=.seq ys n
def Ir (l:Bool)(h:Heap)(a t:Addr)(i:Nat):Prop:=∃ o,h.get? a=some o/\o.cls=.type (kI l)/\o.data=.fields #[.ref t,.int i 0]
section
variable {prog:TR}{w:World}{A:Around}{E:TC}{s:Shared}
theorem Na {it t:Addr}{j:Nat}{ys:Array Value}{Q:TC}(hq:Qt A s.heap)(ti:s.heap.IsTupleIter it t j)(tt:s.heap.IsTuple t ys)
  (hQ:∀ y,ys[j]?=some y->∀ h',h'.IsTupleIter it t (j+1)->Heap.SameBut it s.heap h'->Q y { s with heap:=h' })
  (hE:ys[j]?=none->∀ h' e,Heap.ExtBut it s.heap h'->(∃ o,h'.get? e=some o/\o.cls=.type "StopIteration")->E (.ref e) { s with heap:=h' }):wpAny (model prog w) A (nextOf (.ref it)) Q E s:=by
 obtain⟨oi,ei,ci,di⟩:=id ti;obtain⟨ot,et,_,nt,dt⟩:=tt;unfold nextOf;refine YA (JE (name:=Str.ofString "__next__") ti.typeIs qB (JI qB ti.typeIs jx ?_ (jh _)));show wpAny _ _ (field (.ref it) 0 >>= _) _ _ _;refine YA (XU ei di (x:=.ref t) rfl ?_);show wpAny _ _ (if (Value.ref t == Value.none)=true then _ else _) _ _ _;rw[XQ (show ¬ ((Value.ref t == Value.none)=true) from λq=>XB q)];show wpAny _ _ (field (.ref it) 1 >>= _) _ _ _;refine YA (XU ei di (x:=.int j 0) rfl ?_);show wpAny _ _ (seqItems? (.ref t) >>= _) _ _ _;refine YA (GF et dt ?_)
 cases ey:ys[j]? with
 | some y =>
  simp only [GW,ey];refine YA (GY ei di J8 (YE ⟨y,rfl,YE (hQ y ey _ ?_ (JV ..))⟩));refine⟨_,JN _ ei (zn (qz di _)),(Y0e ..).trans ci,?_⟩;rw[qz di];simp[rawInt]
 | none =>
  simp only [GW,ey];refine YA (GX (YA (GY ei di J8 ?_)));refine U5 (hq:=(hq.but ei λn=>?_)) λh' e k he=>hE ey _ _ (λb o hb e=>k b o ((JV ..).extBut b o hb e)) he;obtain⟨vs,e1,e2⟩:=n;rw[di] at e1
  cases e1;simp at e2
theorem Gj {qs:TD}(hq:QtP A qs)(it t:Addr)(ne:t≠it)(hqs:∀ p∈qs,p.1≠it)(ys:Array Value) :
  Draws prog w A it (it::t::qs.map Prod.fst) ys.size (λi x=>ys[i]?=some x) (λi h=>h.IsTupleIter it t i/\h.IsTuple t ys/\∀ p∈qs,h.get? p.1=some p.2) where
 live:=λi h st=>by
  obtain⟨⟨o,e,_⟩,_⟩:=st;exact⟨o,e⟩
 frame:=λi h h' st k=>by
  obtain⟨⟨o,e,r⟩,⟨o',e',r'⟩,st⟩:=st;exact⟨⟨o,k it J8 o e,r⟩,⟨o',k t J8 o' e',r'⟩,λp hp=>k p.1 (by simp;exact .inr (.inr ⟨p.2,hp⟩)) p.2 (st p hp)⟩
 item:=λi s Q E lt st hQ=>Na (hq.at st.2.2) st.1 st.2.1 (λy ey h' a b=>hQ _ h' s.toks ey ⟨a,st.2.1.extBut b.extBut ne,λp hp=>b.extBut p.1 p.2 (hqs p hp) (st.2.2 p hp)⟩ b) λz=>by
  rw[GD lt] at z
  cases z
 done:=λs Q E st hE=>Na (hq.at st.2.2) st.1 st.2.1 (λy ey=>by
  rw[Y0H (YO _)] at ey
  cases ey) λ_=>hE
theorem P4 (l:Bool){qs:TD}(hq:QtP A qs)(it t:Addr)(ne:t≠it)(hqs:∀ p∈qs,p.1≠it)(ys:Array Value) :
  Draws prog w A it (it::t::qs.map Prod.fst) ys.size (λi x=>ys[i]?=some x) (λi h=>Ir l h it t i/\Iq l h t ys/\∀ p∈qs,h.get? p.1=some p.2):=by
 cases l
 ·exact Gj hq it t ne hqs ys
 exact Draws.listQ hq it t ne hqs ys
theorem Sc {t:Addr}{ys:Array Value}{Q:TC}(hl:Iq l s.heap t ys)(hQ:Q (.ref s.heap.objs.size) { s with heap:=s.heap.push { cls:=.type (kI l),data:=.fields #[.ref t,.int 0 0] } }):wpAny (model prog w) A (pyIter (.ref t)) Q E s:=by
 cases l
 ·exact wpAny_pyIter_tuple hl hQ
 exact zr hl hQ
end
structure ZOff (z TI TO i1 i2:Addr):Prop where
 a1:TI≠z
 a2:TO≠z
 a3:i1≠z
 a4:i2≠z
 a5:TI≠TO
 a6:TI≠i1
 a7:TI≠i2
 a8:TO≠i1
 a9:TO≠i2
 b1:i1≠i2
structure Off (z TI TO i1 i2:Addr)(f1 f2:TJ):Prop extends ZOff z TI TO i1 i2 where
 z1:z ∉ f1
 o1:TO ∉ f1
 n1:i2 ∉ f1
 z2:z ∉ f2
 o2:TO ∉ f2
 n2:i1 ∉ f2
section
variable {prog:TR}{w:World}{A:Around}{E:TC}{s:Shared}{z TI TO i1 i2:Addr}{f1 f2:TJ}{n1 n2:Nat}{P1 P2:Nat->Value->Prop}{S1 S2:Nat->Heap->Prop}
theorem Ku {k:Nat}{a b:Value}{Q:TC}(D:Off z TI TO i1 i2 f1 f2)(D1:Draws prog w A i1 f1 n1 P1 S1)(D2:Draws prog w A i2 f2 n2 P2 S2)
  (hz:IsZip s.heap z TI TO .none) (hTI:IsPair s.heap TI (.ref i1) (.ref i2)) (hTO:IsPair s.heap TO a b) (c1:S1 k s.heap) (c2:S2 k s.heap) (l1:k<n1) (l2:k<n2)
  (hQ:∀ x y h' tk,P1 k x->P2 k y->IsZip h' z TI TO (rawInt s.heap.objs.size)->IsPair h' TO x y->S1 (k+1) h'->S2 (k+1) h'->IsPair h' s.heap.objs.size x y->h'.objs.size=s.heap.objs.size+1 →
   (∀ c o,c≠z->c≠TO->c≠i1->c≠i2->s.heap.get? c=some o->h'.get? c=some o)->Q (.ref s.heap.objs.size) { s with heap:=h',toks:=tk }) :
  wpAny (model prog w) A (Builtin.«zip.__next__» ⟨[.ref z],[]⟩) (λfin s'=>∃ v,fin=.done (.ret v)/\Q v s') E s:=by
 show wpAny _ _ (field (.ref z) 2 >>= _) _ _ _;refine YA (XU hz rfl (x:=.bool false) rfl ?_);show wpAny _ _ (field (.ref z) 3 >>= _) _ _ _;refine YA (XU hz rfl (x:=.ref TI) rfl ?_);refine YA (GF hTI rfl ?_);show wpAny _ _ (ownedTupleIsFree (.ref z) >>= _) _ _ _;refine YA ?_;unfold ownedTupleIsFree;refine YA (XU hz rfl (x:=.none) rfl (YE ?_));simp only [zP];refine YA (GX ?_);refine YA (XU hz rfl (x:=.ref TO) rfl ?_);refine YA (JM hz J8 λg1 z1 s1=>?_);replace z1:IsZip g1 z TI TO .ellipsis:=z1;refine YA ?_;simp only [List.zipIdx_cons,List.zipIdx_nil,qd,zv];refine YA (YA (Y1a ?_));show wpAny _ _ (nextOf (.ref i1) >>= _) _ _ _;have c11:S1 k g1:=D1.frame _ _ _ c1 λb hb o e=>s1.extBut b o (λq=>D.z1 (q ▸ hb)) e;refine YA (D1.item k _ _ _ l1 c11 λx g2 tk2 p1 c12 s2=>YE ?_);replace s2:Heap.SameBut i1 g1 g2:=s2;have t2:IsPair g2 TO a b:=s2.extBut _ _ D.a8 (s1.extBut _ _ D.a2 hTO);refine YA (GF t2 rfl ?_);refine YA (wpAny_updateSeq_pair t2 λg3 t3 s3=>?_);replace t3:IsPair g3 TO x b:=t3;replace s3:Heap.SameBut TO g2 g3:=s3;refine YA (Y0X (YE ?_));refine YA (YA (Y1a ?_));show wpAny _ _ (nextOf (.ref i2) >>= _) _ _ _;have c23:S2 k g3:=D2.frame _ _ _ c2 λb hb o e=>s3.extBut b o (λq=>D.o2 (q ▸ hb)) (s2.extBut b o (λq=>D.n2 (q ▸ hb)) (s1.extBut b o (λq=>D.z2 (q ▸ hb)) e));have c13:S1 (k+1) g3:=D1.frame _ _ _ c12 λb hb o e=>s3.extBut b o (λq=>D.o1 (q ▸ hb)) e;refine YA (D2.item k _ _ _ l2 c23 λy g4 tk4 p2 c24 s4=>YE ?_);replace s4:Heap.SameBut i2 g3 g4:=s4;have t4:IsPair g4 TO x b:=s4.extBut _ _ D.a9 t3;refine YA (GF t4 rfl ?_);refine YA (wpAny_updateSeq_pair t4 λg5 t5 s5=>?_);replace t5:IsPair g5 TO x y:=t5;replace s5:Heap.SameBut TO g4 g5:=s5;refine YA (Y0X (YE (YE ?_)));refine YA (GF t5 rfl ?_);refine YA (wpAny_newTuple ?_);have sz:g5.objs.size=s.heap.objs.size:=by rw[s5.1,s4.1,s3.1,s2.1,s1.1]
 have z5:IsZip g5 z TI TO .ellipsis:=s5.extBut _ _ D.a2.symm (s4.extBut _ _ D.a4.symm (s3.extBut _ _ D.a2.symm (s2.extBut _ _ D.a3.symm z1)));have k5:∀ c o,c≠z->c≠TO->c≠i1->c≠i2->s.heap.get? c=some o->g5.get? c=some o:=λc o q1 q2 q3 q4 e =>
  s5.extBut _ _ q2 (s4.extBut _ _ q4 (s3.extBut _ _ q2 (s2.extBut _ _ q3 (s1.extBut _ _ q1 e))))
 have c15:S1 (k+1) g5:=D1.frame _ _ _ c13 λb hb o e=>s5.extBut b o (λq=>D.o1 (q ▸ hb)) (s4.extBut b o (λq=>D.n1 (q ▸ hb)) e);have c25:S2 (k+1) g5:=D2.frame _ _ _ c24 λb hb o e=>s5.extBut b o (λq=>D.o2 (q ▸ hb)) e;have zlt:z<g5.objs.size:=YJ z5;show wpAny _ _ (ownedTupleHandOut (.ref z) (.ref g5.objs.size) >>= _) _ _ _;refine YA ?_;unfold ownedTupleHandOut;have z6:IsZip (g5.push { cls:=.type "tuple",data:=.seq #[x,y] }) z TI TO .ellipsis:=YD _ z5;refine YA (JM z6 J8 λg7 z7 s7=>?_);replace z7:IsZip g7 z TI TO (rawInt g5.objs.size):=z7;refine JM z7 J8 λg8 z8 s8=>?_;replace z8:IsZip g8 z TI TO (rawInt g5.objs.size):=z8;have up:∀ c o,c≠z->g5.get? c=some o->g8.get? c=some o:=λc o q e=>s8.extBut _ _ q (s7.extBut _ _ q (YD _ e));have t8:IsPair g8 g5.objs.size x y:=s8.extBut _ _ (zA zlt) (s7.extBut _ _ (zA zlt) (YL _ rfl));have sz8:g8.objs.size=g5.objs.size+1:=by rw[s8.1,s7.1,GM]
 rw[sz] at z8 t8 sz8;refine YE ⟨_,rfl,?_⟩;show Q (.ref g5.objs.size) _;rw[sz];exact hQ x y g8 tk4 p1 p2 z8 (up _ _ D.a2 t5) (D1.frame _ _ _ c15 λb hb o e=>up b o (λq=>D.z1 (q ▸ hb)) e) (D2.frame _ _ _ c25 λb hb o e=>up b o (λq=>D.z2 (q ▸ hb)) e) t8 sz8
  λc o q1 q2 q3 q4 e=>up c o q1 (k5 c o q1 q2 q3 q4 e)
theorem Kt {k:Nat}{a b:Value}{Q:Fin->Shared->Prop}(D:Off z TI TO i1 i2 f1 f2)(D1:Draws prog w A i1 f1 n1 P1 S1)(hz:IsZip s.heap z TI TO .none)(hTI:IsPair s.heap TI (.ref i1) (.ref i2))(c1:S1 n1 s.heap)
  (hE:∀ h' e,(∀ c o,c≠z->c≠i1->s.heap.get? c=some o->h'.get? c=some o)->(∃ o,h'.get? e=some o/\o.cls=.type "StopIteration")->E (.ref e) { s with heap:=h' }) :
  wpAny (model prog w) A (Builtin.«zip.__next__» ⟨[.ref z],[]⟩) Q E s:=by
 show wpAny _ _ (field (.ref z) 2 >>= _) _ _ _;refine YA (XU hz rfl (x:=.bool false) rfl ?_);show wpAny _ _ (field (.ref z) 3 >>= _) _ _ _;refine YA (XU hz rfl (x:=.ref TI) rfl ?_);refine YA (GF hTI rfl ?_);show wpAny _ _ (ownedTupleIsFree (.ref z) >>= _) _ _ _;refine YA ?_;unfold ownedTupleIsFree;refine YA (XU hz rfl (x:=.none) rfl (YE ?_));simp only [zP];refine YA (GX ?_);refine YA (XU hz rfl (x:=.ref TO) rfl ?_);refine YA (JM hz J8 λg1 z1 s1=>?_);replace z1:IsZip g1 z TI TO .ellipsis:=z1;refine YA ?_;simp only [List.zipIdx_cons,List.zipIdx_nil,qd,zv];refine YA (YA (Y1a ?_));show wpAny _ _ (nextOf (.ref i1) >>= _) _ _ _;have c11:S1 n1 g1:=D1.frame _ _ _ c1 λb hb o e=>s1.extBut b o (λq=>D.z1 (q ▸ hb)) e;refine YA (D1.done _ _ _ c11 λg2 e s2 he=>?_);obtain⟨oe,eo,ce⟩:=he;replace s2:Heap.ExtBut i1 g1 g2:=s2;have z2:IsZip g2 z TI TO .ellipsis:=s2 _ _ D.a3.symm z1;have ez:e≠z:=λq=>by
  subst q;rw[z2] at eo
  cases eo;simp at ce
 exact JM z2 J8 λg3 _ s3=>hE g3 e (λc o q1 q3 h=>s3.extBut _ _ q1 (s2 _ _ q3 (s1.extBut _ _ q1 h))) ⟨oe,s3.extBut _ _ ez eo,ce⟩
theorem Px {k:Nat}{a b:Value}{Q:Option Value->Shared->Prop}(D:Off z TI TO i1 i2 f1 f2)(D1:Draws prog w A.in1 i1 f1 n1 P1 S1)(D2:Draws prog w A.in1 i2 f2 n2 P2 S2)
  (hz:IsZip s.heap z TI TO .none) (hTI:IsPair s.heap TI (.ref i1) (.ref i2)) (hTO:IsPair s.heap TO a b) (c1:S1 k s.heap) (c2:S2 k s.heap) (l1:k<n1) (l2:k<n2)
  (hQ:∀ x y h' tk,P1 k x->P2 k y->IsZip h' z TI TO (rawInt s.heap.objs.size)->IsPair h' TO x y->S1 (k+1) h'->S2 (k+1) h'->IsPair h' s.heap.objs.size x y->h'.objs.size=s.heap.objs.size+1 →
   (∀ c o,c≠z->c≠TO->c≠i1->c≠i2->s.heap.get? c=some o->h'.get? c=some o)->Q (some (.ref s.heap.objs.size)) { s with heap:=h',toks:=tk }):wpAny (model prog w) A (pyNext (.ref z)) Q E s:=by
 have hT:s.TypeIs (.ref z) "zip":=⟨_,hz,rfl⟩;unfold pyNext;exact YA (GR (JE (name:=Str.ofString "__next__") hT qw (JI qw hT j9
   (Ku D D1 D2 hz hTI hTO c1 c2 l1 l2 λx y h' tk p1 p2 q1 q2 q3 q4 q5 q6 q7=>YE (hQ x y h' tk p1 p2 q1 q2 q3 q4 q5 q6 q7)) (zQ _))))
theorem Ur {Q:Option Value->Shared->Prop}(D:Off z TI TO i1 i2 f1 f2)(D1:Draws prog w A.in1 i1 f1 n1 P1 S1)(hz:IsZip s.heap z TI TO .none)(hTI:IsPair s.heap TI (.ref i1) (.ref i2))(c1:S1 n1 s.heap)
  (hQ:∀ h',(∀ c o,c≠z->c≠i1->s.heap.get? c=some o->h'.get? c=some o)->Q none { s with heap:=h' }):wpAny (model prog w) A (pyNext (.ref z)) Q E s:=by
 have hT:s.TypeIs (.ref z) "zip":=⟨_,hz,rfl⟩;unfold pyNext;refine YA (GR (JE (name:=Str.ofString "__next__") hT qw (JI qw hT j9
  (Kt (k:=0) (a:=.none) (b:=.none) D D1 hz hTI c1 λh' e hk he=>?_) (zQ _))))
 obtain⟨o,ho,hc⟩:=he;exact YA (GU (T:="StopIteration") (b:=true) ⟨o,ho,hc⟩ qV (YE (hQ _ hk)))
end
abbrev zH1 (l:Bool)(h:Heap)(t:Addr):Heap:=h.push { cls:=.type (kI l),data:=.fields #[.ref t,.int 0 0] }
abbrev zH2 (l m:Bool)(h:Heap)(t u:Addr):Heap:=zH1 m (zH1 l h t) u
abbrev zH3 (l m:Bool)(h:Heap)(t u:Addr):Heap:=(zH2 l m h t u).push { cls:=.type "tuple",data:=.seq #[.ref h.objs.size,.ref (zH1 l h t).objs.size] }
abbrev zH4 (l m:Bool)(h:Heap)(t u:Addr):Heap:=(zH3 l m h t u).push { cls:=.type "tuple",data:=.seq #[.none,.none] }
abbrev zH5 (l m:Bool)(h:Heap)(t u:Addr):Heap:=(zH4 l m h t u).push { cls:=.type "zip",data:=.fields #[.none,.bool false,.bool false,.ref (zH2 l m h t u).objs.size,.ref (zH3 l m h t u).objs.size] }
theorem Jv (l m:Bool)(t u:Addr)(xs ys:Array Value):Meets (Builtin.«zip.__new__» ⟨[.type "zip",.ref t,.ref u],[]⟩) (λ_ R s=>Iq l s.heap t xs/\Iq m s.heap u ys ∧
  R (.ok (.ret (.ref (zH4 l m s.heap t u).objs.size))) { s with heap:=zH5 l m s.heap t u }) :=
 .of_wp λprog w A R s h=>by
  obtain⟨hp,g,d,tk,os⟩:=s;obtain⟨h1,⟨o,e,r⟩,h⟩:=h;have hsub:=sub_zip;have T1:Iq l (Shared.heap ⟨hp,g,d,tk,os⟩) t xs:=h1;have T2:Iq m (Shared.heap ⟨zH1 l hp t,g,d,tk,os⟩) u ys:=⟨o,YD _ e,r⟩
  wp_walk using Sc T1,Sc T2
  exact⟨_,rfl,h⟩
theorem Cf {prog:TR}{w:World}{A:Around}{E:TC}{t u:Addr}{xs ys:Array Value}{Q:TC}(l m:Bool)(h1:Iq l s.heap t xs)(h2:Iq m s.heap u ys)
  (h:∀ h',IsZip h' (s.heap.objs.size+4) (s.heap.objs.size+2) (s.heap.objs.size+3) .none->IsPair h' (s.heap.objs.size+2) (.ref s.heap.objs.size) (.ref (s.heap.objs.size+1))->IsPair h' (s.heap.objs.size+3) .none .none →
   Ir l h' s.heap.objs.size t 0->Ir m h' (s.heap.objs.size+1) u 0->h'.objs.size=s.heap.objs.size+5->(∀ c o,s.heap.get? c=some o->h'.get? c=some o)->Q (.ref (s.heap.objs.size+4)) { s with heap:=h' }) :
  wpAny (model prog w) A (call (.type "zip") [.ref t,.ref u]) Q E s:=by
 refine callType_new F.called_zip J7 (F.typeCall_zip_2 _ _) (F.newCall_zip_2 _ _) (λobj=>F.args_object_init_3 obj _ _) F.entry_zip_new (Jv l m t u xs ys) ⟨h1,h2,?_⟩;have e1:(zH1 l s.heap t).objs.size=s.heap.objs.size+1:=GM ..;have e2:(zH2 l m s.heap t u).objs.size=s.heap.objs.size+2:=by rw[GM,e1]
 have e3:(zH3 l m s.heap t u).objs.size=s.heap.objs.size+3:=by rw[GM,e2]
 have e4:(zH4 l m s.heap t u).objs.size=s.heap.objs.size+4:=by rw[GM,e3]
 have up:∀ {h:Heap} {c:Addr} {x o:Obj},h.get? c=some o->(h.push x).get? c=some o:=λe=>YD _ e;have p5:(zH5 l m s.heap t u).get? (zH4 l m s.heap t u).objs.size=some _:=YL _ rfl;have p4:(zH5 l m s.heap t u).get? (zH3 l m s.heap t u).objs.size=some _:=up (YL _ rfl);have p3:(zH5 l m s.heap t u).get? (zH2 l m s.heap t u).objs.size=some _:=up (up (YL _ rfl));have p2:(zH5 l m s.heap t u).get? (zH1 l s.heap t).objs.size=some _:=up (up (up (YL _ rfl)));show _/\_;rw[e2,e3,e4] at p5;rw[e1,e2] at p3;rw[e3] at p4;rw[e1] at p2;rw[e4];exact⟨⟨_,p5,rfl⟩,h _ p5 p3 p4 ⟨_,up (up (up (up (YL _ rfl)))),rfl,rfl⟩ ⟨_,p2,rfl,rfl⟩ (by rw[GM,e4]) λc o x=>up (up (up (up (up x))))⟩
end Sb
namespace Sb
open PySem PySem.Spec PyProof.Rows L2
section
variable {X:Cx}{pins:TD}{σ:L2.St}{H:Hp}{s:Shared}{h':Heap}{t':Nat}{ch:TJ}
theorem No (I:Inv X pins σ H s)(hn:∀ b∈ch,H b=none)(k:∀ b o,b ∉ ch->s.heap.get? b=some o->h'.get? b=some o):HOk X.prog X.w H h':=λa o e =>
 (I.hok a o e).stay (λb u hb q=>k b u (λz=>by
  have n:=hn b z;rcases hb with rfl | hb
  ·rw[n] at e;cases e
  rw[n] at hb;cases hb) q) (λ_ q=>q) λ_ _ q=>q
theorem Nn (I:Inv X pins σ H s)(hf:∀ b∈ch,FpOk X pins H b)(k:∀ b o,b ∉ ch->s.heap.get? b=some o->h'.get? b=some o):Inv X pins σ H { s with heap:=h',toks:=t' }:=by
 refine I.step (g':=s.gens) (d':=s.drawn) (ch:=ch) (λb hb=>?_) (λb o _ _ hc e _=>k b o hc e) (λb o _ _ hc e _=>⟨o.slots,k b o hc e⟩) (λ_ _ _ _ n=>n) (λb o hc e=>⟨o,k b o hc e⟩) (λ_ _ e=>e) (λ_ _ _ e=>e)
  (λb ps e=>⟨#[],by rw[e];simp⟩) (λm hm=>?_) (No I (λb hb=>(hf b hb).1) k) I.bare
 ·exact⟨(hf b hb).2.2.2.1,(hf b hb).2.1,(hf b hb).2.2.2.2.1,(hf b hb).2.2.2.2.2⟩
 obtain⟨o,es,ep,ho,r⟩:=hm;exact⟨o,es,ep,k _ o (λz=>(hf _ z).2.1 rfl) ho,r⟩
theorem Qu {p:Addr}{u:HO}(I:Inv X pins σ H s)(hf:∀ b∈ch,FpOk X pins H b)(k:∀ b o,b ∉ ch->s.heap.get? b=some o->h'.get? b=some o)(hp:s.heap.objs.size<=p)(new:ObjOk X.prog X.w (upd H p u) h' p u) :
  Inv X pins σ (upd H p u) { s with heap:=h',toks:=t' }:=by
 have lt:∀ b o,s.heap.get? b=some o->b≠p:=λb o e z=>absurd (YU (YJ e) hp) (by rw[z];exact XX _);have ltH:∀ b o,H b=some o->b≠p:=λb o e z=>absurd (YU (I.hok.lt e) hp) (by rw[z];exact XX _);have hk:=No I (λb hb=>(hf b hb).1) k;refine I.step (g':=s.gens) (d':=s.drawn) (ch:=ch) (λb hb=>?_) (λb o _ _ hc e _=>k b o hc e) (λb o _ _ hc e _=>⟨o.slots,k b o hc e⟩) (λb o _ e n=>by rw[Zj (lt b o e)];exact n) (λb o hc e=>⟨o,k b o hc e⟩)
  (λb _ e=>by rw[Zj (ltH b _ e)];exact e) (λb _ _ e=>by rw[Zj (ltH b _ e)];exact e) (λb ps e=>⟨#[],by rw[Zj (ltH b _ e),e];simp⟩) (λm hm=>?_) (λb o e=>?_) I.bare
 ·exact⟨(hf b hb).2.2.2.1,(hf b hb).2.1,(hf b hb).2.2.2.2.1,(hf b hb).2.2.2.2.2⟩
 ·obtain⟨o,es,ep,ho,r⟩:=hm;exact⟨o,es,ep,k _ o (λz=>(hf _ z).2.1 rfl) ho,r⟩
 by_cases hb:b=p
 ·subst hb;rw[Z5] at e
  cases e;exact new
 rw[Zj hb] at e;exact (hk b o e).stay (λ_ _ _ q=>q) (λc q=>by rw[Zj (ltH c _ q)];exact q) λc xs q=>by rw[Zj (ltH c _ q)];exact q
def Sq (l:Bool)(K:TQ)(H:Hp)(t:Addr)(xs:TV):Prop:=cond l (SqL K H t xs) (SqT K H t xs)
theorem T6 {t:Addr}(I:Inv X pins σ H s)(h:Sq l X.K H t xs):∃ us:List Value,Vals xs us/\Iq l s.heap t us.toArray:=by
 cases l
 ·obtain⟨u,v,p,_⟩:=I.tuple h;exact⟨u,v,p⟩
 obtain⟨u,v,p,_⟩:=I.list h;exact⟨u,v,p.isList⟩
theorem Z12 {t:Addr}(I:Inv X pins σ H s)(h:Sq l X.K H t xs)(h':Sq l X.K H t ys):xs=ys:=by
 cases l
 ·exact I.tuple_inj h h'
 exact I.list_inj h h'
theorem Z2a {t:Addr}(h:Sq l K H t xs):(∃ u,Rd H t u) \/ ∃ o,K.lookup t=some o:=by
 cases l
 ·rcases h with h | ⟨o,its,n,h,_⟩
  ·exact .inl ⟨_,h⟩
  exact .inr ⟨o,h⟩
 rcases h with h | ⟨o,its,n,h,_⟩
 ·exact .inl ⟨_,h⟩
 exact .inr ⟨o,h⟩
theorem Z0k {t:Addr}(I:Inv X pins σ H s)(hf:FpOk X pins H b)(h:Sq l X.K H t xs):t≠b:=by
 rintro rfl;rcases Z2a h with ⟨u,h | ⟨o,h⟩⟩ | ⟨o,h⟩
 ·rw[hf.1] at h;cases h
 ·rw[hf.1] at h;cases h
 have e:=I.ok.mod.kin _ _ h;rcases hf.2.2.2.1 with z | z
 ·exact I.ok.noex _ _ e z
 exact absurd (YU (YJ (I.ok.bs _ _ e).1) z) (XX _)
theorem Fp (hf:FpOk X pins H b):(∀ x,(b,x) ∉ X.pn)/\∀ p∈X.pn,p.1≠b:=⟨λx m=>hf.2.2.2.2.2 _ (XE _ m) rfl,λp hp=>hf.2.2.2.2.2 p (XE _ hp)⟩
theorem Z0o (I:Inv X pins σ H s):∀ p∈X.pn,s.heap.get? p.1=some p.2:=λp hp=>(I.pin p (XE _ hp)).1
theorem Kn {t:Addr}(I:Inv X pins σ H s)(hc:X.calm=true)(hf:FpOk X pins H it)(hx:Sq l X.K H t xs)(us:TH) :
  Draws X.prog X.w X.A.in1 it (it::t::X.pn.map Prod.fst) us.toArray.size (λi x=>us.toArray[i]?=some x) (λi h=>Ir l h it t i/\Iq l h t us.toArray/\∀ p∈X.pn,h.get? p.1=some p.2) :=
 P4 (A:=X.A.in1) l (I.ok.hd hc) it t (Z0k I hf hx) (Fp hf).2 us.toArray
theorem Z2r {u:TH}{i:Nat}{x:Value}(v:Vals xs u)(lx:i<xs.length)(px:u.toArray[i]?=some x):∃ x0,xs[i]?=some x0/\RelV x0 x:=by
 obtain⟨x1,ex1,rx⟩:=v.get (i:=i) (x:=xs[i]) (by simp[lx]);rw[qf,ex1] at px
 cases px;exact⟨_,by simp[lx],rx⟩
theorem Z2l {p:Addr}{u:HO}(hp:p=s.heap.objs.size)(hf:∀ b∈ch,FpOk X pins H b)(ob:∀ b∈ch,∃ o,s.heap.get? b=some o/\∀ v,o.data≠.cell v):∀ b∈ch,upd H p u b=none:=λb hb=>by
 obtain⟨o,e,_⟩:=ob b hb;rw[Zj (by rw[hp];exact XM (YJ e))];exact (hf b hb).1
end
section
variable {X:Cx}{b:Expr}
theorem Z24 {σ:L2.St}{ch:List Nat}(I:Inv X pins σ H s)(h:∀ b∈ch,s.heap.objs.size<=b):∀ b∈ch,FpOk X pins H b:=λb hb=>I.fpOk (h b hb) (I.hok.fresh (h b hb))
end
end Sb
namespace Sb
open PySem L2
structure Ext (H H':Hp):Prop where
 tup:∀ b xs,H b=some (.tup xs)->H' b=some (.tup xs)
 frz:∀ b o u,H b=some (.frz o u)->H' b=some (.frz o u)
theorem Ext.trans (a:Ext H H1)(b:Ext H1 H2):Ext H H2:=⟨λc xs h=>b.tup c xs (a.tup c xs h),λc o u h=>b.frz c o u (a.frz c o u h)⟩
theorem Ext.same (x:Same H H'):Ext H H':=⟨λb _ h=>x b _ h,λb _ _ h=>x b _ h⟩
theorem Ext.x {a:Addr}(x:SameX a H H')(ha:H a=some (.lst ys)):Ext H H' :=
 ⟨λb _ h=>x b _ h (Z0r h ha (by intro z;cases z)),λb _ _ h=>x b _ h (Z0r h ha (by intro z;cases z))⟩
theorem Ext.bag {a:Addr}{n:Nat}(x:SameX a H H')(ha:BagAt H a n):Ext H H':=by
 obtain⟨ys,e⟩:=ha.lst;exact Ext.x x e
theorem Ext.upd {l:Addr}{H:Hp}{ys:TV}{o:HO}(hl:H l=some (.lst ys)):Ext H (L2.upd H l o):=Ext.x (SameX.upd l H o) hl
theorem Ext.new {l:Addr}{H:Hp}{o:HO}(hl:H l=none):Ext H (L2.upd H l o):=Ext.same (Same.new hl)
theorem Ext.sq {a:Addr}(e:Ext H H')(h:SqT K H a xs):SqT K H' a xs:=by
 rcases h with (h | ⟨o,h⟩) | h
 ·exact .inl (.inl (e.tup _ _ h))
 ·exact .inl (.inr ⟨o,e.frz _ _ _ h⟩)
 exact .inr h
abbrev Rat:=Int × Int
abbrev _root_.TW:=List Rat
def IsR (K:TQ)(H:Hp)(r:Rat)(v:V):Prop:=∃ b,v=.ref b/\SqT K H b [.int r.1,.int r.2]
theorem IsR.ext {r:Rat}{v:V}(h:IsR K H r v)(e:Ext H H'):IsR K H' r v:=by
 obtain⟨b,q,h⟩:=h;exact⟨b,q,e.sq h⟩
def Rs (K:TQ)(H:Hp)(rs:TW)(xs:TV):Prop:=Paired (IsR K H) rs xs
theorem Rs.ext {K:TQ}{H H':Hp}{rs:TW}{xs:TV}(h:Rs K H rs xs)(e:Ext H H'):Rs K H' rs xs:=Paired.mapP h λ_ _ q=>q.ext e
theorem Rs.snoc {K:TQ}{H:Hp}{rs:TW}{xs:TV}{r:Rat}{v:V}(h:Rs K H rs xs)(q:IsR K H r v):Rs K H (rs++[r]) (xs++[v]):=Paired.snoc h q
theorem Rs.len {rs:TW}(h:Rs K H rs xs):rs.length=xs.length:=qO h
theorem Rs.at {K:TQ}{H:Hp}:∀ {rs:TW} {xs:TV} {i:Nat} {r:Rat},Rs K H rs xs->rs[i]?=some r->∃ v,xs[i]?=some v/\IsR K H r v
 | _,_,_,_,.nil,e=>by simp at e
 | _,_,0,_,.cons q _,e=>by
  simp at e;subst e;exact⟨_,rfl,q⟩
 | _,_,i+1,r,.cons _ t,e=>by
  obtain⟨v,h1,h2⟩:=Rs.at (i:=i) (r:=r) t (by simpa using e);exact⟨v,by simpa using h1,h2⟩
def RowAt (K:TQ)(H:Hp)(a:Addr)(rs:TW):Prop:=∃ xs,SqT K H a xs/\Rs K H rs xs
theorem RowAt.ext {K:TQ}{H H':Hp}{a:Addr}{rs:TW}(h:RowAt K H a rs)(e:Ext H H'):RowAt K H' a rs:=by
 obtain⟨xs,h1,h2⟩:=h;exact⟨xs,e.sq h1,h2.ext e⟩
structure Good (n:Nat)(r:Rat):Prop where
 b1:Bd n r.1
 b2:Bd n r.2
 pos:0<r.2
 cop:Int.gcd r.1 r.2=1
def nrm (p q:Int):Rat:=(nT p q,nB p q)
end Sb
namespace Sb
open PySem PySem.Spec PyProof.Rows L2
set_option maxRecDepth 100000
section
variable {X:Cx}{K:TQ}
theorem Z29 (ns ms:TU):((List.range (min ns.length ms.length)).all (λj=>ns.getD j 0 == ms.getD j 0) && ns.length == ms.length)=decide (ns=ms):=by
 rw[GS];simp only [JP,GG,qC,qP,GZ];constructor
 ·rintro ⟨h,hl⟩;refine Y0u hl λi h1 h2=>?_;have:=h i U
  simpa [List.getD,h1,h2] using this
 rintro rfl;exact⟨λ_ _=>rfl,rfl⟩
theorem Ki (r:Vals (ns.map V.int) us){j:Nat}(h:j<us.length):∃ t,us[j]=Value.int (ns.getD j 0) t:=by
 have hl:=r.length;rw[YB] at hl;have hj:j<ns.length:=U
 obtain⟨u,e,q⟩:=r.get (i:=j) (show (ns.map V.int)[j]?=some (V.int ns[j]) by simp[hj]);obtain⟨t,rfl⟩:=q;have e2:us[j]?=some us[j]:=by simp[h]
 rw[e2] at e;refine⟨t,?_⟩;rw[XH e];simp[List.getD,hj]
theorem Z1k (h:X.K=K:=by rfl):OpR X (compareOp .In) (rIn K false):=h ▸ U8
end
end Sb
namespace Sb
open PySem L2
def evI (c:Nat)(p:Nat->Bool):List Int:=((List.range c).filter p).map λ(w:Nat)=>(w:Int)
def EvAt (K:TQ)(H:Hp)(c:Nat)(o:Option (Nat->Bool))(v:V):Prop:=match o with
 | none=>v=.non
 | some p=>∃ a,v=.ref a/\SqT K H a ((evI c p).map V.int)
theorem Dk {c A B:Prop}[Decidable c](hc:¬ c)(h:B):if decide c=true then A else B:=by rw[XI hc];exact Yb h
theorem Y7 {b:Bool}{A B:Prop}(h1:b=true->A)(h0:b=false->B):if b=true then A else B:=by
 cases b with
 | true=>exact Xq (h1 rfl)
 | false=>exact Yb (h0 rfl)
theorem C8 {i:Nat}(h:i<=xs.length):cutV xs none (some (i:Int))=xs.take i:=by
 unfold cutV;rw[HT.sIx_none,HT.sIx_nat,JQ h];simp
theorem Vj {i:Nat}(h:i<=xs.length):cutV xs (some (i:Int)) none=xs.drop i:=by
 unfold cutV;rw[HT.sIx_none,HT.sIx_nat,JQ h,JF J8]
theorem Yc {a:Addr}(e:Same H H')(h:SqL K H a xs):SqL K H' a xs:=by
 rcases h with (h | ⟨o,h⟩) | h
 ·exact .inl (.inl (e _ _ h))
 ·exact .inl (.inr ⟨o,e _ _ h⟩)
 exact .inr h
end Sb
namespace Sb
open PySem PySem.Spec PyProof.Rows L2
abbrev bmV:List Value:=[.type "ValueError",.type "Exception",.type "BaseException",.type "object"]
theorem N9 {P:TR}{w:World}{H:Hp}{h:Heap}{a:Addr}{o:HO}(x:ObjOk P w H h a o):∃ ob,h.get? a=some ob:=by
 cases o with
 | lst xs=>obtain⟨_,_,_,_,e⟩:=x;exact⟨_,e⟩
 | tup xs=>obtain⟨_,_,_,ob,e,_⟩:=x;exact⟨_,e⟩
 | dK kvs=>obtain⟨_,_,_,_,ob,_,_,e,_⟩:=x;exact⟨_,e⟩
 | dT kvs=>obtain⟨_,_,_,_,ob,_,_,e,_⟩:=x;exact⟨_,e⟩
 | set S n=>obtain⟨ob,_,_,_,e,_⟩:=x;exact⟨_,e⟩
 | ins C dx fs=>obtain⟨_,_,_,e,_⟩:=x;exact⟨_,e⟩
 | own y=>obtain⟨_,e⟩:=x;exact⟨_,e⟩
 | xd fs=>obtain⟨_,⟨_,_,_,e,_⟩,_⟩:=x;exact⟨_,e⟩
 | rng lo hi=>obtain⟨_,_,_,e⟩:=x;exact⟨_,e⟩
 | frz ob u=>obtain⟨e,_⟩:=x;exact⟨_,e⟩
 | tbl ps=>exact⟨_,(show h.get? a=some _ from x)⟩
 | met f y=>exact⟨_,(show h.get? a=some _ from x)⟩
 | ext φ=>obtain⟨_,e,_⟩:=x;exact e
theorem Md {P:TR}{w:World}{fs:TJ}{h0 h1 h2 B:Heap}(u:Un fs [] H H' h0 h1)(hB:∀ b o,h0.get? b=some o->b ∉ fs->(∃ o',B.get? b=some o')/\(H b=none->B.get? b=some o))(st:B.StaysIn h2)(up:h1.UpToSlots h2)
  (nf:∀ b∈fs,∃ o,h1.get? b=some o/\∀ vs,o.data≠.fields vs):Un fs [] H H' h0 h2 where
 keep:=λb o e n hf _=>st b o ((hB b o e hf).2 n)
 slot:=λb o e n hf hx=>by
  obtain⟨sl,e1⟩:=u.slot b o e n hf hx;obtain⟨o1,e2,d⟩:=nf b hf;rw[e1] at e2
  cases e2;obtain⟨sl2,e3⟩:=up b _ e1 d;exact⟨sl2,e3⟩
 free:=u.free
 there:=λb o e hx=>by
  by_cases hf:b∈fs
  ·obtain⟨o1,e2,d⟩:=nf b hf;obtain⟨sl,e3⟩:=up b _ e2 d;exact⟨_,e3⟩
  obtain⟨o',e'⟩:=(hB b o e hf).1;exact⟨o',st b o' e'⟩
 tups:=u.tups
 frzs:=u.frzs
 tbls:=u.tbls
structure CatchBy (K:TQ)(C D:Addr):Prop where
 nt:W.instIn K (.ref D) (.type "tuple")=some false
 be:W.subIn K (.ref D) (.type "BaseException")=some true
 it:W.kitOne K (.type "int") (.ref D)=some false
 sub:W.subIn K (.ref C) (.ref D)=some true
theorem CatchBy.cls (c:CatchBy K C D):W.kitCls K (.type "int") (.ref D)=some false:=by
 have e:=c.it;unfold W.kitOne at e;rw[XQ (by intro z;cases (qP.mp z))] at e;exact e
theorem Nv {M:Model}{e:Addr}{g:Array GenState}{d:Drawn}{tk:Nat}{os:OsState}{Q:Bool->Shared->Prop}(X:K.In h)(c:CatchBy K C D)
  (he:h.get? e=some oe) (hc:oe.cls=.ref C) (q:Q true ⟨h,g,d,tk,os⟩):wpAny M A (excMatches (.ref e) (.ref D)) Q E ⟨h,g,d,tk,os⟩:=by
 obtain⟨_,l2,_⟩:=W.kit_cls (M:=M) X c.cls;have l3:=Y1b (M:=M) X c.sub;have l1:=W.looks_instIn (M:=M) X c.nt;have l4:=Y1b (M:=M) X c.be;unfold excMatches;refine YA (l1.at ?_);simp only [GE,zi];refine YA (YE ?_);simp only [qd,zv];unfold isExcClass;refine YA (YA (YA (YA (l2.at ?_))));simp only [zP];refine l4.at ?_;simp only [Y1c,GE,zi];refine YE ?_;refine YE ?_;refine YA ?_;refine W.Looks.at (r:=Value.ref C) ?_ ?_
 ·exact hc ▸ (W.Looks.ld he).andThen .now
 refine YA (YA (YA (l3.at ?_)));simp only [zP]
 repeat (first | exact q | refine YE ?_ | refine YA ?_)
section
variable {sp:Sp}{t:TA}{EX:L2.St->XK}
def tUseX (sp:Sp)(EX:L2.St->XK)(t:TA):TE:=λσ H Q=>t σ H λvs H1=>sp vs H1 Q (EX σ)
end
abbrev tryCx (X:Cx)(pn:TD)(E:TC):Cx:={ X with pn:=pn,xe:=E }
abbrev sutCx (X:Cx)(a:Addr)(pn:TD)(E:TC):Cx:={ X with A:=X.A.mark (some (.ref a)),calm:=false,pn:=pn,xe:=E }
section
variable {X:Cx}{pins pins' pn:TD}{σ:L2.St}{H:Hp}{s:Shared}{E:TC}{a:Addr}
theorem Z1n (ok:X.Ok)(hp:∀ p∈X.pn,p∈pn):(tryCx X pn E).Ok:=⟨ok.mod,ok.kind,ok.glob,ok.blt,ok.above,ok.inj,ok.has,ok.cab,(λhc=>(ok.hd hc).sub hp),ok.frames,ok.stk,ok.exf,ok.bs,ok.bsz,ok.noex,ok.exfs,ok.funs,ok.frf,ok.seen,ok.dpt⟩
theorem Z1o (ok:X.Ok):(sutCx X a pn E).Ok:=⟨ok.mod,ok.kind,ok.glob,ok.blt,ok.above,ok.inj,ok.has,ok.cab,(λz=>nomatch z),ok.frames,ok.stk,ok.exf,ok.bs,ok.bsz,ok.noex,ok.exfs,ok.funs,ok.frf,ok.seen,ok.dpt⟩
theorem Bw (I:Inv X pins σ H s):Inv (tryCx X (X.pn++pins) E) [] σ H s :=
 ⟨Z1n I.ok (λp hp=>XE _ hp),I.os,I.bare,I.base,I.loc,I.cell,I.free,I.freeC,λp hp=>I.pin p (by simpa using hp),I.hok,I.len⟩
theorem Wf (ok:X.Ok)(I:Inv (tryCx X (X.pn++pins) E) pins' σ H s):Inv X pins σ H s :=
 ⟨ok,I.os,I.bare,I.base,I.loc,I.cell,I.free,I.freeC,λp hp=>I.pin p (XE _ hp),I.hok,I.len⟩
theorem Kg (I:Inv X pins σ H s):Inv (sutCx X a (X.pn++pins) E) [] σ H s :=
 ⟨Z1o I.ok,I.os,I.bare,I.base,I.loc,I.cell,I.free,I.freeC,λp hp=>I.pin p (by simpa using hp),I.hok,I.len⟩
theorem Vb (ok:X.Ok)(I:Inv (sutCx X a (X.pn++pins) E) pins' σ H s):Inv X pins σ H s :=
 ⟨ok,I.os,I.bare,I.base,I.loc,I.cell,I.free,I.freeC,λp hp=>I.pin p (XE _ hp),I.hok,I.len⟩
theorem F8 {D:Ends}{f:Flow}{s':Shared}(ok:X.Ok)(h:SP (tryCx X (X.pn++pins) E) pins' D f s'):SP X pins D f s':=by
 cases f with
 | next=>obtain⟨σ',H',I,q⟩:=h;exact⟨σ',H',Wf ok I,q⟩
 | brk=>obtain⟨σ',H',I,q⟩:=h;exact⟨σ',H',Wf ok I,q⟩
 | cont=>obtain⟨σ',H',I,q⟩:=h;exact⟨σ',H',Wf ok I,q⟩
 | ret u=>obtain⟨v,σ',H',I,r,q⟩:=h;exact⟨v,σ',H',Wf ok I,r,q⟩
end
open PySem.W (Looks findIn specialIn takesIn mroIn clsIn InstAt findObj KitX)
structure ExcRead (K:TQ)(C:Addr):Prop where
 ga:findIn K (.ref C) "__getattribute__"=some (some (.builtin "BaseException.__getattribute__"))
 gh:findIn K (.ref C) "__getattr__"=some none
 cl:findIn K (.ref C) "__class__"=some (some (.builtin "object.__class__"))
 gt:specialIn K (.builtin "object.__class__") "__get__"=some (some (.builtin "getset_descriptor.__get__"))
 tk:takesIn K (.builtin "object.__class__")=some true
 mo:mroIn K C (.type "object")=some true
 be:W.subIn K (.ref C) (.type "BaseException")=some true
def ExAt (h:Heap)(x C:Addr):Prop:=∃ ox,h.get? x=some ox/\ox.cls=.ref C
theorem ExAt.type {M:Model}{x:Addr}(I:ExAt h x C):Looks M h (typeOf (.ref x)) (.ref C):=by
 obtain⟨ox,e,c⟩:=I;rw[<-c];exact (Looks.ld e).andThen .now
section
variable {K:TQ}{C x:Addr}{prog:TR}{w:World}{A:Around}{E:TC}{h:Heap}{g:Array GenState}{d:Drawn}{t:Nat}{os:OsState}
theorem ExcRead.find {M:Model}(R:ExcRead K C)(X:K.In h):Looks M h (Builtin.ObjectAttr.find (.ref x) (.ref C) "__class__") (.bind (.builtin "getset_descriptor.__get__") (.builtin "object.__class__")):=by
 have l1:=qo (M:=M) X R.cl;have l2:Looks M h (Builtin.ObjectAttr.getOf (some (.builtin "object.__class__"))) (some (.builtin "getset_descriptor.__get__")):=W.looks_specialIn (M:=M) X R.gt;have l3:=W.looks_takesIn (M:=M) X R.tk;have l4:Looks M h (Builtin.ObjectAttr.dataDescriptor? (some (.builtin "object.__class__")) (some (.builtin "getset_descriptor.__get__"))) (some (.builtin "getset_descriptor.__get__",.builtin "object.__class__")):=l3.andThen .now;exact l1.andThen (l2.andThen (l4.andThen (Looks.tag .now)))
theorem Z04 {tp:Value}{R':Result->Shared->Prop}(R:ExcRead K C)(X:K.In h)(I:ExAt h x C)(hq:R' (.ok (.ret (.ref C))) ⟨h,g,d,t,os⟩) :
  codeAny (model prog w) A (.call (.builtin "getset_descriptor.__get__") ⟨[.builtin "object.__class__",.ref x,tp],[]⟩) R' ⟨h,g,d,t,os⟩:=by
 have lt:=I.type (M:=model prog w);have lm:=W.looks_mroIn (M:=model prog w) X R.mo;have ty:(⟨h,g,d,t,os⟩:Shared).TypeIs (.builtin "object.__class__") "getset_descriptor":=W.KF.type_class;refine GO (s:=⟨h,g,d,t,os⟩) W.KF.slot_gs.plain W.KF.entry_gs ?_;refine W.KF.slot_gs.check _ _ _ _ _ _ _ _ ty (W.KF.args_gs _ _ _) ?_;unfold Builtin.«getset_descriptor.__get__»;unfold Builtin.Getset_descriptor.descrGet;rw[W.dga_obj];apply YA;apply YE;unfold Builtin.Getset_descriptor.descrGetter Builtin.Getset_descriptor.descrCheckInstance;unfold Builtin.Getset_descriptor.descrNameAndClass isInstance;simp only [W.KF.owner_class]
 repeat lk
 refine⟨?_,?_⟩
 ·exact z9 _ J9
 refine GP W.KF.entry_class ?_;unfold Builtin.«object.__class__»;unfold shownTypeOf
 repeat lk
 exact hq
theorem Gg {tk:Tok}{Q:Fin->Shared->Prop}(R:ExcRead K C)(X:K.In h)(I:ExAt h x C)(hq:Q (.done (.ret (.ref C))) ⟨h,g,d,t,os⟩) :
  wpAny (model prog w) A (Builtin.«object.__getattribute__» ⟨[.ref x,.str "__class__" tk],[]⟩) Q E ⟨h,g,d,t,os⟩:=by
 have L0:=I.type (M:=model prog w);have L1:=R.find (M:=model prog w) (x:=x) X;refine YA (YE (YA (YE (YA (L0.at (YA (L1.at ?_)))))));show wpAny _ _ (holding [.builtin "object.__class__"] (call (.builtin "getset_descriptor.__get__") [.builtin "object.__class__",.ref x,.ref C]) >>= ret) _ _ _;refine YA (XO (z3 (Z04 R X I ?_)));exact YE hq
theorem Rw {M:Model}{nv:Value}{Q:Unit->Shared->Prop}(R:ExcRead K C)(X:K.In h)(I:ExAt h x C)(hq:Q () ⟨h,g,d,t,os⟩):wpAny M A (checkBuiltinCall "BaseException.__getattribute__" ⟨[.ref x,nv],[]⟩) Q E ⟨h,g,d,t,os⟩:=by
 have L0:=I.type (M:=M);have L1:=Y1b (M:=M) X R.be;have hk:builtinKind "BaseException.__getattribute__"=some .slot:=J9
 have hs:splitId "BaseException.__getattribute__"=some ("BaseException","__getattribute__"):=J9
 have ha:=F.args_bexc_ga (.ref x) nv;simp only [checkBuiltinCall,hk,hs];refine YA ((show Looks M h (isInstance (.ref x) (.type "BaseException")) true from L0.andThen L1).at ?_)
 repeat (first | assumption | wp_step)
theorem Dx {tk:Tok}{R':Result->Shared->Prop}(R:ExcRead K C)(X:K.In h)(I:ExAt h x C)(hq:R' (.ok (.ret (.ref C))) ⟨h,g,d,t,os⟩) :
  codeAny (model prog w) A (.call (.builtin "BaseException.__getattribute__") ⟨[.ref x,.str "__class__" tk],[]⟩) R' ⟨h,g,d,t,os⟩ :=
 GO qX.ga.plain F.entry_bexc_ga (Rw R X I (Gg R X I hq))
theorem Gh {Q:Option Value->Shared->Prop}(R:ExcRead K C)(X:K.In h)(I:ExAt h x C)(hq:Q (some (.ref C)) ⟨h,g,d,t+1,os⟩):wpAny (model prog w) A (getAttr? (.ref x) "__class__") Q E ⟨h,g,d,t,os⟩:=by
 have L0:=I.type (M:=model prog w);have L1:=qo (M:=model prog w) X R.ga;have L2:=qo (M:=model prog w) X R.gh;have f3:=qX.ga.bind (.ref x);have e2:(onTheHeap (Value.ref C) && Value.builtin "BaseException.__getattribute__" == Value.builtin "object.__getattribute__")=false:=by
  show (true && (Value.builtin "BaseException.__getattribute__" == Value.builtin "object.__getattribute__"))=false
  decide +kernel
 unfold getAttr? getAttrBy? getAttrBy;refine YA (wpAny_mkText (YA (GR (XO (YA (L0.at (YA (L1.at ?_))))))));show wpAny _ _ (if (onTheHeap (Value.ref C) && Value.builtin "BaseException.__getattribute__" == Value.builtin "object.__getattribute__")=true then _ else _) _ _ _;rw[e2,XQ XB];unfold getAttrByItsOwn;refine YA ((show Looks (model prog w) h (hookBefore (.ref C)) none from L2).at ?_);refine YA (GR (XO ?_));show wpAny _ _ (boundAndCalled (.builtin "BaseException.__getattribute__") (.ref x) _) _ _ _;unfold boundAndCalled;rw[f3];refine YA (YE ?_);refine z3 (Dx R X I ?_);exact YE (YE hq)
theorem Nk (R:ExcRead K C):KitX K (.ref x) (.ref C) (λh=>ExAt h x C) where
 ty:=λ_ _ _ I=>I.type
 it:=λ_ _ X _=>by
  have e:=R.mo;unfold mroIn at e;obtain⟨cd,hc,_⟩:=Y0v.mp e;unfold clsIn at hc;split at hc
  ·rename_i ho
   intro A' Q' E' s' k q;unfold isType loadHead;exact YA (wpAny_loadPart (k _ _ (X _ _ ho)) (YE q))
  cases hc
 ne:=λh tp dd its n sl X htp=>by
  have e:=R.mo;unfold mroIn at e;obtain⟨cd,hc,_⟩:=Y0v.mp e;refine Bool.eq_false_iff.mpr λz=>?_
  cases Value.ref.inj (qP.mp z);unfold clsIn at hc;split at hc
  ·rename_i ho
   have z:=(X _ _ ho).symm.trans htp
   cases z
  cases hc
 ca:=λ{_ _ _ _ _ s} X I k=>by
  obtain⟨h,g,d,t,os⟩:=s;exact Gh R X I k
end
section
variable {X:Cx}{pins:TD}{σ:L2.St}{H:Hp}{s:Shared}
theorem Rr {a:Addr}{o:HO}(I:Inv X pins σ H s)(hn:H a=none)(ok:ObjOk X.prog X.w (upd H a o) s.heap a o)(h0:∀ ob,X.s₀.heap.get? a=some ob->False)(hl:a≠X.env.locals)(hc:∀ x c,X.env.cells.lookup x=some c->c≠a)(hp:∀ p∈X.pn++pins,p.1≠a):Inv X pins σ (upd H a o) s where
 ok:=I.ok
 os:=I.os
 bare:=I.bare
 base:=by
  have u:=I.base;exact⟨u.keep,u.slot,λb ob e n hx=>by rw[Zj (show b≠a from λz=>h0 ob (by rw[<-z];exact e))];exact u.free b ob e n hx,u.there,λb xs e=>by
   have:=u.tups b xs e;rw[Zj (λz=>by rw[z,hn] at this;cases this)];exact this,λb ob v e=>by
   have:=u.frzs b ob v e;rw[Zj (λz=>by rw[z,hn] at this;cases this)];exact this,λb ps e=>by
   obtain⟨m,this⟩:=u.tbls b ps e;exact⟨m,by rw[Zj (λz=>by rw[z,hn] at this;cases this)];exact this⟩⟩
 loc:=I.loc
 cell:=I.cell
 free:=by rw[Zj hl.symm];exact I.free
 freeC:=λx c e=>by rw[Zj (hc x c e)];exact I.freeC x c e
 pin:=λp q=>by
  obtain⟨h1,h2,h3⟩:=I.pin p q;exact⟨h1,by rw[Zj (hp p q)];exact h2,h3⟩
 hok:=λb ob e=>by
  by_cases z:b=a
  ·subst z;rw[Z5] at e
   cases e;exact ok
  rw[Zj z] at e;exact (I.hok b ob e).stay (λc u _ q=>q) (λc q=>by rw[Zj (λz=>by rw[z,hn] at q;cases q)];exact q) λc xs q=>by rw[Zj (λz=>by rw[z,hn] at q;cases q)];exact q
 len:=I.len
theorem Dl {i:Nat}{n:Str}{v:Option Value}{m:TB}(I:Inv X pins σ H s)(hi:X.N[i]?=some n)(hN:X.N.Nodup)(hk:X.env.kindOf n=some .local)(hm:∀ (j:Nat) (x:Str) (w:V),X.N[j]?=some x->σ[j]?=some (some w)->Vis X.env.scope x->∃ u,RelV w u/\Look X.env s.heap m x u)
  (hn:h'.Ns X.env.locals (λx=>if x=n then v else m x)) (sb:Heap.SameBut X.env.locals s.heap h') (tk:Nat):Inv X pins (σ.set i none) H { s with heap:=h',toks:=tk } where
 ok:=I.ok
 os:=I.os
 bare:=I.bare
 base:=by
  have u:=I.base;have k:∀ b o,b≠X.env.locals->s.heap.get? b=some o->h'.get? b=some o:=λb o hb e=>(sb.2 b hb).trans e;have nl:∀ b o,X.s₀.heap.get? b=some o->b≠X.env.locals:=λb o e z=>by
   rw[z] at e;exact absurd (YU (YJ e) I.ok.above) (XX _)
  exact⟨λb o e n1 f x=>k b o (nl b o e) (u.keep b o e n1 f x),λb o e n1 f x=>by
    obtain⟨sl,q⟩:=u.slot b o e n1 f x;exact⟨sl,k b _ (nl b o e) q⟩,u.free,λb o e x=>by
    obtain⟨o',q⟩:=u.there b o e x;exact⟨o',k b _ (nl b o e) q⟩,u.tups,u.frzs,u.tbls⟩
 loc:=⟨_,hn,λj x w e1 e2 e3=>by
  have hj:j≠i:=by
   rintro rfl;have:j<σ.length:=by
    have:=(XS.mp e2).1
    simpa using this
   rw[qY this] at e2
   cases e2
  rw[zu (JZ hj)] at e2;obtain⟨u,ru,lk⟩:=hm j x w e1 e2 e3;refine⟨u,ru,?_⟩;have hx:x≠n:=by
   rintro rfl;exact hj (Tt hN e1 hi)
  rcases lk with ⟨z,q⟩ | ⟨z,c,hc,ic⟩
  ·exact .inl ⟨z,by show (if x=n then v else m x)=some u;rw[XQ hx];exact q⟩
  refine .inr ⟨z,c,hc,?_⟩;obtain⟨o,ho,hd⟩:=ic;have cl:c≠X.env.locals:=by
   rintro rfl;obtain⟨oo,es,ep,e,d,_⟩:=hn;obtain⟨m0,⟨oo',es',ep',e',d',_⟩,_⟩:=I.loc;rw[ho] at e'
   cases e';rw[hd] at d'
   cases d'
  exact⟨o,(sb.2 c cl).trans ho,hd⟩⟩
 cell:=λx c e=>by
  obtain⟨v',o,ho,hd⟩:=I.cell x c e;have cl:c≠X.env.locals:=by
   rintro rfl;obtain⟨m0,⟨oo',es',ep',e',d',_⟩,_⟩:=I.loc;rw[ho] at e'
   cases e';rw[hd] at d'
   cases d'
  exact⟨v',o,(sb.2 c cl).trans ho,hd⟩
 free:=I.free
 freeC:=I.freeC
 pin:=λp q=>by
  obtain⟨h1,h2,h3,h4⟩:=I.pin p q;exact⟨(sb.2 p.1 h3).trans h1,h2,h3,h4⟩
 hok:=λb ob e=>(I.hok b ob e).stay (λc u hc q=>by
  have:c≠X.env.locals:=by
   rintro rfl;rcases hc with rfl | hc
   ·rw[I.free] at e;cases e
   rw[I.free] at hc;cases hc
  exact (sb.2 c this).trans q) (λ_ q=>q) λ_ _ q=>q
 len:=by rw[ji];exact I.len
end
section
variable {i:Nat}
def unN (i:Nat)(Ds:Ends):Ends:={ nx:=λσ H=>Ds.nx (σ.set i none) H,rt:=Ds.rt,bk:=λσ H=>Ds.bk (σ.set i none) H,ct:=λσ H=>Ds.ct (σ.set i none) H }
end
def flatE:V->Bool
 | .non | .bl _ | .int _ | .str _ | .ref _=>true
 | _=>false
def EqU (K:TQ)(H:Hp):Nat->V->V->Prop
 | 0,x,y=>x=y/\flatE x=true
 | n+1,x,y=>(x=y/\flatE x=true) \/ ∃ (a b:Addr) (xs ys:TV),x=.ref a/\y=.ref b/\((SqL K H a xs/\SqL K H b ys) \/ (SqT K H a xs/\SqT K H b ys))/\Paired (EqU K H n) xs ys
theorem EqU.flat {K:TQ}{H:Hp}{n:Nat}{x:V}(h:flatE x=true):EqU K H n x x:=by
 cases n with
 | zero=>exact⟨rfl,h⟩
 | succ n=>exact .inl ⟨rfl,h⟩
theorem Paired.getB {α β:Type}{R:α->β->Prop}:∀ {xs:List α} {ys:List β} {i:Nat} {x:α} {y:β},Paired R xs ys->xs[i]?=some x->ys[i]?=some y->R x y
 | _,_,_,_,_,.nil,e,_=>by simp at e
 | _,_,0,_,_,.cons q _,e,e'=>by
  simp at e e';subst e e';exact q
 | _,_,i+1,x,y,.cons _ t,e,e'=>Paired.getB (i:=i) t (by simpa using e) (by simpa using e')
section
variable {X:Cx}{pins:TD}{σ:L2.St}{H:Hp}{s:Shared}{K:TQ}
theorem Rx {A:Around}{x:V}{u v:Value}(h:flatE x=true)(ru:RelV x u)(rv:RelV x v):SeqAt.EqAt A s u v true:=by
 cases x with
 | non=>cases ru;cases rv;exact qH _
 | bl b=>cases ru;cases rv;exact qH _
 | int i =>
  obtain⟨t,rfl⟩:=ru;obtain⟨t',rfl⟩:=rv;have:=Y03 (A:=A) (s:=s) i t i t'
  rwa [ql] at this
 | str z =>
  obtain⟨t,rfl⟩:=ru;obtain⟨t',rfl⟩:=rv;have:=Y04 (A:=A) (s:=s) z t z t'
  rwa [ql] at this
 | ref a=>cases ru;cases rv;exact qH _
 | byt b=>cases h
 | flt b=>cases h
 | ty b=>cases h
theorem U2 (n:Nat):(List.range n).all (λ_=>true)=true:=by simp
theorem Ln (I:Inv X pins σ H s):∀ (n:Nat) (A:Around) (x y:V) (u v:Value),A.units+n<cLine->EqU X.K H n x y->RelV x u->RelV y v->SeqAt.EqAt A s u v true
 | 0,A,x,y,u,v,_,⟨e,h⟩,ru,rv=>by
  subst e;exact Rx h ru rv
 | n+1,A,x,y,u,v,hu,h,ru,rv=>by
  rcases h with ⟨e,h⟩ | ⟨a,b,xs,ys,rfl,rfl,h,p⟩
  ·subst e;exact Rx h ru rv
  cases ru
  cases rv;by_cases hab:a=b
  ·subst hab;exact qH _
  refine SeqAt.EqAt.of_refs hab ?_;have lp:=qO p;rcases h with ⟨h1,h2⟩ | ⟨h1,h2⟩
  ·obtain⟨i1,r1,p1,_⟩:=I.list h1;obtain⟨i2,r2,p2,_⟩:=I.list h2;have l1:=r1.length;have l2:=r2.length;have:=SeqAt.RcAt.lists (A:=A) (e:=λ_=>true) p1.isList p2.isList (by simp;omega) U λj h1 h2=>by
    have h1':j<i1.length:=by simpa using h1
    have h2':j<i2.length:=by simpa using h2
    obtain⟨w1,e1,q1⟩:=r1.get (i:=j) (x:=xs[j]'U) J8;obtain⟨w2,e2,q2⟩:=r2.get (i:=j) (x:=ys[j]'U) J8;have g1:i1.toArray[j]=w1:=by
     have:i1[j]?=some i1[j]:=by simp[h1']
     rw[this] at e1
     simpa using XH e1
    have g2:i2.toArray[j]=w2:=by
     have:i2[j]?=some i2[j]:=by simp[h2']
     rw[this] at e2
     simpa using XH e2
    rw[g1,g2];exact Ln I n A.in1 _ _ _ _ (by show A.units+1+n<cLine;omega) (Paired.getB p (i:=j) J8 J8) q1 q2
   rwa [U2] at this
  obtain⟨i1,r1,p1,_⟩:=I.tuple h1;obtain⟨i2,r2,p2,_⟩:=I.tuple h2;have l1:=r1.length;have l2:=r2.length;have:=Y0i (A:=A) (e:=λ_=>true) p1 p2 U λj h1 h2=>by
   have h1':j<i1.length:=by simpa using h1
   have h2':j<i2.length:=by simpa using h2
   obtain⟨w1,e1,q1⟩:=r1.get (i:=j) (x:=xs[j]'U) J8;obtain⟨w2,e2,q2⟩:=r2.get (i:=j) (x:=ys[j]'U) J8;have g1:i1.toArray[j]=w1:=by
    have:i1[j]?=some i1[j]:=by simp[h1']
    rw[this] at e1
    simpa using XH e1
   have g2:i2.toArray[j]=w2:=by
    have:i2[j]?=some i2[j]:=by simp[h2']
    rw[this] at e2
    simpa using XH e2
   rw[g1,g2];exact Ln I n A.in1 _ _ _ _ (by show A.units+1+n<cLine;omega) (Paired.getB p (i:=j) J8 J8) q1 q2
  rw[U2] at this;have e:(i1.toArray.size == i2.toArray.size)=true:=by simp;omega
  rw[e] at this;exact this
inductive rAlike (K:TQ) (ans:Bool) (x:V) (y:V) (H:Hp) (Q:VK):Prop
 | mk (n:Nat) (a b:Addr) (xs ys:TV) (zz0:x=.ref a) (zz1:y=.ref b) (zz2:n<=60) (zz3:((SqL K H a xs/\SqL K H b ys) \/ (SqT K H a xs/\SqT K H b ys))) (zz4:Paired (EqU K H n) xs ys) (zz5:Q (.bl ans) H)
theorem Up (I:Inv X pins σ H s){n:Nat}{A:Around}{xs ys:TV}{i1 i2:TH}(hu:A.units+n<cLine)(p:Paired (EqU X.K H n) xs ys)(r1:Vals xs i1)(r2:Vals ys i2)(j:Nat)(h1:j<i1.toArray.size)(h2:j<i2.toArray.size):SeqAt.EqAt A s i1.toArray[j] i2.toArray[j] true:=by
 have l1:=r1.length;have l2:=r2.length;have h1':j<i1.length:=by simpa using h1
 have h2':j<i2.length:=by simpa using h2
 obtain⟨w1,e1,q1⟩:=r1.get (i:=j) (x:=xs[j]'U) J8;obtain⟨w2,e2,q2⟩:=r2.get (i:=j) (x:=ys[j]'U) J8;have g1:i1.toArray[j]=w1:=by
  have:i1[j]?=some i1[j]:=by simp[h1']
  rw[this] at e1
  simpa using XH e1
 have g2:i2.toArray[j]=w2:=by
  have:i2[j]?=some i2[j]:=by simp[h2']
  rw[this] at e2
  simpa using XH e2
 rw[g1,g2];exact Ln I n A _ _ _ _ hu (Paired.getB p (i:=j) J8 J8) q1 q2
end
end Sb
namespace Sv
def sm:Nat->(Nat->Int)->Int
 | 0,_=>0
 | n+1,f=>sm n f+f n
theorem Pk {n:Nat}{f g:Nat->Int}(h:∀ i,i<n->f i=g i):sm n f=sm n g:=by
 induction n with
 | zero=>rfl
 | succ n ih =>
  show sm n f+f n=sm n g+g n;rw[ih λi hi=>h i U,h n U]
theorem Z14 (n:Nat)(f g:Nat->Int):sm n (λi=>f i+g i)=sm n f+sm n g:=by
 induction n with
 | zero=>rfl
 | succ n ih=>show sm n _+(f n+g n)=(sm n f+f n)+(sm n g+g n);rw[ih];omega
theorem Z13 (a:Int)(n:Nat)(f:Nat->Int):sm n (λi=>a*f i)=a*sm n f:=by
 induction n with
 | zero=>show (0:Int)=a*0;simp
 | succ n ih=>show sm n _+_=a*(sm n f+f n);rw[ih,Int.mul_add]
theorem Cr {n:Nat}{f:Nat->Int}(h:∀ i,i<n->f i=0):sm n f=0:=by
 induction n with
 | zero=>rfl
 | succ n ih=>show sm n f+f n=0;rw[ih λi hi=>h i U,h n U];rfl
theorem F9 {n k:Nat}{f:Nat->Int}(hk:k<n):sm n f=f k+sm n (λi=>if i=k then 0 else f i):=by
 induction n with
 | zero=>omega
 | succ n ih =>
  show sm n f+f n=f k+(sm n (λi=>if i=k then 0 else f i)+if n=k then 0 else f n);by_cases e:n=k
  ·subst e;rw[JD rfl,Pk (f:=λi=>if i=n then 0 else f i) (g:=f) λi hi=>XQ U];omega
  rw[XQ e,ih U];omega
theorem J4 {n:Nat}{f:Nat->Int}(h:∀ i,i<n->0<=f i):0<=sm n f:=by
 induction n with
 | zero=>exact Int.le_refl _
 | succ n ih =>
  show 0<=sm n f+f n;have:=ih λi hi=>h i U;have:=h n U;omega
theorem Z2b {n:Nat}{f g:Nat->Int}(h:∀ i,i<n->f i<=g i):sm n f<=sm n g:=by
 induction n with
 | zero=>exact Int.le_refl _
 | succ n ih =>
  show sm n f+f n<=sm n g+g n;have:=ih λi hi=>h i U;have:=h n U;omega
abbrev Vec:=Nat->Int
abbrev Mat:=Nat->Vec
def skip (k i:Nat):Nat:=if i<k then i else i+1
def sgn:Nat->Int
 | 0=>1
 | n+1=>- sgn n
def minor (v:Mat)(k:Nat):Mat:=λi r=>v (skip k i) (r+1)
def det:Nat->Mat->Int
 | 0,_=>1
 | m+1,v=>sm (m+1) (λk=>sgn k*v k 0*det m (minor v k))
def put (v:Mat)(c:Nat)(x:Vec):Mat:=λi=>if i=c then x else v i
def unskip (k c:Nat):Nat:=if c<k then c else c - 1
end Sv
namespace Sb
theorem Km {a b c:Int}(h:a ∣ b*c)(g:Int.gcd a b=1):a ∣ c:=by
 have h1:a.natAbs ∣ b.natAbs*c.natAbs:=by
  rw[<-Int.natAbs_mul];exact Y0O.mpr h
 exact Y0O.mp (Nat.Coprime.dvd_of_dvd_mul_left g h1)
theorem Mr {r s:Rat}(hr:0<r.2)(hs:0<s.2)(cr:Int.gcd r.1 r.2=1)(cs:Int.gcd s.1 s.2=1)(h:r.1*s.2=s.1*r.2):r=s:=by
 have d1:r.2 ∣ s.2:=by
  have:r.2 ∣ r.1*s.2:=⟨s.1,by rw[h,Y0D]⟩;exact Km this (by rw[jy];exact cr)
 have d2:s.2 ∣ r.2:=by
  have:s.2 ∣ s.1*r.2:=⟨r.1,by rw[<-h,Y0D]⟩;exact Km this (by rw[jy];exact cs)
 have e:r.2=s.2:=Int.dvd_antisymm U U d1 d2;have e1:r.1=s.1:=by
  rw[e] at h;exact Int.eq_of_mul_eq_mul_right U h
 obtain⟨a,b⟩:=r;obtain⟨c,d⟩:=s;simp only at e e1;rw[e,e1]
structure Low (r:Rat):Prop where
 pos:0<r.2
 cop:Int.gcd r.1 r.2=1
structure RepL (n:Nat)(D:Int)(Ws:TU)(rs:TW):Prop where
 pos:0<D
 bD:Bd n D
 len:Ws.length=rs.length
 at_:∀ (i:Nat) (W:Int) (r:Rat),Ws[i]?=some W->rs[i]?=some r->r.1*D=W*r.2/\Bd n W/\Low r
end Sb
namespace Sb
open PySem PySem.Spec PyProof.Rows L2
section
variable {X:Cx}
theorem Qh {i:Nat}{x:Str}{pos' spos:Pos}{elt iter:Expr}{ifs:TK}{pos:Pos}{wi:TI}{tt:TT}{k:Nat}{fv:List Nat}{ox:Option Str}
  (hXN:X.N.Nodup) (hix:X.N[i]?=some x) (hx:Loc X.env.scope x)
  (hc:X.calm=true) (hi:PI X tg iter wi) (hg:∀ cl C fp s H,PG (compCx X N scope ox cl C fp s H) tg g) (ht:∀ cl C fp s H,PTs (compCx X N scope ox cl C fp s H) ifs tt) (he:∀ cl C fp s H,PE (compCx X N scope ox cl C fp s H) elt te)
  (hw:∀ r x H Q,g x (List.replicate k none++r) H Q->g x (List.replicate k none++r) H λσ4 H4=>Q σ4 H4/\Weaker σ4 (List.replicate k none++r))
  (hN:N.length=k+fv.length:=by rfl) (hfv:fv.map (λj=>X.N[j]?)=(N.drop k).map some:=by rfl) (hk:(N.drop k).map X.env.kindOf=(N.drop k).map (λ_=>some .cell):=by rfl)
  (hfl:∀ y∈N.drop k,scope.names.lookup y=some .free:=by decide +kernel) (hfr:∀ y∈scope.names,y.2=.free->y.1∈N.drop k:=by decide +kernel)
  (hone:(scope.names.filter λy=>y.2 == .cell)=ox.toList.map (λx=>(x,.cell)):=by decide +kernel) (hx0:∀ y∈N.drop k,ox≠some y:=by decide +kernel) (hkind:scope.kind=.function:=by rfl) (hnames:∀ y∈scope.names,y.2=.local->scope.names.lookup y.1=some .local:=by decide +kernel)
  (hs:∀ x,foldedSetIterable iter X.env x=pure x:=by intro _;rfl)
  (hsw:swapsWith (.ListComp elt [⟨tg,iter,ifs,0⟩] scope pos) (some (.Name x pos')) spos.line X.env=pure true:=by rfl)
  (hf:X.fn x=true \/ X.env.scope.names.lookup x=some .local:=by first | exact .inl rfl | exact .inr rfl | assumption) :
  PS X (.Assign [.Name x pos'] (.ListComp elt [⟨tg,iter,ifs,0⟩] scope pos) spos) (tAsg (tComp wi g tt te k fv) (gName i)):=by
 intro pins s σ H D I h;have kc:∀ y∈N.drop k,X.env.kindOf y=some .cell:=λy hy=>by
  obtain⟨j,hj⟩:=zw hy;have a:=congrArg (λl=>l[j]?) hk;simp only [YQ,hj,jj] at a;exact XH a
 obtain⟨cl,hclos,h1,h2⟩:=Vd (env:=X.env) (scope:=scope) λy hy hf=>I.ok.has y.1 (.inl (kc y.1 (hfr y hy hf)));rw[exec_Assign_Name_used _ _ _ _ hsw];refine YA (qM (YA ?_));unfold evalThenUse;refine YA (Y0p (use:=some (assign (.Name x pos') X.env)) rfl hs hclos hkind hnames (thn (hi pins s σ H _ I h) λxv s1 h1'=>thn h1' λitv s2 h2'=>?_));obtain⟨it,fp,tn,J,H2,e,I2,T,st2,f2,body⟩:=h2';subst e;refine So (Q:=λv H1=>gName i v σ H1 D.nx) (RR:=λacc C=>compPost (model X.prog X.w) X.A X.xe (some (assign (.Name x pos') X.env)) _ acc C) hc hg ht he hw hN hfv hk hfl hone hx0 hkind h1 h2 I2 T st2 f2 body λDd C H' s' ⟨m,hm⟩ fpC q iv=>?_;show wpAny _ _ (assign (.Name x pos') X.env (.ref Dd)) _ _ s';have I':Inv X pins σ H' s':=iv s'.heap ⟨rfl,λ_ _=>rfl⟩;refine wpAny_assign_Name (Ra I' hXN hix hx (v:=.ref Dd) rfl (λs3 I3 ⟨a,sb,ha⟩=>⟨m,?_,λh' hs'=>?_⟩) hf)
 ·have hne:C≠a:=by
   rcases ha with rfl | ha
   ·exact fpC.2.1
   exact λz=>fpC.2.2.2.2.1 x a ha z.symm
  obtain⟨o,es,ep,ho,r⟩:=hm;exact⟨o,es,ep,by rw[sb.2 C hne];exact ho,r⟩
 refine YE (YE ?_);have I4:=Nn (ch:=[C]) (h':=h') (t':=s3.toks) I3 (λb hb=>by rw[JA.mp hb];exact fpC) λb o hb e=>by
  rw[hs'.2 b (λz=>hb (by rw[z];exact JA.mpr rfl))];exact e
 exact⟨_,H',I4,q⟩
end
end Sb
namespace Sb
open PySem L2
theorem Paired.appP {α β:Type}{R:α->β->Prop}:∀ {xs xs':List α} {ys ys':List β},Paired R xs ys->Paired R xs' ys'->Paired R (xs++xs') (ys++ys')
 | _,_,_,_,.nil,s=>s
 | _,_,_,_,.cons r t,s=>.cons r (Paired.appP t s)
end Sb
namespace Sv
structure Tab where
 b:Int
 own:Nat->Nat
 hd:Nat->Nat
 L:Nat->Nat->Int
def colOf (n:Nat)(col:Nat->Vec)(rhs:Vec)(T:Tab)(j:Nat):Vec:=if j<n then col (T.hd j) else rhs
def bas (col:Nat->Vec)(T:Tab):Mat:=λi=>col (T.own i)
structure Inv (m n:Nat)(col:Nat->Vec)(rhs:Vec)(T:Tab):Prop where
 pos:0<T.b
 dt:det m (bas col T)=T.b
 eqs:∀ j,j<=n->∀ r,r<m->T.b*colOf n col rhs T j r=sm m (λi=>T.L i j*bas col T i r)
 part:∀ f:Nat->Int,sm (n+m) f=sm m (λi=>f (T.own i))+sm n (λj=>f (T.hd j))
section
variable {T:Tab}
def newL (T:Tab)(p c i j:Nat):Int:=if i=p then (if j=c then T.b else T.L p j) else if j=c then - T.L i c else (T.L i j*T.L p c - T.L i c*T.L p j).fdiv T.b
def up (f:Nat->Nat)(i v:Nat):Nat->Nat:=λk=>if k=i then v else f k
def piv (T:Tab)(p c:Nat):Tab:=⟨T.L p c,up T.own p (T.hd c),up T.hd c (T.own p),newL T p c⟩
def ind (v:Nat):Nat->Int:=λx=>if x=v then 1 else 0
end
section
variable {m n lk i0:Nat}{col:Nat->Vec}{rhs:Vec}{T:Tab}{p c:Nat}
structure Step (m n lk i0:Nat)(T:Tab)(p c:Nat):Prop where
 hp:p<m
 hc:c<n
 nl:T.hd c≠lk
 help:0<T.L i0 c
 first:∀ j,j<n->T.hd j≠lk->0<T.L i0 j->T.hd c<=T.hd j
 el:T.own p<=lk
 key:0<T.L p c
 least:∀ i,i<m->T.own i<=lk->0<T.L i c->T.L p n*T.L i c<T.L i n*T.L p c \/ (T.L p n*T.L i c=T.L i n*T.L p c/\T.own p<=T.own i)
def Feas (m n lk:Nat)(T:Tab):Prop:=∀ i,i<m->T.own i<=lk->0<=T.L i n
structure Run (m n lk i0:Nat)(col:Nat->Vec)(rhs:Vec)(K:Nat)(S:Nat->Tab)(P C:Nat->Nat):Prop where
 h0:i0<m
 I0:Inv m n col rhs (S 0)
 F0:Feas m n lk (S 0)
 st:∀ k,k<K->Step m n lk i0 (S k) (P k) (C k)
 stay:∀ k,k<K->P k≠i0
 nx:∀ k,k<K->S (k+1)=piv (S k) (P k) (C k)
variable {K:Nat}{S:Nat->Tab}{P C:Nat->Nat}
def isOwn (m:Nat)(T:Tab)(r:Nat):Prop:=∃ i,i<m/\T.own i=r
def code (N:Nat):Nat->(Nat->Nat)->Nat
 | 0,_=>0
 | k+1,f=>code N k f+f k*N ^ k
end
section
variable {m n:Nat}{T:Tab}
def numAt (n:Nat)(T:Tab)(i v:Nat):Int:=sm n (λj=>if T.hd j=v then T.L i j else 0)
def endOf (m n:Nat)(T:Tab)(v:Nat):Int:=sm m (λi=>if T.own i=v then T.L i n else 0)
def coef (n:Nat)(T:Tab)(i v:Nat):Int:=(if v=T.own i then T.b else 0)+numAt n T i v
end
section
variable {n g:Nat}{A:Nat->Nat->Int}{pap gl:Nat->Int}
def colS (n g:Nat)(A:Nat->Nat->Int)(pap gl:Nat->Int):Nat->Vec:=λv r=>if v<n then (if r<g then A r v else if r=g then pap v else gl v) else if v - n=r then 1 else 0
def rhsS (g:Nat):Vec:=λr=>if r=g then 1 else 0
variable {T:Tab}
abbrev InvS (n g:Nat)(A:Nat->Nat->Int)(pap gl:Nat->Int)(T:Tab):Prop:=Inv (g+2) n (colS n g A pap gl) (rhsS g) T
structure Most (n g:Nat)(A:Nat->Nat->Int)(pap gl:Nat->Int)(T:Tab)(i:Nat):Prop where
 x0:∀ w,w<n->0<=endOf (g+2) n T w
 fit:∀ k,k<g->sm n (λw=>A k w*endOf (g+2) n T w)<=0
 lie:sm n (λw=>pap w*endOf (g+2) n T w)=T.b
 val:sm n (λw=>gl w*endOf (g+2) n T w)=- T.L i n
 y0:∀ k,k<g->numAt n T i (n+k)<=0
 show_:∀ w,w<n->gl w*T.b<=sm g (λk=>A k w * -numAt n T i (n+k))+pap w * -T.L i n
end
end Sv
namespace Sb
open PySem PySem.Spec PyProof.Rows L2
theorem Gk (o:Obj)(f):(o.mapFields f).dict=o.dict:=by
 obtain⟨c,d,dt,sl⟩:=o
 cases dt <;> rfl
def TrD (h B:Heap)(e:Addr)(c:Value)(dd:TN)(fl:Value):Prop :=
 ∃ (oe:Obj) (vs:Array Value) (T:Addr) (oT:Obj) (ts:Array Value),(h.get? e=some oe/\oe.cls=c/\oe.dict=dd/\oe.data=.fields vs/\vs[1]?=some (.ref T)/\vs[2]?=some .none)/\(B.get? T=none/\T≠e)/\(h.get? T=some oT/\oT.data=.fields ts/\ts[3]?=some fl)
theorem TrD.obj {B:Heap}{e:Addr}{c:Value}{fl:Value}(x:TrD h B e c dd fl):∃ oe vs,h.get? e=some oe/\oe.cls=c/\oe.dict=dd/\oe.data=.fields vs:=by
 obtain⟨oe,vs,_,_,_,⟨e1,e2,e3,e4,_⟩,_⟩:=x;exact⟨oe,vs,e1,e2,e3,e4⟩
def FlyD (B:Heap)(l:TM)(e:Addr)(c:Value)(dd:TN)(h:Heap):Prop:=B.StaysIn h/\B.get? e=none/\h.FunFrames B l/\TrD h B e c dd .none
def HeldD (B:Heap)(l:TM)(e:Addr)(c:Value)(dd:TN)(L:Addr)(h:Heap):Prop:=B.StaysIn h/\B.get? e=none/\h.FunFrames B l/\TrD h B e c dd (rawInt L)
section
variable {M:Model}{A:Around}{E:TC}{s:Shared}{B:Heap}{env:Env}{outer:TM}{L e:Addr}{c:Value}{dd:TN}{Q:Unit->Shared->Prop}
theorem C3 {vs:Array Value}{hd0:Value}{nx:Bool}(fr:A.frames=some (env::outer))(ff:s.heap.FunFrames B (env::outer))(lf:env.frame=some L)(he:s.heap.get? e=some oe)(kb:B.StaysIn s.heap)(nb:B.get? e=none)(d0:oe.data=.fields vs)(sz:1<vs.size)(hc:vs[2]?=some .none)
  (hq:∀ h',HeldD B (env::outer) e oe.cls oe.dict L h'->s.heap.UpToSlots h'->Q () { s with heap:=h' }) :
  wpAny M A (do let a <-frameOf env;let pl <-entryPlaceOf L nx;let b <-EntryCells.newEntry hd0 a .none (rawInt L) .none pl;setField (.ref e) 1 b) Q E s:=by
 have ne:e ∉ (env::outer).filterMap (·.frame):=λz=>by
  obtain⟨_,o,ho,nf⟩:=ff.mem z;rw[he] at ho
  cases ho;exact nf vs d0
 refine YA (wpAny_frameOf_fun fr ff lf λg1 so=>?_);refine YA (wpAny_entryPlaceOf λpl ip=>?_);unfold EntryCells.newEntry newFields;refine YA (GJ ?_ (ip.sizeOk5 _ _ _ _ _));have e1:g1.get? e=some oe:=(so.2.1 e ne).trans he;have kb1:B.StaysIn g1:=λb o q=>(so.2.1 b λz=>by rw[(ff.mem z).1] at q;cases q).trans (kb b o q);generalize hN:({ cls:=Value.type "traceback",dict:=none,data:=.fields ([hd0,.ref L,.none,rawInt L,.none]++(if pl.isEmpty then List.replicate 6 Value.none else pl)).toArray }:Obj)=N;have e2:=YD (h:=g1) N e1;have nT:g1.objs.size≠e:=zA (YJ e1);have d3:=qz d0 (·.setIfInBounds 1 (Value.ref g1.objs.size));have e3:=JN (Obj.mapFields (·.setIfInBounds 1 (Value.ref g1.objs.size))) e2 (zn d3);have kp:∀ b o,b≠e->g1.get? b=some o->((g1.push N).update e (Obj.mapFields (·.setIfInBounds 1 (Value.ref g1.objs.size)))).get? b=some o:=λb o q z=>by
  rw[JG _ _ (JZ q)];exact YD _ z
 have nr:∀ b o,s.heap.get? b=some o->(∀ vs,o.data≠.fields vs)->b≠e:=λb o z nf q=>by
  rw[q,he] at z
  cases z;exact nf vs d0
 refine GY e2 d0 sz (hq _ ?_ ?_)
 ·have hT:((g1.push N).update e (Obj.mapFields (·.setIfInBounds 1 (Value.ref g1.objs.size)))).get? g1.objs.size=some N:=by
   rw[JG _ _ (JZ nT)];exact YL g1 (by rw[<-hN];rfl)
  refine⟨λb o q=>kp b o (λz=>by rw[z,nb] at q;cases q) (kb1 b o q),nb,ff.of_keeps λb o z nf=>?_,?_⟩
  ·obtain⟨sl,w⟩:=so.2.2 b o z;exact⟨_,kp b _ (nr b o z nf) w,rfl⟩
  refine⟨_,_,g1.objs.size,N,([hd0,.ref L,.none,rawInt L,.none]++(if pl.isEmpty then List.replicate 6 Value.none else pl)).toArray,⟨e3,Y0e _ _,Gk _ _,d3,by simp[sz],by rw[Array.getElem?_setIfInBounds_ne J7];exact hc⟩,⟨kb1.fresh,nT⟩,hT,by rw[<-hN],?_⟩
  first | (simp;done) | (rcases ip with rfl | ⟨_,_,_,_,_,_,_,rfl⟩ <;> simp)
 intro b o z nf;obtain⟨sl,w⟩:=so.2.2 b o z;exact⟨sl,kp b _ (nr b o z nf) w⟩
theorem Kc {l:TM}{fl:Value}(kb:B.StaysIn s.heap)(nb:B.get? e=none)(ff:s.heap.FunFrames B l)(t:TrD s.heap B e c dd fl)(hq:∀ h',FlyD B l e c dd h'->s.heap.UpToSlots h'->Q () { s with heap:=h' }):wpAny M A (setFlight (.ref e) none) Q E s:=by
 obtain⟨oe,vs,T,oT,ts,⟨he,q1,q2,d0,h1⟩,⟨nT,Te⟩,hT,dT,h3⟩:=t;have sz:3<ts.size:=(JL.mp h3).1;have ot:∀ b,b≠T->(s.heap.update T (Obj.mapFields (·.setIfInBounds 3 ((none:TN).elim Value.none λf=>rawInt f)))).get? b=s.heap.get? b:=λb q=>JG _ _ (JZ q);have nr:∀ b o,s.heap.get? b=some o->(∀ vs,o.data≠.fields vs)->b≠T:=λb o z nf q=>by
  rw[q,hT] at z
  cases z;exact nf ts dT
 unfold setFlight;refine YA (XU he d0 h1.1 ?_);rw[JD J8];refine GY hT dT sz (hq _ ⟨λb o q=>(ot b λz=>by rw[z,nT] at q;cases q).trans (kb b o q),nb,ff.of_keeps λb o z nf=>⟨o,(ot b (nr b o z nf)).trans z,rfl⟩,?_⟩ λb o z nf=>⟨o.slots,(ot b (nr b o z nf)).trans z⟩);exact⟨oe,vs,T,_,_,⟨(ot e (JZ Te)).trans he,q1,q2,d0,h1⟩,⟨nT,Te⟩,JN _ hT (zn (qz dT _)),qz dT _,by simp[sz]⟩
theorem L8 {vs:Array Value}(fr:A.frames=some (env::outer))(ff:s.heap.FunFrames B (env::outer))(lf:env.frame=some L)(he:s.heap.get? e=some oe)(kb:B.StaysIn s.heap)(nb:B.get? e=none)(d0:oe.data=.fields vs)(h1:vs[1]?=some .none)(hc:vs[2]?=some .none)
  (hq:∀ h',HeldD B (env::outer) e oe.cls oe.dict L h'->s.heap.UpToSlots h'->Q () { s with heap:=h' }):wpAny M A (noteFrame (.ref e) env) Q E s:=by
 unfold noteFrame;simp only [lf];refine YA (XU he d0 h1 ?_);rw[XQ J7];exact C3 fr ff lf he kb nb d0 (JL.mp h1).1 hc hq
theorem Rn (fr:A.frames=some (env::outer))(lf:env.frame=some L)(x:FlyD B (env::outer) e c dd s.heap)(hq:∀ h',HeldD B (env::outer) e c dd L h'->s.heap.UpToSlots h'->Q () { s with heap:=h' }):wpAny M A (noteFrame (.ref e) env) Q E s:=by
 obtain⟨kb,nb,ff,oe,vs,T,oT,ts,⟨he,rfl,rfl,d0,h1⟩,⟨nT,Te⟩,hT,dT,h3⟩:=x;unfold noteFrame;simp only [lf];refine YA (XU he d0 h1.1 ?_);rw[JD J8];refine YA (XU hT dT h3 ?_);rw[XQ (by simp[rawInt])];refine YA (GY hT dT (JL.mp h3).1 ?_);have ot:∀ b,b≠T->(s.heap.update T (Obj.mapFields (·.setIfInBounds 3 Value.none))).get? b=s.heap.get? b:=λb q=>JG _ _ (JZ q);have nr:∀ b o,s.heap.get? b=some o->(∀ vs,o.data≠.fields vs)->b≠T:=λb o z nf q=>by
  rw[q,hT] at z
  cases z;exact nf ts dT
 exact C3 fr (ff.of_keeps λb o z nf=>⟨o,(ot b (nr b o z nf)).trans z,rfl⟩) lf ((ot e (JZ Te)).trans he) (λb o q=>(ot b λz=>by rw[z,nT] at q;cases q).trans (kb b o q)) nb d0 (JL.mp h1.1).1 h1.2
  λh' x u=>hq h' x λb o z nf=>u b o ((ot b (nr b o z nf)).trans z) nf
theorem Ni {vs:Array Value}(fr:A.frames=some (env::outer))(ff:s.heap.FunFrames B (env::outer))(lf:env.frame=some L)(he:s.heap.get? e=some oe)(kb:B.StaysIn s.heap)(nb:B.get? e=none)(d0:oe.data=.fields vs)(h1:vs[1]?=some .none)(hc:vs[2]?=some .none)
  (hq:∀ h',FlyD B outer e oe.cls oe.dict h'->s.heap.UpToSlots h'->Q () { s with heap:=h' }):wpAny M A (leaving env (.ref e)) Q E s:=by
 unfold leaving;refine YA (L8 fr ff lf he kb nb d0 h1 hc λh' x u=>Kc x.1 x.2.1 x.2.2.1 x.2.2.2 λh2 y v=>hq h2 ⟨y.1,y.2.1,y.2.2.1.2.2,y.2.2.2⟩ (u.trans v))
theorem Lf (fr:A.frames=some (env::outer))(lf:env.frame=some L)(x:FlyD B (env::outer) e c dd s.heap)(hq:∀ h',FlyD B outer e c dd h'->s.heap.UpToSlots h'->Q () { s with heap:=h' }):wpAny M A (leaving env (.ref e)) Q E s:=by
 unfold leaving;refine YA (Rn fr lf x λh' x u=>Kc x.1 x.2.1 x.2.2.1 x.2.2.2 λh2 y v=>hq h2 ⟨y.1,y.2.1,y.2.2.1.2.2,y.2.2.2⟩ (u.trans v))
end
abbrev newTupO (vs:TH):Obj:={ cls:=.type "tuple",data:=.seq vs.toArray }
abbrev newExcO (C:Addr)(t:Addr)(dd:TN):Obj:={ cls:=.ref C,dict:=dd,data:=.fields #[.ref t,.none,.none,.none,.bool false,.none] }
abbrev excHeap (h:Heap)(C:Addr)(vs:TH):Heap:=(h.push (newTupO vs)).push (newExcO C h.objs.size none)
section
variable {P:TR}{w:World}{A:Around}{E:TC}{h:Heap}{g:Array GenState}{d:Drawn}{tk:Nat}{os:OsState}
variable {nm q:Str}{C N fI:Addr}{bs tl bB:TH}{hdct:Bool}{sn:TF}{sub:TH}{ab:Bool}{col:Option Bool}{dd:TN}{k0 k1 k2 k3 k5:Option Value}{B newId initId:String}{mN:TB}{vs:TH}{oI:Obj}
theorem Yn (e:h.get? b=some o):(excHeap h C vs).get? b=some o:=YD _ (YD _ e)
theorem Sj:(excHeap h C vs).get? (h.objs.size+1)=some (newExcO C h.objs.size none):=Heap.get?_push_at (GM ..).symm rfl
theorem Mh {Q:Fin->Shared->Prop}(F:ExcBaseFacts B newId initId bB)(T:OwnTail h bB tl)(hC:h.get? C=some (excClassObj nm q C N bs tl hdct sn sub ab col dd k0 k1 k2 k3 k5 newId))(hn:h.Ns N mN)(hi:mN "__init__"=some (.ref fI))
  (hf:h.get? fI=some oI) (hfc:oI.cls=.type "function") (hv:vs.length<=sizeLine)
  (hq:wpAny (model P w) A (call (.ref fI) (.ref (h.objs.size+1)::vs)) (λr s'=>r=.none/\Q (.done (.ret (.ref (h.objs.size+1)))) s') E ⟨excHeap h C vs,g,d,tk,os⟩) :
  wpAny (model P w) A (Builtin.«type.__call__» ⟨.ref C::vs,[]⟩) Q E ⟨h,g,d,tk,os⟩:=by
 repeat (first | with_reducible refine GK hC ?_ | with_reducible refine wpAny_madeBy_exc hC ?_ | wp_step)
 refine codeAny_call_builtin_code (z9 _ F.quiet) (wpAny_check_new_subT F T hC (codeAny_exc_new_subT F T hC ?_ hv));show wpAny _ _ _ _ _ _;have hC1:(excHeap h C vs).get? C=_:=Yn hC;have hg1:(excHeap h C vs).get? (h.objs.size+1)=_:=Sj;have hn1:(excHeap h C vs).Ns N mN:=hn.keeps λb o e=>Yn e;have T1:OwnTail (excHeap h C vs) bB tl:=T.keeps λb o e=>Yn e;have cC:(Value.ref C::tl).contains (.ref C)=true:=J8
 unfold isInstance
 repeat (first | with_reducible refine GK hg1 ?_ | (with_reducible refine jr hC1 ?_;rw[cC]) | wp_step)
 show wpAny _ _ (typeLookup (.ref C) _) _ _ _;refine wpAny_typeLookup_tail hC1 hn1 T1 F.mroIs F.init.lookup ?_;rw[hi];refine XO (YA ?_);unfold bindSpecial;refine YA (jz (T:="function") ⟨_,Yn hf,hfc⟩ ?_);rw[JD J7];refine YE (YA (GN hq (λr s' ⟨hr,hQ⟩=>?_) λ_ _ x=>x));subst hr
 wp_walk
 exact hQ
theorem Gs {Q:TC}(F:ExcBaseFacts B newId initId bB)(T:OwnTail h bB tl)(hC:h.get? C=some (excClassObj nm q C N bs tl hdct sn sub ab col dd k0 k1 k2 k3 k5 newId))(hn:h.Ns N mN)(hi:mN "__init__"=some (.ref fI))
  (hf:h.get? fI=some oI) (hfc:oI.cls=.type "function") (hv:vs.length<=sizeLine)
  (hq:wpAny (model P w) (A.under (.builtin "type.__call__" ⟨.ref C::vs,[]⟩)) (call (.ref fI) (.ref (h.objs.size+1)::vs)) (λr s'=>r=.none/\Q (.ref (h.objs.size+1)) s') E ⟨excHeap h C vs,g,d,tk,os⟩) :
  wpAny (model P w) A (call (.ref C) vs) Q E ⟨h,g,d,tk,os⟩:=by
 have f1:=tc_lookup;have f2:=tc_bind (.ref C);have hT:(⟨h,g,d,tk,os⟩:Shared).TypeIs (.ref C) "type":=⟨_,hC,rfl⟩;refine z3 (jl ?_);show wpAny _ _ (callAny (.ref C) _) _ _ _
 repeat (any_goals (first | assumption | with_reducible refine GK hC ?_ | wp_step))
 exact⟨rfl,codeAny_call_builtin_at (z9 _ J9) entry_typeCall (wpAny_check_type_call_sub hC (Mh F T hC hn hi hf hfc hv hq))⟩
end
theorem D3 {N:Addr}{m:TB}{n:Str}{v:Value}(X:K.In h)(G:h.Ns N m)(e:W.nsIn K N n=some (some v)):m n=some v:=by
 obtain⟨o,es,ep,ho,hd,_,hf⟩:=G;unfold W.nsIn at e;split at e
 ·rename_i c d es' n' sl q
  have z:=X _ _ q;rw[ho] at z
  cases z
  cases hd;split at e
  ·rename_i en he
   cases e;rw[<-hf];unfold nsFind findBy;rw[<-Y1g,he];rfl
  split at e <;> cases e
 cases e
def excInI (K:TQ)(C fI:Addr):Bool:=match K.lookup C with
 | some ⟨.type "type",_,.cls cd,sl⟩=>(match cd.mro,sl.toList with
  | .ref C'::bm,[_,_,_,_,some (.builtin n),_]=>C' == C && (cd.hasDict && (n == "ValueError.__new__" && (!cd.hasDel && (W.tailIn K bmV bm && (W.nsOkIn K cd.ns && W.nsIn K cd.ns "__init__" == some (some (.ref fI)))))))
  | _,_=>false)
 | _=>false
structure ExcI (K:TQ)(mg:TB)(x:Str)(C fI:Addr):Prop where
 ok:excInI K C fI=true
 fn:W.isFn K (.ref fI)=true
 bd:mg x=some (.ref C)
theorem ExcI.own {x:Str}(O:ExcI K mg x C fI)(X:K.In h) :
  ∃ bm N nm q bs sn sub ab col dd k0 k1 k2 k3 k5 mN,h.get? C=some (excClassObj nm q C N bs bm true sn sub ab col dd k0 k1 k2 k3 k5 "ValueError.__new__")/\h.Ns N mN/\mN "__init__"=some (.ref fI)/\OwnTail h bmV bm:=by
 have q:=O.ok;unfold excInI at q
 revert q
 split
 ·rename_i d0 c0 s0 hob
  split
  ·rename_i C1 rest y0 y1 y2 y3 nn y5 em es
   intro q;rw[JP,JP,JP,JP,JP,JP] at q;obtain⟨q1,q0,q2,q3,q4,q5,q6⟩:=q
   cases qP.mp q1
   cases qP.mp q2;have q3':=Bool.not_eq_true' _ ▸ q3;have q6':=qP.mp q6
   cases c0;simp only at em q0 q3' q5 q6';subst em q0 q3';obtain⟨ll⟩:=s0;have el:ll=[y0,y1,y2,y3,some (.builtin "ValueError.__new__"),y5]:=es;subst el;have G:h.Ns _ _:=.of_isNs (W.isNs_of_in X q5);exact⟨_,_,_,_,_,_,_,_,_,_,_,_,_,_,_,_,X _ _ hob,G,D3 X G q6',W.tail_of_in X q4⟩
  intro q;cases q
 intro q;cases q
def excN (e C:Addr)(dd:TN):HO:=.ext λh=>∃ t,h.get? e=some (newExcO C t dd)
theorem Qz {P:TR}{w:World}{e t:Addr}(x:h.get? e=some (newExcO C t dd)):ObjOk P w H h e (excN e C dd) :=
 ⟨⟨t,x⟩,⟨_,x⟩,λ_ _ ⟨t',e1⟩ k=>⟨t',k _ e1⟩⟩
theorem Uw {P:TR}{w:World}{e:Addr}(x:HOk P w H h)(y:H e=some (excN e C dd)):∃ t,h.get? e=some (newExcO C t dd):=(x e _ y).1
def unT (H:Hp)(e:Addr):Hp:=λb=>if b=e then none else H b
theorem F2 {e:Addr}:unT H e e=none:=JD rfl
theorem Wr {e:Addr}(n:b≠e):unT H e b=H b:=XQ n
def CXD (P:TR)(w:World):CXT:=λouter H s E e s'=>∃ (a:Addr) (cls:Value) (dd:TN) (H':Hp) (B:Heap),e=.ref a/\s'.os=s.os/\AllBare s'.gens/\FlyD B outer a cls dd s'.heap ∧
 Un (frs outer) [] H H' s.heap s'.heap/\HOk P w H' B/\(∀ b o,s.heap.get? b=some o->b ∉ frs outer->(∃ o',B.get? b=some o')/\(H b=none->B.get? b=some o))/\E cls dd H'
section
variable {M:Model}{A:Around}{E:TC}{env:Env}
variable {nm q:Str}{C N:Addr}{bs tl:TH}{hdct:Bool}{sn:TF}{sub:TH}{ab:Bool}{col:Option Bool}{dd:TN}{k0 k1 k2 k3 k5:Option Value}{newId:String}
theorem Jf {x:Sem Value}{Q:Flow->Shared->Prop}(hb:tl.contains (.type "BaseException")=true)(hh:A.handled=none)
  (h:wpAny M A x (λv s1=>∃ (e t:Addr) (dx:TN),v=.ref e/\s1.heap.get? C=some (excClassObj nm q C N bs tl hdct sn sub ab col dd k0 k1 k2 k3 k5 newId)/\s1.heap.get? e=some (newExcO C t dx)/\E (.ref e) s1) E s) :
  wpAny M A (raiseStmt env (some x) none) Q E s:=by
 have cB:(Value.ref C::tl).contains (.type "BaseException")=true:=by rw[Y1j,hb,Bool.or_true]
 unfold raiseStmt;refine YA (GN h (λv s1 h1=>?_) λ_ _ x=>x);obtain⟨e,t,dx,rfl,hC,he,hE⟩:=h1;obtain⟨hp,g,d,tk,os⟩:=s1
 repeat (first | with_reducible refine GK he ?_ | with_reducible refine GK hC ?_ | (with_reducible refine jr hC ?_;rw[cB]) | wp_step)
 exact wpAny_raiseNew_none hh hE
end
section
variable {P:TR}{w:World}{K:TQ}{mg:TB}{base:Heap}{N:TF}{qual:Str}{scope:Scope}{f:Addr}{cd:Value}{A:Around}{outer:TM}{s:Shared}{H:Hp}{E:XK}
theorem W5 (e:s.heap.get? b=some o)(hb:b ∉ frs outer):b ∉ frs (envOfC qual scope s.heap.objs.size f cd::outer):=λz=>by
 rcases YC.mp (show b∈s.heap.objs.size::frs outer from z) with z | z
 ·rw[z] at e;exact absurd (YJ e) (XX _)
 exact hb z
theorem R0 {σ:L2.St}{s2:Shared}{e:Addr}(I:Inv (cxOf (CXD P w) P w K mg base N qual scope f cd A outer s H E) pins σ H2 s2)(he:H2 e=some (excN e C dd))(ne:∀ o,s.heap.get? e=some o->False)
  (q:E (.ref C) dd (unT H2 e)):(cxOf (CXD P w) P w K mg base N qual scope f cd A outer s H E).xe (.ref e) s2:=by
 obtain⟨t,ht⟩:=Uw I.hok he;have nT:∀ b o,H2 b=some o->(∀ φ,o≠HO.ext φ)->b≠e:=λb o z d y=>by
  rw[y,he] at z
  cases z;exact d _ rfl
 have hB:∀ b o,s.heap.get? b=some o->b ∉ frs outer->(∃ o',(W.hideAll s2.heap (e::frs (envOfC qual scope s.heap.objs.size f cd::outer))).get? b=some o')/\(H b=none->(W.hideAll s2.heap (e::frs (envOfC qual scope s.heap.objs.size f cd::outer))).get? b=some o):=λb o z hb=>by
  have nb:b ∉ e::frs (envOfC qual scope s.heap.objs.size f cd::outer):=λy=>by
   rcases YC.mp y with y | y
   ·exact ne o (by rw[<-y];exact z)
   exact W5 z hb y
  refine⟨?_,λn=>?_⟩
  ·obtain⟨o',z'⟩:=I.base.there b o z (by intro z;cases z);exact⟨o',Y0m _ z' nb⟩
  exact Y0m _ (I.base.keep b o z n hb (by intro z;cases z)) nb
 have un:Un (frs outer) [] H (unT H2 e) s.heap s2.heap:=by
  have u:Un (frs outer) [] H H2 s.heap s2.heap:=I.base;refine⟨u.keep,u.slot,λb o z n hx=>?_,u.there,λb xs z=>?_,λb o v z=>?_,λb ps z=>?_⟩
  ·unfold unT;split
   ·rfl
   exact u.free b o z n hx
  ·have y:=u.tups b xs z;rw[Wr (nT b _ y λφ d=>nomatch d)];exact y
  ·have y:=u.frzs b o v z;rw[Wr (nT b _ y λφ d=>nomatch d)];exact y
  obtain⟨m,y⟩:=u.tbls b ps z;exact⟨m,by rw[Wr (nT b _ y λφ d=>nomatch d)];exact y⟩
 have hok:HOk P w (unT H2 e) (W.hideAll s2.heap (e::frs (envOfC qual scope s.heap.objs.size f cd::outer))):=λa o z=>by
  have na:a≠e:=λy=>by rw[y,F2] at z;cases z
  rw[Wr na] at z;have nf:∀ b u,H2 b=some u->b≠e->b ∉ e::frs (envOfC qual scope s.heap.objs.size f cd::outer):=λb u y nb y'=>by
   rcases YC.mp y' with y' | y'
   ·exact nb y'
   rw[I.stkFree b y'] at y;cases y
  refine (I.hok a o z).stay (λb u hb y=>Y0m _ y ?_) (λb y=>by rw[Wr (nT b _ y λφ d=>nomatch d)];exact y) λb xs y=>by rw[Wr (nT b _ y λφ d=>nomatch d)];exact y
  rcases hb with rfl | hb
  ·exact nf _ _ z na
  exact nf _ _ hb (nT b _ hb λφ d=>nomatch d)
 refine Ni (B:=W.hideAll s2.heap (e::frs (envOfC qual scope s.heap.objs.size f cd::outer))) I.ok.frames (W.funFrames_hide I.stack λenv z b hb=>YG _ (qZ.mpr ⟨env,z,hb⟩)) (L:=s.heap.objs.size) rfl ht (λb o z=>W.of_hideAll _ z)
  (W.hideAll_none _ YI) rfl rfl rfl λh2 fl up=>?_
 refine⟨e,.ref C,dd,unT H2 e,_,rfl,I.os,I.bare,fl,?_,hok,hB,q⟩;refine Md (P:=P) (w:=w) un hB fl.1 up λb hb=>?_;obtain⟨_,o,z,d⟩:=I.funs.mem hb;exact⟨o,z,d⟩
def tRaiseD (E:XK)(C:Addr)(sp:Sp)(t:TA):TS:=λ_ σ H=>t σ H λvs H1=>vs.length<=sizeLine/\∀ e,H1 e=none->sp (.ref e::vs) (upd H1 e (excN e C none)) (λv H2=>v=.non/\∃ dd,H2 e=some (excN e C dd)/\E (.ref C) dd (unT H2 e)) E0
theorem Rh {x:Str}{C fI:Addr}{fd:FuncData}{ps:TF}{sp:Sp}{k:Nat}{e₀:Expr}{rest:TK}{t:TA}{np cpos pos:Pos}(O:ExcI K mg x C fI)(F:FnOk P w K mg base CX0 k fI fd ps sp)(hb:Binds K fd ps [])
  (hr:Room (k+1) (A.deeper (envOfC qual scope s.heap.objs.size f cd)) true) (hg:Gl (cxOf (CXD P w) P w K mg base N qual scope f cd A outer s H E) x) (ha:PA (cxOf (CXD P w) P w K mg base N qual scope f cd A outer s H E) (e₀::rest) t)
  (he:starEach (e₀::rest) (envOfC qual scope s.heap.objs.size f cd)=(false,eval e₀ (envOfC qual scope s.heap.objs.size f cd))::starEach rest (envOfC qual scope s.heap.objs.size f cd):=by rfl)
  (hplain:(backTo cpos (starEach rest (envOfC qual scope s.heap.objs.size f cd))).any (·.1)=false:=by rfl) (hd:(x == ("__debug__":Str))=false:=by decide) :
  PS (cxOf (CXD P w) P w K mg base N qual scope f cd A outer s H E) (.Raise (some (.Call (.Name x np) (e₀::rest) [] cpos)) none pos) (tRaiseD E C sp t):=by
 intro pins s1 σ H1 D I h;obtain⟨tl,NN,nm,q,bs,sn,sub,ab,col,dd,k0,k1,k2,k3,k5,mN,hC,hN,hni,T⟩:=O.own I.ok.mod.kin;rw[arm_exec_Raise];refine YA (qM (Jf (C:=C) (nm:=nm) (q:=q) (N:=NN) (bs:=bs) (tl:=tl) (hdct:=true) (sn:=sn) (sub:=sub) (ab:=ab) (col:=col) (dd:=dd) (k0:=k0) (k1:=k1) (k2:=k2) (k3:=k3) (k5:=k5) (newId:="ValueError.__new__")
  (T.hasType qc.hasBase) (hr.hd rfl) (YA (GN (wpAny_Call_ofName (V9 I hg O.bd ?_ hd)) (λv s3 h3=>YA (qM (YE h3))) λ_ _ x=>x))))
 have h2:=ha cpos pins s1 σ H1 _ I h;replace h2:wpAny (model P w) (A.deeper (envOfC qual scope s.heap.objs.size f cd)) (spliced (backTo cpos (starEach (e₀::rest) (envOfC qual scope s.heap.objs.size f cd)))) _ _ s1:=h2;rw[he] at h2;show wpAny _ _ (callWith cpos (.ref C) [] (backTo cpos (starEach (e₀::rest) (envOfC qual scope s.heap.objs.size f cd))) (backToKw cpos (keywordEach [] (envOfC qual scope s.heap.objs.size f cd)))) _ _ _;unfold callWith;refine YA (XO (GN (?_:wpAny _ _ (evalArgs (.ref C) true (backTo cpos (starEach (e₀::rest) (envOfC qual scope s.heap.objs.size f cd))) []) (λa s2=>a.kw=[]/\∃ vs H2,Inv (cxOf (CXD P w) P w K mg base N qual scope f cd A outer s H E) pins σ H2 s2/\Vals vs a.pos/\vs.length<=sizeLine/\∀ e,H2 e=none->sp (.ref e::vs) (upd H2 e (excN e C none)) (λv H2=>v=.non/\∃ dd,H2 e=some (excN e C dd)/\E (.ref C) dd (unT H2 e)) E0) _ s1) (λa s2 h3=>YA (qM ?_)) λ_ _ x=>x))
 ·rw[he];refine Calls.evalArgs_plain (GN h2 (λus s2 h3=>?_) λ_ _ y=>y);obtain⟨vs,H2,I2,r,hl,q⟩:=h3;exact⟨rfl,vs,H2,I2,r,hl,q⟩
 obtain⟨us,akw⟩:=a;obtain⟨hkw,vs,H2,I2,r,hl,sq⟩:=h3;obtain rfl:akw=[]:=hkw;obtain⟨hp,g,d,tk,os⟩:=s2;have hpl:(backTo cpos (starEach (e₀::rest) (envOfC qual scope s.heap.objs.size f cd))).any (·.1)=false:=by
  rw[he];show (false || (backTo cpos (starEach rest (envOfC qual scope s.heap.objs.size f cd))).any (·.1))=false;rw[hplain];rfl
 simp only [hpl];have hC2:=I2.bk _ _ hC;refine YA (wpAny_keeperOf_exc hC2 ?_);have fnI:(∃ oI,hp.get? fI=some oI/\oI.cls=.type "function"):=by
  have z:=qP.mp O.fn;obtain⟨o,ho,hc⟩:=Y0I.mp z;exact⟨o,I2.kIn _ _ ho,hc⟩
 obtain⟨oI,hfI,hfc⟩:=fnI;have hl':us.length<=sizeLine:=by rw[<-r.length];exact hl
 have sz:s.heap.objs.size<=hp.objs.size:=I2.sz;have hq0:=sq (hp.objs.size+1) (I2.hok.fresh (qJ _));have I3:Inv (cxOf (CXD P w) P w K mg base N qual scope f cd A outer s H E) pins σ (upd H2 (hp.objs.size+1) (excN (hp.objs.size+1) C none)) ⟨excHeap hp C us,g,d,tk,os⟩ :=
  I2.laid (t':=tk) (λb u e=>Yn e) (qJ _) (Qz Sj)
 have r2:Vals (V.ref (hp.objs.size+1)::vs) (Value.ref (hp.objs.size+1)::us):=.cons rfl r;have hlen:(Value.ref (hp.objs.size+1)::us++[]).length=ps.length:=by
  rw[YM,<-r2.length];exact F.len _ _ _ _ hq0
 refine YA (Gs qc (T.keeps I2.bk) hC2 (hN.keeps I2.bk) hni hfI hfc hl' (z3 ?_));refine qI (F.run _ _ _ _ ⟨Value.ref (hp.objs.size+1)::us,[]⟩ (Value.ref (hp.objs.size+1)::us) _ _ E0 (hr.make C us []).loose ((I3.env0 rfl).make C us []) (by have z:=hb ⟨excHeap hp C us,g,d,tk,os⟩ (Value.ref (hp.objs.size+1)::us) I3.kIn hlen;rw[YM] at z;exact z) r2 hq0) λr' s' hq'=>?_
 cases r' with
 | error e=>exact False.elim hq'
 | ok fl =>
  cases fl with
  | ret u =>
   obtain⟨v,H',I4,rv,ev,dx,q3,q4⟩:=I3.after hq';subst ev;obtain⟨t',ht'⟩:=Uw I4.hok q3;refine⟨rv,YA (XO (wpAny_point (YE ⟨_,t',dx,rfl,I4.bk _ _ hC,ht',R0 I4 q3 (λo z=>?_) q4⟩)))⟩;exact absurd (YU (YJ z) sz) (j8.mpr (qJ _))
  | next=>exact False.elim hq'
  | brk=>exact False.elim hq'
  | cont=>exact False.elim hq'
end
def HasD (P:TR)(w:World)(K:TQ)(mg:TB)(base:Heap)(k:Nat)(x:Str)(ps:TF)(sp:Sp):Prop :=
 ∃ (f:Addr) (fd:FuncData),FnOk P w K mg base (CXD P w) k f fd ps sp true/\mg x=some (.ref f)/\W.keepIn K (.ref f)=true/\Binds K fd ps []
theorem Def.hasD {P:TR}{w:World}{base:Heap}{k:Nat}{x:Str}(D:Def K mg x st ps)(S:FnScope N ps (defScope st))(len:∀ vs H Q E,sp vs H Q E->vs.length=ps.length)
  (hbody:∀ (f:Addr) (cdv:Value) (A:Around) (outer:TM) (s:Shared) (H:Hp) (vs:TV) (Q:VK) (E:XK),Room k (A.deeper (envOfC x (defScope st) s.heap.objs.size f cdv)) true->sp vs H Q E →
   ∃ t,PSs (cxOf (CXD P w) P w K mg base N x (defScope st) f cdv A outer s H E) (defBody st) t/\t { nx:=λ_ H'=>Q .non H',rt:=Q } (start N vs) H):HasD P w K mg base (k+1) x ps sp:=by
 obtain⟨f,fd,F,hm,b⟩:=D;refine⟨f,fd,?_,hm,F.kp,b⟩;obtain⟨oc,od,kV,doc,pm,an,cdv,ct,osl,rfl,lk,hcd⟩:=F.ex;exact Z0w lk hcd S len λA outer s H vs Q E hr hsp=>hbody f cdv A outer s H vs Q E hr hsp
def LandsD (X:Cx)(EX:L2.St->XK):Prop:=∀ (pins:TD) (σ:L2.St) (H:Hp) (s:Shared) (e:Value) (s':Shared),Inv X pins σ H s->CXD X.prog X.w X.stack H s (EX σ) e s'->X.xe e s'
section
variable {X:Cx}{k:Nat}{x:Str}{ps:TF}{sp:Sp}{e:Expr}{es:TK}{t:TA}{p pos:Pos}{EX:L2.St->XK}
theorem Qk (h:HasD X.prog X.w X.K X.mg X.base k x ps sp)(hr:Room k X.A true)(hg:Gl X x)(hx:LandsD X EX)(ha:PA X (e::es) t)(hdb:(x == ("__debug__":Str))=false:=by decide)
  (he:starEach (e::es) X.env=(false,eval e X.env)::starEach es X.env:=by rfl) (hpl:(backTo pos (starEach es X.env)).any (·.1)=false:=by rfl) (hc:X.calm=true:=by rfl):PE X (.Call (.Name x p) (e::es) [] pos) (tUseX sp EX t):=by
 obtain⟨f,fd,F,hm,hk,hb⟩:=h;intro pins s σ H Q I h;refine z4 (V9 I hg hm ?_ hdb);refine W.callWith_K (h₀:=X.base) I.ok.mod.kin hk (thn (ha pos pins s σ H _ I h) λus s1 ⟨vs,H1,I1,r,q⟩=>⟨I1.kIn,?_⟩) he hpl;have hl:us.length=ps.length:=by rw[<-r.length];exact F.len _ _ _ _ q
 have bd:=hb s1 us I1.kIn (by rw[YM];exact hl);rw[YM] at bd;refine z3 (qI (F.run X.A X.stack s1 H1 ⟨us,[]⟩ us vs Q (EX σ) hr (I1.env0 hc) bd r q) λr' s' hq=>?_)
 cases r' with
 | error e=>exact hx pins σ H1 s1 e s' I1 hq
 | ok fl =>
  cases fl with
  | ret u=>exact I1.after hq
  | next=>exact False.elim hq
  | brk=>exact False.elim hq
  | cont=>exact False.elim hq
end
section
variable {P:TR}{w:World}{K:TQ}{mg:TB}{base:Heap}{N:TF}{qual:Str}{scope:Scope}{f:Addr}{cd:Value}{A:Around}{outer:TM}{s:Shared}{H:Hp}{E:XK}
theorem Lg:LandsD (cxOf (CXD P w) P w K mg base N qual scope f cd A outer s H E) (λ_=>E):=by
 intro pins σ H1 s1 e s' I hx;obtain⟨a,cls,dd,H',B,rfl,os,bare,fl,un,hok,hB,q⟩:=hx;replace fl:FlyD B (envOfC qual scope s.heap.objs.size f cd::outer) a cls dd s'.heap:=fl;have u:Un (frs outer) [] H H1 s.heap s1.heap:=I.base;have hB2:∀ b o,s.heap.get? b=some o->b ∉ frs outer->(∃ o',B.get? b=some o')/\(H b=none->B.get? b=some o):=λb o z hb=>by
  have nb:=W5 (qual:=qual) (scope:=scope) (f:=f) (cd:=cd) z hb;obtain⟨o1,z1⟩:=u.there b o z (by intro z;cases z);refine⟨(hB b o1 z1 nb).1,λn=>?_⟩;exact (hB b o (u.keep b o z n hb (by intro z;cases z)) nb).2 (u.free b o z n (by intro z;cases z))
 refine Lf I.ok.frames (L:=s.heap.objs.size) rfl fl λh2 fl2 up=>?_;refine⟨a,cls,dd,H',B,rfl,os.trans I.os,bare,fl2,?_,hok,hB2,q⟩;have nf:∀ b∈frs outer,∃ o,s'.heap.get? b=some o/\∀ vs,o.data≠.fields vs:=λb hb=>by
  obtain⟨_,o,z,d⟩:=fl.2.2.1.mem (b:=b) (YG _ hb);exact⟨o,z,d⟩
 refine Md (P:=P) (w:=w) ⟨λb o z n hb hx=>?_,λb o z n hb hx=>?_,λb o z n hx=>?_,λb o z hx=>?_,λb xs z=>un.tups b xs (u.tups b xs z),λb o v z=>un.frzs b o v (u.frzs b o v z),λb ps z=>?_⟩ hB2 fl2.1 up nf
 ·exact un.keep b o (u.keep b o z n hb hx) (u.free b o z n hx) (W5 z hb) hx
 ·obtain⟨sl,z1⟩:=u.slot b o z n hb hx;obtain⟨sl2,z2⟩:=un.slot b _ z1 (u.free b o z n hx) (YG _ hb) hx;exact⟨sl2,z2⟩
 ·obtain⟨o1,z1⟩:=u.there b o z hx;exact un.free b o1 z1 (u.free b o z n hx) hx
 ·obtain⟨o1,z1⟩:=u.there b o z hx;exact un.there b o1 z1 hx
 obtain⟨m1,z1⟩:=u.tbls b ps z;obtain⟨m2,z2⟩:=un.tbls b _ z1;exact⟨m1++m2,by rw[z2,Y1f]⟩
end
section
variable {X:Cx}{pins:TD}{σ:L2.St}{H:Hp}{s:Shared}{a:Addr}
theorem Dm {B:Heap}{s':Shared}{h2:Heap}{t':Nat}{cls:Value}(I:Inv X pins σ H s)(os:s'.os=s.os)(bare:AllBare s'.gens)(fl:FlyD B X.stack a cls dd h2)(up:s'.heap.UpToSlots h2)(fl0:FlyD B X.stack a cls dd s'.heap)
  (un:Un (frs X.stack) [] H H' s.heap s'.heap) (hok:HOk X.prog X.w H' B) (hB:∀ b o,s.heap.get? b=some o->b ∉ frs X.stack->(∃ o',B.get? b=some o')/\(H b=none->B.get? b=some o)) :
  Inv X pins σ H' { s' with heap:=h2,toks:=t' }:=by
 refine Inv.call' (s':={ s' with heap:=h2,toks:=t' }) (ch:=[]) I os ?_ (hok.kept fl.1) bare (λb z=>nomatch z);exact Md (P:=X.prog) (w:=X.w) un hB fl.1 up λb hb=>by
  obtain⟨_,o,e,d⟩:=fl0.2.2.1.mem hb;exact⟨o,e,d⟩
end
def excC (a C:Addr)(dd:TN):HO:=.ext λh=>∃ o,h.get? a=some o/\o.cls=.ref C/\o.dict=dd/\∀ c,o.data≠.cls c
theorem Z05 {P:TR}{w:World}{a:Addr}{vs:Array Value}(e:h.get? a=some o)(c:o.cls=.ref C)(d:o.dict=dd)(f:o.data=.fields vs):ObjOk P w H h a (excC a C dd) :=
 ⟨⟨o,e,c,d,λc z=>by rw[f] at z;cases z⟩,⟨o,e⟩,λ_ _ ⟨oy,e1,c1⟩ k=>⟨oy,k _ e1,c1⟩⟩
section
variable {X:Cx}{x n:Str}{i:Nat}{C D:Addr}{body:TL}{b₀:Stmt}{suite:TL}{np hp pos:Pos}{tb:(L2.St->XK)->TS}{ts:TS}
def tTryDAs (C:Addr)(i:Nat)(tb:(L2.St->XK)->TS)(ts:TS):TS:=λDs σ H=>tb (λσ' cls dd H'=>cls=.ref C/\∀ a,H' a=none->ts (unN i Ds) (σ'.set i (some (.ref a))) (upd H' a (excC a C dd))) Ds σ H
theorem Jg (hN:X.N.Nodup)(hi:X.N[i]?=some n)(hk:X.env.scope.names.lookup n=some .local)(hst:X.stack=X.env::X.outer)(hfr:X.env.frame=some X.env.locals)(hex:X.ex=[])(c:CatchBy X.K C D)(hm:X.mg x=some (.ref D))(hg:Gl X x)
  (hb:∀ (pn:TD) (E:TC) (EX:L2.St->XK),LandsD (tryCx X pn E) EX->PSs (tryCx X pn E) body (tb EX)) (hs:∀ (a:Addr) (pn:TD) (E:TC),PSs (sutCx X a pn E) (b₀::suite) ts)
  (hd:(x == ("__debug__":Str))=false:=by decide):PS X (.Try body [.ExceptHandler (some (.Name x np)) (some n) (b₀::suite) hp] [] [] pos) (tTryDAs C i tb ts):=by
 intro pins s0 σ0 H0 Ds I0 h;refine wpAny_Try_except ?_;refine thn (hb (X.pn++pins) (λe s₁=>wpAny (model X.prog X.w) X.A (noteFrame e X.env) (λ_ s₂=>wpAny (model X.prog X.w) X.A (setFlight e none) (λ_ s₃=>wpAny (model X.prog X.w) X.A (handleBy e X.env [.ExceptHandler (some (.Name x np)) (some n) (b₀::suite) hp]) (SP X pins Ds) X.xe s₃) X.xe s₂) X.xe s₁)
  (λσ' cls dd H'=>cls=.ref C/\∀ a,H' a=none->ts (unN i Ds) (σ'.set i (some (.ref a))) (upd H' a (excC a C dd))) ?_ [] s0 σ0 H0 Ds (Bw I0) h) λfl s1 q=>?_
 ·intro pins' σ H s e s' I hx;obtain⟨a,cls,dd,H',B,rfl,os,bare,fl,un,hok,hB,rfl,hts⟩:=hx;have IX:Inv X pins σ H s:=Wf I0.ok I;replace fl:FlyD B X.stack a (.ref C) dd s'.heap:=fl;have st2:∀ h2 t',FlyD B X.stack a (.ref C) dd h2->s'.heap.UpToSlots h2->Inv X pins σ H' { s' with heap:=h2,toks:=t' }:=λh2 t' f2 u2=>Dm IX os bare f2 u2 fl un hok hB;have frm:X.A.frames=some (X.env::X.outer):=by rw[<-hst];exact I0.ok.frames
  have fl':FlyD B (X.env::X.outer) a (.ref C) dd s'.heap:=by rw[<-hst];exact fl
  have nfr:a ∉ frs X.stack:=λz=>by
   obtain⟨_,o,e1,d1⟩:=fl.2.2.1.mem z;obtain⟨oe,vs,e2,_,_,d2⟩:=fl.2.2.2.obj;rw[e1] at e2
   cases e2;exact d1 vs d2
  have nos:∀ o,s.heap.get? a=some o->False:=λo e=>by
   obtain⟨o',e'⟩:=(hB a o e nfr).1;rw[fl.2.1] at e'
   cases e'
  have nH:H' a=none:=by
   cases q:H' a with
   | none=>rfl
   | some u =>
    obtain⟨ob,e'⟩:=N9 (hok a u q);rw[fl.2.1] at e'
    cases e'
  refine Rn frm hfr fl' λh4 held u4=>Kc held.1 held.2.1 held.2.2.1 held.2.2.2 λh5 fl5 u5=>?_;have u45:=u4.trans u5;rw[<-hst] at fl5;have I5:=st2 h5 s'.toks fl5 u45;obtain⟨ob,_,hob,hoc,_⟩:=fl5.2.2.2.obj;refine wpAny_handleBy_cons (codeAny_handlers_test (V9 (X:=sutCx X a (X.pn++pins) X.xe) (Kg I5) hg hm ?_ hd)) (by intro z;cases z);obtain⟨hh,g1,d1,t1,o1⟩:=s';refine Nv I5.kIn c hob hoc (codeAny_handlers_suite_as ?_);refine Kc fl5.1 fl5.2.1 fl5.2.2.1 fl5.2.2.2 λh6 fl6 u6=>?_;have I6:=st2 h6 t1 fl6 (u45.trans u6);obtain⟨ob6,vs6,hob6,hoc6,hod6,hof6⟩:=fl6.2.2.2.obj;have I7:Inv X pins σ (upd H' a (excC a C dd)) { heap:=h6,gens:=g1,drawn:=d1,toks:=t1,os:=o1 }:=by
   refine Rr I6 nH (Z05 hob6 hoc6 hod6 hof6) (λo e=>?_) (λz=>nfr ?_) (λy cc e z=>?_) (λp hp' z=>?_)
   ·obtain⟨o',e'⟩:=IX.base.there a o e (by rw[hex];intro z;cases z);exact nos o' e'
   ·rw[hst,z];exact qZ.mpr ⟨X.env,YI,hfr⟩
   ·obtain⟨v,o,e',_⟩:=IX.cell y cc e;rw[z] at e';exact nos o e'
   have e':=(IX.pin p hp').1;rw[z] at e';exact nos _ e'
  refine T5 (X:=X) I7 hN hi (.inl hk) (show RelV (.ref a) (.ref a) from rfl) (λs8 I8=>?_) (.inr hk);refine thn (hs a (X.pn++pins) _ [] _ _ _ _ (Kg I8) (hts a nH)) λf2 s2 q2=>?_;have gone:∀ {σ':L2.St} {H'':Hp},Inv X pins σ' H'' s2->∀ {Qf:Shared->Prop},(∀ s3,Inv X pins (σ'.set i none) H'' s3->Qf s3)->wpAny (model X.prog X.w) X.A (do bindName X.env n .none;unbindBehindTheSuite X.env n hp) (λ_ s₃=>Qf s₃) X.xe s2:=λ{σ' H''} J' {Qf} kk=>by
   obtain⟨m,hn,hl⟩:=J'.loc;refine wpAny_nameGoes_keeps hk hn (by rw[J'.ok.kind];rfl) λh' v hn' sb=>kk _ (Dl J' hi hN hk hl hn' sb _)
  cases f2 with
  | next=>obtain⟨σ',H'',J,q⟩:=q2;exact gone (Vb I0.ok J) λs3 J3=>⟨_,_,J3,q⟩
  | brk=>obtain⟨σ',H'',J,q⟩:=q2;exact gone (Vb I0.ok J) λs3 J3=>⟨_,_,J3,q⟩
  | cont=>obtain⟨σ',H'',J,q⟩:=q2;exact gone (Vb I0.ok J) λs3 J3=>⟨_,_,J3,q⟩
  | ret u=>obtain⟨v,σ',H'',J,r,q⟩:=q2;exact gone (Vb I0.ok J) λs3 J3=>⟨v,_,_,J3,r,q⟩
 have q':=F8 I0.ok q
 cases fl with
 | next=>exact zE q'
 | brk=>exact q'
 | cont=>exact q'
 | ret u=>exact q'
end
theorem _root_.L2.Room.mark {k:Nat}{A:Around}{sr:Bool}{h:Option Value}(r:Room k A sr):Room k (A.mark h):=⟨(λz=>nomatch z),r.dp,r.un⟩
open PySem.W (Looks findIn specialIn takesIn mroIn clsIn)
open Builtin Builtin.ObjectAttr
section
variable {P:TR}{w:World}{A:Around}{E:TC}
theorem Gu {e t:Addr}{vs:TH}{Q:Fin->Shared->Prop}(he:s.heap.get? e=some (newExcO C t dd))(hv:vs.length<=sizeLine)
  (h:Q (.done (.ret .none)) { s with heap:=(s.heap.push (newTupO vs)).update e (Obj.mapFields (·.setIfInBounds 0 (.ref s.heap.objs.size))) }):wpAny (model P w) A (Builtin.«BaseException.__init__» ⟨.ref e::vs,[]⟩) Q E s:=by
 unfold Builtin.«BaseException.__init__»;dsimp only;rw[XQ J8];unfold newTuple Builtin.BaseException.bexcPut;have h1:=YD (h:=s.heap) (newTupO vs) he;refine YA (GJ (YA (YA (XU h1 rfl rfl (YA (GY h1 rfl (by show 0<6;decide) ?_))))) (by size_fits));exact Y0X (YE h)
end
structure BaseI (K:TQ)(mg:TB)(x:Str)(D:Addr):Prop where
 bd:mg x=some (.ref D)
 rd:W.readsIn K D (.type "type")=true
 ty:W.typeIn K (.ref D)=some (.type "type")
 fc:W.findCls K (.ref D) (.type "type") "__init__"=some (.val (.builtin "ValueError.__init__"))
inductive tBaseI_i (K:TQ) (mg:TB) (Q:VK) (vs:TV) (H1:Hp):Prop
 | mk (e C fI:Addr) (dd:TN) (xn:Str) (ws:TV) (zz0:vs=.ref e::ws) (zz1:ws.length<=sizeLine) (zz2:H1 e=some (excN e C dd)) (zz3:ExcI K mg xn C fI) (zz4:Q .non H1)
def tBaseI (K:TQ)(mg:TB)(t:TA):TE:=λσ H Q=>t σ H (tBaseI_i K mg Q)
theorem F1 {a:Addr}{o:HO}(h:H a=some o):upd H a o=H:=by
 funext b
 unfold upd;split
 ·rename_i z;rw[z,h]
 rfl
section
variable {X:Cx}{x:Str}{D:Addr}{e:Expr}{es:TK}{t:TA}{np apos pos:Pos}
theorem Fv {pl:Sem Bool}(B:BaseI X.K X.mg x D)(hg:Gl X x)(ha:PA X (e::es) t)(hd:(x == ("__debug__":Str))=false:=by decide)
  (hst:starEach (e::es) X.env=(false,eval e X.env)::starEach es X.env:=by rfl) (hpl:(backTo pos (starEach es X.env)).any (·.1)=false:=by rfl)
  (ht:eval (.Call (.Attribute (.Name x np) "__init__" apos) (e::es) [] pos) X.env=(do
   let ov <-eval (.Name x np) X.env
   standAt apos.atName
   let (f,first) <-holding [ov] (getMethod ov "__init__" pl)
   callWith pos f first (backTo pos (starEach (e::es) X.env)) (backToKw pos (keywordEach [] X.env))):=by rfl) :
  PE X (.Call (.Attribute (.Name x np) "__init__" apos) (e::es) [] pos) (tBaseI X.K X.mg t):=by
 intro pins s σ H Q I h;refine W.methodCall_KW (pl:=pl) (V9 I hg B.bd ?_ hd) ht;have L0:=W.looks_typeIn (M:=model X.prog X.w) I.kIn B.ty;have hga:findIn X.K (.type "type") "__getattribute__"=some (some (.builtin "type.__getattribute__")):=W.type_tga;unfold getMethod specialOf;refine YA (YA (L0.at ((qo I.kIn hga).at ?_)));dsimp only;rw[JD W.canon_tga];refine YA (GN (Q:=λv s'=>v=.builtin "ValueError.__init__"/\s'={ s with toks:=s.toks+1 }) (E:=X.xe) (W.cls_value I.kIn B.rd B.fc rfl ⟨rfl,rfl⟩) (λv s' ⟨z1,z2⟩=>YE ?_) λ_ _ z=>z);subst z1 z2;refine j5 (thn (ha pos pins _ σ H _ (I.tok _) h) λus s1 ⟨vs,H1,I1,r,q⟩=>?_) hst hpl;obtain⟨ea,C,fI,dd,xn,ws,rfl,hl,he,O,q⟩:=q
 cases r with
 | @cons _ u _ us' r1 r2 =>
  cases (show u=Value.ref ea from r1);obtain⟨t0,ht0⟩:=Uw I1.hok he;obtain⟨tl,NN,nm,qn,bs,sn,sub,ab,col,dd',k0,k1,k2,k3,k5,mN,hC,hN,hni,T⟩:=O.own I1.kIn;have hl':us'.length<=sizeLine:=by rw[<-r2.length];exact hl
  have I1':=I1;obtain⟨hp,g,d,tk,os⟩:=s1;refine z3 (GO qc.init.plain qc.initEntry (wpAny_check_init_subT qc T hC ht0 rfl (Gu ht0 hl' ?_)));have e1:((hp.push (newTupO us')).update ea (Obj.mapFields (·.setIfInBounds 0 (.ref hp.objs.size)))).get? ea=some (newExcO C hp.objs.size dd):=by
   rw[JN _ (YD _ ht0) rfl];rfl
  have I2:=I1'.write (o:=excN ea C dd) (h':=(hp.push (newTupO us')).update ea (Obj.mapFields (·.setIfInBounds 0 (.ref hp.objs.size)))) (t':=tk) (x:=ea) (e:=ea) (by rw[he];trivial) (.inl rfl) (λb u hb hu=>by
   rw[JG _ _ (JZ hb)];exact YD _ hu) ⟨_,e1⟩ (Qz e1)
  rw[F1 he] at I2;exact⟨.non,H1,I2,rfl,q⟩
end
structure StoI (K:TQ)(C:Addr)(f:Str):Prop where
 sa:findIn K (.ref C) "__setattr__"=some (some (.builtin "object.__setattr__"))
 na:findIn K (.ref C) f=some none
theorem Ps {h:Heap}{tl:TH}{v:Value}(T:OwnTail h bmV tl):refuseLoop v "__setattr__" tl=pure ():=by
 induction T with
 | base=>exact GH.passes v
 | own _ _ _ _ ih=>rw[refuseLoop_ref];exact ih
section
variable {P:TR}{w:World}{A:Around}{E:TC}{h:Heap}{g:Array GenState}{d:Drawn}{t:Nat}{os:OsState}{K:TQ}{mg:TB}{xn f:Str}{C fI x t0:Addr}{v:Value}
theorem J1 {tk:Tok}{Q:Fin->Shared->Prop}(X:K.In h)(O:ExcI K mg xn C fI)(S:StoI K C f)(hx:h.get? x=some (newExcO C t0 none))
  (hq:∀ h' tk',h'.get? x=some (newExcO C t0 (some h.objs.size))->h'.Ns1 h.objs.size (λy=>if y=f then some v else none)->(∀ b o,b≠x->h.get? b=some o->h'.get? b=some o)->Q (.done (.ret .none)) ⟨h',g,d,tk',os⟩) :
  wpAny (model P w) A (Builtin.«object.__setattr__» ⟨[.ref x,.str f tk,v],[]⟩) Q E ⟨h,g,d,t,os⟩:=by
 obtain⟨tl,NN,nm,qn,bs,sn,sub,ab,col,dd',k0,k1,k2,k3,k5,mN,hC,hN,hni,T⟩:=O.own X;have hpass:=Ps (v:=.ref x) T;have L1:=qo (M:=model P w) X S.na;have hx0:=hx;generalize ho:newExcO C t0 none=o at hx;have hc:o.cls=.ref C:=by rw[<-ho]
 have hdn:o.dict=none:=by rw[<-ho]
 have hnc:∀ c,o.data≠.cls c:=λc z=>by rw[<-ho] at z;cases z
 unfold Builtin.«object.__setattr__»
 repeat (first | rw[refuse_eq] | (rw[refuseLoop_ref,hpass]) | (with_reducible refine GK hx ?_;rw[hc]) | with_reducible refine wpAny_mroOf_exc hC ?_ | (refine YA (L1.at ?_)) | wp_step)
 rw[hdn,XQ (by simp[typeHasDict])];split
 ·rename_i z
  cases z
 split
 ·rename_i c z
  exact absurd z (hnc c)
 subst ho;have hx1:(h.push { cls:=.type "dict",data:=.dict #[] }).get? x=some (newExcO C t0 none):=YD _ hx;have hxs:x≠h.objs.size:=XM (YJ hx);refine YA (wpAny_alloc' (YA (wpAny_update' hx1 (YE ?_))));have gd:((h.push { cls:=.type "dict",data:=.dict #[] }).update x λo=>{ cls:=o.cls,dict:=some h.objs.size,data:=o.data,slots:=o.slots }).get? h.objs.size=some { cls:=.type "dict",data:=.dict #[] }:=(Heap.get?_update_ne _ _ _ _ hxs.symm).trans (Heap.get?_push_at rfl rfl);have nd:((h.push { cls:=.type "dict",data:=.dict #[] }).update x λo=>{ cls:=o.cls,dict:=some h.objs.size,data:=o.data,slots:=o.slots }).Ns h.objs.size (λ_=>none):=⟨_,#[],_,gd,rfl,λe he=>absurd he J8,λ_=>rfl⟩;show wpAny _ _ (storeInDict h.objs.size (.str f tk) f v) _ _ _;unfold storeInDict newKeyGuard;refine YA (YE (YA (wpAny_nsSet1 (Heap.Ns1.of_empty nd) λh' hn' hs=>?_)));obtain⟨oD,esD,epD,hoD,hdD,hcD⟩:=hn'.count (Within.cons f v Within.nil);refine YA (wpAny_lookBehind hoD (by rw[hdD];exact pastItsLine_dict (XV hcD (by rw[YR,List.length_nil,YX];omega))) ?_)
 wp_walk
 refine hq h' _ ?_ hn' λb ob hbx hb=>?_
 ·refine (hs.2 x hxs).trans ((JN _ hx1 rfl).trans ?_);rfl
 exact (hs.2 b (XM (YJ hb))).trans ((Heap.get?_update_ne _ _ _ _ hbx).trans (YD _ hb))
theorem Gp {M:Model}{nv:Value}{Q:Unit->Shared->Prop}(X:K.In h)(O:ExcI K mg xn C fI)(hx:h.get? x=some (newExcO C t0 none))(hq:Q () ⟨h,g,d,t,os⟩) :
  wpAny M A (checkBuiltinCall "object.__setattr__" ⟨[.ref x,nv,v],[]⟩) Q E ⟨h,g,d,t,os⟩:=by
 obtain⟨tl,NN,nm,qn,bs,sn,sub,ab,col,dd',k0,k1,k2,k3,k5,mN,hC,hN,hni,T⟩:=O.own X;have cO:(Value.ref C::tl).contains (.type "object")=true:=by rw[Y1j,T.hasType (b:=true) J9,Bool.or_true]
 have ha:=GH.args (.ref x) nv v;simp only [checkBuiltinCall,GH.kind,GH.split];refine YA ?_;unfold isInstance
 repeat (first | (with_reducible refine GK hx ?_) | (with_reducible refine jr hC ?_;rw[cO]) | wp_step)
 exact hq
theorem F7 {Q:Unit->Shared->Prop}(X:K.In h)(O:ExcI K mg xn C fI)(S:StoI K C f)(hx:h.get? x=some (newExcO C t0 none))
  (hq:∀ h' tk',h'.get? x=some (newExcO C t0 (some h.objs.size))->h'.Ns1 h.objs.size (λy=>if y=f then some v else none)->(∀ b o,b≠x->h.get? b=some o->h'.get? b=some o)->Q () ⟨h',g,d,tk',os⟩) :
  wpAny (model P w) A (setAttr (.ref x) f v) Q E ⟨h,g,d,t,os⟩:=by
 have L1:=qo (M:=model P w) X S.sa;have f3:=GH.slot.bind (.ref x);unfold setAttr callSpecial? specialOf;refine YA (wpAny_mkText ?_);refine YA (YA (YA ?_))
 repeat (any_goals (first | assumption | (with_reducible refine GK hx ?_) | (refine YA (L1.at ?_)) | (refine L1.at ?_) | wp_step))
 refine GO GH.slot.plain GH.entry (Gp X O hx (J1 X O S hx λh' tk' a b c=>?_))
 repeat (any_goals (first | assumption | wp_step))
 exact hq h' tk' a b c
end
section
variable {X:Cx}{o value:Expr}{f:Str}{pos pos':Pos}{ta tv:TE}
inductive sFldX_i (K:TQ) (mg:TB) (f:Str) (D:Ends) (σ:L2.St) (y:V) (x:V) (H2:Hp):Prop
 | mk (e C fI:Addr) (xn:Str) (zz0:x=.ref e) (zz1:H2 e=some (excN e C none)) (zz2:ExcI K mg xn C fI) (zz3:StoI K C f) (zz4:∀ d,H2 d=none->d≠e->D.nx σ (upd (upd H2 e (excN e C (some d))) d (.xd [(f,y)])))
def sFldX (K:TQ)(mg:TB)(ta tv:TE)(f:Str):TS:=λD σ H=>tv σ H λy H1=>ta σ H1 (sFldX_i K mg f D σ y)
theorem Cz (ha:PE X o ta)(hv:PE X value tv)(hs:swapsWith value (some (.Attribute o f pos')) pos.line X.env=pure false):PS X (.Assign [.Attribute o f pos'] value pos) (sFldX X.K X.mg ta tv f):=by
 intro pins s σ H D I h;refine plainObj_wpAny_Assign_Attribute (thn (hv pins s σ H _ I h) λu s1 ⟨y,H1,I1,ry,q⟩=>thn (ha pins s1 σ H1 _ I1 q) λov s2 ⟨x,H2,I2,rx,e,C,fI,xn,ex,ea,O,S,q2⟩=>?_) hs;subst ex;obtain rfl:ov=Value.ref e:=rx;obtain⟨t0,ht0⟩:=Uw I2.hok ea;obtain⟨hp,g,d,tk,os⟩:=s2;refine F7 I2.kIn O S ht0 λh' tk' a b c=>?_;have hne:hp.objs.size≠e:=zA (YJ ht0);have I3:=I2.write (o:=excN e C (some hp.objs.size)) (h':=h') (t':=tk') (x:=e) (e:=e) (by rw[ea];trivial) (.inl rfl) (λb' u hb hu=>c b' u hb hu) ⟨_,a⟩ (Qz a);have fr:H2 hp.objs.size=none:=I2.hok.fresh (YO _);have fr':upd H2 e (excN e C (some hp.objs.size)) hp.objs.size=none:=by rw[Zj hne];exact fr
 have nw:ObjOk X.prog X.w (upd (upd H2 e (excN e C (some hp.objs.size))) hp.objs.size (.xd [(f,y)])) h' hp.objs.size (.xd [(f,y)]):=by
  refine⟨_,b,λz=>?_⟩;by_cases hz:z=f
  ·subst hz;rw[JD rfl];show RelO (List.lookup z [(z,y)]) (some u);rw[show List.lookup z [(z,y)]=some y from by simp[List.lookup]];exact ry
  rw[XQ hz];show RelO (List.lookup z [(f,y)]) none;rw[show List.lookup z [(f,y)]=none from by simp[List.lookup,JO.mpr hz]]
  trivial
 have I4:Inv X pins σ (upd (upd H2 e (excN e C (some hp.objs.size))) hp.objs.size (.xd [(f,y)])) ⟨h',g,d,tk',os⟩:=by
  refine Rr I3 fr' nw (λob z=>?_) (λz=>?_) (λy' cc z z'=>?_) (λp hp' z=>?_)
  ·exact absurd (YU (YJ z) I2.sz) (XX _)
  ·obtain⟨m,⟨o',_,_,ho',_⟩,_⟩:=I2.loc;rw[<-z] at ho';exact absurd (YJ ho') (XX _)
  ·obtain⟨v',o',ho',_⟩:=I2.cell y' cc z;rw[z'] at ho';exact absurd (YJ ho') (XX _)
  have e':=(I2.pin p hp').1;rw[z] at e';exact absurd (YJ e') (XX _)
 exact⟨σ,_,I4,q2 _ fr hne⟩
end
end Sb
namespace Sb
open PySem PySem.Spec PyProof.Rows L2
open PySem.W (Looks findIn specialIn takesIn mroIn clsIn)
open Builtin Builtin.ObjectAttr
section
variable {K:TQ}{C x dx:Addr}{P:TR}{w:World}{A:Around}{E:TC}{h:Heap}{g:Array GenState}{d:Drawn}{t:Nat}{os:OsState}{f:Str}{v:Value}{mA:TB}{ox:Obj}
theorem Jk {Q:Option Addr->Shared->Prop}(X:K.In h)(O:ExcI K mg xn C fI)(ho:h.get? x=some ox)(hc:ox.cls=.ref C)(hx:ox.dict=some dx)(hnc:∀ c,ox.data≠.cls c)(q:Q (some dx) ⟨h,g,d,t,os⟩) :
  wpAny (model P w) A (ownDict x) Q E ⟨h,g,d,t,os⟩:=by
 obtain⟨tl,NN,nm,qn,bs,sn,sub,ab,col,dd',k0,k1,k2,k3,k5,mN,hC,hN,hni,T⟩:=O.own X;unfold ownDict loadHead;refine YA (GK ho ?_);split
 ·rename_i c z
  exact absurd z (hnc c)
 unfold instanceDict;refine YA (GK ho ?_);rw[hc];dsimp only;unfold classData;refine YA (YA (Y1d hC (YE ?_)));rw[hx];exact YE q
theorem Dt {Q:Found->Shared->Prop}(X:K.In h)(O:ExcI K mg xn C fI)(na:findIn K (.ref C) f=some none)(ho:h.get? x=some ox)(hc:ox.cls=.ref C)(hx:ox.dict=some dx)(hnc:∀ c,ox.data≠.cls c)(hn:h.Ns dx mA)(hv:mA f=some v)(q:Q (.value v) ⟨h,g,d,t,os⟩) :
  wpAny (model P w) A (find (.ref x) (.ref C) f) Q E ⟨h,g,d,t,os⟩:=by
 have L1:=qo (M:=model P w) X na;unfold find;refine YA (L1.at ?_);refine YA (YE ?_);refine YA (YE ?_);show wpAny _ _ (ownThenClass (.ref x) f none none) _ _ _;unfold ownThenClass inOwnDict;refine YA (YA (Jk X O ho hc hx hnc ?_));show wpAny _ _ (nsGet dx f) _ _ _;refine wpAny_nsGet hn ?_;rw[hv];exact YA (Looks.at (r:=()) (Looks.tag .now) (YE q))
theorem Z02 {expr:Bool}{Q:TC}(X:K.In h)(R:ExcRead K C)(O:ExcI K mg xn C fI)(na:findIn K (.ref C) f=some none)(ho:h.get? x=some ox)(hc:ox.cls=.ref C)(hx:ox.dict=some dx)(hnc:∀ c,ox.data≠.cls c)(hn:h.Ns dx mA)(hv:mA f=some v)(hh:W.handedIn v=true)(q:Q v ⟨h,g,d,t+1,os⟩) :
  wpAny (model P w) A (getAttr (.ref x) f expr) Q E ⟨h,g,d,t,os⟩:=by
 have Ia:ExAt h x C:=⟨ox,ho,hc⟩;have L0:=Ia.type (M:=model P w);have L1:=qo (M:=model P w) X R.ga;have L2:=qo (M:=model P w) X R.gh;have f3:=qX.ga.bind (.ref x);have e2:(onTheHeap (Value.ref C) && Value.builtin "BaseException.__getattribute__" == Value.builtin "object.__getattribute__")=false:=by
  show (true && (Value.builtin "BaseException.__getattribute__" == Value.builtin "object.__getattribute__"))=false
  decide +kernel
 unfold getAttr getAttrBy;refine YA (wpAny_mkText (XO (YA (L0.at (YA (L1.at ?_))))));show wpAny _ _ (if (onTheHeap (Value.ref C) && Value.builtin "BaseException.__getattribute__" == Value.builtin "object.__getattribute__")=true then _ else _) _ _ _;rw[e2,XQ XB];unfold getAttrByItsOwn;refine YA ((show Looks (model P w) h (hookBefore (.ref C)) none from L2).at ?_);refine YA (GR (XO ?_));unfold callGetattribute;rw[show (expr && onTheHeap (Value.builtin "BaseException.__getattribute__"))=false from Y0Y _,XQ J7];unfold boundAndCalled;rw[f3];refine YA (YE ?_);refine z3 (GO qX.ga.plain F.entry_bexc_ga (Rw R X Ia ?_));have L0':=Ia.type (M:=model P w);unfold Builtin.«object.__getattribute__»;refine YA (YE (YA (YE (YA (L0'.at (YA (Dt X O na ho hc hx hnc hn hv ?_)))))));refine YE ?_;show wpAny _ _ (handedOut v) _ _ _;rw[W.handedOut_of hh];exact YE q
end
section
variable {X:Cx}{e:Expr}{f:Str}{pos:Pos}{ta:TE}
inductive tFldX_i (K:TQ) (mg:TB) (f:Str) (Q:VK) (x:V) (H1:Hp):Prop
 | mk (a C fI dx:Addr) (xn:Str) (fs:List (Str × V)) (v:V) (zz0:x=.ref a) (zz1:H1 a=some (excC a C (some dx))) (zz2:H1 dx=some (.xd fs)) (zz3:fs.lookup f=some v) (zz4:ExcRead K C) (zz5:ExcI K mg xn C fI) (zz6:findIn K (.ref C) f=some none) (zz7:Q v H1)
def tFldX (K:TQ)(mg:TB)(ta:TE)(f:Str):TE:=λσ H Q=>ta σ H (tFldX_i K mg f Q)
theorem K4 {K:TQ}{mg:TB}(he:PE X e ta)(hb:attributeBase e f X.env (eval e X.env)=eval e X.env)(hK:X.K=K:=by rfl)(hM:X.mg=mg:=by rfl):PE X (.Attribute e f pos) (tFldX K mg ta f):=by
 subst hK hM;intro pins s σ H Q I h;refine Z0f hb (thn (he pins s σ H _ I h) λu s1 ⟨x,H1,I1,rx,a,C,fI,dx,xn,fs,v,ex,ea,ed,l,R,O,na,q⟩=>?_);subst ex;obtain rfl:u=Value.ref a:=rx;obtain⟨⟨ox,ho,hc,hx,hnc⟩,_⟩:=(show ObjOk X.prog X.w H1 s1.heap a (excC a C (some dx)) from I1.hok a _ ea);obtain⟨mA,hn,r⟩:=(show ObjOk X.prog X.w H1 s1.heap dx (.xd fs) from I1.hok dx _ ed);obtain⟨u,hu,ru⟩:=RelO.some_of (v:=v) (o:=mA f) (by rw[<-l];exact r f);obtain⟨hp,g,d,tk,os⟩:=s1;exact Z02 I1.kIn R O na ho hc hx hnc hn.ns hu (Gd ru) ⟨v,H1,I1.tok _,ru,q⟩
end
end Sb
namespace Sb
open PySem PySem.Spec PyProof.Rows L2
def BaseHere (K:TQ)(mg:TB)(x:Str):Prop:=∃ D,BaseI K mg x D
theorem Z0d {x:Str}(X:K.In h)(G:h.Ns mainGlobals mg)(a:W.nsIn K mainGlobals x=some (some (.ref D)))(r:W.readsIn K D (.type "type")=true)(t:W.typeIn K (.ref D)=some (.type "type"))
  (f:W.findCls K (.ref D) (.type "type") "__init__"=some (.val (.builtin "ValueError.__init__"))):BaseHere K mg x:=⟨D,zt X G a,r,t,f⟩
theorem D9 {x:Str}{a:Addr}(h1:mg x=some (.ref a))(h2:mg x=some (.ref b)):a=b:=by
 rw[h1] at h2;injection h2 with h
 injection h
def CatchHere (K:TQ)(mg:TB)(x y:Str):Prop:=∃ (C D:Addr),CatchBy K C D/\mg x=some (.ref C)/\mg y=some (.ref D)
theorem Ce {x y:Str}(X:K.In h)(G:h.Ns mainGlobals mg)(a:W.nsIn K mainGlobals x=some (some (.ref C)))(b:W.nsIn K mainGlobals y=some (some (.ref D)))
  (n:W.instIn K (.ref D) (.type "tuple")=some false) (be:W.subIn K (.ref D) (.type "BaseException")=some true) (i:W.kitOne K (.type "int") (.ref D)=some false) (k:W.subIn K (.ref C) (.ref D)=some true):CatchHere K mg x y :=
 ⟨C,D,⟨n,be,i,k⟩,zt X G a,zt X G b⟩
section
variable {X:Cx}{K:TQ}
theorem Wq (hK:X.K=K:=by rfl):CallR X (.builtin "isinstance") (λxs H Q=>∃ (a C:Addr) (dd:TN) (c:V) (b:Bool),xs=[.ref a,c]/\H a=some (excC a C dd)/\ExcRead K C ∧
  ((∃ cv,(∀ u,RelV c u->u=cv)/\W.kitOne K (.ref C) cv=some b) \/ (∃ (t:Addr) (cs:TJ),c=.ref t/\SqT K H t (cs.map V.ref)/\W.kitAny K (.ref C) (cs.map Value.ref)=some b))/\Q (.bl b) H):=by
 subst hK;intro pins s σ H xs us Q I r h;obtain⟨a,C,dd,c,b,rfl,ha,R,hc,q⟩:=h;obtain⟨u,w',rfl,rx,ry⟩:=Gz r
 cases (show u=Value.ref a from rx);obtain⟨⟨o,e,hoc,_⟩,_,_⟩:=(show ObjOk X.prog X.w H s.heap a (excC a C dd) from I.hok a _ ha);rcases hc with ⟨cv,hcv,k⟩ | ⟨t,cs,rfl,st,k⟩
 ·cases hcv w' ry;exact qW (Nk R) I.kIn ⟨o,e,hoc⟩ k (λz=>nomatch z) λtk=>⟨.bl b,H,I.tok tk,rfl,q⟩
 cases (show w'=Value.ref t from ry);obtain⟨its,rv,p,_⟩:=I.tuple st;have ei:its=cs.map Value.ref:=by
  clear p k st ry e ha
  revert rv
  generalize cs=l;intro rv
  induction l generalizing its with
  | nil=>cases rv;rfl
  | cons x l ih =>
   cases rv with
   | cons h1 h2 =>
    cases h1;rw[ih _ h2];rfl
 subst ei;obtain⟨ot,ht,hct,nt,hdt⟩:=(show s.heap.IsTuple t (cs.map Value.ref).toArray from p);obtain⟨oc,od,odt,osl⟩:=ot
 cases hct
 cases hdt;exact W.kia_tup (Nk R) I.kIn ⟨o,e,hoc⟩ ht k (λz=>nomatch z) λtk=>⟨.bl b,H,I.tok tk,rfl,q⟩
end
open PySem.W (Looks findIn specialIn takesIn mroIn clsIn)
def stepV (xs:TV)(lo hi st:Option Int):List V :=
 (sliceRange (sliceBounds lo hi st xs.length).1 (sliceBounds lo hi st xs.length).2.1 (sliceBounds lo hi st xs.length).2.2).filterMap (xs[·]?)
theorem Kx {xs:TV}{us:TH}(r:Vals xs us)(l:List Nat):Vals (l.filterMap (xs[·]?)) (l.filterMap (us[·]?)):=by
 have len:=r.length
 induction l with
 | nil=>exact .nil
 | cons i l ih =>
  by_cases h:i<xs.length
  ·have e:xs[i]?=some xs[i]:=by simp[h]
   obtain⟨u,eu,ru⟩:=r.get e;rw[GI,GI,e,eu];exact .cons ru ih
  rw[GI,GI,qE U,qE U];exact ih
section
variable {X:Cx}
inductive rSl3 (K:TQ) (x:V) (lo hi st:Option Int) (H:Hp) (Q:VK):Prop
 | mk (a:Addr) (xs:TV) (a0:x=.ref a) (a1:SqL K H a xs) (a2:st≠some 0) (a3:(stepV xs lo hi st).length<=sizeLine) (a4:∀ p,H p=none->Q (.ref p) (upd H p (.lst (stepV xs lo hi st))))
def tSl3 (K:TQ)(te:TE)(tl th tk:TO):TE:=λσ H Q=>te σ H λx H1=>tl σ H1 λl H2=>th σ H2 λu H3=>tk σ H3 λk H4=>rSl3 K x l u k H4 Q
theorem U7 {e:Expr}{lo hi:Option Expr}{st:Expr}{tl th tk:TO}{p2:Pos}(he:PE X e te)(hl:PO X lo tl)(hu:PO X hi th)(hk:PO X (some st) tk):PE X (.Subscript e (.Slice lo hi (some st) p2) pos) (tSl3 X.K te tl th tk):=by
 intro pins s σ H Q I h;refine Subscript_ (thn (he pins s σ H _ I h) λv s1 ⟨x,H1,I1,r1,q1⟩=>?_);refine wpAny_Slice (thn (hl pins s1 σ H1 _ I1 q1) λvl s2 ⟨l,H2,I2,pl,q2⟩=>thn (hu pins s2 σ H2 _ I2 q2) λvu s3 ⟨u,H3,I3,pu,q3⟩=>thn (hk pins s3 σ H3 _ I3 q3) λvk s4 ⟨k,H4,I4,pk,q4⟩=>?_);have I5:Inv X pins σ H4 { s4 with heap:=s4.heap.push { cls:=.type "slice",data:=.fields #[vl,vu,vk] } }:=I4.kept (t':=s4.toks) λb ob q=>YD _ q;obtain⟨a,xs,rfl,hx,h0,hn,q⟩:=q4
 cases r1;show wpAny (model X.prog X.w) X.A (subscriptTail e (.Slice lo hi (some st) p2) (.ref a) (.ref s4.heap.objs.size)) (EP X pins σ Q) X.xe { s4 with heap:=s4.heap.push { cls:=.type "slice",data:=.fields #[vl,vu,vk] } };obtain⟨its,r,ht,hz⟩:=I5.list hx;have hlen:=r.length;refine tail_any (ops:=[.ref a,.ref s4.heap.objs.size]) ht.isList.typeIs Y0h.lookup ?_ (by with_unfolding_all rfl);refine Y0o ht.isList (Heap.IsSliceOf.new ..) pl pu pk h0 ?_ (by rw[YY] <;> omega);have e1:slicePick its.toArray l u k=((sliceRange (sliceBounds l u k xs.length).1 (sliceBounds l u k xs.length).2.1 (sliceBounds l u k xs.length).2.2).filterMap (its[·]?)).toArray:=by
  unfold slicePick;rw[YY,<-hlen];simp
 rw[e1];refine⟨.ref _,_,I5.laid (t':=s4.toks) (o:=.lst (stepV xs l u k)) (λb ob q=>YD _ q) (YO _) ?_,rfl,q _ (I5.hok.fresh (YO _))⟩;exact⟨hn,_,0,Kx r _,YL _ rfl⟩
end
section
variable {X:Cx}{K:TQ}
inductive rIndexF (K:TQ) (x:V) (vs:TV) (H:Hp) (Q:VK):Prop
 | mk (l:Addr) (xs:TV) (v:V) (j:Nat) (a0:x=.ref l) (a1:vs=[v]) (a2:SqL K H l xs) (a3:flatV v=true) (a4:xs.all flatV=true) (a5:∃ y,xs[j]?=some y/\eqV y v=true) (a6:∀ m y,m<j->xs[m]?=some y->eqV y v=false) (a7:xs.length<=1000) (a8:Q (.int j) H)
theorem U9 (hK:X.K=K:=by rfl):MtM X "list.index" (rIndexF K):=by
 subst hK;intro pins s σ H x vs v us Q I rx rv h;obtain⟨l,xs,w,j,rfl,rfl,hq,fw,fs,⟨yj,ej,tj⟩,hno,hl,q⟩:=h
 cases rx;obtain⟨u,rfl,ru⟩:=rv.one;obtain⟨its,r,pl,hz⟩:=I.list hq;obtain⟨⟨cls,dd,data,sl⟩,ho,hc,n,hd⟩:=pl.isList;simp only at hc hd;subst hc hd;have lr:=r.length;have hjn:j<xs.length:=(XS.mp ej).1;have hjs:j<its.toArray.size:=by simp;omega
 have at_:∀ (m:Nat) (hm:m<its.toArray.size) (y:V),xs[m]?=some y->eqU w its.toArray[m]=eqV y w:=λm hm y ey=>by
  obtain⟨z,e,rz⟩:=r.get ey;have hm':m<its.length:=by simpa using hm
  have:its[m]?=some its[m]:=by simp[hm']
  rw[this] at e;have e2:its.toArray[m]=z:=by simpa using XH e
  rw[e2];exact Lm rz (GG.mp fs y (YV ey))
 refine j7 F.slot_list_index ⟨_,ho,rfl⟩ F.entry_list_index (F.args_list_index_2 _ _) (SeqAt.list_indexAt l its.toArray n dd sl u (eqU w) j hjs U ?_ ?_) ⟨ho,λy hy=>?_,?_⟩
 ·rw[at_ j hjs yj ej];exact tj
 ·intro m hm hmj;have hm':m<xs.length:=by simp at hm;omega
  have ey:xs[m]?=some xs[m]:=by simp[hm']
  rw[at_ m hm _ ey];exact hno m _ hmj ey
 ·exact Wd ru fw r fs y (by simpa using hy)
 exact⟨.int j,H,I.tok _,⟨_,rfl⟩,q⟩
end
end Sb
namespace Sb
open PySem PySem.Builtin.SmallTypes PyProof.Rows
section
variable {prog:TR}{w:World}{A:Around}{E:TC}{s:Shared}
theorem Ut {T newId:String}{Bn:Builtin}{args:TH}{kw:List (Str × Value)}{S:PySem.Spec}{Q Q₁:TC}(ft:TypeCalled T newId "object.__init__")
  (hct:checkTypeCall T ⟨args,kw⟩=pure ()) (hcn:checkBuiltinCall newId ⟨.type T::args,kw⟩=pure ())
  (entryN:entryFor table newId=some Bn) (g:Meets (Bn ⟨.type T::args,kw⟩) S)
  (h:S A.in1 (wants Q₁ E) s)
  (hnext:∀ obj s₁,Q₁ obj s₁->s₁.TypeIs obj T/\argsOk "object.__init__" ⟨obj::args,kw⟩/\∃ Si,Meets (Builtin.«object.__init__» ⟨obj::args,kw⟩) Si/\Si A.in1 (wants (λr s₂=>r=.none/\Q obj s₂) E) s₁) :
  wpAny (model prog w) A (call (.type T) args kw) Q E s:=by
 obtain⟨c,tl,hmro⟩:=ft.mro;have hmade:=ft.made;have hsub:=ft.sub;refine z3 (jl ?_);show wpAny _ _ (callAny (.type T) _) _ _ _;refine YE ⟨z9 _ J9,GP F.entry_type_call ?_⟩;rw[Around.under_plain (weight_type_call_type T args kw) (units_type_call_type T args kw)];have h1:=ft.notType;have h2:=ft.canCreate
 repeat (any_goals (first | assumption | wp_step))
 refine qI (GO ft.plain entryN (Y0W hcn (g prog w A.in1 _ s h))) λr s₁ hr=>?_
 cases r with
 | error e=>exact hr
 | ok fl =>
  cases fl with
  | ret obj =>
   obtain⟨hT,hok,Si,gi,hsi⟩:=hnext _ _ hr;have hli:=ft.init.lookup;have hbi:=ft.init.bind obj
   repeat (any_goals (first | assumption | wp_step))
   refine qI (GO ft.init.plain F.entry_object_init (ft.init.check _ _ _ _ _ _ _ _ hT hok (gi prog w A.in1 _ s₁ hsi))) λr₂ s₂ hr₂=>?_
   cases r₂ with
   | error e=>exact hr₂
   | ok fl₂ =>
    cases fl₂ with
    | ret r =>
     obtain⟨rfl,hq⟩:=hr₂
     repeat (any_goals (first | assumption | wp_step))
    | _=>exact hr₂.elim
  | _=>exact hr.elim
end
end Sb
namespace Sb
open PySem PySem.Builtin.SmallTypes
section
variable {prog:TR}{w:World}{A:Around}{s:Shared}
theorem L7 {T newId:String}{self:Value}{rest:TH}{kw:List (Str × Value)}(hl:typeLookup (.type T) "__init__"=pure (some (.builtin "object.__init__")))
  (hm:Bind.madeBy (.type T)=pure (some newId)) (hne:(some newId != some "object.__new__")=true) :
  Meets (Builtin.«object.__init__» ⟨self::rest,kw⟩) (λ_ R s=>s.TypeIs self T/\R (.ok (.ret .none)) s):=by
 refine Meets.of_wp λprog w A R s hs=>?_;obtain⟨hT,hq⟩:=hs
 cases rest with
 | nil =>
  cases kw with
  | nil=>exact YE ⟨_,rfl,hq⟩
  | cons a kw =>
   repeat (any_goals (first | assumption | wp_step))
   exact⟨_,rfl,hq⟩
 | cons a rest =>
  repeat (any_goals (first | assumption | wp_step))
  exact⟨_,rfl,hq⟩
theorem F5 (a:Value)(k:Tok):checkTypeCall "enumerate" ⟨[a],[("start",.int 1 k)]⟩=pure ():=by kernel_rfl
theorem D5 (a:Value)(k:Tok):checkBuiltinCall "enumerate.__new__" ⟨[.type "enumerate",a],[("start",.int 1 k)]⟩=pure ():=by kernel_rfl
theorem Cl (o a:Value)(k:Tok):argsOk "object.__init__" ⟨[o,a],[("start",.int 1 k)]⟩:=by
 unfold argsOk
 kernel_rfl
theorem Ng (l:Bool)(t:Addr)(k:Tok)(ys:Array Value)(n:Nat)(dd:TN)(sl:Array (Option Value)):Meets (Builtin.«enumerate.__new__» ⟨[.type "enumerate",.ref t],[("start",.int 1 k)]⟩) (λ_ R s=>s.heap.get? t=some { cls:=.type (kN l),dict:=dd,data:=.seq ys n,slots:=sl } ∧
  R (.ok (.ret (.ref (zH1 l s.heap t).objs.size))) { s with heap:=(zH1 l s.heap t).push { cls:=.type "enumerate",data:=.fields #[.none,.bool false,.ref s.heap.objs.size,rawInt 1,.none,.none] } }) :=
 .of_wp λprog w A R s h=>by
  obtain⟨hp,g,d,tk,os⟩:=s;obtain⟨hl,h⟩:=h;have hsub:=sub_enumerate;have hL:Iq l (Shared.heap ⟨hp,g,d,tk,os⟩) t ys:=⟨_,hl,rfl,n,rfl⟩
  wp_walk using jm hl
  refine wpAny_stack_any λst=>YE ?_;split
  ·rename_i c _ _ _ _ _
   cases (c == Value.type "enumerate")
   ·wp_walk using jm hl,Sc hL
    exact⟨_,rfl,h⟩
   wp_walk using jm hl,Sc hL
   exact⟨_,rfl,h⟩
  wp_walk using jm hl,Sc hL
  exact⟨_,rfl,h⟩
end
section
variable {prog:TR}{w:World}{A:Around}{E:TC}{s:Shared}
theorem Lu {t:Addr}{k:Tok}{ys:Array Value}{Q:TC}(l:Bool)(ht:Iq l s.heap t ys)
  (h:∀ h',IsEnum h' (s.heap.objs.size+1) s.heap.objs.size 1 .none->Ir l h' s.heap.objs.size t 0->h'.objs.size=s.heap.objs.size+2->(∀ b o,s.heap.get? b=some o->h'.get? b=some o)->Q (.ref (s.heap.objs.size+1)) { s with heap:=h' }) :
  wpAny (model prog w) A (call (.type "enumerate") [.ref t] [("start",.int 1 k)]) Q E s:=by
 obtain⟨⟨c,dd,dt,sl⟩,e,c1,n,d1⟩:=ht
 cases c1
 cases d1;refine Ut (Q₁:=λobj s₁=>s₁.TypeIs obj "enumerate"/\Q obj s₁) Y05 (F5 _ _) (D5 _ _) F.entry_enumerate_new (Ng l t k ys n dd sl) ⟨e,?_⟩ λobj s₁ hq=>⟨hq.1,Cl _ _ _,_,L7 Y05.init.lookup Y05.made J7,hq.1,rfl,hq.2⟩;have hz:(zH1 l s.heap t).objs.size=s.heap.objs.size+1:=GM ..;have q:=YL (zH1 l s.heap t) (o:={ cls:=.type "enumerate",data:=.fields #[.none,.bool false,.ref s.heap.objs.size,rawInt 1,.none,.none] }) rfl;show _/\_;rw[hz] at q ⊢;exact⟨⟨_,q,rfl⟩,h _ q ⟨_,YD _ (YL _ rfl),rfl,rfl⟩ (by rw[GM,hz]) λb o x=>YD _ (YD _ x)⟩
theorem Z07 {fp:TJ}{n:Nat}{P:Nat->Value->Prop}{St:Nat->Heap->Prop}(D:Draws prog w A it fp n P St):Draws prog w A it fp (n+1) (λi=>P (i - 1)) (λi h=>0<i/\St (i - 1) h) where
 live:=λi h st=>D.live _ h st.2
 frame:=λi h h' st k=>⟨st.1,D.frame _ h h' st.2 k⟩
 item:=λi s Q E lt st hQ=>D.item (i - 1) s Q E U st.2 λx h' tk px st' sb=>hQ x h' tk px ⟨Nat.succ_pos _,by rw[show i+1 - 1=i - 1+1 by omega];exact st'⟩ sb
 done:=λs Q E st hE=>D.done s Q E st.2 hE
end
end Sb
namespace Sb
open PySem PySem.Spec PyProof.Rows L2
def Ite1 (S:Hp->Addr->List V->Prop)(t:Addr):It :=
 ⟨λi H=>∃ xs,S H t xs/\i<xs.length,
   λi H v H'=>∃ p x,v=.ref p/\H p=none/\H'=upd H p (.tup [.int ((i+1:Nat):Int),x])/\∀ xs,S H t xs->xs[i]?=some x,
   λi H=>∃ xs,S H t xs/\i=xs.length⟩
section
variable {P:TR}{w:World}{K:TQ}{es:TK}{kk:Nat}{tp:Pos}{e it t:Addr}{l:Bool}
theorem C4 {i:Nat}{j:Int}(st:(∃ old,IsEnum h e it j old)/\Ir l h it t i):∀ b∈[e,it],∃ o,h.get? b=some o/\∀ v,o.data≠.cell v:=λb hb=>by
 obtain⟨⟨old,he⟩,⟨o1,e1,_,d1⟩⟩:=st;simp only [YC,YH,XL] at hb;rcases hb with rfl | rfl
 ·exact⟨_,he,λv q=>by have q':Data.fields _=Data.cell v:=q;cases q'⟩
 exact⟨_,e1,λv q=>by rw[d1] at q;cases q⟩
theorem Mg (O:e≠it)(t:Addr):Turn P w K (.Tuple es kk tp) (Ite1 (Sq l K) t) [e,it] e (λi h=>(∃ old,IsEnum h e it ((i+1:Nat):Int) old)/\Ir l h it t i) where
 mem:=J8
 obj:=λi h st=>C4 st
 keep:=λi h h' st k=>by
  obtain⟨⟨old,he⟩,⟨o1,e1,r1⟩⟩:=st;exact⟨⟨old,k e J8 _ he⟩,⟨o1,k it J8 _ e1,r1⟩⟩
 item:=by
  intro X hP hw hK hc i pins s σ H E I hf st hg;subst hP hw hK;obtain⟨xs,hx,lx⟩:=hg;have ob:=C4 st;obtain⟨⟨old,he⟩,c1⟩:=st;obtain⟨u1,v1,p1⟩:=T6 I hx;have n1:=v1.length;have m0:=hf e J8;refine wpAny_pyNext_enum_itemD (i:=i+1) (Z07 (Kn I hc (hf it J8) hx u1)) he ⟨Nat.succ_pos _,c1,p1,Z0o I⟩ (by simp;omega) O (by simp[O,(Z0k I m0 hx).symm,(Fp m0).1]) λx g tk px out s1 pr sz kp=>?_;refine⟨_,rfl,wpAny_letOwnedTupleGo_enum out λg2 z2 sb=>?_⟩;obtain⟨x0,ex,rx⟩:=Z2r v1 lx px;have sb2:∀ b,b≠e->g2.get? b=g.get? b:=λb hb=>sb.2 b hb;have new:ObjOk X.prog X.w (upd H s.heap.objs.size (.tup [.int ((i+1:Nat):Int),x0])) g2 s.heap.objs.size (.tup [.int ((i+1:Nat):Int),x0]) :=
   ⟨by show 2<=sizeLine;decide,[.int ((i+1:Nat):Int) tk,x],.cons ⟨tk,rfl⟩ (.cons rx .nil),⟨_,by rw[sb2 _ (zA (YJ he))];exact pr,rfl,0,rfl⟩⟩
  have I2:=Qu (t':=tk+1) I hf (λb o hb q=>by
   simp only [YC,YH,XL,not_or] at hb;rw[sb2 b hb.1];exact kp b o hb.1 hb.2 q) (YO _) new
  refine⟨.ref s.heap.objs.size,_,I2,rfl,⟨_,x0,rfl,I.fresh,rfl,λxs' h1=>by rw[Z12 I h1 hx];exact ex⟩,⟨⟨x,z2⟩,?_⟩,Z2l rfl hf ob⟩;obtain⟨_,⟨o,q,r⟩,_⟩:=s1;exact⟨o,sb.extBut _ _ O.symm q,r⟩
 done:=by
  intro X hP hw hK hc i pins s σ H E I hf st hg;subst hP hw hK;obtain⟨xs,hx,rfl⟩:=hg;obtain⟨⟨old,he⟩,c1⟩:=st;obtain⟨u1,v1,p1⟩:=T6 I hx;have c1':Ir l s.heap it t u1.toArray.size:=by
   rw[YY,<-v1.length];exact c1
  refine wpAny_pyNext_enum_endD (Kn I hc (hf it J8) hx u1) he ⟨c1',p1,Z0o I⟩ λg kp=>⟨rfl,?_⟩;exact Nn (t':=s.toks) I hf λb o hb q=>by
   simp only [YC,YH,XL,not_or] at hb;exact kp b o hb.2 q
 self:=λ_ _ _ _ _ st h=>by
  obtain⟨⟨old,he⟩,_⟩:=st;exact wpAny_pyIter_enum he h
end
end Sb
namespace Sb
open PySem PyProof.Rows
section
variable {M:Model}{A:Around}{E:TC}{s:Shared}{env:Env}
theorem P7 {T:String}{e:Expr}{rest:TK}{kws:List Keyword}{Q:TC}
  (h:wpAny M A (spliced (backTo pos (starEach (e::rest) env))) (λvs s₁=>wpAny M A (evalAll ((backToKw pos (keywordEach kws env)).map (·.2)))
   (λkvs s₂=>wpAny M A (call (.type T) vs (((backToKw pos (keywordEach kws env)).filterMap (·.1)).zip kvs)) Q E s₂) E s₁) E s)
  (he:backTo pos (starEach (e::rest) env)=(false,eval e env)::backTo pos (starEach rest env):=by rfl)
  (hplain:(backTo pos (starEach (e::rest) env)).any (·.1)=false:=by rfl)
  (hall:(backToKw pos (keywordEach kws env)).all (·.1.isSome)=true:=by rfl)
  (hkw:(backToKw pos (keywordEach kws env)).any (·.1.isNone)=false:=by rfl) :
  wpAny M A (callWith pos (.type T) [] (backTo pos (starEach (e::rest) env)) (backToKw pos (keywordEach kws env))) Q E s:=by
 rw[he] at h hplain ⊢;unfold callWith;refine YA (XO (GN (evalArgs_kwB (Q:=λa s₁=>wpAny M A (call (.type T) ([]++a.pos) a.kw) Q E s₁) hall h) (λa s₁ h₁=>YA (qM ?_)) λ_ _ x=>x));simp only [hplain,hkw,Bool.or_false];refine YA (YE ?_);exact YA (GN h₁ (λr s₂ hr=>YA (XO (wpAny_point (YE hr)))) λ_ _ x=>x)
end
end Sb
namespace Sb
open PySem PySem.Spec PyProof.Rows L2
section
variable {X:Cx}{es:TK}{kk:Nat}{tp:Pos}{p pos:Pos}{ta:TA}{a:Expr}
inductive iEnum1_i (S:Hp->Addr->List V->Prop) (R:(It->Hp->Prop)) (vs:TV) (H1:Hp):Prop
 | mk (t:Addr) (a0:vs=[.ref t]) (a1:(∃ xs,S H1 t xs)) (a2:R (Ite1 S t) H1)
def iEnum1 (S:Hp->Addr->List V->Prop)(ta:TA):TI:=λσ H R=>ta σ H (iEnum1_i S R)
theorem Fr {j:Nat}{cp kp:Pos}(hg:Gl X "enumerate")(hm:X.mg "enumerate"=none)(ha:PA X [a] ta)(hs:starEach [a] X.env=[(false,eval a X.env)]:=by rfl) :
  PI X (.Tuple es kk tp) (.Call (.Name "enumerate" p) [a] [⟨some "start",.Constant (.int 1) j cp,kp⟩] pos) (iEnum1 (SqL X.K) ta):=by
 intro pins s σ H R I h;refine z4 (Vh I hg hm boot_enumerate (P7 (thn (ha pos pins s σ H _ I h) λus s1 ⟨vs,H1,I1,r1,q1⟩=>?_) (by rw[hs];rfl) (by rw[hs];rfl) rfl rfl));obtain⟨t,e,⟨xs,hx⟩,q⟩:=q1;subst e;obtain⟨t0,e0,rt⟩:=W7 r1
 cases (show t0=Value.ref t from rt);subst e0;refine kws_cons (wpAny_Constant_int ?_);refine kws_nil ?_;obtain⟨u1,v1,p1⟩:=T6 (l:=true) I1 hx;refine Lu true p1 λg z0 i1 sz kp=>wpAny_pyIter_enum z0 ?_;refine⟨s1.heap.objs.size+1,[s1.heap.objs.size+1,s1.heap.objs.size],_,_,H1,rfl,I1.kept (t':=s1.toks+1) kp,Mg (l:=true) (O:=?_) t,⟨⟨_,z0⟩,i1⟩,Z24 I1 ?_,q⟩
 ·show @Ne Nat _ _;omega
 simp
end
def valK (kvs:List (Key × V))(k:Key):Option V:=(kvs.find? λkv=>decide (kv.1=k)).map (·.2)
def RelO:Option V->Option Value->Prop
 | none,none=>True
 | some x,some u=>RelV x u
 | _,_=>False
theorem RelO.getD {a:Option V}{b:Option Value}{x:V}{u:Value}(h:RelO a b)(d:RelV x u):RelV (a.getD x) (b.getD u):=by
 cases a with
 | none =>
  cases b with
  | none=>exact d
  | some _=>exact h.elim
 | some a =>
  cases b with
  | none=>exact h.elim
  | some _=>exact h
theorem Z1v {kvs:List (Key × V)}{vs:List (Key × Value)}(r:KV kvs vs)(k:Key):RelO (valK kvs k) (valueAt vs k):=by
 unfold KV at r
 induction r with
 | nil=>exact True.intro
 | @cons p q ps qs h t ih =>
  obtain⟨h1,h2⟩:=h;by_cases e:p.1=k
  ·have e':q.1=k:=h1.symm.trans e;have b:valueAt (q::qs) k=some q.2:=by simp[valueAt,jn,e']
   have c:valK (p::ps) k=some p.2:=by simp[valK,jn,e]
   rw[b,c];exact h2
  have e':¬ q.1=k:=λz=>e (h1.trans z);have b:valueAt (q::qs) k=valueAt qs k:=by simp[valueAt,jn,e']
  have c:valK (p::ps) k=valK ps k:=by simp[valK,jn,e]
  rw[b,c];exact ih
theorem Df {P:TR}{w:World}{k:Key}{u:Value}(r:RelV (kV k) u):(mixKind P w).is k u=true:=by
 cases k with
 | inl i=>obtain⟨t,e⟩:=(show ∃ t,u=Value.int i t from r);subst e;exact Nf P w i t
 | inr x=>obtain⟨t,e⟩:=(show ∃ t,u=Value.str x t from r);subst e;exact Nd P w x t
section
variable {X:Cx}
inductive rDGet (x:V) (vs:TV) (H:Hp) (Q:VK):Prop
 | mk (a:Addr) (kvs:List (Key × V)) (k:Key) (a0:x=.ref a) (a1:vs=[kV k]) (a2:H a=some (.dK kvs)) (a3:Q ((valK kvs k).getD .non) H)
theorem K9:MtR X "dict.get" rDGet:=by
 intro pins s σ H x vs v us Q I rx rv h;obtain⟨a,kvs,k,rfl,rfl,e,q⟩:=h
 cases rx;obtain⟨u,rfl,ru⟩:=rv.one;obtain⟨z,hd,ws,rel,dd⟩:=(show ObjOk X.prog X.w H s.heap a (.dK kvs) from I.hok a _ e);refine call_meetsIn zY dd.typeIs PySem.F.entry_dict_get (PySem.F.args_dict_get_2 _ _) (meets_dict_get (mixKind X.prog X.w) a (Df ru) hd) ⟨_,dd.mapOf,?_⟩;exact⟨_,H,I.tok _,(Z1v rel k).getD (x:=.non) (show Value.none=Value.none from rfl),q⟩
end
end Sb
namespace Sb
open PySem
def Ris (xs:Array Nat):Prop:=∀ i j,i<j->j<xs.size->xs.getD i 0<xs.getD j 0
theorem Ch {xs:Array Nat}{j:Nat}(r:Ris xs):∀ (fuel lo hi:Nat),lo<=hi->hi<=xs.size->hi - lo<=fuel->(∀ i,i<lo->xs.getD i 0<j)->(∀ i,hi<=i->i<xs.size->j<=xs.getD i 0) →
  (SetTable.below.go xs j fuel lo hi)<=xs.size/\(∀ i,i<SetTable.below.go xs j fuel lo hi->xs.getD i 0<j)/\∀ i,SetTable.below.go xs j fuel lo hi<=i->i<xs.size->j<=xs.getD i 0:=by
 intro fuel
 induction fuel with
 | zero =>
  intro lo hi h1 h2 h3 a b;have:lo=hi:=U
  subst this;exact⟨h2,a,b⟩
 | succ fuel ih =>
  intro lo hi h1 h2 h3 a b;unfold SetTable.below.go;by_cases h:lo<hi
  ·rw[JD h];have m1:(lo+hi) / 2<hi:=U
   have m2:lo<=(lo+hi) / 2:=U
   have eD:xs.getD ((lo+hi) / 2) j=xs.getD ((lo+hi) / 2) 0:=by simp[Array.getD,show (lo+hi) / 2<xs.size by omega]
   dsimp only;rw[eD];by_cases c:xs.getD ((lo+hi) / 2) 0<j
   ·rw[JD c];refine ih _ _ U h2 U (λi hi'=>?_) b;by_cases e:i=(lo+hi) / 2
    ·rw[e];exact c
    exact qK (r i _ U U) c
   rw[XQ c];refine ih _ _ m2 U U a (λi h4 h5=>?_);by_cases e:i=(lo+hi) / 2
   ·rw[e];omega
   have:=r ((lo+hi) / 2) i U h5;omega
  rw[XQ h];have:lo=hi:=U
  subst this;exact⟨h2,a,b⟩
theorem U0 {xs:Array Nat}{j:Nat}(r:Ris xs):SetTable.below xs j<=xs.size/\(∀ i,i<SetTable.below xs j->xs.getD i 0<j)/\∀ i,SetTable.below xs j<=i->i<xs.size->j<=xs.getD i 0 :=
 Ch r _ _ _ (JU _) (YO _) U (λi h=>absurd h (Nat.not_lt_zero _)) λi h1 h2=>U
theorem Lw {xs:Array Nat}(r:Ris xs){i:Nat}(h:i<xs.size):SetTable.below xs (xs.getD i 0+1)=i+1:=by
 obtain⟨a,b,c⟩:=U0 (j:=xs.getD i 0+1) r;apply jk
 ·apply qk;intro z;have:=b (i+1) z;have:=r i (i+1) U U;omega
 apply qk;intro z;have:=c i U h;omega
theorem Lv {xs:Array Nat}(r:Ris xs):SetTable.below xs 0=0:=by
 obtain⟨a,b,_⟩:=U0 (j:=0) r;apply Nat.eq_zero_of_not_pos;intro z;exact absurd (b 0 z) (Nat.not_lt_zero _)
theorem Bz {xs:Array Nat}{j i:Nat}(r:Ris xs)(h:i<xs.size)(e:xs.getD i 0=j):xs[SetTable.below xs j]?=some j:=by
 obtain⟨a,b,c⟩:=U0 (j:=j) r;have h1:SetTable.below xs j<=i:=by
  apply qk;intro z;have:=b i z;omega
 have h2:SetTable.below xs j=i:=by
  apply jk h1;apply qk;intro z;have:=c (SetTable.below xs j) (YO _) U;have:=r (SetTable.below xs j) i z h;omega
 rw[h2,GD h];simp[Array.getD,h] at e;rw[e]
theorem Vy {xs:Array Nat}{p x i:Nat}(hp:p<=xs.size):(SetTable.insertAt xs p x).size=xs.size+1/\(SetTable.insertAt xs p x).getD i 0=if i<p then xs.getD i 0 else if i=p then x else xs.getD (i - 1) 0:=by
 have e:SetTable.insertAt xs p x=((xs.toList.take p)++x::xs.toList.drop p).toArray:=by
  apply Array.ext';rw[SetTable.toList_insertAt]
 have n:xs.toList.length=xs.size:=JW;constructor
 ·rw[e];simp;omega
 have g:∀ (l:List Nat) (k:Nat),l.toArray.getD k 0=l.getD k 0:=λl k=>by simp[Array.getD,List.getD,qf];split <;> simp_all
 have g2:∀ k,xs.getD k 0=xs.toList.getD k 0:=λk=>by rw[<-g]
 rw[e,g,g2,g2];by_cases h:i<p
 ·rw[JD h];have h':i<min p xs.size:=U
  simp[List.getD,jg,List.getElem?_take,h,n];rw[JD h']
 rw[XQ h];by_cases h2:i=p
 ·subst h2;simp[List.getD,jg,n,JQ hp]
 rw[XQ h2];have:i - min p xs.size=(i - p - 1)+1:=by rw[JQ hp];omega
 simp[List.getD,jg,n,JQ hp,h];rw[show i - p=(i - p - 1)+1 by omega,List.getElem?_cons_succ,Y1i,show p+(i - p - 1)=i - 1 by omega];simp
theorem Cy {xs:Array Nat}{j:Nat}(r:Ris xs)(no:∀ i,i<xs.size->xs.getD i 0≠j):Ris (SetTable.insertAt xs (SetTable.below xs j) j):=by
 obtain⟨a,b,c⟩:=U0 (j:=j) r;intro i k hik hk;rw[(Vy (i:=i) a).1] at hk;rw[(Vy (i:=i) a).2,(Vy (i:=k) a).2];generalize SetTable.below xs j=p at *
 by_cases h1:i<p
 ·rw[JD h1];by_cases h2:k<p
  ·rw[JD h2];exact r i k hik U
  rw[XQ h2];by_cases h3:k=p
  ·rw[JD h3];exact b i h1
  rw[XQ h3];exact r i (k - 1) U U
 rw[XQ h1,XQ (show ¬ k<p by omega),XQ (show ¬ k=p by omega)];by_cases h3:i=p
 ·rw[JD h3];have:=c (k - 1) U U;have:=no (k - 1) U;omega
 rw[XQ h3];exact r (i - 1) (k - 1) U U
structure TabG (t:SetTable):Prop where
 ris:Ris t.place
 nd:t.dummies=#[]
theorem Jd (n:Nat):Ris (Array.range n):=λi j h hj=>by
 simp at hj;simp[Array.getD,hj,show i<n by omega];exact h
theorem TabG.standIn (t:SetTable)(n:Nat):TabG (t.standIn n):=⟨Jd n,rfl⟩
theorem Fn {t:SetTable}{f:Nat->Int}{h:Int}(nd:t.dummies=#[]):∀ (fuel:Nat) (p:SetTable.Probe) (j:Nat) (d:Option Nat),p.dummy=none->SetTable.probe.go t f h fuel p=some (.empty j d)->d=none/\t.slot j=.empty:=by
 intro fuel
 induction fuel with
 | zero=>intro p j d _ e;cases e
 | succ fuel ih =>
  intro p j d hp e;unfold SetTable.probe.go at e;have adv:(t.advance p).dummy=none:=by
   unfold SetTable.advance;split
   ·exact hp
   exact hp
  cases hs:t.slot p.j with
  | empty =>
   rw[hs] at e;simp only [Y0j,SetTable.Met.empty.injEq] at e;obtain⟨rfl,rfl⟩:=e;exact⟨hp,hs⟩
  | dummy =>
   exfalso;unfold SetTable.slot at hs;dsimp only at hs;split at hs
   ·cases hs
   rw[nd] at hs;simp[SetTable.has] at hs
  | live i =>
   rw[hs] at e;dsimp only at e;split at e
   ·cases e
   exact ih _ j d adv e
theorem Z01 {t:SetTable}(g:TabG t){h:Int}{j:Nat}{b:Bool}(e:t.freeSlot h=some (j,b)):(∀ i,i<t.place.size->t.place.getD i 0≠j)/\b=false:=by
 unfold SetTable.freeSlot SetTable.probe at e;split at e
 ·rename_i j' d hp
  obtain⟨rfl,sl⟩:=Fn g.nd _ _ j' d rfl hp;simp only [Y0t,Y1e,Y0j,Prod.mk.injEq] at e;obtain⟨rfl,rfl⟩:=e;refine⟨λi hi z=>?_,rfl⟩;have:=Bz g.ris hi z;unfold SetTable.slot at sl;dsimp only at sl;rw[this] at sl;simp at sl
 cases e
theorem TabG.put {t:SetTable}(g:TabG t){j:Nat}(no:∀ i,i<t.place.size->t.place.getD i 0≠j):TabG (t.put j).1:=by
 refine⟨Cy g.ris no,?_⟩;show (if SetTable.has t.dummies j=true then _ else t.dummies)=#[];rw[g.nd];simp[SetTable.has]
theorem TabG.or {t:SetTable}(g:TabG t)(n:Nat):TabG (t.orStandIn n):=by
 unfold SetTable.orStandIn;split
 ·exact g
 exact TabG.standIn _ _
theorem TabG.layNew {t:SetTable}(g:TabG t)(es:Array (Int × Value))(h:Int)(x:Value):TabG (layNew t es h x).2.1/\(layNew t es h x).2.1.led=t.led:=by
 unfold PySem.layNew;split
 ·rename_i slot b e
  obtain⟨no,_⟩:=Z01 g e;have l:∀ (u:SetTable) (n:Nat),(u.orStandIn n).led=u.led:=λu n=>by
   unfold SetTable.orStandIn;split <;> rfl
  exact⟨(g.put no).or _,l _ _⟩
 exact⟨TabG.standIn _ _,rfl⟩
theorem TabG.laid {mask finger moves:Nat}{led plain:Bool}{hs:Array Int}{t:SetTable}{o:Array Nat}(e:SetTable.laid mask finger moves led plain hs=some (t,o)):TabG t/\t.led=led:=by
 unfold SetTable.laid at e
 cases hl:SetTable.layClean mask hs with
 | none=>rw[hl] at e;cases e
 | some owner =>
  rw[hl] at e;simp only [Option.bind_eq_bind,Option.bind_some,Option.pure_def,Y0j,Prod.mk.injEq] at e;obtain⟨rfl,_⟩:=e;refine⟨⟨?_,rfl⟩,rfl⟩;have key:((List.filterMap (λj=>(owner.getD j none).map (j,·)) (List.range (mask+1))).map (·.1)).Pairwise (·<·):=by
   rw[qL];refine List.Pairwise.filterMap _ ?_ (zR (n:=mask+1));intro a a' h b hb b' hb';simp only [Option.mem_def,Y0I] at hb hb';obtain⟨_,_,rfl⟩:=hb;obtain⟨_,_,rfl⟩:=hb';exact h
  intro i j hij hj;simp only [YY] at hj;have g:∀ (l:List Nat) (k:Nat) (hk:k<l.length),l.toArray.getD k 0=l[k]:=λl k hk=>by simp[Array.getD,hk]
  rw[g _ i U,g _ j hj];exact qe.mp key i j _ _ hij
theorem TabG.relay {t:SetTable}(g:TabG t)(es:Array (Int × Value))(n:Nat):TabG (relayAll t es n).2.1/\(relayAll t es n).2.1.led=t.led:=by
 unfold relayAll;split
 ·rename_i t' o e
  have:=TabG.laid e;dsimp only;split
  ·exact this
  exact⟨TabG.standIn _ _,rfl⟩
 exact⟨TabG.standIn _ _,rfl⟩
section
variable {prog:TR}{w:World}{K:Type}[DecidableEq K]{knd:KeyKind prog w K}{A:Around}{E:TC}{s:Shared}
structure SetG (knd:KeyKind prog w K)(h:Heap)(a:Addr)(es:Array (Int × Value))(led:Bool):Prop where
 o:∃ o ep t,h.get? a=some o/\o.ExactSet/\o.data=.set es ep t/\t.fits es.size=true/\TabG t/\t.led=led
 el:ElemsOf knd es.toList
 sz:es.size<scanBound
theorem Lz {a:Addr}{es:Array (Int × Value)}{ep:Nat}{t:SetTable}(ho:h.get? a=some o)(hex:o.ExactSet)(hd:o.data=.set es ep t)
  {es':Array (Int × Value)} {t':SetTable} {led:Bool} (hel:ElemsOf knd es'.toList) (hb:es'.size<scanBound) (hf:t'.fits es'.size=true) (g:TabG t') (l:t'.led=led) :
  (h.update a (Obj.putSet es' t')).get? a=some { o with data:=.set es' (ep+1) t' }/\SetG knd (h.update a (Obj.putSet es' t')) a es' led:=by
 have hg:(h.update a (Obj.putSet es' t')).get? a=some { o with data:=.set es' (ep+1) t' }:=by
  have:=JN (Obj.putSet es' t') ho (by rw[putSet_of es' t' hd];rfl);rw[putSet_of es' t' hd] at this;exact this
 exact⟨hg,⟨_,ep+1,t',hg,hex,rfl,hf,g,l⟩,hel,hb⟩
theorem Q7 {g:Bool->Sem Unit}(hg:∀ (b:Bool) (s₁:Shared) (Q':Unit->Shared->Prop),Q' () s₁->wpAny (model prog w) A (g b) Q' E s₁)
  {a:Addr} {o:Obj} {es:Array (Int × Value)} {ep:Nat} {t:SetTable} (ho:s.heap.get? a=some o) (hex:o.ExactSet) (hd:o.data=.set es ep t)
  {es1:Array (Int × Value)} {t2:SetTable} {led:Bool} (hel1:ElemsOf knd es1.toList)
  (hb1:es1.size<scanBound) (hf2:t2.fits es1.size=true) (g2:TabG t2) (l2:t2.led=led) {wasDummy:Bool} {R:Option Bool->Shared->Prop}
  (h:∀ h' es2,Heap.SameBut a s.heap h'->SetG knd h' a es2 led->es2.toList.Perm es1.toList->R (some true) { s with heap:=h' }) :
  wpAny (model prog w) A (do
    storeSet a es1 t2
    if (!wasDummy && t2.tooFull)=true then do
      g (relayAll t2 es1 (SetTable.grown es1.size)).2.2
      storeSet a (relayAll t2 es1 (SetTable.grown es1.size)).1 (relayAll t2 es1 (SetTable.grown es1.size)).2.1
      pure (some true)
     else pure (some true)) R E s:=by
 refine YA (wpAny_storeSet_of ho hd ?_ (fits_of_scanBound hb1));obtain⟨ho1,hS1⟩:=Lz (knd:=knd) ho hex hd hel1 hb1 hf2 g2 l2;have hsb1:=JV s.heap a (Obj.putSet es1 t2);split
 ·have hp:=relayAll_perm t2 es1 (SetTable.grown es1.size);have hfr:=relayAll_fits t2 es1 (SetTable.grown es1.size);have hgr:=g2.relay es1 (SetTable.grown es1.size);generalize hRl:relayAll t2 es1 (SetTable.grown es1.size)=Rl at hp hfr hgr ⊢;obtain⟨es2,t3,gave2⟩:=Rl;dsimp only at hp hfr hgr ⊢;have hel2:ElemsOf knd es2.toList:=hel1.perm hp;have hsz:es2.size=es1.size:=by rw[<-JW,hp.length_eq,JW]
  have hb2:es2.size<scanBound:=by rw[hsz];exact hb1
  refine YA (hg _ _ _ ?_);refine YA (wpAny_storeSet_of ho1 rfl ?_ (fits_of_scanBound hb2));obtain⟨_,hS2⟩:=Lz (knd:=knd) ho1 hex rfl hel2 hb2 hfr hgr.1 (hgr.2.trans l2);exact YE (h _ es2 (hsb1.trans (JV _ a _)) hS2 hp)
 exact YE (h _ es1 hsb1 hS1 (List.Perm.refl _))
theorem Z2u {a:Addr}{es:Array (Int × Value)}{led:Bool}{k:K}{x:Value}{Q:Bool->Shared->Prop}(hkey:knd.is k x=true)(hsc:x.scannable=true)(hS:SetG knd s.heap a es led)
  (hroom:es.size+1<scanBound) (new:∀ e∈es.toList,knd.is k e.2=false)
  (h:∀ h' es',Heap.SameBut a s.heap h'->SetG knd h' a es' led->es'.toList.Perm (es.toList++[(knd.hash k,x)])->Q true { s with heap:=h' }) :
  wpAny (model prog w) A (setAddHashed a x (knd.hash k)) Q E s:=by
 obtain⟨⟨o,ep,t,ho,hex,hd,hf,tg,tl⟩,hel,hb⟩:=hS;unfold setAddHashed setAddHashedIn;refine XO (YA (qr ho hd hf ?_));dsimp only;rw[byScan_of hsc hb hel];simp only [↓reduceIte];unfold setAddByScan;refine YA ?_;refine YA (GX ?_);refine YA (wpAny_setScan_of hkey ho hd hf hel ?_);have hr:List.findIdx? (λe=>knd.is k e.2) es.toList=none:=Y0b.mpr new;rw[hr];dsimp only;have hgw:∀ (b:Bool) {s₁:Shared} {Q':Unit->Shared->Prop},Q' () s₁->wpAny (model prog w) A (match b with | true=>rule "set.scan.the-table-gave-way" | false=>pure ()) Q' E s₁ :=
  λb s₁ Q' hq=>by cases b <;> first | exact YE hq | exact GX hq
 have hperm:=layNew_perm t es (knd.hash k) x;have hfits:=layNew_fits t es (knd.hash k) x;have hlay:=tg.layNew es (knd.hash k) x;generalize hL:layNew t es (knd.hash k) x=L at hperm hfits hlay ⊢;obtain⟨es1,t1,wasDummy,gave⟩:=L;dsimp only at hperm hfits hlay ⊢;rw[Array.toList_push] at hperm;have hel1:ElemsOf knd es1.toList:=(hel.push hkey hsc).perm hperm;have hb1':es1.size<scanBound:=by rw[<-JW,hperm.length_eq,XF,JW];simpa using hroom
 refine YA (hgw _ ?_);have hend:∀ h' es',Heap.SameBut a s.heap h'->SetG knd h' a es' led->es'.toList.Perm es1.toList->Q true { s with heap:=h' }:=λh' es' hsb hS' p=>h h' es' hsb hS' (p.trans hperm);have off:∀ {u:SetTable},TabG u->TabG { u with plain:=false }:=λg=>⟨g.ris,g.nd⟩;split
 ·refine YA ?_;rw[hashByValue_scannable 8 hsc];refine YE ?_;refine Q7 (led:=led) ?_ ho hex hd hel1 hb1' ?_ ?_ ?_ ?_
  ·intro b s₁ Q' hq;cases b <;> first | exact YE hq | exact GX hq
  ·split
   ·exact hfits
   exact SetTable.fits_plain_off hfits
  ·split
   ·exact hlay.1
   exact off hlay.1
  ·split
   ·exact hlay.2.trans tl
   exact hlay.2.trans tl
  intro h' es' hsb hS' p;dsimp only;exact YE (hend h' es' hsb hS' p)
 refine YA (YE ?_);simp only [↓reduceIte];refine Q7 ?_ ho hex hd hel1 hb1' hfits hlay.1 (hlay.2.trans tl) ?_
 ·intro b s₁ Q' hq;cases b <;> first | exact YE hq | exact GX hq
 intro h' es' hsb hS' p;dsimp only;exact YE (hend h' es' hsb hS' p)
end
end Sb
namespace Sb
open PySem PySem.Spec PyProof.Rows L2
section
variable {prog:TR}{w:World}{κ:Type}[DecidableEq κ]{knd:KeyKind prog w κ}
theorem Wy:entryFor table "set.update.loop"=some Builtin.«set.update.loop»:=Y0s (by kernel_rfl)
theorem Yz:plainId "set.update.loop"=true:=by decide +kernel
def setL (knd:KeyKind prog w κ)(ks:List κ)(vs:TH):List (Int × Value):=List.zipWith (λk v=>(knd.hash k,v)) ks vs
theorem SetG.on {a:Addr}{es:Array (Int × Value)}{led:Bool}(g:SetG knd h a es led)(k:∀ o,h.get? a=some o->h'.get? a=some o):SetG knd h' a es led:=by
 obtain⟨⟨o,ep,t,ho,r⟩,el,sz⟩:=g;exact⟨⟨o,ep,t,k o ho,r⟩,el,sz⟩
end
section
variable {prog:TR}{w:World}{A:Around}{E:TC}{s:Shared}{κ:Type}[DecidableEq κ]
theorem Cp (a:Value):checkTypeCall "set" ⟨[a],[]⟩=pure ():=by kernel_rfl
theorem Br (a:Value):checkBuiltinCall "set.__new__" ⟨[.type "set",a],[]⟩=pure ():=by kernel_rfl
def byT (w:World):Bool:=w.params.followText "set-order"
abbrev set0 (w:World):Obj:={ cls:=.type "set",dict:=none,data:=.set #[] 0 (.fresh 0 0 (!byT w)) }
theorem Go {a:Value}{Q₁:TC}(h:Q₁ (.ref s.heap.objs.size) { s with heap:=s.heap.push (set0 w) }) :
  codeAny (model prog w) A (.call (.builtin "set.__new__") ⟨[.type "set",a],[]⟩) (wants Q₁ E) s:=by
 refine jl ?_;show wpAny _ A.in1 (do checkBuiltinCall "set.__new__" ⟨[.type "set",a],[]⟩;again (.builtin "set.__new__" ⟨[.type "set",a],[]⟩)) _ _ s;refine YA (Y0W (Br a) (YE ⟨zm F.plain_set_new _,GP F.entry_set_new ?_⟩));rw[GV F.plain_set_new _];unfold Builtin.«set.__new__» Builtin.Frozenset.newClass;have hsub:=sub_set_self;obtain⟨hp,g,d,tk,os⟩:=s;dsimp only
 wp_walk
 refine Y0w (YE ?_);dsimp only;simp only [newObj];refine YA (wpAny_alloc (YE ?_));exact YE h
theorem Q9:isSubtype (.type "list") (.type "set")=pure false:=by rw[zx];kernel_rfl
theorem Sy:isSubtype (.type "list") (.type "frozenset")=pure false:=by rw[zx];kernel_rfl
theorem Lp {M:Model}{self a:Value}{Q:Unit->Shared->Prop}(hT:s.TypeIs self "set")(hQ:Q () s):wpAny M A (checkBuiltinCall "set.__init__" ⟨[self,a],[]⟩) Q E s:=by
 simp only [checkBuiltinCall,kind_set_init,split_set_init,sig_set_init];refine YA (GU hT sub_set_self ?_);simp only [Y1c,GE,zi];unfold Bind.checkArgs;dsimp only;refine YA (m:=Bind.printed "set" true _ _) (PyProof.Rows.printed_name J7 ?_);refine YA (m:=Bind.printed "*" false _ _) (PyProof.Rows.printed_star (self:=self) rfl hT λshort=>?_);have hrn:(Manifest.Receiver.self == Manifest.Receiver.none)=false:=J7
 have hn:(if (Manifest.Receiver.self == Manifest.Receiver.none)=true then [self,a].length else [self,a].length - 1)=1:=by simp[hrn]
 rw[hn];simp only [XJ];have hc:Bind.check ⟨.positional,"set","*",.self,[⟨"iterable",.posOnly,false⟩]⟩ "set" short 1 []=pure ():=by
  simp[Bind.check,Bind.checkCount,Bind.isPositional];intro z;exact absurd z J7
 rw[hc];exact YE hQ
set_option maxRecDepth 100000 in
theorem Gq {a:Value}{Q:TC}
  (h:wpAny (model prog w) A.in1.in1 (Builtin.«set.__init__» ⟨[.ref s.heap.objs.size,a],[]⟩) (λfin s'=>fin=.done (.ret .none)/\Q (.ref s.heap.objs.size) s') E { s with heap:=s.heap.push (set0 w) }) :
  wpAny (model prog w) A (call (.type "set") [a]) Q E s:=by
 obtain⟨c,tl,hmro⟩:=ze.mro;have hmade:=ze.made;have hsub:=ze.sub;refine z3 (jl ?_);show wpAny _ _ (callAny (.type "set") _) _ _ _;refine YE ⟨z9 _ J9,GP F.entry_type_call ?_⟩;rw[Around.under_plain (weight_type_call_type "set" [a] []) rfl];have h1:=ze.notType;have h2:=ze.canCreate;have hct:=Cp a
 repeat (any_goals (first | assumption | wp_step))
 refine qI (Go (E:=E) (Q₁:=λobj s₁=>obj=.ref s.heap.objs.size/\s₁={ s with heap:=s.heap.push (set0 w) }) ⟨rfl,rfl⟩) λr s₁ hr=>?_
 cases r with
 | error e=>exact hr
 | ok fl =>
  cases fl with
  | ret obj =>
   obtain⟨rfl,rfl⟩:=hr;have hS:(s.heap.push (set0 w)).get? s.heap.objs.size=some (set0 w):=YL _ rfl;have hT:Shared.TypeIs { s with heap:=s.heap.push (set0 w) } (.ref s.heap.objs.size) "set":=⟨_,hS,rfl⟩;have hli:=ze.init.lookup;have hbi:=ze.init.bind (.ref s.heap.objs.size)
   repeat (any_goals (first | assumption | wp_step))
   refine qI (GO (R:=wants (λr s₂=>r=.none/\Q (.ref s.heap.objs.size) s₂) E) ze.init.plain F.entry_set_init (Lp hT ?_)) λr₂ s₂ hr₂=>?_
   ·refine GN h (λfin s' hf=>?_) λ_ _ x=>x;obtain⟨rfl,q⟩:=hf;exact⟨rfl,q⟩
   cases r₂ with
   | error e=>exact hr₂
   | ok fl₂ =>
    cases fl₂ with
    | ret r =>
     obtain⟨rfl,hq⟩:=hr₂
     repeat (any_goals (first | assumption | wp_step))
    | _=>exact hr₂.elim
  | _=>exact hr.elim
end
open PySem.Builtin PySem.Builtin.Str
section
variable {prog:TR}{w:World}{A:Around}{E:TC}{s:Shared}{x y:PySem.Str}{t u:Tok}{Q:TC}
theorem Cq (hy:(y.length == 0)=false)(hx:x.length<=1000000)(hz:(partsBetween x (occurrences x y 0 x.length (x.length+1)) y.length).length<=sizeLine)
  (hq:∀ l k,l.map (·.1)=Txt.split x y->Q (.ref s.heap.objs.size) { s with heap:=s.heap.push { cls:=.type "list",data:=.seq (strValues l).toArray },toks:=k }):wpAny (model prog w) A (call (.builtin "str.split") [.str x t,.str y u]) Q E s:=by
 have hs:x.length<=sizeLine:=XV hx J7
 cases h1:(decide (x.length<y.length) || decide (strKind x<strKind y))
 ·cases hf:(occurrences x y 0 x.length (x.length+1)).isEmpty
  ·refine j7 Y0x (j6 _ _ _) Y0k (Y06 _ _) (meets_str_split_sep x y t u h1 hy hf hs hz) ?_;have e:=hq (numbered s.toks (partsBetween x (occurrences x y 0 x.length (x.length+1)) y.length));rw[<-strsFrom_eq] at e;exact e _ ((numbered_texts _ _).trans ((XQ (jt h1)).trans (XQ (jt hf))).symm)
  exact j7 Y0x (j6 _ _ _) Y0k (Y06 _ _) (meets_str_split_not_found x y t u h1 hy hf) (hq [(x,t)] _ ((XQ (jt h1)).trans (JD hf)).symm)
 exact j7 Y0x (j6 _ _ _) Y0k (Y06 _ _) (meets_str_split_cannot_occur x y t u h1) (hq [(x,t)] _ (JD h1).symm)
end
section
variable {X:Cx}{K:TQ}
theorem T0:∀ {l:List (PySem.Str × Tok)} {ws:List PySem.Str},l.map (·.1)=ws->Vals (ws.map V.str) (strValues l)
 | [],_,e=>by subst e;exact .nil
 | p::l,_,e=>by
  subst e;exact .cons ⟨p.2,rfl⟩ (T0 rfl)
theorem T4:∀ {ws:List PySem.Str} {its:TH},Vals (ws.map V.str) its->∃ l:List (PySem.Str × Tok),l.map (·.1)=ws/\its=strValues l
 | [],_,.nil=>⟨[],rfl,rfl⟩
 | w::ws,_,.cons ⟨t,e⟩ r=>by
  obtain⟨l,h1,rfl⟩:=T4 r;subst e;exact⟨(w,t)::l,by rw[YT,h1],rfl⟩
inductive rSplit (x:V) (vs:TV) (H:Hp) (Q:VK):Prop
 | mk (z y:PySem.Str) (a0:x=.str z) (a1:vs=[.str y]) (a2:(y.length == 0)=false) (a3:z.length<=1000000) (a4:(Txt.split z y).length<=sizeLine) (a5:(partsBetween z (occurrences z y 0 z.length (z.length+1)) y.length).length<=sizeLine) (a6:∀ l,H l=none->Q (.ref l) (upd H l (.lst ((Txt.split z y).map V.str))))
theorem Vw:MtR X "str.split" rSplit:=by
 intro pins s σ H x vs v us Q I rx rv h;obtain⟨z,y,rfl,rfl,hy,hz,hl,hp,q⟩:=h;obtain⟨t,rfl⟩:=rx;obtain⟨u,rfl,t',rfl⟩:=rv.one;refine Cq hy hz hp λl k e=>?_;refine⟨.ref s.heap.objs.size,_,I.laid (t':=k) (λb o e=>YD _ e) (YO _) (show ObjOk X.prog X.w _ _ _ (.lst ((Txt.split z y).map V.str)) from ⟨by rw[YB];exact hl,strValues l,0,T0 e,YL _ rfl⟩),rfl,q _ (I.hok.fresh (YO _))⟩
inductive rJoin (K:TQ) (x:V) (vs:TV) (H:Hp) (Q:VK):Prop
 | mk (z:PySem.Str) (p:Addr) (ws:List PySem.Str) (a0:x=.str z) (a1:vs=[.ref p]) (a2:SqL K H p (ws.map V.str)) (a3:JoinOk z ws=true) (a4:Q (.str (Txt.join z ws)) H)
theorem V8 (hK:X.K=K:=by rfl):MtR X "str.join" (rJoin K):=by
 subst hK;intro pins s σ H x vs v us Q I rx rv h;obtain⟨z,p,ws,rfl,rfl,hs,ho,q⟩:=h;obtain⟨t,rfl⟩:=rx;obtain⟨u,rfl,ru⟩:=rv.one
 cases ru;obtain⟨its,r,pl,_⟩:=I.list hs;obtain⟨l,e,rfl⟩:=T4 r;exact SC.join pl.isList e ho λt' k=>⟨.str _,H,I.tok _,⟨t',rfl⟩,q⟩
inductive rStarts (x:V) (vs:TV) (H:Hp) (Q:VK):Prop
 | mk (z y:PySem.Str) (a0:x=.str z) (a1:vs=[.str y]) (a2:Q (.bl (Txt.startswith z y)) H)
theorem Rp:MtR X "str.startswith" rStarts:=by
 intro pins s σ H x vs v us Q I rx rv h;obtain⟨z,y,rfl,rfl,q⟩:=h;obtain⟨t,rfl⟩:=rx;obtain⟨u,rfl,t',rfl⟩:=rv.one;exact SC.startswith ⟨.bl _,H,I,rfl,q⟩
inductive rInt (vs:TV) (H:Hp) (Q:VK):Prop
 | mk (z:PySem.Str) (n:Int) (a0:vs=[.str z]) (a1:PySem.intText? z=some n) (a2:z.length<=640) (a3:Q (.int n) H)
theorem M3:CallR X (.type "int") rInt:=by
 intro pins s σ H xs us Q I r h;obtain⟨z,n,rfl,e,l,q⟩:=h;obtain⟨u,rfl,t,rfl⟩:=W7 r;exact W.KIN.call_text e l ⟨.int n,H,I.tok _,⟨_,rfl⟩,q⟩
end
section
variable {X:Cx}
def setS (P:TR)(w:World)(d:Addr)(es:Array (Int × Value)):HO:=.ext λh=>SetG (strKind P w) h d es (!byT w)
def setI (P:TR)(w:World)(d:Addr)(es:Array (Int × Value)):HO:=.ext λh=>SetG (intKind P w) h d es (!byT w)
theorem Fd {P:TR}{w:World}{κ:Type}[DecidableEq κ]{knd:KeyKind P w κ}{ks:List κ}{vs:TH}(h:vs.length=ks.length):(setL knd ks vs).length=ks.length:=by
 unfold setL;rw[ju,h,jW]
theorem R9 {us vs:TH}(p:us.Perm vs):∀ {ns:TU},Vals (ns.map V.int) vs->∃ ms:List Int,ms.Perm ns/\Vals (ms.map V.int) us:=by
 induction p with
 | nil=>intro ns h;exact⟨ns,List.Perm.refl _,h⟩
 | cons x _ ih =>
  intro ns h
  cases ns with
  | nil=>cases h
  | cons n ns =>
   cases h with
   | cons h1 h2 =>
    obtain⟨ms,pm,hv⟩:=ih h2;exact⟨n::ms,pm.cons n,.cons h1 hv⟩
 | swap x y l =>
  intro ns h
  cases ns with
  | nil=>cases h
  | cons a ns =>
   cases h with
   | cons h1 h2 =>
    cases ns with
    | nil=>cases h2
    | cons b ns =>
     cases h2 with
     | cons h3 h4=>exact⟨b::a::ns,List.Perm.swap _ _ _,.cons h3 (.cons h1 h4)⟩
 | trans _ _ ih1 ih2 =>
  intro ns h;obtain⟨m1,p1,v1⟩:=ih2 h;obtain⟨m2,p2,v2⟩:=ih1 v1;exact⟨m2,p2.trans p1,v2⟩
inductive rLenS (P:TR) (w:World) (xs:TV) (H:Hp) (Q:VK):Prop
 | mk (d:Addr) (es:Array (Int × Value)) (a0:xs=[.ref d]) (a1:H d=some (setS P w d es)) (a2:Q (.int (es.size:Int)) H)
theorem Gr:CallR X (.builtin "len") (rLenS X.prog X.w):=by
 intro pins s σ H xs us Q I r h;obtain⟨d,es,rfl,hd,q⟩:=h;obtain⟨u,rfl,rx⟩:=W7 r
 cases rx;obtain⟨⟨⟨o,ep,t,ho,hX,hdt,hf,_⟩,_,sz⟩,_⟩:=(show ObjOk X.prog X.w H s.heap d (setS X.prog X.w d es) from I.hok d _ hd);have:es.size<4096:=sz;exact call_len_set ho hX hdt hf U ⟨.int _,H,(I.tok _),⟨_,rfl⟩,q⟩
end
end Sb
namespace Sb
open PySem
set_option maxHeartbeats 1000000
theorem slot_sit_next:Slot "set_iterator" "__next__" "set_iterator.__next__" :=
 .of (owner:="set_iterator") (n:="__next__") (by rw[zk,qg];kernel_rfl) J9 J9 J9
  (by first | exact .inl J9 | exact .inr J9) (by rw[zx];kernel_rfl)
theorem Sl:entryFor table "set_iterator.__next__"=some Builtin.«set_iterator.__next__»:=entryFor_of_fast (by kernel_rfl)
theorem R6 (a:Value):argsOk "set_iterator.__next__" ⟨[a],[]⟩:=by unfold argsOk;kernel_rfl
theorem Ui:Slot "set" "__iter__" "set.__iter__" :=
 .of (owner:="set") (n:="__iter__") (by rw[zk,qg];kernel_rfl) J9 J9 J9
  (by first | exact .inl J9 | exact .inr J9) (by rw[zx];kernel_rfl)
theorem P0:entryFor table "set.__iter__"=some Builtin.«frozenset.__iter__» :=
 Y0Z (id':="frozenset.__iter__") (by kernel_rfl) rfl J9 (by kernel_rfl)
theorem M7 (a:Value):argsOk "set.__iter__" ⟨[a],[]⟩:=by unfold argsOk;kernel_rfl
theorem Vi {α:Type}:∀ {l:List α} {i:Nat} (h:i<l.length),(l[i]::l.eraseIdx i).Perm l
 | x::l,0,_=>.refl _
 | x::l,i+1,h=>by
  have:=Vi (l:=l) (i:=i) (by simpa using h);simp only [List.getElem_cons_succ,List.eraseIdx_cons_succ];exact (List.Perm.swap _ _ _).trans (this.cons x)
theorem Bb {α:Type}(next:Nat->Nat):∀ (fuel k:Nat) (left:List α) (out:Array α),left.length<=fuel->(pickOrder.go next fuel k left out).toList.Perm (out.toList++left):=by
 intro fuel
 induction fuel with
 | zero =>
  intro k left out h;have:left=[]:=qp U;subst this;unfold pickOrder.go;simp
 | succ fuel ih =>
  intro k left out h;unfold pickOrder.go;by_cases z:left=[]
  ·subst z;simp
  have hp:0<left.length:=qU.mpr z;have hl:next k % left.length<left.length:=ja _ hp
  rw[XY hl];refine (ih (k+1) _ _ (by rw[Y07 hl];omega)).trans ?_;rw[Array.toList_push,YK];exact (Vi hl).append_left _
theorem Jj {α:Type}(next:Nat->Nat)(xs:Array α):(pickOrder next xs).toList.Perm xs.toList:=by
 have:=Bb next xs.size 0 xs.toList #[] J8
 simpa [pickOrder] using this
section
variable {prog:TR}{w:World}{A:Around}{E:TC}{s:Shared}
theorem Uq {α:Type}:∀ (n:Nat) (xs:List α) (s:Shared) (Q:List α->Shared->Prop),xs.length=n->(∀ ys d,ys.Perm xs->Q ys { s with drawn:=d })->wpAny (model prog w) A (drawOrder n xs) Q E s:=by
 intro n
 induction n with
 | zero =>
  intro xs s Q h hQ;have:xs=[]:=qp h;subst this;exact YE (hQ [] s.drawn (.refl _))
 | succ n ih =>
  intro xs s Q h hQ
  cases xs with
  | nil=>cases h
  | cons x xs =>
   show wpAny (model prog w) A (choose .order (x::xs).length >>= _) Q E s;refine YA ?_;intro Γ p hΓ;refine⟨J8,?_⟩;have hl:(model prog w).w.draws .order (s.drawn.get .order) % (x::xs).length<(x::xs).length:=ja _ J8;generalize (model prog w).w.draws .order (s.drawn.get .order) % (x::xs).length=j at hl;generalize s.drawn.bump .order=d0;show wpAny (model prog w) A _ Q E { s with drawn:=d0 };rw[XY hl];refine YA (ih _ _ _ (by rw[Y07 hl];simpa using h) λys d hy=>YE (hQ _ d ?_));exact (hy.cons _).trans (Vi hl)
abbrev sitObj (first:Value)(i:Nat)(a:Addr)(n ep:Nat):Obj:={ cls:=.type "set_iterator",data:=.fields #[first,.int i 0,.ref a,.int n 0,.int ep 0] }
inductive Stand (w:World) (h:Heap) (ps:TJ) (a:Addr) (es:Array (Int × Value)) (ep:Nat) (t:SetTable) (vs:TH) (i:Nat) (first:Value):Prop
 | txt (u:Int) (b:byT w=true) (e:first=.int u 0) (ev:vs=(pickOrder (w.params.setOrder a ep) es).toList.map (·.2))
 | led (u:Nat) (b:byT w=false) (d:(!t.plain && decide (es.size > 1))=false) (e:first=.int (u:Int) 0) (hu:SetTable.below t.place u=i) (ev:vs=es.toList.map (·.2))
 | drw (p:Addr) (qs:List Nat) (b:byT w=false) (e:first=.ref p) (hp:p∈ps) (tp:h.IsTuple p (qs.map λ(k:Nat)=>rawInt k).toArray) (lt:∀ k∈qs,k<es.size) (ev:vs=qs.map λk=>(es.getD k (0,.none)).2)
inductive SitAt (w:World) (ps:TJ) (I a:Addr) (vs:TH) (i:Nat) (h:Heap):Prop
 | mk (o:Obj) (es:Array (Int × Value)) (ep:Nat) (t:SetTable) (first:Value) (ho:h.get? a=some o) (hd:o.data=.set es ep t) (hf:t.fits es.size=true) (g:TabG t) (hl:t.led=!byT w) (hn:vs.length=es.size)
   (hI:h.get? I=some (sitObj first i a es.size ep)) (st:Stand w h ps a es ep t vs i first)
theorem Stand.at {h h':Heap}{ps:TJ}{a:Addr}{es:Array (Int × Value)}{ep:Nat}{t:SetTable}{vs:TH}{i:Nat}{first:Value}(S:Stand w h ps a es ep t vs i first)(k:∀ b∈ps,∀ o,h.get? b=some o->h'.get? b=some o):Stand w h' ps a es ep t vs i first:=by
 cases S with
 | txt u b e ev=>exact .txt u b e ev
 | led u b d e hu ev=>exact .led u b d e hu ev
 | drw p qs b e hp tp lt ev=>exact .drw p qs b e hp (tp.at λo e=>k p hp o e) lt ev
theorem SitAt.at {h h':Heap}{ps:TJ}{I a:Addr}{vs:TH}{i:Nat}(S:SitAt w ps I a vs i h)(k:∀ b∈I::a::ps,∀ o,h.get? b=some o->h'.get? b=some o):SitAt w ps I a vs i h':=by
 obtain⟨o,es,ep,t,first,ho,hd,hf,g,hl,hn,hI,st⟩:=S;exact⟨o,es,ep,t,first,k a J8 _ ho,hd,hf,g,hl,hn,k I J8 _ hI,st.at λb hb=>k b (by simp[hb])⟩
theorem SitAt.type {ps:TJ}{I a:Addr}{vs:TH}{i:Nat}(S:SitAt w ps I a vs i s.heap):s.TypeIs (.ref I) "set_iterator":=by
 obtain⟨_,_,_,_,_,_,_,_,_,_,_,hI,_⟩:=S;exact⟨_,hI,rfl⟩
theorem U3 {Q:Bool->Shared->Prop}(h:Q (byT w) s):wpAny (model prog w) A setsByText Q E s:=by
 unfold setsByText;exact YA (Y0w (YE h))
inductive NextIs (w:World) (h:Heap) (ps:TJ) (a:Addr) (es:Array (Int × Value)) (ep:Nat) (t:SetTable) (vs:TH) (i:Nat):Option (Value × Nat)->Prop
 | item (v:Value) (u:Nat) (hv:vs[i]?=some v) (st:Stand w h ps a es ep t vs (i+1) (.int (u:Int) 0)):NextIs w h ps a es ep t vs i (some (v,u))
 | done (hv:vs[i]?=none):NextIs w h ps a es ep t vs i none
theorem Mm {ps:TJ}{a:Addr}{o:Obj}{es:Array (Int × Value)}{ep:Nat}{t:SetTable}{vs:TH}{i:Nat}{u:Int}{Q:Option (Value × Nat)->Shared->Prop}
  (ho:s.heap.get? a=some o) (hd:o.data=.set es ep t) (hf:t.fits es.size=true) (g:TabG t) (hl:t.led=!byT w) (st:Stand w s.heap ps a es ep t vs i (.int u 0))
  (hQ:∀ r,NextIs w s.heap ps a es ep t vs i r->Q r s):wpAny (model prog w) A (setNext a u.toNat (Int.toNat i) (Int.toNat ep)) Q E s:=by
 unfold setNext;refine YA (qr ho hd hf ?_);refine YA (U3 ?_)
 cases st with
 | txt u' b e ev =>
  cases e;rw[b];show wpAny _ _ (if (ep != Int.toNat ep)=true then _ else _) _ _ s;rw[XQ J8];refine YA ?_;unfold setWalk;refine YA (qr ho hd hf ?_);refine YA (U3 ?_);rw[b];show wpAny _ _ (ask >>= _) _ _ s;refine YA (Y0w (YE (YE ?_)));show Q (Option.map (λe=>(e.snd,u.toNat)) (pickOrder (w.params.setOrder a ep) es)[i]?) s;have ei:vs[i]?=((pickOrder (w.params.setOrder a ep) es)[i]?).map (·.2):=by
   rw[ev,YQ,zp]
  cases hx:(pickOrder (w.params.setOrder a ep) es)[i]? with
  | none=>exact hQ _ (.done (by rw[ei,hx];rfl))
  | some x=>exact hQ _ (.item x.2 u.toNat (by rw[ei,hx];rfl) (.txt _ b rfl ev))
 | led u' b d e hu ev =>
  cases e;rw[b];show wpAny _ _ (if (!t.plain && decide (es.size > 1))=true then _ else _) _ _ s;rw[XQ (by rw[d];simp)];show wpAny _ _ ((if (!t.led && !es.isEmpty)=true then _ else _) >>= _) _ _ s;rw[XQ (by rw[hl,b];simp)];refine YA (YE (YE ?_));show Q (match es[SetTable.below t.place u']?,t.place[SetTable.below t.place u']? with
   | some (_,x),some j=>some (x,j+1)
   | _,_=>none) s
  rw[hu];have sz:t.place.size=es.size:=by
   have:=hf;unfold SetTable.fits at this;simp at this;exact this.1
  have ei:vs[i]?=(es[i]?).map (·.2):=by
   rw[ev,YQ,zp]
  by_cases hi:i<es.size
  ·have h1:es[i]?=some es[i]:=GD hi;have h2:t.place[i]?=some (t.place[i]'U):=GD _;rw[h1] at ei ⊢;rw[h2];refine hQ _ (.item _ _ ei (.led _ b d rfl ?_ ev));have:=Lw g.ris (i:=i) U;simp[Array.getD,show i<t.place.size by omega] at this;exact this
  have h1:es[i]?=none:=Y0H U;rw[h1] at ei ⊢;exact hQ _ (.done ei)
 | drw p qs b e hp tp lt ev=>cases e
theorem Pl {ps:TJ}{I a:Addr}{vs:TH}{i:Nat}{Q:Option Value->Shared->Prop}(hh:A.handled=none)(S:SitAt w ps I a vs i s.heap)(nI:I≠a)(nP:I ∉ ps)
  (hQ:∀ v h',vs[i]?=some v->SitAt w ps I a vs (i+1) h'->Heap.SameBut I s.heap h'->Q (some v) { s with heap:=h' })
  (hN:vs[i]?=none->∀ h',Heap.ExtBut I s.heap h'->Q none { s with heap:=h' }):wpAny (model prog w) A (pyNext (.ref I)) Q E s:=by
 have hT:=S.type;obtain⟨o,es,ep,t,first,ho,hd,hf,g,hl,hn,hI,st⟩:=S;unfold pyNext;refine YA (GR (JE (name:=Str.ofString "__next__") hT slot_sit_next
  (JI slot_sit_next hT Sl ?_ (R6 _))))
 show wpAny _ _ (fieldsOf (.ref I) >>= _) _ _ s;refine YA (wpAny_fieldsOf hI rfl ?_);show wpAny _ _ (setEntries a >>= _) _ _ s;refine YA (wpAny_setEntries_of ho hd hf ?_);rw[XQ J8];have fin:∀ (first':Value) (i':Nat) (h':Heap),h'.get? I=some (sitObj first' i' a es.size ep)->Heap.SameBut I s.heap h'->Stand w s.heap ps a es ep t vs i' first'->SitAt w ps I a vs i' h':=by
  intro first' i' h' e1 e2 e3;exact⟨o,es,ep,t,first',(e2.2 a nI.symm).trans ho,hd,hf,g,hl,hn,e1,e3.at λb hb o e=>(e2.2 b (λz=>nP (z ▸ hb))).trans e⟩
 have fin2:vs[i]?=none->∀ (Q':PySem.Fin->Shared->Prop) (s2:Shared),Heap.SameBut I s.heap s2.heap->s2={ s with heap:=s2.heap }->wpAny (model prog w) A.in1 (newExc (Value.type "StopIteration") [] >>= λx=>(raiseNew x:Sem PySem.Fin)) Q'
   (λe s'=>wpAny (model prog w) A
    (match (Except.error e:Except Value (Option Value)) with
    | Except.ok (some v)=>pure (some v)
    | Except.ok none=>unsupported "iter:the-iterator's-class-has-lost-its-__next__-amid-the-walk"
    | Except.error e=>do
     let __do_lift <-isInstance e (Value.type "StopIteration")
     if __do_lift=true then pure none else throw e)
    Q E s') s2:=by
  intro hv Q' s2 sb e2;refine YA ?_;simp only [newExc,newTuple];refine YA (GJ ?_ (by size_fits));refine YA (m:=firstArgMember _ _) (Y0W (a:=Value.none) (by first | rfl | (simp only [firstArgMember];rfl)) ?_);refine GJ ?_ (by size_fits);simp only [raiseNew];refine YA (wpAny_handled ?_);rw[show A.in1.handled=none from hh];refine YA (YE (Y0V ?_));refine YA (GU (T:="StopIteration") (b:=true) ⟨_,YL _ rfl,rfl⟩ qV ?_);rw[e2];exact YE (hN hv _ ((sb.extBut.push _).push _))
 have alt:(∃ u:Int,first=.int u 0) \/ ∃ (p:Addr) (qs:List Nat),byT w=false/\first=.ref p/\p∈ps/\s.heap.IsTuple p (qs.map λ(k:Nat)=>rawInt k).toArray/\(∀ k∈qs,k<es.size)/\vs=qs.map λk=>(es.getD k (0,.none)).2:=by
  cases st with
  | txt u b e ev=>exact .inl ⟨u,e⟩
  | led u b d e hu ev=>exact .inl ⟨u,e⟩
  | drw p qs b e hp tp lt ev=>exact .inr ⟨p,qs,b,e,hp,tp,lt,ev⟩
 rcases alt with ⟨u,rfl⟩ | ⟨p,qs,b,rfl,hp,tp,lt,ev⟩
 ·show wpAny _ _ (setNext a u.toNat (Int.toNat i) (Int.toNat ep) >>= _) _ _ s;refine YA (Mm ho hd hf g hl st λr hr=>?_)
  cases hr with
  | item v u' hv st' =>
   refine YA (JM hI J8 λh1 e1 b1=>?_);refine YA (JM (s:={ s with heap:=h1 }) e1 J8 λh2 e2 b2=>?_);exact YE ⟨v,rfl,YE (hQ v h2 hv (fin (.int (u':Int) 0) (i+1) h2 (by rw[e2];simp[rawInt]) (b1.trans b2) st') (b1.trans b2))⟩
  | done hv =>
   refine YA (JM hI J8 λh1 e1 b1=>?_);exact fin2 hv _ _ b1 rfl
 obtain⟨op,hop,_,np,hdp⟩:=id tp;show wpAny _ _ (seqItems? (.ref p) >>= _) _ _ s;refine YA (GF hop hdp ?_);have ei:vs[i]?=(qs[i]?).map λk=>(es.getD k (0,.none)).2:=by rw[ev,YQ]
 dsimp only;rw[show Int.toNat (i:Int)=i from rfl,show (List.map (λk:Nat=>rawInt (k:Int)) qs).toArray[i]?=(qs[i]?).map λk:Nat=>rawInt (k:Int) by rw[qf,YQ]]
 cases hx:qs[i]? with
 | none =>
  rw[hx] at ei;refine YA (JM hI J8 λh1 e1 b1=>?_);refine YA (JM (s:={ s with heap:=h1 }) e1 J8 λh2 e2 b2=>?_);exact fin2 ei _ _ (b1.trans b2) rfl
 | some k =>
  rw[hx] at ei;have hk:k<es.size:=lt k (YV hx);show wpAny _ _ (setNextDrawn a (Int.toNat k) (Int.toNat ep) >>= _) _ _ s;refine YA ?_;unfold setNextDrawn;refine YA (qr ho hd hf ?_);show wpAny _ _ (if (ep != Int.toNat ep)=true then _ else _) _ _ s;rw[XQ J8];show wpAny _ _ (match es[k]? with | some (_,x)=>_ | _=>_) _ _ s;rw[GD hk];refine YE ?_;refine YA (JM hI J8 λh1 e1 b1=>?_);exact YE ⟨es[k].2,rfl,YE (hQ _ h1 (by rw[ei];simp[Array.getD,hk]) (fin (.ref p) (i+1) h1 (by rw[e1];simp[rawInt]) b1 (.drw p qs b rfl hp tp lt ev)) b1)⟩
end
set_option maxHeartbeats 1000000
theorem Vc:Slot "set_iterator" "__iter__" "set_iterator.__iter__" :=
 .of (owner:="set_iterator") (n:="__iter__") (by rw[zk,qg];kernel_rfl) J9 J9 J9
  (by first | exact .inl J9 | exact .inr J9) (by rw[zx];kernel_rfl)
theorem Sm:entryFor table "set_iterator.__iter__"=some Builtin.«dict_keyiterator.__iter__» :=
 Y0Z (id':="dict_keyiterator.__iter__") (by kernel_rfl) rfl J9 (by kernel_rfl)
theorem R7 (a:Value):argsOk "set_iterator.__iter__" ⟨[a],[]⟩:=by unfold argsOk;kernel_rfl
theorem Je {es:Array (Int × Value)}:(List.range es.size).map (λk=>(es.getD k (0,.none)).2)=es.toList.map (·.2):=by
 apply Y0u
 ·simp
 intro i h1 h2;have h:i<es.size:=by simpa using h1
 simp[Array.getD,h]
section
variable {prog:TR}{w:World}{A:Around}{E:TC}{s:Shared}
theorem Fc {a:Addr}{o:Obj}{es:Array (Int × Value)}{ep:Nat}{t:SetTable}{Q:TC}(ho:s.heap.get? a=some o)(hex:o.ExactSet)(hd:o.data=.set es ep t)(hf:t.fits es.size=true)(g:TabG t)(hl:t.led=!byT w)(hz:es.size<4096)
  (hQ:∀ h' ps I d vs,(∀ b o,s.heap.get? b=some o->h'.get? b=some o)->SitAt w ps I a vs 0 h'->vs.Perm (es.toList.map (·.2))->(∀ p∈I::ps,s.heap.objs.size<=p/\p<h'.objs.size)->I ∉ ps->Q (.ref I) { s with heap:=h',drawn:=d }) :
  wpAny (model prog w) A (pyIter (.ref a)) Q E s:=by
 have hT:s.TypeIs (.ref a) "set":=⟨o,ho,hex.1⟩;refine wpAny_pyIter_slot hT Ui (JI Ui hT P0 ?_ (M7 _));unfold Builtin.«frozenset.__iter__» Builtin.Frozenset.slot0 slotArgs;simp only [List.isEmpty_nil,Y1c,GE,↓reduceIte,bind_assoc,List.length_nil,bne_self_eq_false];unfold Builtin.Frozenset.addrOf Builtin.Frozenset.sizeOf;refine YA (YE ?_)
 try dsimp only
 refine YA (YE ?_);refine YA (YA (wpAny_setEntries_of ho hd hf (YE ?_)));refine YA ?_;unfold setDrawn;refine YA (qr ho hd hf ?_);refine YA (U3 (YE ?_));have tail:∀ (first:Value) (s2:Shared) (ps:TJ) (vs:TH),(∀ b o,s.heap.get? b=some o->s2.heap.get? b=some o)->s.heap.objs.size<=s2.heap.objs.size->(∀ p∈ps,s.heap.objs.size<=p/\p<s2.heap.objs.size)->Stand w s2.heap ps a es ep t vs 0 first->vs.Perm (es.toList.map (·.2)) →
   s2={ s with heap:=s2.heap,drawn:=s2.drawn }->wpAny (model prog w) A.in1 (setEpoch a >>= λe=>newFields "set_iterator" [first,rawInt 0,Value.ref a,rawInt ↑es.size,rawInt ↑e] >>= λv=>ret v)
   (λfin s'=>∃ v,fin=Fin.done (Flow.ret v)/\∃ T' r,s'.TypeIs v T'/\typeLookup (Value.type T') (Str.ofString "__next__")=pure (some r)/\Q v s') E s2:=by
  intro first s2 ps vs k sz hp st pm e2
  have hp':∀ (x:Obj) b o,s.heap.get? b=some o->(s2.heap.push x).get? b=some o:=λx b o e=>YD _ (k b o e);unfold setEpoch;refine YA (YA (qr (k _ _ ho) hd hf (YE ?_)));refine YA (GJ (YE ⟨_,rfl,"set_iterator",_,⟨_,YL _ rfl,rfl⟩,slot_sit_next.lookup,?_⟩));rw[e2];refine hQ _ ps _ _ vs (hp' _) ⟨o,es,ep,t,first,hp' _ _ _ ho,hd,hf,g,hl,by rw[pm.length_eq];simp,YL _ rfl,st.at λb _ o e=>YD _ e⟩ pm (λp q=>?_) λq=>XX _ (hp _ q).2;rw[JY];rcases YC.mp q with rfl | q
  ·exact⟨sz,Nat.lt_succ_self _⟩
  exact⟨(hp p q).1,Nat.lt_succ_of_lt (hp p q).2⟩
 cases hb:byT w with
 | true =>
  rw[XQ J8];exact YA (YE (tail _ s [] _ (λ_ _ e=>e) (YO _) (λ_ h=>by cases h) (.txt 0 hb rfl rfl) ((Jj _ _).map _) rfl))
 | false =>
  cases hdr:(!t.plain && decide (es.size > 1)) with
  | false =>
   show wpAny _ _ (if (!false && (!t.plain && decide (es.size > 1)))=true then _ else _) _ _ _;rw[XQ (show ¬ (!false && (!t.plain && decide (es.size > 1)))=true by rw[hdr];simp)];exact YA (YE (tail _ s [] _ (λ_ _ e=>e) (YO _) (λ_ h=>by cases h) (.led 0 hb hdr rfl (Lv g.ris) rfl) (.refl _) rfl))
  | true =>
   show wpAny _ _ (if (!false && (!t.plain && decide (es.size > 1)))=true then _ else _) _ _ _;rw[JD (show (!false && (!t.plain && decide (es.size > 1)))=true by rw[hdr];rfl)];refine YA (Uq _ _ _ _ J8 λys d py=>?_);have yl:ys.length=es.size:=by rw[py.length_eq];simp
   refine YA (GJ ?_ (by simp only [PySem.sizeOk,PySem.sizeLine_eq,YY,YB];omega));refine tail (.ref s.heap.objs.size) _ [s.heap.objs.size] (ys.map λk=>(es.getD k (0,.none)).2) (λ_ _ e=>YD _ e) (by rw[JY];exact qJ _) (λp hp=>?_)
    (.drw s.heap.objs.size ys hb rfl J8 ⟨_,YL _ rfl,rfl,0,rfl⟩ (λk hk=>?_) rfl) ?_ rfl
   ·rw[JA.mp hp,JY];exact⟨YO _,Nat.lt_succ_self _⟩
   ·simpa using py.mem_iff.mp hk
   rw[<-Je];exact py.map _
theorem Gx {ps:TJ}{I a:Addr}{vs:TH}(hh:A.handled=none)(nI:I≠a)(nP:I ∉ ps):Walks prog w A I (I::a::ps) [I] vs.length (λi v=>vs[i]?=some v) (λi h=>SitAt w ps I a vs i h) where
 sub:=λb hb=>by simp at hb;simp[hb]
 frame:=λi h h' st k=>st.at k
 item:=λi s Q E hi st hQ=>by
  refine Pl hh st nI nP (λv h' hv st' sb=>hQ v h' s.toks hv st' λb o hb e=>(sb.2 b (λz=>hb (by simp[z]))).trans e) λhv=>?_;rw[XY hi] at hv
  cases hv
 done:=λs Q E st hQ=>by
  refine Pl hh st nI nP (λv h' hv=>?_) λ_ h' eb=>hQ h' s.toks λb o hb e=>eb b o (λz=>hb (by simp[z])) e;rw[qE (YO _)] at hv
  cases hv
 self:=λi s Q E st hQ=>by
  have hT:=st.type;refine wpAny_pyIter_slot hT Vc (JI Vc hT Sm ?_ (R7 _));show wpAny _ _ (ret (.ref I)) _ _ s;exact YE ⟨_,rfl,"set_iterator",_,hT,slot_sit_next.lookup,hQ⟩
end
set_option maxHeartbeats 1000000
section
variable {prog:TR}{w:World}{A:Around}{E:TC}{s:Shared}
theorem Li {vs:TH}{acc:Array Value}(h:ItemsOf (λi v=>vs[i]?=some v) acc vs.length):acc.toList=vs:=by
 apply List.ext_getElem?;intro i;rw[zp]
 cases hx:acc[i]? with
 | some v=>exact (h.2 i v hx).symm
 | none =>
  have:=Array.getElem?_eq_none_iff.mp hx;rw[h.1] at this;exact (qE this).symm
theorem T7:typeLookup (.type "set") "__len__"=pure (some (.builtin "set.__len__")):=by rw[zk,qg];kernel_rfl
theorem M0 {a:Addr}{es:Array (Int × Value)}{ep:Nat}{t:SetTable}{Q:List Value->Shared->Prop}(hh:A.handled=none)(ho:s.heap.get? a=some o)(hex:o.ExactSet)(hd:o.data=.set es ep t)(hf:t.fits es.size=true)(g:TabG t)(hl:t.led=!byT w)(hz:es.size<4096)
  (hQ:∀ h' d tk vs,(∀ b o,s.heap.get? b=some o->h'.get? b=some o)->s.heap.objs.size<=h'.objs.size->vs.Perm (es.toList.map (·.2))->Q vs { s with heap:=h',drawn:=d,toks:=tk }) :
  wpAny (model prog w) A (collect (.ref a)) Q E s:=by
 have lt:a<s.heap.objs.size:=YJ ho;have hSa:s.heap.objs.size≠a:=λe=>XX _ (e ▸ lt);unfold collect;refine YA (wpAny_runValue (GP F.entry_proto_collect ?_));rw[GV F.plain_proto_collect _];show wpAny _ A.in1 (newList [] >>= λl=>again (.builtin "list.__iadd__" ⟨[l,.ref a],[]⟩)) _ _ s;refine YA (GJ ?_);refine YE ⟨zm F.plain_list_iadd _,GP F.entry_list_iadd ?_⟩;rw[GV F.plain_list_iadd _];have k1:∀ b o,s.heap.get? b=some o->(s.heap.push { cls:=.type "list",data:=.seq ([]:TH).toArray }).get? b=some o:=λb o e=>YD _ e;have hS₁:(s.heap.push { cls:=.type "list",data:=.seq ([]:TH).toArray }).get? s.heap.objs.size=some { cls:=.type "list",data:=.seq ([]:TH).toArray }:=YL _ rfl;have h1:Builtin.List.listSameRef (.ref s.heap.objs.size) (.ref a)=false:=by simp[Builtin.List.listSameRef,hSa]
 show wpAny _ A.in1 (Builtin.List.listExtendWith (.ref s.heap.objs.size) (.ref a) (.ref s.heap.objs.size)) _ _ _;unfold Builtin.List.listExtendWith;have hT:∀ s2:Shared,s2.heap.get? a=some o->s2.TypeIs (.ref a) "set":=λs2 e=>⟨o,e,hex.1⟩;refine YA (jz (hT _ (k1 _ _ ho)) ?_);rw[XQ (by rw[h1];decide)];refine YA (Fc (k1 _ _ ho) hex hd hf g hl hz λh2 ps I d vs k2 S pm hp nI=>?_);refine YA (XO ?_);unfold Builtin.List.listLengthHint;refine YA (wpAny_specialOf (hT _ (k2 _ _ (k1 _ _ ho))) T7 ?_)
 (generalize hid:("set.__len__":String)=id0;(fail_if_success (clear hid id0));wp_delta;rw[show splitId id0=some ("set","__len__") from by subst hid;decide +kernel];subst hid)
 refine YA (GU (b:=true) (hT _ (k2 _ _ (k1 _ _ ho))) (by rw[zx];kernel_rfl) ?_);show wpAny _ A.in1 (typeOf (.ref a) >>= _) _ _ _;refine YA (jz (hT _ (k2 _ _ (k1 _ _ ho))) ?_);refine YE ?_;show wpAny _ A.in1 (rule "list.extend.makes-room" >>= λ_=>Builtin.List.listTouch (.ref s.heap.objs.size) >>= λ_ =>
  again (.builtin "list.extend.loop" ⟨[.ref s.heap.objs.size,.ref I,.ref s.heap.objs.size],[]⟩)) _ _ _
 refine YA (GX ?_);have hS2:=k2 _ _ hS₁;have nSI:s.heap.objs.size≠I:=by
  have:=(hp I J8).1;rw[JY] at this;omega
 refine YA ?_;show wpAny _ A.in1 (updateSeq s.heap.objs.size (·.push .none) >>= λ_=>updateSeq s.heap.objs.size (·.pop)) _ _ _;refine YA (wpAny_updateSeq hS2 rfl ?_);have hS₂:=JN (Obj.mapSeq (·.push Value.none)) hS2 rfl;refine wpAny_updateSeq hS₂ rfl ?_;have hS₃:=JN (Obj.mapSeq (·.pop)) hS₂ rfl;have oth:∀ b o,b≠s.heap.objs.size->h2.get? b=some o->((h2.update s.heap.objs.size (Obj.mapSeq (·.push Value.none))).update s.heap.objs.size (Obj.mapSeq (·.pop))).get? b=some o :=
  λb o hb e=>(JG _ _ (JZ hb)).trans ((JG _ _ (JZ hb)).trans e)
 have nIa:I≠a:=by
  intro z;have:=(hp I J8).1;rw[JY,z] at this;exact XX _ (YU lt (Nat.le_of_succ_le this))
 have hSf:s.heap.objs.size ∉ I::a::ps:=by
  intro q;rcases YC.mp q with q | q
  ·exact nSI q
  rcases YC.mp q with q | q
  ·exact hSa q
  have:=(hp _ (YG _ q)).1;rw[JY] at this;omega
 have W:=(Gx (prog:=prog) (w:=w) (A:=A.in1) (ps:=ps) (I:=I) (a:=a) (vs:=vs) hh nIa nI).toS;have vl:vs.length=es.size:=by rw[pm.length_eq];simp
 refine YE ⟨zm F.plain_extend_loop _,codeAny_extend_loopS W (by rw[vl,YX];omega) _ hSf _ vs.length 0 _ _ _ rfl (JU _) ?_ hS₃ (ItemsOf.nil _) λs' acc' c' hm hS' hacc=>?_⟩
 ·exact S.at λb hb o e=>oth b o (λz=>hSf (z ▸ hb)) e
 show wpAny _ A (load s.heap.objs.size >>= _) _ _ s';refine YA (Y1d hS' ?_);rw[show s'={ s with heap:=s'.heap,drawn:=s'.drawn,toks:=s'.toks } from by
  obtain⟨h1,h2,h3,h4,h5⟩:=hm
  cases s';dsimp only at h2 h4;rw[h2,h4]]
 refine YE (show Q acc'.toList _ from ?_);rw[Li hacc];refine hQ s'.heap s'.drawn s'.toks vs (λb o e=>?_) (Y0C (YJ hS')) pm;have hb:b<s.heap.objs.size:=YJ e;have hbI:b≠I:=by
  intro z;have:=(hp I J8).1;rw[JY,<-z] at this;exact XX _ (YU hb (Nat.le_of_succ_le this))
 exact hm.heap b o (λz=>by simp at z;rcases z with z | z;exact XM hb z;exact hbI z) (oth b o (XM hb) (k2 b o (k1 b o e)))
end
end Sb
namespace Sb
open PySem PySem.Spec PyProof.Rows L2
set_option maxHeartbeats 1000000
theorem Kh:∀ {ms:TU} {vs:TH},Vals (ms.map V.int) vs->IntsAre vs ms
 | [],_,.nil=>.nil
 | m::ms,_,.cons (b:=v) h hs=>by
  obtain⟨t,rfl⟩:=h;exact .cons m t (Kh hs)
theorem Vm:∀ {ms:TU} {vs:TH},IntsAre vs ms->Vals (ms.map V.int) vs
 | _,_,.nil=>.nil
 | _,_,.cons n t h=>.cons ⟨t,rfl⟩ (Vm h)
section
variable {prog:TR}{w:World}{A:Around}{E:TC}{s:Shared}
theorem Mj {a:Addr}{es:Array (Int × Value)}{ep:Nat}{t:SetTable}{Q:TC}(hh:A.handled=none)(ho:s.heap.get? a=some o)(hex:o.ExactSet)(hd:o.data=.set es ep t)(hf:t.fits es.size=true)(g:TabG t)(hl:t.led=!byT w)
  (hv:Vals (ns.map V.int) (es.toList.map (·.2))) (h64:ns.length<64)
  (h:∀ h' d tk l (out:Array Value) ms,s.heap.objs.size<=l->(∀ b o,s.heap.get? b=some o->h'.get? b=some o)->(∃ c,h'.get? l=some (seqObj "list" out c))->IntsAre out.toList ms->ms.Perm ns->ms.Pairwise (·<=·)->Q (.ref l) { s with heap:=h',drawn:=d,toks:=tk }) :
  wpAny (model prog w) A (call (.builtin "sorted") [.ref a]) Q E s:=by
 have lz:es.size=ns.length:=by
  have:=hv.length
  simpa using this.symm
 refine Calls.call_function_entry kind_sorted plain_sorted entry_sorted (args_sorted1 _) ?_;unfold Builtin.«sorted»;refine YA (m:=checkCount "sorted" 1 1 _) (YE ?_);refine YA (M0 hh ho hex hd hf g hl U λh1 d tk vs k1 sz pm=>?_);obtain⟨ms,p1,v1⟩:=R9 pm hv;have hI:=Kh v1;have vl:vs.length=ns.length:=by rw[pm.length_eq];simpa using lz
 refine YA (wpAny_newList ?_ (by rw[YX];omega));have hoL:(h1.push (seqObj "list" vs.toArray 0)).get? h1.objs.size=some (seqObj "list" vs.toArray 0):=YL _ rfl;refine YA (XO (JI slot_list_sort ⟨_,hoL,rfl⟩ entry_list_sort (list_sort_tree hoL hI U λout ns' a1 a2 a3=>⟨_,rfl,?_⟩) (args_list_sort _)));refine YE ⟨_,rfl,?_⟩;refine h _ d tk h1.objs.size out ns' sz (λb o e=>?_) ?_ a1 (a2.trans p1) a3
 ·have hb:b≠h1.objs.size:=XM (YJ (k1 b o e));unfold sortedHeap;rw[JG _ _ hb.symm];refine YD _ (YD _ ?_);rw[JG _ _ hb.symm];exact YD _ (k1 b o e)
 unfold sortedHeap;have e1:=get?_update_seq hoL λ_=>(#[]:Array Value);have e2:=get?_update_seq (YD (seqObj "list" #[] 0) (YD (seqObj "tuple" vs.toArray 0) e1)) λ_=>out;exact⟨_,e2⟩
end
section
variable {X:Cx}
theorem Inv.draw {σ:L2.St}{d:Drawn}(I:Inv X pins σ H s):Inv X pins σ H { s with drawn:=d } :=
 ⟨I.ok,I.os,I.bare,I.base,I.loc,I.cell,I.free,I.freeC,I.pin,I.hok,I.len⟩
inductive rSortI (P:TR) (w:World) (xs:TV) (H:Hp) (Q:VK):Prop
 | mk (p:Addr) (es:Array (Int × Value)) (ns:TU) (a0:xs=[.ref p]) (a1:H p=some (setI P w p es)) (a2:Vals (ns.map V.int) (es.toList.map (·.2))) (a3:ns.length<64)
   (a4:∀ (d:Addr) (ms:TU),H d=none->ms.Perm ns->ms.Pairwise (·<=·)->Q (.ref d) (upd H d (.lst (ms.map V.int))))
theorem Lq (hA:X.A.handled=none):CallR X (.builtin "sorted") (rSortI X.prog X.w):=by
 intro pins s σ H xs us Q I r h;obtain⟨p,es,ns,rfl,hp,hv,h64,q⟩:=h;obtain⟨u,rfl,rx⟩:=W7 r
 cases rx;obtain⟨⟨⟨o,ep,t,ho,hX,hdt,hf,tg,tl⟩,_,sz⟩,_⟩:=(show ObjOk X.prog X.w H s.heap p (setI X.prog X.w p es) from I.hok p _ hp);refine Mj hA ho hX hdt hf tg tl hv h64 λh' d tk l out ms lb k il ia pm pw=>?_;refine⟨.ref l,_,(Inv.draw (d:=d) (I.laid (t':=tk) k lb (show ObjOk X.prog X.w _ h' l (.lst (ms.map V.int)) from ?_))),rfl,q l ms (I.hok.fresh lb) pm pw⟩;obtain⟨c,il⟩:=il;have ml:ms.length=ns.length:=pm.length_eq;exact⟨by rw[YB,YX];omega,out.toList,c,Vm ia,by rw[il]⟩
end
set_option maxHeartbeats 1000000
theorem Z0h (ns ms:List PySem.Str):((List.range (min ns.length ms.length)).all (λj=>ns.getD j "" == ms.getD j "") && ns.length == ms.length)=decide (ns=ms):=by
 rw[GS];simp only [JP,GG,qC,qP,GZ];constructor
 ·rintro ⟨h,hl⟩;refine Y0u hl λi h1 h2=>?_;have:=h i U
  simpa [List.getD,h1,h2] using this
 rintro rfl;exact⟨λ_ _=>rfl,rfl⟩
section
variable {X:Cx}{K:TQ}{pins:TD}{σ:L2.St}{H:Hp}{s:Shared}
theorem Ly {ns:List PySem.Str}(r:Vals (ns.map V.str) us){j:Nat}(h:j<us.length):∃ t,us[j]=Value.str (ns.getD j "") t:=by
 have hl:=r.length;rw[YB] at hl;have hj:j<ns.length:=U
 obtain⟨u,e,q⟩:=r.get (i:=j) (show (ns.map V.str)[j]?=some (V.str ns[j]) by simp[hj]);obtain⟨t,rfl⟩:=q;have e2:us[j]?=some us[j]:=by simp[h]
 rw[e2] at e;refine⟨t,?_⟩;rw[XH e];simp[List.getD,hj]
theorem Ph {a:List PySem.Str}:∀ {b:List PySem.Str} {us:TH},Vals (a.map V.str) us->Vals (b.map V.str) us->a=b:=by
 induction a with
 | nil =>
  intro b us h1 h2
  cases h1
  cases b with
  | nil=>rfl
  | cons _ _=>cases h2
 | cons x a ih =>
  intro b us h1 h2
  cases b with
  | nil=>cases h2;cases h1
  | cons y b =>
   cases h1 with
   | cons r t =>
    cases h2 with
    | cons r' t' =>
     obtain⟨_,rfl⟩:=r;obtain⟨_,e⟩:=r'
     cases e;rw[ih t t']
theorem Gi (I:Inv X pins σ H s){a b:Addr}{ws us:List PySem.Str}(ha:SqT X.K H a (ws.map V.str))(hb:SqT X.K H b (us.map V.str))(hu:A.units<cLine):SeqAt.EqAt A s (.ref a) (.ref b) (decide (ws=us)):=by
 obtain⟨i1,r1,p1,_⟩:=I.tuple ha;obtain⟨i2,r2,p2,_⟩:=I.tuple hb;by_cases e:a=b
 ·subst e;have:i1=i2:=by
   obtain⟨o,ho,_,n,hd⟩:=p1;obtain⟨o',ho',_,n',hd'⟩:=p2;rw[ho] at ho'
   cases ho';rw[hd] at hd';injection hd' with h1
   simpa using h1
  subst this;rw[Ph r1 r2,XD rfl];exact qH _
 refine SeqAt.EqAt.of_refs e ?_;have l1:=r1.length;have l2:=r2.length;rw[YB] at l1 l2;have:=Y0i (A:=A) (e:=λj=>ws.getD j "" == us.getD j "") p1 p2 hu λj h1 h2=>by
  obtain⟨t,e1⟩:=Ly r1 (j:=j) (by simpa using h1);obtain⟨t',e2⟩:=Ly r2 (j:=j) (by simpa using h2);have e1':i1.toArray[j]=Value.str (ws.getD j "") t:=by simpa using e1
  have e2':i2.toArray[j]=Value.str (us.getD j "") t':=by simpa using e2
  rw[e1',e2'];exact Y04 _ _ _ _
 rwa [YY,YY,<-l1,<-l2,Z0h] at this
inductive rNotInT (K:TQ) (x:V) (y:V) (H:Hp) (Q:VK):Prop
 | mk (a p:Addr) (ws:List PySem.Str) (cs:TJ) (wss:List (List PySem.Str)) (a0:x=.ref a) (a1:y=.ref p) (a2:SqT K H a (ws.map V.str)) (a3:SqT K H p (cs.map V.ref)) (a4:Paired (λc us=>SqT K H c (List.map V.str us)) cs wss) (a5:Q (.bl (!decide (ws∈wss))) H)
theorem Rf:∀ {cs:TJ} {us:TH},Vals (cs.map V.ref) us->us=cs.map Value.ref
 | [],_,.nil=>rfl
 | _::_,_,.cons r t=>by cases r;rw[Rf t];rfl
theorem Jl (hu:X.A.units+1<cLine)(hK:X.K=K:=by rfl):OpR X (compareOp .NotIn) (rNotInT K):=by
 subst hK;intro pins s σ H x y v u Q I rx ry h;obtain⟨a,p,ws,cs,wss,rfl,rfl,ha,hp,pr,q⟩:=h
 cases rx
 cases ry;obtain⟨its,r,pl,_⟩:=I.tuple hp;have e:=Rf r;subst e;have key:∀ c us,SqT X.K H c (List.map V.str us)->SeqAt.EqAt X.A.in1 s (.ref c) (.ref a) (decide (us=ws)):=λc us hc=>Gi I hc ha (by show X.A.units+1<cLine;exact hu);have uniq:∀ c us us',SqT X.K H c (List.map V.str us)->SqT X.K H c (List.map V.str us')->us=us':=by
  intro c us us' h1 h2;obtain⟨i1,r1,p1,_⟩:=I.tuple h1;obtain⟨i2,r2,p2,_⟩:=I.tuple h2;have:i1=i2:=by
   obtain⟨o,ho,_,n,hd⟩:=p1;obtain⟨o',ho',_,n',hd'⟩:=p2;rw[ho] at ho'
   cases ho';rw[hd] at hd';injection hd' with h1
   simpa using h1
  subst this;exact Ph r1 r2
 have some_at:∀ (cs:TJ) (wss:List (List PySem.Str)),Paired (λc us=>SqT X.K H c (List.map V.str us)) cs wss->(∀ y∈cs.map Value.ref,∃ c us,y=.ref c/\us∈wss/\SqT X.K H c (List.map V.str us)):=by
  intro cs wss pr
  induction pr with
  | nil=>intro y hy;cases hy
  | cons h _ ih =>
   intro y hy;rcases YC.mp hy with rfl | hy
   ·exact⟨_,_,rfl,YI,h⟩
   obtain⟨c,us,e,m,k⟩:=ih y hy;exact⟨c,us,e,YG _ m,k⟩
 have anyE:∀ (e:Value->Bool) (cs:TJ) (wss:List (List PySem.Str)),Paired (λc us=>SqT X.K H c (List.map V.str us)) cs wss->(∀ c us,SqT X.K H c (List.map V.str us)->e (.ref c)=decide (us=ws))->(cs.map Value.ref).any e=decide (ws∈wss):=by
  intro e cs wss pr he
  induction pr with
  | nil=>rfl
  | cons h _ ih =>
   rw[YT,zD,ih,he _ _ h,GS];simp only [Bool.or_eq_true,GZ,YC];exact or_congr_left eq_comm
 classical
 let e:Value->Bool:=λy=>match y with
  | .ref c=>decide (SqT X.K H c (List.map V.str ws))
  | _=>false
 have he:∀ c us,SqT X.K H c (List.map V.str us)->e (.ref c)=decide (us=ws):=by
  intro c us h;show decide (SqT X.K H c (List.map V.str ws))=decide (us=ws);rw[GS,GZ,GZ];exact⟨λz=>uniq c _ _ h z,λz=>z ▸ h⟩
 refine SeqAt.notIn_tupleAt e pl (λy hy=>?_) ⟨.bl _,H,I,rfl,?_⟩
 ·obtain⟨c,us,rfl,_,k⟩:=some_at cs wss pr y (by simpa using hy);rw[he c us k];exact key c us k
 rw[show (cs.map Value.ref).toArray.any e=(cs.map Value.ref).any e by simp,anyE e cs wss pr he];exact q
inductive rInN (K:TQ) (x:V) (y:V) (H:Hp) (Q:VK):Prop
 | mk (p:Addr) (xs:TV) (a0:x=.non) (a1:y=.ref p) (a2:SqL K H p xs) (a3:∀ z∈xs,z=.non \/ ∃ c zs,z=.ref c/\SqT K H c zs) (a4:Q (.bl (decide (V.non∈xs))) H)
theorem Z1j (hu:X.A.units+1<cLine)(hK:X.K=K:=by rfl):OpR X (compareOp .In) (rInN K):=by
 subst hK;intro pins s σ H x y v u Q I rx ry h;obtain⟨p,xs,rfl,rfl,hp,ho,q⟩:=h
 cases rx
 cases ry;obtain⟨its,r,pl,_⟩:=I.list hp;let e:Value->Bool:=λy=>match y with
  | .none=>true
  | _=>false
 have key:∀ {xs:TV} {its:TH},Vals xs its->(∀ z∈xs,z=.non \/ ∃ c zs,z=.ref c/\SqT X.K H c zs)->(∀ y∈its,SeqAt.EqAt X.A.in1 s y .none (e y))/\its.any e=decide (V.non∈xs):=by
  intro xs
  induction xs with
  | nil=>intro its r _;cases r;exact⟨λy hy=>(nomatch hy),rfl⟩
  | cons z xs ih =>
   intro its r ho
   cases r with
   | cons r t =>
   obtain⟨i1,i2⟩:=ih t λz hz=>ho z (YG _ hz);rcases ho _ YI with rfl | ⟨c,zs,rfl,hc⟩
   ·cases r;refine⟨λy hy=>?_,by simp[e]⟩;rcases YC.mp hy with rfl | hy
    ·exact qH _
    exact i1 y hy
   cases r;refine⟨λy hy=>?_,by rw[zD,i2];simp[e]⟩;rcases YC.mp hy with rfl | hy
   ·obtain⟨i3,_,p3,_⟩:=I.tuple hc;exact SeqAt.EqAt.tuple_none p3 hu
   exact i1 y hy
 obtain⟨k1,k2⟩:=key r ho;refine SeqAt.in_listAt e pl.isList (λy hy=>k1 y (by simpa using hy)) ⟨.bl _,H,I,rfl,?_⟩;rw[show its.toArray.any e=its.any e by simp,k2];exact q
end
end Sb
namespace Sb
open PySem PySem.Builtin.SmallTypes
set_option maxHeartbeats 1000000
abbrev IsZipB (h:Heap)(z TI TO T:Addr)(b:Bool):Prop:=h.get? z=some { cls:=.type "zip",data:=.fields #[rawInt T,.bool b,.bool false,.ref TI,.ref TO] }
section
variable {prog:TR}{w:World}{A:Around}{E:TC}{s:Shared}{z TI TO i1 i2 T:Addr}{f1 f2:TJ}{n1 n2:Nat}{P1 P2:Nat->Value->Prop}{S1 S2:Nat->Heap->Prop}
theorem Pc {M:Model}{a:Addr}{Q:Option Obj->Shared->Prop}(h:Q (s.heap.get? a) s):wpAny M A (loadIfAlive a) Q E s:=λ_ _ _=>h
theorem Tl {bb:Bool}{o:Obj}{Q:Bool->Shared->Prop}(hz:IsZipB s.heap z TI TO T bb)(ho:s.heap.get? T=some o)(hQ:∀ h',IsZipB h' z TI TO T true->Heap.SameBut z s.heap h'->Q false { s with heap:=h' }):wpAny (model prog w) A (ownedTupleIsFree (.ref z)) Q E s:=by
 unfold ownedTupleIsFree;refine YA (XU hz rfl (x:=rawInt T) rfl ?_);show wpAny _ _ (loadIfAlive T >>= _) _ _ _;refine YA (Pc ?_);rw[ho];show wpAny _ _ (field (.ref z) 1 >>= _) _ _ _;refine YA (XU hz rfl (x:=.bool bb) rfl ?_)
 cases bb with
 | true=>exact YE (hQ s.heap hz ⟨rfl,λ_ _=>rfl⟩)
 | false =>
  show wpAny _ _ (setField (.ref z) 1 (.bool true) >>= _) _ _ _;exact YA (JM hz J8 λh1 z1 s1=>YE (hQ h1 z1 s1))
theorem Kw {k:Nat}{bb:Bool}{Q:TC}(D:Off z TI TO i1 i2 f1 f2)(D1:Draws prog w A i1 f1 n1 P1 S1)(D2:Draws prog w A i2 f2 n2 P2 S2)
  (hz:IsZipB s.heap z TI TO T bb) (ho:s.heap.get? T=some o) (hTI:IsPair s.heap TI (.ref i1) (.ref i2)) (c1:S1 k s.heap) (c2:S2 k s.heap) (l1:k<n1) (l2:k<n2)
  (hQ:∀ x y h' tk,P1 k x->P2 k y->IsZipB h' z TI TO T true->S1 (k+1) h'->S2 (k+1) h'->IsPair h' s.heap.objs.size x y->h'.objs.size=s.heap.objs.size+1 →
   (∀ c o,c≠z->c≠i1->c≠i2->s.heap.get? c=some o->h'.get? c=some o)->Q (.ref s.heap.objs.size) { s with heap:=h',toks:=tk }) :
  wpAny (model prog w) A (Builtin.«zip.__next__» ⟨[.ref z],[]⟩) (λfin s'=>∃ v,fin=.done (.ret v)/\Q v s') E s:=by
 show wpAny _ _ (field (.ref z) 2 >>= _) _ _ _;refine YA (XU hz rfl (x:=.bool false) rfl ?_);show wpAny _ _ (field (.ref z) 3 >>= _) _ _ _;refine YA (XU hz rfl (x:=.ref TI) rfl ?_);refine YA (GF hTI rfl ?_);show wpAny _ _ (ownedTupleIsFree (.ref z) >>= _) _ _ _;refine YA (Tl hz ho λg1 z1 s1=>?_);simp only [GE,zi,<-Y1k,qd,zv];refine YA (YA (YA (XO ?_)));show wpAny _ _ (nextOf (.ref i1) >>= _) _ _ _;have c11:S1 k g1:=D1.frame _ _ _ c1 λb hb o e=>s1.extBut b o (λq=>D.z1 (q ▸ hb)) e;refine YA (D1.item k _ _ _ l1 c11 λx g2 tk2 p1 c12 s2=>YE (YE ?_));replace s2:Heap.SameBut i1 g1 g2:=s2;refine YA (YA (XO ?_));show wpAny _ _ (nextOf (.ref i2) >>= _) _ _ _;have c22:S2 k g2:=D2.frame _ _ _ c2 λb hb o e=>s2.extBut b o (λq=>D.n2 (q ▸ hb)) (s1.extBut b o (λq=>D.z2 (q ▸ hb)) e);refine YA (D2.item k _ _ _ l2 c22 λy g3 tk3 p2 c23 s3=>YE (YE (YE ?_)));replace s3:Heap.SameBut i2 g2 g3:=s3;have c13:S1 (k+1) g3:=D1.frame _ _ _ c12 λb hb o e=>s3.extBut b o (λq=>D.n1 (q ▸ hb)) e;have sz:g3.objs.size=s.heap.objs.size:=by rw[s3.1,s2.1,s1.1]
 have up:∀ (c:Addr) o (t:Obj),g3.get? c=some o->(g3.push t).get? c=some o:=λc o t e=>YD _ e;show wpAny _ _ (newTuple [x,y] >>= _) _ _ _;refine YA (wpAny_newTuple ?_);refine YE ⟨_,rfl,?_⟩;have pr:IsPair (g3.push { cls:=.type "tuple",data:=.seq #[x,y] }) g3.objs.size x y:=YL _ rfl;show Q (.ref g3.objs.size) _;rw[sz] at pr ⊢;exact hQ x y _ tk3 p1 p2 (up _ _ _ (s3.extBut _ _ D.a4.symm (s2.extBut _ _ D.a3.symm z1))) (D1.frame _ _ _ c13 λb _ o e=>up b o _ e) (D2.frame _ _ _ c23 λb _ o e=>up b o _ e) pr (by rw[JY,sz])
  λc o q1 q2 q3 e=>up c o _ (s3.extBut _ _ q3 (s2.extBut _ _ q2 (s1.extBut _ _ q1 e)))
theorem Kv {bb:Bool}{Q:Fin->Shared->Prop}(D:Off z TI TO i1 i2 f1 f2)(D1:Draws prog w A i1 f1 n1 P1 S1)(hz:IsZipB s.heap z TI TO T bb)(ho:s.heap.get? T=some o)(hTI:IsPair s.heap TI (.ref i1) (.ref i2))(c1:S1 n1 s.heap)
  (hE:∀ h' e,(∀ c o,c≠z->c≠i1->s.heap.get? c=some o->h'.get? c=some o)->(∃ o,h'.get? e=some o/\o.cls=.type "StopIteration")->E (.ref e) { s with heap:=h' }) :
  wpAny (model prog w) A (Builtin.«zip.__next__» ⟨[.ref z],[]⟩) Q E s:=by
 show wpAny _ _ (field (.ref z) 2 >>= _) _ _ _;refine YA (XU hz rfl (x:=.bool false) rfl ?_);show wpAny _ _ (field (.ref z) 3 >>= _) _ _ _;refine YA (XU hz rfl (x:=.ref TI) rfl ?_);refine YA (GF hTI rfl ?_);show wpAny _ _ (ownedTupleIsFree (.ref z) >>= _) _ _ _;refine YA (Tl hz ho λg1 z1 s1=>?_);simp only [GE,zi,<-Y1k,qd,zv];refine YA (YA (YA (XO ?_)));show wpAny _ _ (nextOf (.ref i1) >>= _) _ _ _;have c11:S1 n1 g1:=D1.frame _ _ _ c1 λb hb o e=>s1.extBut b o (λq=>D.z1 (q ▸ hb)) e;exact YA (D1.done _ _ _ c11 λg2 e s2 he=>hE g2 e (λc o q1 q2 h=>s2 _ _ q2 (s1.extBut _ _ q1 h)) he)
end
end Sb
namespace Sb
open PySem PySem.Spec PyProof.Rows L2 PySem.Builtin.SmallTypes
set_option maxHeartbeats 1000000
structure ZW (l m:Bool)(ex:TJ)(z TI TO i1 i2 t u:Addr)(xs ys:Array Value)(i:Nat)(h:Heap):Prop where
 zz:(IsZip h z TI TO .none/\∃ a b,IsPair h TO a b) \/ ∃ T bb o,IsZipB h z TI TO T bb/\h.get? T=some o/\T ∉ ex
 ti:IsPair h TI (.ref i1) (.ref i2)
 r1:Ir l h i1 t i
 r2:Ir m h i2 u i
 q1:Iq l h t xs
 q2:Iq m h u ys
 live:∀ e∈ex,∃ o,h.get? e=some o
section
variable {prog:TR}{w:World}{A:Around}{E:TC}{s:Shared}{l m:Bool}{ex:TJ}{z TI TO i1 i2 t u:Addr}{xs ys:Array Value}
theorem Lx {i:Nat}{Q:Option Value->Shared->Prop}(hA:A.handled=none)(D:Off z TI TO i1 i2 [i1,t] [i2,u])(e1:t≠i1)(e2:u≠i2)(o:∀ b∈[TI,t,u],b ∉ [z,TO,i1,i2])(sub:∀ b∈[z,TO,i1,i2],b∈ex)(Z:ZW l m ex z TI TO i1 i2 t u xs ys i s.heap)(hs:xs.size=ys.size)(hi:i<=xs.size)
  (hQ:∀ p x y h' tk,xs[i]?=some x->ys[i]?=some y->ZW l m ex z TI TO i1 i2 t u xs ys (i+1) h'->IsPair h' p x y->p=s.heap.objs.size->(∀ c o,c ∉ [z,TO,i1,i2]->s.heap.get? c=some o->h'.get? c=some o)->Q (some (.ref p)) { s with heap:=h',toks:=tk })
  (hN:∀ h',i=xs.size->(∀ c o,c ∉ [z,TO,i1,i2]->s.heap.get? c=some o->h'.get? c=some o)->Q none { s with heap:=h' }):wpAny (model prog w) A (pyNext (.ref z)) Q E s:=by
 obtain⟨zz,ti,r1,r2,q1,q2,live⟩:=Z;have hA1:QtP A.in1 []:=.inl hA;have D1:=P4 (prog:=prog) (w:=w) l hA1 i1 t e1 J8 xs;have D2:=P4 (prog:=prog) (w:=w) m hA1 i2 u e2 J8 ys;have nin:∀ {c:Addr},c ∉ [z,TO,i1,i2]->c≠z/\c≠TO/\c≠i1/\c≠i2:=λhc=>by simpa using hc
 have keep:∀ {h':Heap},(∀ c o,c ∉ [z,TO,i1,i2]->s.heap.get? c=some o->h'.get? c=some o)->IsPair h' TI (.ref i1) (.ref i2)/\Iq l h' t xs/\Iq m h' u ys:=by
  intro h' k;obtain⟨o1,h1,r1⟩:=q1;obtain⟨o2,h2,r2⟩:=q2;exact⟨k _ _ (o TI J8) ti,⟨o1,k _ _ (o t J8) h1,r1⟩,⟨o2,k _ _ (o u J8) h2,r2⟩⟩
 have fresh:∀ e∈ex,e≠s.heap.objs.size:=λe he=>by
  obtain⟨o,ho⟩:=live e he;exact XM (YJ ho)
 have hlt:i<xs.size \/ i=xs.size:=U
 have hTz:s.TypeIs (.ref z) "zip":=by
  rcases zz with ⟨h,_⟩ | ⟨_,_,_,h,_⟩
  ·exact⟨_,h,rfl⟩
  exact⟨_,h,rfl⟩
 rcases hlt with hlt | rfl
 ·have ex1:xs[i]?=some xs[i]:=GD hlt;have ex2:ys[i]?=some (ys[i]'U):=GD _;rcases zz with ⟨hz,a,b,hTO⟩ | ⟨T,bb,oT,hz,hT,nT⟩
  ·refine Px D D1 D2 hz ti hTO ⟨r1,q1,J8⟩ ⟨r2,q2,J8⟩ hlt U λx y h' tk px py z' to' s1 s2 pr sz kp=>?_;have kp':∀ c o,c ∉ [z,TO,i1,i2]->s.heap.get? c=some o->h'.get? c=some o:=λc o hc e=>kp c o (nin hc).1 (nin hc).2.1 (nin hc).2.2.1 (nin hc).2.2.2 e;obtain⟨k1,k2,k3⟩:=keep kp';refine hQ _ x y h' tk px py ⟨.inr ⟨s.heap.objs.size,false,_,z',pr,λq=>fresh _ q rfl⟩,k1,s1.1,s2.1,k2,k3,λe he=>?_⟩ pr rfl kp';by_cases c1:e=z
   ·exact⟨_,c1 ▸ z'⟩
   by_cases c2:e=TO
   ·exact⟨_,c2 ▸ to'⟩
   by_cases c3:e=i1
   ·obtain⟨o,ho,_⟩:=s1.1;exact⟨_,c3 ▸ ho⟩
   by_cases c4:e=i2
   ·obtain⟨o,ho,_⟩:=s2.1;exact⟨_,c4 ▸ ho⟩
   obtain⟨o,ho⟩:=live e he;exact⟨o,kp e o c1 c2 c3 c4 ho⟩
  unfold pyNext;refine YA (GR (JE (name:=Str.ofString "__next__") hTz qw (JI qw hTz j9
   (Kw D D1 D2 hz hT ti ⟨r1,q1,J8⟩ ⟨r2,q2,J8⟩ hlt U λx y h' tk px py z' s1 s2 pr sz kp=>YE ?_) (zQ _))))
  have kp':∀ c o,c ∉ [z,TO,i1,i2]->s.heap.get? c=some o->h'.get? c=some o:=λc o hc e=>kp c o (nin hc).1 (nin hc).2.2.1 (nin hc).2.2.2 e;obtain⟨k1,k2,k3⟩:=keep kp';have nT':=λb hb=>λq:T=b=>nT (q ▸ sub b hb);refine hQ _ x y h' tk px py ⟨.inr ⟨T,true,_,z',kp T _ (nT' z J8) (nT' i1 J8) (nT' i2 J8) hT,nT⟩,k1,s1.1,s2.1,k2,k3,λe he=>?_⟩ pr rfl kp';by_cases c1:e=z
  ·exact⟨_,c1 ▸ z'⟩
  by_cases c3:e=i1
  ·obtain⟨o,ho,_⟩:=s1.1;exact⟨_,c3 ▸ ho⟩
  by_cases c4:e=i2
  ·obtain⟨o,ho,_⟩:=s2.1;exact⟨_,c4 ▸ ho⟩
  obtain⟨o,ho⟩:=live e he;exact⟨o,kp e o c1 c3 c4 ho⟩
 rcases zz with ⟨hz,a,b,hTO⟩ | ⟨T,bb,oT,hz,hT,nT⟩
 ·exact Ur D D1 hz ti ⟨r1,q1,J8⟩ λh' kp=>hN h' rfl λc o hc e=>kp c o (nin hc).1 (nin hc).2.2.1 e
 unfold pyNext;refine YA (GR (JE (name:=Str.ofString "__next__") hTz qw (JI qw hTz j9
  (Kv D D1 hz hT ti ⟨r1,q1,J8⟩ λh' e kp he=>?_) (zQ _))))
 obtain⟨o,ho,hc⟩:=he;exact YA (GU (T:="StopIteration") (b:=true) ⟨o,ho,hc⟩ qV (YE (hN h' rfl λc o hc e=>kp c o (nin hc).1 (nin hc).2.2.1 e)))
end
set_option maxHeartbeats 1000000
theorem M8:typeLookup (.type "zip") "__getattr__"=pure none:=by rw[zk,qg];kernel_rfl
theorem Pb:entryFor table "zip.__getattribute__"=some Builtin.«object.__getattribute__» :=
 Y0Z (id':="object.__getattribute__") (by kernel_rfl) J9 J9 (by kernel_rfl)
theorem Tx (a:Addr)(xs:Array Value)(name:Str)(u:Tok)(hmiss:typeLookup (.type "zip") name=pure none)(hname:(TX:List Str).contains name=false)(hsz:name.length+100<=sizeLine:=by size_fits) :
  Meets (Builtin.«object.__getattribute__» ⟨[.ref a,.str name u],[]⟩) (λA R s=>s.heap.get? a=some { cls:=.type "zip",dict:=none,data:=.fields xs,slots:=#[] }/\raisesAttr (.ref a) name A R s) :=
 Meets.of_wp λprog w A R s hs=>by
  obtain⟨hp,g,d,tk,os⟩:=s;obtain⟨hx,hs⟩:=hs;have hT:(⟨hp,g,d,tk,os⟩:Shared).TypeIs (.ref a) "zip":=⟨_,hx,rfl⟩;unfold Builtin.«object.__getattribute__»
  repeat (any_goals (first | assumption | wp_step))
  simp only [hname,GE,zi]
  repeat (any_goals (first | assumption | wp_step))
  exact wpAny_raiseAttrError hs.1 hs.2 (attrMsg_fits J9 hsz)
section
variable {prog:TR}{w:World}{A:Around}{E:TC}{s:Shared}
theorem Vz {a:Addr}{xs:Array Value}{name:Str}{Q:Option Value->Shared->Prop}
  (hx:s.heap.get? a=some { cls:=.type "zip",dict:=none,data:=.fields xs,slots:=#[] }) (hmiss:typeLookup (.type "zip") name=pure none) (hname:(TX:List Str).contains name=false) (hA:A.handled=none)
  (h:∀ h' tk e,Heap.NewExcOf s.heap h' e "AttributeError"->Q none { s with heap:=h',toks:=tk }) (hsz:name.length+100<=sizeLine:=by size_fits) :
  wpAny (model prog w) A (getAttr? (.ref a) name) Q E s:=by
 obtain⟨hp,g,d,tk,os⟩:=s;have hT:∀ tk',(⟨hp,g,d,tk',os⟩:Shared).TypeIs (.ref a) "zip":=λ_=>⟨_,hx,rfl⟩;have f1:=sub_AttributeError;have f3:=zM.lookup;have f4:=zM.bind (.ref a);have f5:=M8;unfold getAttr? getAttrBy? getAttrBy
 repeat (any_goals (first | assumption | exact hT _ | ((with_reducible show wpAny _ _ (call (Value.builtin "zip.__getattribute__") _ _) _ _ _);refine j7 zM (hT _) Pb (F.args_zip_getattribute_2 _ _) (Tx a xs name _ hmiss hname hsz) ⟨hx,hA,λh' tk' e hx'=>?_⟩) | wp_step))
 obtain⟨t',u',he⟩:=hx'.there;show wpAny _ _ (getattributeRaised _ _ _ _ _ _ _) _ _ _;unfold getattributeRaised
 repeat (any_goals (first | assumption | wp_step))
 exact h _ _ _ hx'.of
end
set_option maxHeartbeats 1000000
theorem Pi {kvs:List (Key × Value)}(nd:(kvs.map (·.1)).Nodup){i:Nat}{k:Key}{v:Value}(h:kvs[i]?=some (k,v)):stored (kvs.take i) k v=kvs.take (i+1):=by
 have no:¬ (kvs.take i).any (λkv=>kv.1=k)=true:=by
  intro q;obtain⟨p,hp,e⟩:=List.any_eq_true.mp q;obtain⟨j,hj,e2⟩:=jv hp;have e:p.1=k:=by simpa using e
  rw[JJ] at hj;have hj1:j<i:=U
  have hi:=(XS.mp h).1;have g1:(kvs.map (·.1))[j]'(by rw[YB];omega)=k:=by
   rw[List.getElem_map,<-e,<-e2,List.getElem_take]
  have g2:(kvs.map (·.1))[i]'(by rw[YB];omega)=k:=by
   rw[List.getElem_map,(XS.mp h).2]
  exact (qe.mp nd) j i (by rw[YB];omega) (by rw[YB];omega) hj1 (g1.trans g2.symm)
 unfold stored;rw[XQ no,List.take_succ,h];rfl
section
variable {prog:TR}{w:World}{A:Around}{s:Shared}{l m:Bool}{z TI TO i1 i2 t u d:Addr}{xs ys:Array Value}
theorem Um:entryFor table "dict.update.loop"=some Builtin.«dict.update.loop»:=Y0s (by kernel_rfl)
theorem W1:plainId "dict.update.loop"=true:=by decide +kernel
theorem Ud {kvs:List (Key × Value)}(hm:h.DictOf (mixKind prog w) d kvs)(k:∀ o,h.get? d=some o->h'.get? d=some o):h'.DictOf (mixKind prog w) d kvs:=by
 obtain⟨o,es,ep,ho,r⟩:=hm;exact⟨o,es,ep,k o ho,r⟩
theorem ZW.put {i:Nat}(Z:ZW l m [z,TO,i1,i2,d] z TI TO i1 i2 t u xs ys i h)(nd:d ∉ [z,TI,TO,i1,i2,t,u])(sb:Heap.SameBut d h h')(hd:∃ o,h'.get? d=some o):ZW l m [z,TO,i1,i2,d] z TI TO i1 i2 t u xs ys i h':=by
 obtain⟨zz,ti,⟨o1,a1,r1⟩,⟨o2,a2,r2⟩,⟨o3,a3,r3⟩,⟨o4,a4,r4⟩,live⟩:=Z;have k:∀ b∈[z,TI,TO,i1,i2,t,u],∀ o,h.get? b=some o->h'.get? b=some o:=λb hb o e=>(sb.2 b (λq=>nd (q ▸ hb))).trans e;refine⟨?_,k TI J8 _ ti,⟨o1,k i1 J8 _ a1,r1⟩,⟨o2,k i2 J8 _ a2,r2⟩,⟨o3,k t J8 _ a3,r3⟩,⟨o4,k u J8 _ a4,r4⟩,λe he=>?_⟩
 ·rcases zz with ⟨hz,a,b,hTO⟩ | ⟨T,bb,oT,hz,hT,nT⟩
  ·exact .inl ⟨k z J8 _ hz,a,b,k TO J8 _ hTO⟩
  exact .inr ⟨T,bb,oT,k z J8 _ hz,(sb.2 T (λq=>nT (q ▸ J8))).trans hT,nT⟩
 by_cases c:e=d
 ·exact c ▸ hd
 obtain⟨o,ho⟩:=live e he;exact⟨o,(sb.2 e c).trans ho⟩
theorem Lo {R:Result->Shared->Prop}{kvs:List (Key × Value)}{res:Value}(hA:A.handled=none)(D:Off z TI TO i1 i2 [i1,t] [i2,u])(e1:t≠i1)(e2:u≠i2)(o:∀ b∈[TI,t,u],b ∉ [z,TO,i1,i2])(nd:d ∉ [z,TI,TO,i1,i2,t,u])(hs:xs.size=ys.size)(len:kvs.length=xs.size)(hz:kvs.length<=sizeLine)
  (hk:∀ (i:Nat) (x y:Value),xs[i]?=some x->ys[i]?=some y->∃ k,kvs[i]?=some (k,y)/\(mixKind prog w).is k x=true) (nu:(kvs.map (·.1)).Nodup) :
  ∀ (k i:Nat) (s:Shared) (tk0:Tok),kvs.length - i=k->i<=kvs.length->ZW l m [z,TO,i1,i2,d] z TI TO i1 i2 t u xs ys i s.heap->s.heap.DictOf (mixKind prog w) d (kvs.take i) →
  (∀ h' tk,h'.DictOf (mixKind prog w) d kvs->(∀ b o,b ∉ [z,TO,i1,i2,d]->s.heap.get? b=some o->h'.get? b=some o)->R (.ok (.ret res)) { s with heap:=h',toks:=tk }) →
  codeAny (model prog w) A (.builtin "dict.update.loop" ⟨[.ref d,.ref z,.int i tk0,res],[]⟩) R s:=by
 have nd4:d ∉ [z,TO,i1,i2]:=λq=>nd (by simp at q;simp;rcases q with q | q | q | q <;> simp[q]);intro k
 induction k with
 | zero =>
  intro i s tk0 hk0 hi Z hm hR;have hin:i=kvs.length:=U
  subst hin;refine GP Um ?_;rw[GV W1 _];show wpAny _ A.in1 (pyNext (.ref z) >>= _) _ _ s;refine YA (Lx hA D e1 e2 o (λb hb=>by simp at hb;simp;rcases hb with q | q | q | q <;> simp[q]) Z hs U (λp x y h' tk hx=>?_) λh' _ kp=>?_)
  ·exact absurd (JL.mp hx).1 U
  rw[JR] at hm;exact YA (YE (YE (hR h' s.toks (Ud hm λo e=>kp d o nd4 e) λb o hb e=>kp b o (λq=>hb (by simp at q;simp;rcases q with q | q | q | q <;> simp[q])) e)))
 | succ k ih =>
  intro i s tk0 hk0 hi Z hm hR;have hlt:i<kvs.length:=U
  refine GP Um ?_;rw[GV W1 _];show wpAny _ A.in1 (pyNext (.ref z) >>= _) _ _ s;refine YA (Lx hA D e1 e2 o (λb hb=>by simp at hb;simp;rcases hb with q | q | q | q <;> simp[q]) Z hs U (λp x y h' tk hx hy Z' pr hp kp=>?_) λh' hh=>absurd hh U);obtain⟨key,ekv,is⟩:=hk i x y hx hy;show wpAny _ _ (holding [.ref p] _ >>= _) _ _ _;refine YA (XO (YA (wpAny_tryCatch ?_)));unfold Builtin.Dict.pairItems;refine YA (jz (T:="tuple") ⟨_,pr,rfl⟩ ?_);rw[JD J7];refine YA (GF pr rfl (YE ?_));show wpAny _ _ (holding [x,y] (dictSet d x y)) _ _ _;refine XO (wpAny_dictSet_pairs (knd:=mixKind prog w) is (Ud hm λo e=>kp d o nd4 e) (λh2 hm2 hs2=>?_) (by rw[JJ];omega));rw[Pi nu ekv] at hm2;refine YE ⟨zm W1 _,?_⟩;refine ih (i+1) _ _ U hlt (Z'.put nd hs2 (by obtain⟨o,_,_,ho,_⟩:=hm2;exact⟨o,ho⟩)) hm2 λh3 tk3 hm3 k3=>?_;exact hR h3 tk3 hm3 λb o hb e=>k3 b o hb ((hs2.2 b (λq=>hb (q ▸ J8))).trans (kp b o (λq=>hb (by simp at q;simp;rcases q with q | q | q | q <;> simp[q])) e))
end
set_option maxHeartbeats 1000000
section
variable {prog:TR}{w:World}{A:Around}{E:TC}{s:Shared}{l m:Bool}{z TI TO i1 i2 t u:Addr}{xs ys:Array Value}
theorem R5 {kvs:List (Key × Value)}{Q:TC}(hA:A.handled=none)(D:Off z TI TO i1 i2 [i1,t] [i2,u])(e1:t≠i1)(e2:u≠i2)(o:∀ b∈[TI,t,u],b ∉ [z,TO,i1,i2])
  (hz0:IsZip s.heap z TI TO .none) (ti:IsPair s.heap TI (.ref i1) (.ref i2)) (to:∃ a b,IsPair s.heap TO a b) (r1:Ir l s.heap i1 t 0) (r2:Ir m s.heap i2 u 0) (q1:Iq l s.heap t xs) (q2:Iq m s.heap u ys)
  (hs:xs.size=ys.size) (len:kvs.length=xs.size) (hz:kvs.length<=sizeLine)
  (hk:∀ (i:Nat) (x y:Value),xs[i]?=some x->ys[i]?=some y->∃ k,kvs[i]?=some (k,y)/\(mixKind prog w).is k x=true) (nu:(kvs.map (·.1)).Nodup)
  (h:∀ h' tk,h'.DictOf (mixKind prog w) s.heap.objs.size kvs->(∀ b o,b ∉ [z,TO,i1,i2]->s.heap.get? b=some o->h'.get? b=some o)->Q (.ref s.heap.objs.size) { s with heap:=h',toks:=tk }) :
  wpAny (model prog w) A (call (.type "dict") [.ref z]) Q E s:=by
 refine callType_codes (Q₁:=λobj s₁=>obj=.ref s.heap.objs.size/\s₁={ s with heap:=s.heap.push { cls:=.type "dict",data:=.dict #[] } }) F.kt_called_dict (F.kt_typeCall_dict_1 _) F.entry_dict_init (kt_code_dict_new _ ⟨rfl,rfl⟩) ?_;rintro obj s₁ ⟨rfl,rfl⟩;have hnew:(s.heap.push { cls:=.type "dict",data:=.dict #[] }).DictOf (mixKind prog w) s.heap.objs.size []:=Heap.DictOf.new s.heap;refine⟨hnew.typeIs,F.args_dict_init_2 _ _,?_⟩;unfold Builtin.«dict.__init__»;refine YA ?_;unfold Builtin.Dict.selfAndRest;refine YA (wpAny_notOrdered_dict hnew.typeIs ?_);show wpAny _ _ (pure (s.heap.objs.size,[Value.ref z])) _ _ _;refine YE ?_;show wpAny _ _ (Builtin.Dict.updateFrom "dict.__init__" s.heap.objs.size (.ref z) [] .none) _ _ _;unfold Builtin.Dict.updateFrom;have ho':IsZip (s.heap.push { cls:=.type "dict",data:=.dict #[] }) z TI TO .none:=YD _ hz0;refine YA (jz (T:="zip") ⟨_,ho',rfl⟩ ?_);rw[JD J7];refine YA (Vz ho' (by rw[zk,qg];kernel_rfl) J9 hA λh1 tk1 ee hn1=>?_);rw[JD (show (none:Option Value).isNone=true from rfl)];refine YA (GX ?_);have kp1:∀ b o,s.heap.get? b=some o->h1.get? b=some o:=λb o e=>hn1.keeps b o (YD _ e);refine YA (wpAny_pyIter_zip (kp1 _ _ hz0) ?_);have hd1:h1.get? s.heap.objs.size=some { cls:=.type "dict",data:=.dict #[] }:=hn1.keeps _ _ (YL _ rfl);obtain⟨a0,b0,to⟩:=to;have lt:∀ b,(∃ o,s.heap.get? b=some o)->b≠s.heap.objs.size:=λb hb q=>by
  obtain⟨o,ho⟩:=hb;exact XX _ (q ▸ YJ ho)
 obtain⟨o1,a1,r1⟩:=r1;obtain⟨o2,a2,r2⟩:=r2;obtain⟨o3,a3,r3⟩:=q1;obtain⟨o4,a4,r4⟩:=q2;have nd:s.heap.objs.size ∉ [z,TI,TO,i1,i2,t,u]:=by
  intro q;simp only [YC,YH,XL] at q;rcases q with q | q | q | q | q | q | q
  ·exact lt z ⟨_,hz0⟩ q.symm
  ·exact lt TI ⟨_,ti⟩ q.symm
  ·exact lt TO ⟨_,to⟩ q.symm
  ·exact lt i1 ⟨_,a1⟩ q.symm
  ·exact lt i2 ⟨_,a2⟩ q.symm
  ·exact lt t ⟨_,a3⟩ q.symm
  exact lt u ⟨_,a4⟩ q.symm
 refine YE ⟨zm W1 _,?_⟩;refine Lo (A:=A.in1) (l:=l) (m:=m) (xs:=xs) (ys:=ys) hA D e1 e2 o nd hs len hz hk nu kvs.length 0 _ _ rfl (JU _) ?_ ?_ λh' tk hm' k'=>?_
 ·refine⟨.inl ⟨kp1 _ _ hz0,a0,b0,kp1 _ _ to⟩,kp1 _ _ ti,⟨o1,kp1 _ _ a1,r1⟩,⟨o2,kp1 _ _ a2,r2⟩,⟨o3,kp1 _ _ a3,r3⟩,⟨o4,kp1 _ _ a4,r4⟩,λe he=>?_⟩;simp only [YC,YH,XL] at he;rcases he with rfl | rfl | rfl | rfl | rfl
  ·exact⟨_,kp1 _ _ hz0⟩
  ·exact⟨_,kp1 _ _ to⟩
  ·exact⟨_,kp1 _ _ a1⟩
  ·exact⟨_,kp1 _ _ a2⟩
  exact⟨_,hd1⟩
 ·rw[List.take_zero];exact Ud hnew λo e=>hn1.keeps _ _ e
 refine⟨rfl,h h' tk hm' λb o hb e=>k' b o (λq=>?_) (kp1 b o e)⟩;simp only [YC,YH,XL] at q;rcases q with q | q | q | q | q
 ·exact hb (by simp[q])
 ·exact hb (by simp[q])
 ·exact hb (by simp[q])
 ·exact hb (by simp[q])
 exact lt b ⟨o,e⟩ q
end
set_option maxHeartbeats 1000000
section
variable {X:Cx}{K:TQ}{p p2 pos pos2:Pos}{ta:TA}{a b:Expr}
theorem Dn {σ:L2.St}(I:Inv X pins σ H s):sysModules<s.heap.objs.size:=by
 have hg:=I.mod.glob.keeps I.bk |>.lt
 exact qK (show sysModules<mainGlobals by decide) hg
theorem De:∀ {ks:List PySem.Str} {ys:TV} {us:TH},Vals ys us->KV ((ks.map Sum.inr).zip ys) ((ks.map (Sum.inr:PySem.Str->Key)).zip us)
 | [],_,_,_=>.nil
 | _::_,_,_,.nil=>.nil
 | _::_,_,_,.cons r t=>.cons ⟨rfl,r⟩ (De t)
inductive rDZ (K:TQ) (Q:VK) (vs:TV) (H1:Hp):Prop
 | mk (t u:Addr) (ks:List PySem.Str) (ys:TV) (a0:vs=[.ref t,.ref u]) (a1:SqL K H1 t (ks.map V.str)) (a2:SqT K H1 u ys) (a3:ks.length=ys.length) (a4:ks.Nodup) (a5:∀ d,H1 d=none->Q (.ref d) (upd H1 d (.dK ((ks.map Sum.inr).zip ys))))
def tDZ (K:TQ)(ta:TA):TE:=λσ H Q=>ta σ H (rDZ K Q)
theorem Fu (hA:X.A.handled=none)(hgd:Gl X "dict")(hmd:X.mg "dict"=none)(hgz:Gl X "zip")(hmz:X.mg "zip"=none)(ha:PA X [a,b] ta)(hs:starEach [a,b] X.env=[(false,eval a X.env),(false,eval b X.env)]:=by rfl)
  (hs2:starEach [b] X.env=[(false,eval b X.env)]:=by rfl) (hs3:starEach [.Call (.Name "zip" p2) [a,b] [] pos2] X.env=[(false,eval (.Call (.Name "zip" p2) [a,b] [] pos2) X.env)]:=by rfl) (hK:X.K=K:=by rfl) :
  PE X (.Call (.Name "dict" p) [.Call (.Name "zip" p2) [a,b] [] pos2] [] pos) (tDZ K ta):=by
 subst hK;intro pins s σ H Q I h;refine Call_ (Vh I hgd hmd boot_dict (qx ?_ hs3 rfl));rw[hs3];refine Calls.spliced_cons (Call_ (Vh I hgz hmz boot_zip (qx (thn (ha pos2 pins s σ H _ I h) λus s1 ⟨vs,H1,I1,r1,q1⟩=>?_) (by rw[hs,hs2]) (by rw[hs2];rfl))));obtain⟨t,u,ks,ys,e,hx,hy,len,nd,q⟩:=q1;subst e;obtain⟨t0,u0,e0,rt,ru⟩:=Gz r1
 cases (show t0=Value.ref t from rt)
 cases (show u0=Value.ref u from ru);subst e0;obtain⟨u1,v1,p1⟩:=T6 (l:=true) I1 hx;obtain⟨u2,v2,p2'⟩:=T6 (l:=false) I1 hy;have n1:=v1.length;have n2:=v2.length;rw[YB] at n1;refine Cf true false p1 p2' λg z0 ti to i1 i2 sz kp=>Calls.spliced_nil ?_;have lt:t<s1.heap.objs.size:=by
  obtain⟨o,ho,_⟩:=p1;exact YJ ho
 have lu:u<s1.heap.objs.size:=by
  obtain⟨o,ho,_⟩:=p2';exact YJ ho
 have up:∀ {l:Bool} {c:Addr} {zs:Array Value},Iq l s1.heap c zs->Iq l g c zs:=λhq=>by
  obtain⟨o,ho,r⟩:=hq;exact⟨o,kp _ _ ho,r⟩
 have nt:∀ k:Nat,t≠s1.heap.objs.size+k:=λk=>XM (YU lt (qm _ _));have nu:∀ k:Nat,u≠s1.heap.objs.size+k:=λk=>XM (YU lu (qm _ _));have D:Off (s1.heap.objs.size+4) (s1.heap.objs.size+2) (s1.heap.objs.size+3) s1.heap.objs.size (s1.heap.objs.size+1) [s1.heap.objs.size,t] [s1.heap.objs.size+1,u]:=by
  refine⟨⟨?_,?_,?_,?_,?_,?_,?_,?_,?_,?_⟩,?_,?_,?_,?_,?_,?_⟩ <;> first
   | (show @Ne Nat _ _;omega)
   | (intro z;simp only [YC,YH,XL] at z;rcases z with z | z
      ·exact absurd (show @Eq Nat _ _ from z) U
      first | exact nt _ z.symm | exact nu _ z.symm | exact nt 0 z.symm | exact nu 0 z.symm)
 have vl:((ks.map (Sum.inr:PySem.Str->Key)).zip u2).length=u1.toArray.size:=by
  rw[List.length_zip,YB,YY];omega
 have len2:ks.length=u2.length:=U
 refine R5 (l:=true) (m:=false) (kvs:=(ks.map (Sum.inr:PySem.Str->Key)).zip u2) hA D (nt 0) (nu 1) (λb hb z=>?_) z0 ti ⟨_,_,to⟩ i1 i2 (up p1) (up p2') (by simp;omega) vl ?_ (λi x y hx' hy'=>?_) ?_ λh' tk hm k'=>?_
 ·simp only [YC,YH,XL] at hb z;rcases hb with rfl | rfl | rfl
  ·rcases z with z | z | z | z <;> exact absurd (show @Eq Nat _ _ from z) U
  ·rcases z with z | z | z | z
   ·exact nt _ z
   ·exact nt _ z
   ·exact nt 0 z
   exact nt _ z
  rcases z with z | z | z | z
  ·exact nu _ z
  ·exact nu _ z
  ·exact nu 0 z
  exact nu _ z
 ·rw[vl,YY,<-n1];obtain⟨its,r,pl,hz⟩:=I1.list hx;rw[YB] at hz;exact hz
 ·have hi:i<u1.length:=by
   have:=(JL.mp hx').1
   simpa using this
  obtain⟨w1,e1,r⟩:=v1.get (i:=i) (x:=V.str (ks[i]'U)) J8;rw[qf] at hx' hy';rw[hx'] at e1
  cases e1;refine⟨Sum.inr (ks[i]'U),?_,Df (k:=Sum.inr _) r⟩;rw[List.getElem?_zip_eq_some];exact⟨J8,hy'⟩
 ·have:((ks.map (Sum.inr:PySem.Str->Key)).zip u2).map (·.1)=ks.map Sum.inr:=by
   rw[List.map_fst_zip (by simp;omega)]
  rw[this];rw[qD,qL];exact (qD.mp nd).imp λhne z=>hne (Sum.inr.inj z)
 have kp':∀ b o,s1.heap.get? b=some o->h'.get? b=some o:=λb o e=>k' b o (λz=>by
  have hb:b<s1.heap.objs.size:=YJ e;simp only [YC,YH,XL] at z;rcases z with z | z | z | z
  ·exact XM (YU hb (qm _ _)) z
  ·exact XM (YU hb (qm _ _)) z
  ·exact XM hb z
  exact XM (YU hb (qm _ _)) z) (kp b o e)
 have big:s1.heap.objs.size<=g.objs.size:=by rw[sz];exact qm _ _
 refine⟨.ref g.objs.size,_,I1.laid (t':=tk) kp' big (show ObjOk X.prog X.w _ h' g.objs.size (.dK ((ks.map Sum.inr).zip ys)) from ⟨?_,?_,_,De v2,hm⟩),rfl,q _ (I1.hok.fresh big)⟩
 ·obtain⟨its,r,pl,hz⟩:=I1.list hx;rw[YB] at hz;rw[List.length_zip,YB];exact XV (Nat.min_le_left _ _) hz
 exact beq_false_of_ne (zA (YU (Dn I1) big))
end
end Sb
namespace Sb
open PySem PySem.Spec PyProof.Rows L2
open PySem.Builtin PySem.Builtin.Str
section
variable {X:Cx}
def partP (z y:PySem.Str):List PySem.Str:=match occurrences z y 0 z.length 1 with
 | i::_=>[strSub z 0 i,y,strSub z (i+y.length) z.length]
 | []=>[z,Str.empty,Str.empty]
inductive rPartit (x:V) (vs:TV) (H:Hp) (Q:VK):Prop
 | mk (z y:PySem.Str) (a0:x=.str z) (a1:vs=[.str y]) (a2:(y.length == 0)=false) (a3:z.length<=1000000) (a4:∀ l,H l=none->Q (.ref l) (upd H l (.tup ((partP z y).map V.str))))
theorem Ju:MtR X "str.partition" rPartit:=by
 intro pins s σ H x vs v us Q I rx rv h;obtain⟨z,y,rfl,rfl,hy,hz,q⟩:=h;obtain⟨t,rfl⟩:=rx;obtain⟨u,rfl,t',rfl⟩:=rv.one;refine j7 F.slot_str_partition (j6 _ _ _) F.entry_str_partition (F.args_str_partition_2 _ _) (meets_str_partition z y t t' hy (XV hz J7)) ?_;have fin:∀ (l:List (PySem.Str × Tok)) (k:Nat),l.map (·.1)=partP z y->EP X pins σ Q (.ref s.heap.objs.size) { s with heap:=s.heap.push { cls:=.type "tuple",data:=.seq (strValues l).toArray },toks:=k }:=λl k e=>by
  have ln:(partP z y).length<=3:=by unfold partP;split <;> exact YO 3
  exact⟨.ref s.heap.objs.size,_,I.laid (t':=k) (λb o e=>YD _ e) (YO _) (show ObjOk X.prog X.w _ _ _ (.tup ((partP z y).map V.str)) from ⟨by rw[YB];exact XV ln J7,strValues l,T0 e,⟨_,YL _ rfl,rfl,0,rfl⟩⟩),rfl,q _ (I.hok.fresh (YO _))⟩
 unfold partP at fin
 cases ho:occurrences z y 0 z.length 1 with
 | nil =>
  rw[ho] at fin;exact fin [(z,t),(Str.empty,s.toks),(Str.empty,s.toks)] _ rfl
 | cons i r =>
  rw[ho] at fin;exact fin [(strSub z 0 i,s.toks),(y,t'),(strSub z (i+y.length) z.length,s.toks+1)] _ rfl
def cutS (z:PySem.Str)(a b:Nat):PySem.Str:=⟨((z.cps.toList.drop a).take (b - a)).toArray⟩
def loN:Option Nat->Option Int:=λo=>o.map λk=>(k:Int)
inductive rSlS (x:V) (lo hi:Option Int) (H:Hp) (Q:VK):Prop
 | mk (z:PySem.Str) (a b:Option Nat) (a0:x=.str z) (a1:lo=loN a) (a2:hi=loN b) (a3:min (a.getD 0) z.length<=min (b.getD z.length) z.length) (a4:z.length<=1000000) (a5:Q (.str (cutS z (min (a.getD 0) z.length) (min (b.getD z.length) z.length))) H)
theorem Mv {z:PySem.Str}{a b:Nat}(h:a<=b)(hb:b<=z.length):((List.range' a (b - a)).filterMap (z.cps[·]?))=(z.cps.toList.drop a).take (b - a):=by
 have e:∀ (l:List Nat) (a n:Nat),a+n<=l.length->(List.range' a n).filterMap (l[·]?)=(l.drop a).take n:=by
  intro l a n
  induction n generalizing a with
  | zero=>intro _;simp
  | succ n ih =>
   intro hl;have ha:a<l.length:=U
   rw[Y0y,GI,XY ha,ih (a+1) U,zB ha,Y16]
 have:=e z.cps.toList a (b - a) (by
  have:z.cps.toList.length=z.length:=by simp[Str.length]
  omega)
 rw[<-this]
 congr 1
 funext k
 simp
theorem Do (a b n:Nat):strSliceIndices (some (a:Int)) (some (b:Int)) 1 n=strSliceIndices (some ((min a n:Nat):Int)) (some ((min b n:Nat):Int)) 1 n:=by
 have h1:¬ ((a:Int)<0):=U
 have h2:¬ ((b:Int)<0):=U
 have h3:¬ (((min a n:Nat):Int)<0):=U
 have h4:¬ (((min b n:Nat):Int)<0):=U
 have e1:max (0:Int) (min (a:Int) (n:Int))=max (0:Int) (min ((min a n:Nat):Int) (n:Int)):=U
 have e2:max (0:Int) (min (b:Int) (n:Int))=max (0:Int) (min ((min b n:Nat):Int) (n:Int)):=U
 simp only [strSliceIndices,h1,h2,h3,h4,zi,show ((1:Int) > 0)=True from by simp,zP,e1,e2]
theorem Pu (a n:Nat):(List.range n).map (λk=>a+k)=List.range' a n:=by
 rw[List.range_eq_range',List.map_add_range'];simp
theorem Bx (lo hi:Option Nat)(n:Nat)(h:min (lo.getD 0) n<=min (hi.getD n) n):strSliceIndices (loN lo) (loN hi) 1 n=List.range' (min (lo.getD 0) n) (min (hi.getD n) n - min (lo.getD 0) n):=by
 have e1:strSliceIndices (loN lo) (loN hi) 1 n=strSliceIndices (some ((lo.getD 0:Nat):Int)) (some ((hi.getD n:Nat):Int)) 1 n:=by
  cases lo with
  | none =>
   show strSliceIndices none _ 1 n=_;rw[StrLaws.sliceIdx_none_lo]
   cases hi with
   | none=>show strSliceIndices _ none 1 n=_;rw[Y0q];rfl
   | some b=>rfl
  | some a =>
   cases hi with
   | none=>show strSliceIndices _ none 1 n=_;rw[Y0q];rfl
   | some b=>rfl
 rw[e1,Do,StrLaws.strSliceIndices_plain h (Nat.min_le_right _ _),Pu]
theorem Ve:SlR X rSlS:=by
 intro pins s σ H x v vl vu lo hi sl Q I rx hs pl pu h;obtain⟨z,a,b,rfl,rfl,rfl,hab,hz,q⟩:=h;obtain⟨t,rfl⟩:=rx;have part:∀ {v:Value} {o:Option Nat},IsPart v (loN o)->∃ p:Option (Int × Tok),v=partValue p/\p.map (·.1)=loN o:=λ{v o} hp=>by
  generalize loN o=c at hp
  cases hp with
  | none=>exact⟨none,rfl,rfl⟩
  | int i t=>exact⟨some (i,t),rfl,rfl⟩
 obtain⟨p,rfl,ep⟩:=part pl;obtain⟨p',rfl,ep'⟩:=part pu;refine⟨"str",_,F.slot_str_getitem.lookup,j6 _ _ _,wpAny_getItem_str_slice (l:=p) (u:=p') (st:=none) hs rfl ?_⟩;have pk:slicePicked z p p' none=List.range' (min (a.getD 0) z.length) (min (b.getD z.length) z.length - min (a.getD 0) z.length):=by
  unfold slicePicked;rw[ep,ep'];exact Bx a b z.length hab
 have hc:=Mv (z:=z) hab (Nat.min_le_right _ _);unfold sliceMade;rw[pk];split
 ·rename_i hw
  have hw:((List.range' (min (a.getD 0) z.length) (min (b.getD z.length) z.length - min (a.getD 0) z.length)).length == z.length)=true:=hw;rw[List.length_range'] at hw;have hw:=eq_of_beq hw;have h0:min (a.getD 0) z.length=0:=U
  have h1:min (b.getD z.length) z.length=z.length:=U
  rw[h0,h1] at q;have e:cutS z 0 z.length=z:=by
   unfold cutS;have:z.cps.toList.length=z.length:=by simp[Str.length]
   rw[Y01,Y1m,<-this,JR]
  rw[e] at q;exact⟨.str z,H,I,⟨t,rfl⟩,q⟩
 rw[hc];refine⟨?_,.str (cutS z (min (a.getD 0) z.length) (min (b.getD z.length) z.length)),H,I.tok _,⟨_,rfl⟩,q⟩;refine XV ?_ (XV hz J7);show (List.toArray _).size<=z.cps.size;rw[YY,JJ,qy];have:z.cps.toList.length=z.cps.size:=J8
 omega
end
theorem Gw (bs:List Bool):(List.range bs.length).all (λi=>bs.getD i false)=bs.all id:=by
 induction bs with
 | nil=>rfl
 | cons b r ih =>
  rw[YR,Y0F,zC,Y1n,zC,<-ih];rfl
section
variable {X:Cx}{K:TQ}
inductive rAll (K:TQ) (xs:TV) (H:Hp) (Q:VK):Prop
 | mk (p:Addr) (bs:List Bool) (a0:xs=[.ref p]) (a1:SqL K H p (bs.map V.bl)) (a2:Q (.bl (bs.all id)) H)
theorem Q1 (hc:X.calm=true)(hK:X.K=K:=by rfl):CallR X (.builtin "all") (rAll K):=by
 subst hK;intro pins s σ H xs us Q I r h;obtain⟨p,bs,rfl,hs,q⟩:=h;obtain⟨u,e0,rx⟩:=W7 r
 cases (show u=Value.ref p from rx);subst e0;obtain⟨its,rv,pl,hz⟩:=I.list hs;have hl:=rv.length;rw[YB] at hl;have lp:s.heap.IsList p its.toArray:=pl.isList;have lt:p<s.heap.objs.size:=by
  obtain⟨o,e,_⟩:=lp;exact YJ e
 have ip:∀ p∈X.pn,s.heap.get? p.1=some p.2:=λp hp=>(I.pin p (XE _ hp)).1;refine call_all_walk (zr lp ?_);refine⟨s.heap.objs.size,_,_,_,_,_,λi=>bs.getD i false,rfl,Walks.listQ (A:=X.A.in1) (I.ok.hd hc) s.heap.objs.size p (XM lt) (λp hp=>XM (YJ (ip p hp))) its.toArray,⟨⟨_,YL _ rfl,rfl,rfl⟩,lp.at λo e=>YD _ e,λp hp=>YD _ (ip p hp)⟩,?_,λh' tk k=>?_⟩
 ·intro i v s' Q' E' hP hQ;have hi:i<its.length:=by
   have:=(JL.mp hP).1
   simpa using this
  have hb:i<bs.length:=U
  have e1:(bs.map V.bl)[i]?=some (V.bl bs[i]):=by simp[hb]
  obtain⟨w,e2,rw'⟩:=rv.get e1;have e3:its[i]?=some v:=by simpa using hP
  rw[e2] at e3
  cases e3
  cases (show v=Value.bool bs[i] from rw');have e4:bs.getD i false=bs[i]:=by simp[List.getD,hb]
  replace hQ:Q' (bs.getD i false) s':=hQ;rw[e4] at hQ;exact GA hQ
 have e:(List.range its.toArray.size).all (λi=>bs.getD i false)=bs.all id:=by
  rw[YY,<-hl];exact Gw bs
 rw[e];refine⟨.bl (bs.all id),H,?_,rfl,q⟩;exact I.kept (t':=tk) λb o z=>k b o (by
  intro m;have:b=s.heap.objs.size:=by simpa using m
  rw[this] at z;exact absurd (YJ z) (XX _)) (YD _ z)
inductive rLeS (x y:V) (H:Hp) (Q:VK):Prop
 | mk (i j:PySem.Str) (a0:x=.str i) (a1:y=.str j) (a2:Q (.bl (!decide (j.cps.toList<i.cps.toList))) H)
theorem Rk:OpR X (compareOp .LtE) rLeS:=by
 intro pins s σ H x y v u Q I rx ry h;obtain⟨i,j,rfl,rfl,q⟩:=h;obtain⟨t,rfl⟩:=rx;obtain⟨t',rfl⟩:=ry;exact PySem.P.le_str (Zs I q rfl)
end
section
variable {prog:TR}{w:World}{A:Around}{E:TC}{s:Shared}{it:Addr}{x:PySem.Str}{t:Tok}{i:Nat}
theorem M6 {Q:Option Value->Shared->Prop}(hq:Qt A s.heap)(hit:s.heap.IsStrIter it "str_ascii_iterator" x t i)(hx:x.cps[i]?=none)(hQ:∀ h',Heap.ExtBut it s.heap h'->Q none { s with heap:=h' }):wpAny (model prog w) A (pyNext (.ref it)) Q E s:=by
 obtain⟨o,io,hc,hd⟩:=id hit;have ty:=hit.typeIs;unfold pyNext;refine YA (GR (JE (name:=Str.ofString "__next__") ty jb (JI jb ty F.entry_str_ascii_iterator_next ?_ (F.args_str_ascii_iterator_next_1 _))));show wpAny _ _ (field (.ref it) 0 >>= _) _ _ s;refine YA (XU io hd (x:=.str x t) rfl ?_);show wpAny _ _ (field (.ref it) 1 >>= _) _ _ s;refine YA (XU io hd (x:=.int i 0) rfl ?_);simp only [GW,hx];refine YA (GX (YA (GY io hd J8 (YA (Y0X ?_)))));refine U5 (hq:=(hq.but io λn=>?_)) λh' e k he=>?_
 ·obtain⟨vs,e1,e2⟩:=n;rw[hd] at e1
  cases e1;simp at e2
 obtain⟨oe,h1,h2⟩:=he;refine YA (GU (T:="StopIteration") (b:=true) ⟨_,h1,h2⟩ qV (YE (hQ _ λb o hb e=>k b o ((JV ..).extBut b o hb e))))
end
section
variable {X:Cx}{K:TQ}{tg:Expr}
def Its (z:PySem.Str):It:=⟨λi _=>i<z.cps.size,λi H x H'=>H'=H/\∃ c,z.cps[i]?=some c/\x=.str ⟨#[c]⟩,λi _=>z.cps.size<=i⟩
theorem F3 {P:TR}{w:World}(it:Addr)(z:PySem.Str)(t:Tok):Turn P w K tg (Its z) [it] it (λi h=>h.IsStrIter it "str_ascii_iterator" z t i) where
 mem:=J8
 obj:=λi h st b hb=>by
  obtain rfl:b=it:=by simpa using hb
  obtain⟨o,e,c,q⟩:=st;exact⟨o,e,λv z=>by rw[q] at z;cases z⟩
 keep:=λi h h' st k=>let ⟨o,e,r⟩:=st;⟨o,k it J8 o e,r⟩
 item:=by
  intro X hP hw hK hc i pins s σ H E I hf st lt;subst hP hw hK;have lt:i<z.cps.size:=lt;obtain⟨f0,f1,f2,f3,f4,f5⟩:=hf it J8;refine wpAny_pyNext_ascii_item (c:=z.cps[i]) st (by simp[lt]) λh' st' sb=>?_;have I1:Inv X pins σ H { s with heap:=h',toks:=s.toks+1 }:=I.turned (t':=s.toks+1) (λb o hb e=>(sb.2 b hb).trans e) f0 f1 f3 f4 f5;obtain⟨oi,e,c,q⟩:=id st';exact⟨_,rfl,Kk (s:={ s with heap:=h',toks:=s.toks+1 }) e c q J7 ⟨.str ⟨#[z.cps[i]]⟩,H,I1,⟨_,rfl⟩,⟨rfl,_,by simp[lt],rfl⟩,st',λb hb=>(hf b hb).1⟩⟩
 done:=by
  intro X hP hw hK hc i pins s σ H E I hf st ge;subst hP hw hK;have ge:z.cps.size<=i:=ge;obtain⟨f0,f1,f2,f3,f4,f5⟩:=hf it J8;exact M6 (I.qt hc) st (by simp[ge]) λh' eb=>⟨rfl,I.turned (t':=s.toks) (λb o hb e=>eb b o hb e) f0 f1 f3 f4 f5⟩
 self:=λ_ _ _ _ _ st h=>wpAny_pyIter_striter_ascii st h
inductive iStr_i (R:It->Hp->Prop) (x:V) (H:Hp):Prop
 | mk (z:PySem.Str) (a0:x=.str z) (a1:z.cps.all (·<128)=true) (a2:R (Its z) H)
def iStr (tl:TE):TI:=λσ H R=>tl σ H (iStr_i R)
theorem Mw {l:Expr}(hl:PE X l tl):PI X tg l (iStr tl):=by
 intro pins s σ H R I h;refine thn (hl pins s σ H _ I h) λv s1 z=>?_;obtain⟨x,H1,I1,r1,z,rfl,ha,q⟩:=z;obtain⟨t,rfl⟩:=r1;refine wpAny_pyIter_ascii ha ?_;refine⟨s1.heap.objs.size,[s1.heap.objs.size],_,_,H1,rfl,I1.kept (t':=s1.toks) λb o e=>YD _ e,F3 _ z t,⟨_,YL _ rfl,rfl,rfl⟩,λb hb=>?_,q⟩;obtain rfl:b=s1.heap.objs.size:=by simpa using hb
 exact I1.fpOk (YO _) (I1.hok.fresh (YO _))
inductive rFmt2 (a c:PySem.Str) (Q:VK) (y:V) (H:Hp):Prop
 | mk (j:Int) (a0:y=.int j) (a1:j.natAbs.log2<1920) (a2:(a++c++PySem.Str.ofString (toString j)).length<=sizeLine) (a3:Q (.str (a++c++PySem.Str.ofString (toString j))) H)
inductive rFmt1 (σ:L2.St) (c:PySem.Str) (tb:TE) (Q:VK) (x:V) (H:Hp):Prop
 | mk (i:Int) (a0:x=.int i) (a1:i.natAbs.log2<1920) (a2:(PySem.Str.empty++PySem.Str.ofString (toString i)++c).length<=sizeLine) (a3:tb σ H (rFmt2 (PySem.Str.empty++PySem.Str.ofString (toString i)) c Q))
def tFmt (ta:TE)(c:PySem.Str)(tb:TE):TE:=λσ H Q=>ta σ H (rFmt1 σ c tb Q)
theorem Z1h {ea eb:Expr}{ta tb:TE}{c:PySem.Str}{j p1 p2 p3 pos}(ha:PE X ea ta)(hb:PE X eb tb):PE X (.JoinedStr [.FormattedValue ea (-1) none p1,.Constant (.str c) j p2,.FormattedValue eb (-1) none p3] pos) (tFmt ta c tb):=by
 intro pins s σ H Q I h;refine wpAny_JoinedStr ?_;refine zy (thn (ha pins s σ H _ I h) λv s1 z=>?_);obtain⟨x,H1,I1,r1,i,rfl,l1,z1,q1⟩:=z;obtain⟨t,rfl⟩:=r1;refine zZ l1 ⟨_,_,rfl,XV (by rw[strLen_append (PySem.Str.empty++PySem.Str.ofString (toString i)) c];exact qm _ _) z1,?_⟩;refine zI ⟨_,_,rfl,z1,?_⟩;refine zy (thn (hb pins _ σ H1 _ ((I1.tok _).tok _) q1) λv s2 z=>?_);obtain⟨y,H2,I2,r2,j',rfl,l2,z2,q2⟩:=z;obtain⟨t',rfl⟩:=r2;refine zZ l2 ⟨_,_,rfl,z2,?_⟩;exact⟨z2,.str _,H2,(I2.tok _).tok _,⟨_,rfl⟩,q2⟩
end
end Sb
namespace Sb
open PySem PySem.Spec PyProof.Rows
theorem P5 {c:Nat}:∀ {w v r q:List Nat},c ∉ w->c ∉ v->w++c::r=v++c::q->w=v/\r=q
 | [],[],r,q,_,_,h=>by
  simp at h;exact⟨rfl,h⟩
 | [],y::v,r,q,_,hv,h=>by
  simp at h;exact absurd (h.1 ▸ YI) hv
 | x::w,[],r,q,hw,_,h=>by
  simp at h;exact absurd (h.1 ▸ YI) hw
 | x::w,y::v,r,q,hw,hv,h=>by
  simp only [YS,List.cons.injEq] at h;obtain⟨a,b⟩:=P5 (λz=>hw (YG _ z)) (λz=>hv (YG _ z)) h.2;exact⟨by rw[h.1,a],b⟩
theorem Zu {a b:PySem.Str}(h:a.cps.toList=b.cps.toList):a=b:=Str.ext' (Array.toList_inj.mp h)
theorem Z6 (a b:PySem.Str):(a++b).cps.toList=a.cps.toList++b.cps.toList:=by
 show (a.cps++b.cps).toList=_;simp
theorem Xa (y a b:PySem.Str)(r:List PySem.Str):Str.join y (a::b::r)=a++y++Str.join y (b::r):=rfl
theorem Sa {c:Nat}:∀ {ws vs:List PySem.Str},ws≠[]->vs≠[]->(∀ w∈ws,c ∉ w.cps.toList)->(∀ v∈vs,c ∉ v.cps.toList)->Str.join ⟨#[c]⟩ ws=Str.join ⟨#[c]⟩ vs->ws=vs
 | [],_,h,_,_,_,_=>absurd rfl h
 | _,[],_,h,_,_,_=>absurd rfl h
 | [w],[v],_,_,_,_,h=>by rw[show w=v from h]
 | [w],v::v'::vs,_,_,hw,_,h=>by
  have:w=v++⟨#[c]⟩++Str.join ⟨#[c]⟩ (v'::vs):=h;exact absurd (by rw[this,Z6,Z6];simp) (hw w YI)
 | w::w'::ws,[v],_,_,_,hv,h=>by
  have:w++⟨#[c]⟩++Str.join ⟨#[c]⟩ (w'::ws)=v:=h;exact absurd (by rw[<-this,Z6,Z6];simp) (hv v YI)
 | w::w'::ws,v::v'::vs,_,_,hw,hv,h=>by
  have h:w++⟨#[c]⟩++Str.join ⟨#[c]⟩ (w'::ws)=v++⟨#[c]⟩++Str.join ⟨#[c]⟩ (v'::vs):=h;have h2:=congrArg (λz:PySem.Str=>z.cps.toList) h;simp only [Z6,YK] at h2;obtain⟨a,b⟩:=P5 (hw w YI) (hv v YI) h2;rw[Zu a,Sa J8 J8 (λx hx=>hw x (YG _ hx)) (λx hx=>hv x (YG _ hx)) (Zu b)]
theorem Wi {c:Nat}{ws:List PySem.Str}(h0:ws≠[])(h:∀ w∈ws,c ∉ w.cps.toList):Txt.split (Str.join ⟨#[c]⟩ ws) ⟨#[c]⟩=ws:=by
 refine Sa (c:=c) (λz=>?_) h0 (λv hv=>StrLaws.split_free _ c v hv) h (StrLaws.join_split _ _);have:=split_pos (Str.join ⟨#[c]⟩ ws) ⟨#[c]⟩;rw[z] at this;exact absurd this J7
end Sb
namespace Sb
open PySem PySem.Spec PyProof.Rows PySem.NumText
abbrev numS (n:Int):PySem.Str:=PySem.Str.ofString (toString n)
abbrev digs (m:Nat):List Nat:=(Nat.toDigits 10 m).map Char.toNat
theorem Yp (m:Nat):(numS (m:Int)).cps.toList=digs m:=W.KIN.signs_num m
theorem V6 (m:Nat)(h:0<m):(numS (-(m:Int))).cps.toList=45::digs m:=by
 obtain⟨k,rfl⟩:∃ k,m=k+1:=⟨m - 1,U⟩;rw[signs_ofString];show ("-"++Nat.repr (k+1)).toList.map Char.toNat=_;rw[String.toList_append,XA,Nat.toList_repr];rfl
theorem Xb (m:Nat):AllDigits (digs m):=by
 intro c hc;obtain⟨ch,hch,e⟩:=JC.mp hc;rw[<-e];exact digit_range (Nat.isDigit_of_mem_toDigits J7 J7 hch)
theorem Wo (m:Nat):digs m≠[]:=by
 intro e;have h:=toDigits_len_ge 10 m;rw[Y17.mp e] at h;exact absurd h J7
theorem Rz:∀ (k fuel n:Nat) (ds:List Char),1<=k->n<10 ^ k->(Nat.toDigitsCore 10 fuel n ds).length<=ds.length+k
 | _,0,_,ds,_,_=>by simp[Nat.toDigitsCore]
 | k,fuel+1,n,ds,hk,hn=>by
  unfold Nat.toDigitsCore;by_cases h0:n / 10=0
  ·simp only [h0,zP,YR];omega
  simp only [h0,zi];have hk2:2<=k:=by
   by_cases h1:k=1
   ·subst h1;exfalso;apply h0;have:n<10:=by simpa using hn
    omega
   omega
  have hn':n / 10<10 ^ (k - 1):=by
   have e:10 ^ k=10 ^ (k - 1)*10:=by rw[<-Nat.pow_succ];congr 1;omega
   rw[e] at hn;exact Nat.div_lt_of_lt_mul (by rw[Y1o];exact hn)
  have ih:=Rz (k - 1) fuel (n / 10) (Nat.digitChar (n % 10)::ds) U hn';simp only [YR] at ih;omega
theorem Wg {k m:Nat}(hk:1<=k)(h:m<10 ^ k):(digs m).length<=k:=by
 have:=Rz k (m+1) m [] hk h
 simpa [Nat.toDigits,digs] using this
theorem Ze (x:PySem.Str):x.length=x.cps.toList.length:=by simp[PySem.Str.length]
theorem Xs (n:Int):(∃ m:Nat,n=m) \/ ∃ m:Nat,0<m/\n=-(m:Int):=by
 by_cases h:0<=n
 ·exact .inl ⟨n.toNat,U⟩
 exact .inr ⟨(-n).toNat,U,U⟩
theorem Xm {n:Int}{k:Nat}(hk:1<=k)(h:n.natAbs<10 ^ k):(numS n).length<=k+1/\1<=(numS n).length:=by
 rcases Xs n with ⟨m,rfl⟩ | ⟨m,hm,rfl⟩
 ·rw[Ze,Yp];have:=Wg hk (show m<10 ^ k by simpa using h);have h2:=qU.mpr (Wo m);omega
 rw[Ze,V6 m hm];have:=Wg hk (show m<10 ^ k by simpa using h);simp only [YR];omega
theorem Wb {n:Int}{k:Nat}(hk:1<=k)(h:n.natAbs<10 ^ k)(k2:k<=600):PySem.intText? (numS n)=some n:=by
 have hl:=(Xm hk h).1;rcases Xs n with ⟨m,rfl⟩ | ⟨m,hm,rfl⟩
 ·have e:=intText_digits (x:=numS (m:Int)) (by rw[Yp];exact Xb m) (by rw[Yp];exact Wo m) U;rw[Yp,Y08] at e;exact e
 have e:=intText_neg (x:=numS (-(m:Int))) (V6 m hm) (Xb m) (Wo m) U;rw[Y08] at e;exact e
theorem Xv {n:Int}{c:Nat}(h:c∈(numS n).cps.toList):c=45 \/ (48<=c/\c<=57):=by
 rcases Xs n with ⟨m,rfl⟩ | ⟨m,hm,rfl⟩
 ·rw[Yp] at h;exact .inr (Xb m c h)
 rw[V6 m hm] at h;rcases YC.mp h with h | h
 ·exact .inl h
 exact .inr (Xb m c h)
def figs (n:Int):PySem.Str:=⟨(digs n.natAbs).toArray⟩
theorem Dv (m:Nat):figs m=numS m:=Zu (by rw[Yp];simp[figs])
theorem Tr {n:Int}(h:n<0):(numS n).cps.toList=45::(figs n).cps.toList:=by
 rcases Xs n with ⟨m,rfl⟩ | ⟨m,hm,rfl⟩
 ·omega
 rw[V6 m hm];simp[figs]
theorem Nu (n:Int):AllDigits (figs n).cps.toList:=by
 show AllDigits (digs n.natAbs).toArray.toList;exact Xb _
theorem Dw {n:Int}{k:Nat}(hk:1<=k)(h:n.natAbs<10 ^ k):1<=(figs n).length/\(figs n).length<=k:=by
 rw[Ze];show 1<=(digs n.natAbs).length/\(digs n.natAbs).length<=k;exact⟨qU.mpr (Wo _),Wg hk h⟩
end Sb
namespace Sb
open PySem PySem.Spec PyProof.Rows PySem.Builtin PySem.Builtin.Str PySem.StrLaws
theorem Rm (s sub:PySem.Str)(hi:Nat):∀ (m cur:Nat) (st:Array Nat × Nat),1<=st.fst.size->(forIn (List.range' cur m) st (occBody s sub hi 1)).run=st
 | 0,_,_,_=>rfl
 | m+1,cur,st,h=>by
  rw[Y0y,qd];unfold occBody;split
  ·rename_i hc
   exact absurd hc.1.1.1 U
  exact Rm s sub hi m (cur+1) st h
theorem N8 (s sub:PySem.Str)(hi:Nat):∀ (m cur:Nat) (st:Array Nat × Nat),st.fst=#[]->st.snd<=cur →
  ((forIn (List.range' cur m) st (occBody s sub hi 1)).run.fst=#[]/\∀ k,cur<=k->k<cur+m->¬ At s sub hi k) ∨
  ∃ i,cur<=i/\i<cur+m/\(forIn (List.range' cur m) st (occBody s sub hi 1)).run.fst=#[i]/\At s sub hi i/\∀ k,cur<=k->k<i->¬ At s sub hi k
 | 0,cur,st,h,_=>.inl ⟨h,λk h1 h2=>U⟩
 | m+1,cur,st,h,h2=>by
  rw[Y0y,qd];unfold occBody;split
  ·rename_i hc
   refine .inr ⟨cur,YO _,U,?_,⟨hc.1.2,hc.2⟩,λk h1 h3=>U⟩;show (forIn (List.range' (cur+1) m) _ (occBody s sub hi 1)).run.fst=#[cur];rw[Rm s sub hi m (cur+1) _ J8,h];rfl
  rename_i hc
  have no:¬ At s sub hi cur:=λq=>hc ⟨⟨⟨by rw[h];decide,h2⟩,q.1⟩,q.2⟩;rcases N8 s sub hi m (cur+1) st h U with ⟨a,b⟩ | ⟨i,a1,a2,a3,a4,a5⟩
  ·refine .inl ⟨a,λk h1 h3=>?_⟩;by_cases e:k=cur
   ·exact e ▸ no
   exact b k U U
  refine .inr ⟨i,U,U,a3,a4,λk h1 h3=>?_⟩;by_cases e:k=cur
  ·exact e ▸ no
  exact a5 k U h3
theorem Qq (x y:PySem.Str):(occurrences x y 0 x.length 1=[]/\∀ k,¬ At x y x.length k) \/ ∃ i,occurrences x y 0 x.length 1=[i]/\At x y x.length i/\∀ k,k<i->¬ At x y x.length k:=by
 rw[occ_eq];rcases N8 x y x.length (x.length+1 - 0) 0 ((#[]:Array Nat),0) rfl (YO _) with ⟨a,b⟩ | ⟨i,_,a2,a3,a4,a5⟩
 ·refine .inl ⟨by rw[a],λk q=>b k (JU _) (by have:=q.1;omega) q⟩
 exact .inr ⟨i,by rw[a3],a4,λk hk=>a5 k (JU _) hk⟩
theorem Vl (x:PySem.Str)(c i:Nat):At x ⟨#[c]⟩ x.length i ↔ x.cps.toList[i]?=some c:=subAt_one x c i
theorem Kj (x:PySem.Str)(c:Nat):(occurrences x ⟨#[c]⟩ 0 x.length 1).isEmpty=!decide (c∈x.cps.toList):=by
 rcases Qq x ⟨#[c]⟩ with ⟨a,b⟩ | ⟨i,a,b,_⟩
 ·rw[a,XI (λh=>?_)]
  ·rfl
  obtain⟨j,hj⟩:=zw h;exact b j ((Vl x c j).mpr hj)
 rw[a,XD (YV ((Vl x c i).mp b))];rfl
theorem Rj {z:PySem.Str}{c:Nat}(h:c ∉ z.cps.toList):partP z ⟨#[c]⟩=[z,Str.empty,Str.empty]:=by
 unfold partP;rcases Qq z ⟨#[c]⟩ with ⟨a,_⟩ | ⟨i,_,b,_⟩
 ·rw[a]
 exact absurd (YV ((Vl z c i).mp b)) h
theorem Ri {a b:PySem.Str}{c:Nat}(h:c ∉ a.cps.toList):partP (a++⟨#[c]⟩++b) ⟨#[c]⟩=[a,⟨#[c]⟩,b]:=by
 have el:(a++⟨#[c]⟩++b).cps.toList=a.cps.toList++c::b.cps.toList:=by
  rw[Z6,Z6,YK];rfl
 have hat:(a++⟨#[c]⟩++b).cps.toList[a.length]?=some c:=by
  rw[el,Ze a,JX (YO _)];simp
 unfold partP;rcases Qq (a++⟨#[c]⟩++b) ⟨#[c]⟩ with ⟨_,q⟩ | ⟨i,e,q1,q2⟩
 ·exact absurd ((Vl _ c _).mpr hat) (q _)
 have hi:i=a.length:=by
  have g:=(Vl _ c i).mp q1;rw[el] at g;apply jk
  ·apply qk;intro z;exact q2 _ z ((Vl _ c _).mpr hat)
  apply qk;intro z;rw[GC (by rw[<-Ze];exact z)] at g;exact h (YV g)
 subst hi;rw[e];have l1:(a++(⟨#[c]⟩:PySem.Str)++b).length=a.length+1+b.length:=by
  rw[Ze,el,Ze a,Ze b,XF,YR];omega
 have e1:strSub (a++⟨#[c]⟩++b) 0 a.length=a:=Zu (by
  rw[strSub_toList,el,Y01,Y1m,Ze a,jo];rfl)
 have e2:strSub (a++⟨#[c]⟩++b) (a.length+(⟨#[c]⟩:PySem.Str).length) (a++⟨#[c]⟩++b).length=b:=Zu (by
  rw[strSub_toList,el,l1];show ((a.cps.toList++c::b.cps.toList).drop (a.length+1)).take (a.length+1+b.length - (a.length+1))=_;rw[Ze a,<-List.drop_drop,Y0N rfl,jf,zS,JF];rw[Ze b];omega)
 show [strSub _ 0 a.length,_,strSub _ _ _]=_;rw[e1,e2]
theorem Uh (x:PySem.Str)(c:Nat):Txt.startswith x ⟨#[c]⟩=decide (x.cps.toList[0]?=some c):=by
 rw[GS,GZ,<-Vl x c 0];unfold Txt.startswith At;simp
end Sb
namespace Sb
open PySem L2
theorem Z0x {D:Ends}{σ:L2.St}(h:te σ H λx H1=>g x σ H1 D.nx):tAsg te g D σ H:=h
theorem P6 {t:TA}{σ:L2.St}{Q:List V->Hp->Prop}(h:te σ H λx H1=>t σ H1 λxs H2=>Q (x::xs) H2):tCons te t σ H Q:=h
theorem Z0b {r:List V->Hp->VK->Prop}{t:TA}{σ:L2.St}{Q:VK}(h:t σ H λvs H1=>r vs H1 Q):tCB r t σ H Q:=h
section
variable {α:Type}
theorem Xe {d:Addr}{o:HO}(S:Same H H1)(hd:H d=none):Same H (upd H1 d o):=λb ob e=>by
 rw[Zj (Zd e hd)];exact S b ob e
theorem Y9 {zs:List α}{i:Nat}{z:α}(h:zs[i]?=some z):zs.take (i+1)=zs.take i++[z]:=by
 rw[List.take_add_one,h];rfl
end
theorem Xw {i:Nat}{x:V}{σ:L2.St}{Q:L2.St->Hp->Prop}(h:Q (σ.set i (some x)) H):gName i x σ H Q:=h
theorem Z0l {a b:TS}{D:Ends}{σ:L2.St}{H:Hp}(h:a { D with nx:=λσ' H'=>b D σ' H' } σ H):tSeq a b D σ H:=h
end Sb
namespace Sb
open PySem PySem.Spec PyProof.Rows L2
theorem Ue {k:Nat}{fv:List Nat}{σ:L2.St}{Q:VK}{z:PySem.Str}(f:Nat->Bool)(htl:∀ G:VK,G (.str z) H->tl σ H G)(ha:z.cps.all (·<128)=true)(hz:z.length<=1000)
  (elt:∀ (c:Nat) (H1:Hp) (G:VK),c∈z.cps.toList->G (.bl (f c)) H1->te ((comp0 k fv σ).set 0 (some (.str ⟨#[c]⟩))) H1 G)
  (fin:∀ (d:Addr) (H2:Hp),H d=none->Same H H2->H2 d=some (.lst ((z.cps.toList.map f).map V.bl))->Q (.ref d) H2):tComp (iStr tl) (gName 0) tYes te k fv σ H Q:=by
 refine htl _ ⟨z,rfl,ha,λd hd=>?_⟩;have ls:z.cps.toList.length=z.length:=by simp[Str.length]
 refine⟨z.length,λi ys H2=>Same H H2/\ys=((z.cps.toList.take i).map f).map V.bl,XV hz J7,⟨Same.new hd,rfl⟩,?_,?_⟩
 ·rintro i ys H2 hi ⟨S2,rfl⟩ hd2;refine⟨hi,?_⟩;rintro x H3 ⟨rfl,c,ec,rfl⟩;have ec':z.cps.toList[i]?=some c:=by simpa using ec
  refine W3 ?_;refine elt c H3 _ (YV ec') ?_;refine⟨hd2,Xe S2 hd,?_⟩;rw[Y9 ec',XA,XA];rfl
 rintro ys H2 ⟨S2,rfl⟩ hd2;refine⟨YO _,fin d H2 hd S2 ?_⟩;rw[hd2,<-ls,JR]
theorem Z03 {c:Nat}(h:48<=c/\c<=57):c∈(⟨#[48,49,50,51,52,53,54,55,56,57]⟩:PySem.Str).cps.toList:=by
 have:c=48 \/ c=49 \/ c=50 \/ c=51 \/ c=52 \/ c=53 \/ c=54 \/ c=55 \/ c=56 \/ c=57:=U
 simp;omega
theorem Js (n:Int):decide ((numS n).cps.toList[0]?=some 45)=decide (n<0):=by
 by_cases h:n<0
 ·rw[Tr h,XD h];rfl
 obtain⟨m,rfl⟩:=JB (Int.not_lt.mp h);rw[XI h,XI];intro z;show False;have e:=Yp m;rw[e] at z;have:=Xb m 45 (YV z);omega
theorem C9 {n:Int}(h:n<0):cutS (numS n) (min 1 (numS n).length) (min (numS n).length (numS n).length)=figs n:=by
 apply Zu;have l:=Ze (numS n);rw[Tr h] at l;simp only [YR] at l;unfold cutS;rw[Tr h,l,JQ U]
 try rw[jW]
 rw[show min 1 ((figs n).cps.toList.length+1)=1 by omega];show ((45::(figs n).cps.toList).drop 1).take _=_;rw[jf,zS,JF];omega
theorem Ll (n:Int):(figs n).cps.all (·<128)=true:=by
 rw[<-Array.all_toList,GG];intro c hc;have:=Nu n c hc;simp;omega
end Sb
namespace Sb
open PySem L2
theorem Mq {es:List Nat}(h:es.Pairwise (·<·)):(es.map λ(k:Nat)=>(k:Int)).Nodup:=by
 rw[qD,qL];exact h.imp λ{a b} q z=>U
theorem Pj {ms:TU}(p:ms.Perm ns)(h1:ms.Pairwise (·<=·))(h2:ns.Pairwise (·<=·)):ms=ns :=
 p.eq_of_pairwise (λa b _ _ h1 h2=>Int.le_antisymm h1 h2) h1 h2
theorem Sk {K:TQ}{H:Hp}{n:Nat}:∀ {xs:TV},(∀ x∈xs,flatE x=true)->Paired (EqU K H n) xs xs
 | [],_=>.nil
 | x::xs,h=>.cons (EqU.flat (h x YI)) (Sk λy hy=>h y (YG _ hy))
theorem Z1i {K:TQ}{T name id:_}{r:_}{o e:Expr}{to:TE}{t:TA}{apos cpos:Pos}(pa:PlainAttrs T)(slot:Slot T name id)(hty:typeOf (.builtin id)=pure (.type "method_descriptor"))(hm:MtR X id r)(ho:PE X o to)(ha:PA X (e::es) t)
  (hbase:attributeBase o name X.env (eval o X.env)=eval o X.env:=by rfl)
  (hfew:((backTo cpos (starEach (e::es) X.env)).all (λx=>!x.1) && (backToKw cpos (keywordEach [] X.env)).all (λx=>x.1.isSome)
   && decide ((e::es).length+([]:List Keyword).length+(if ([]:List Keyword).isEmpty then 0 else 1)<30))=true:=by rfl)
  (hline:(apos.endLine == cpos.line)=true:=by rfl) (hs:starEach (e::es) X.env=(false,eval e X.env)::starEach es X.env:=by rfl) (hplain:(backTo cpos (starEach es X.env)).any (·.1)=false:=by rfl) (hK:X.K=K:=by rfl) :
  PE X (.Call (.Attribute o name apos) (e::es) [] cpos) (tBM K T r to t):=hK ▸ Yg pa slot hty hm ho ha hbase hfew hline hs hplain
theorem Gn {l:Addr}{k:Nat}{fv:List Nat}{σ:L2.St}{Q:VK}
  (htl:∀ G:VK,G (.ref l) H->tl σ H G) (hl:SqL K H l xs) (hz:xs.length<=1000) (hy:ys.length=xs.length)
  (elt:∀ (i:Nat) (x y:V) (H1:Hp) (G:VK),xs[i]?=some x->ys[i]?=some y->Same H H1->(∀ H2,Same H1 H2->G y H2)->te ((comp0 k fv σ).set 0 (some x)) H1 G)
  (fin:∀ (d:Addr) (H2:Hp),H d=none->Same H H2->H2 d=some (.lst ys)->Q (.ref d) H2) :
  tComp (iList K tl) (gName 0) tYes te k fv σ H Q:=by
 refine htl _ ⟨l,rfl,⟨_,hl⟩,λd hd=>?_⟩;refine⟨xs.length,λi zs H2=>Same H H2/\zs=ys.take i,XV hz J7,⟨Same.new hd,rfl⟩,?_,?_⟩
 ·rintro i zs H2 hi ⟨S2,rfl⟩ hd2;have hl2:=Yc S2 hl;have ex:xs[i]?=some xs[i]:=by simp[hi]
  have ey:ys[i]?=some (ys[i]'U):=J8
  generalize xs[i]=x at ex;generalize (ys[i]'U)=y at ey;refine⟨⟨_,x,hl2,ex⟩,?_⟩;rintro x' H3 ⟨rfl,fx⟩;have e:=fx _ hl2;rw[ex] at e
  cases e;refine W3 ?_;refine elt i x y H3 _ ex ey S2 λH4 S4=>⟨S4 _ _ hd2,Xe (S2.trans S4) hd,?_⟩;rw[Y9 ey]
 rintro zs H2 ⟨S2,rfl⟩ hd2;rw[<-hy,JR] at hd2;exact⟨⟨_,Yc S2 hl,YO _⟩,fin d H2 hd S2 hd2⟩
end Sb
namespace Sb
open PySem PySem.Spec PyProof.Rows L2
section
variable {prog:TR}{w:World}{A:Around}{E:TC}{s:Shared}{κ:Type}[DecidableEq κ]{knd:KeyKind prog w κ}
theorem Z0i {a:Addr}{es:Array (Int × Value)}{led:Bool}{k:κ}{x:Value}{Q:Bool->Shared->Prop}(hkey:knd.is k x=true)(hsc:x.scannable=true)(hS:SetG knd s.heap a es led)
  (old:∃ e∈es.toList,knd.is k e.2=true) (h:Q false s):wpAny (model prog w) A (setAddHashed a x (knd.hash k)) Q E s:=by
 obtain⟨⟨o,ep,t,ho,hex,hd,hf,tg,tl⟩,hel,hb⟩:=hS;unfold setAddHashed setAddHashedIn;refine XO (YA (qr ho hd hf ?_));dsimp only;rw[byScan_of hsc hb hel];simp only [↓reduceIte];unfold setAddByScan;refine YA ?_;refine YA (GX ?_);refine YA (wpAny_setScan_of hkey ho hd hf hel ?_)
 cases hr:List.findIdx? (λe=>knd.is k e.2) es.toList with
 | none =>
  obtain⟨e,he,ie⟩:=old;have:=Y0b.mp hr e he;rw[ie] at this;exact Bool.noConfusion this
 | some j =>
  dsimp only;exact YE (YE h)
structure Held (knd:KeyKind prog w κ)(es:List (Int × Value))(ks:List κ):Prop where
 ex:∃ (js:List κ) (us:TH),es.Perm (setL knd js us)/\us.length=js.length/\js.Nodup/\(∀ k,k∈js ↔ k∈ks)/\∀ (m:Nat) (k:κ) (v:Value),js[m]?=some k->us[m]?=some v->knd.is k v=true
theorem J5 {R:Result->Shared->Prop}{h0:Heap}{l I d:Addr}{items:Array Value}{ks:List κ}{led:Bool}(hA:A.handled=none)(hI:h0.get? I=none)(hd:h0.get? d=none)(hdI:d≠I)(hl:h0.IsList l items)
  (len:items.size=ks.length) (hz:ks.length<1000) (hk:∀ (i:Nat) (k:κ) (v:Value),ks[i]?=some k->items[i]?=some v->knd.is k v=true/\v.scannable=true) :
  ∀ (n i:Nat) (s:Shared) (es:Array (Int × Value)),ks.length - i=n->i<=ks.length->s.heap.IsListIter I l i->SetG knd s.heap d es led->Held knd es.toList (ks.take i)->es.size<=i->(∀ b o,h0.get? b=some o->s.heap.get? b=some o) →
  (∀ h' tk es',SetG knd h' d es' led->Held knd es'.toList ks->(∀ b o,b≠I->b≠d->s.heap.get? b=some o->h'.get? b=some o)->R (.ok (.ret .none)) { s with heap:=h',toks:=tk }) →
  codeAny (model prog w) A (.builtin "set.update.loop" ⟨[.ref d,.ref I],[]⟩) R s:=by
 have hlI:l≠I:=λe=>by
  obtain⟨o,ho,_⟩:=hl;rw[e,hI] at ho
  cases ho
 have W:=Walks.listQ (prog:=prog) (w:=w) (A:=A.in1) (qs:=[]) (.inl hA) I l hlI J8 items;intro n
 induction n with
 | zero =>
  intro i s es hn hi hit hg hp hsz kp hR;have hin:i=ks.length:=U
  subst hin;refine GP Wy ?_;rw[GV Yz _];show wpAny _ A.in1 (pyNext (.ref I) >>= _) _ _ s;refine YA (W.done s _ _ (by rw[len];exact⟨hit,hl.at λo e=>kp _ _ e,J8⟩) λh' tk hk'=>?_);rw[JR] at hp;refine YE (hR h' tk es (hg.on λo e=>hk' d o (by simpa using hdI) e) hp λb o hb _ e=>hk' b o (by simpa using hb) e)
 | succ n ih =>
  intro i s es hn hi hit hg hp hsz kp hR;have hlt:i<ks.length:=U
  refine GP Wy ?_;rw[GV Yz _];show wpAny _ A.in1 (pyNext (.ref I) >>= _) _ _ s;refine YA (W.item i s _ _ U ⟨hit,hl.at λo e=>kp _ _ e,J8⟩ λx h' tk hx' st hk'=>?_);have hpos:items[i]?=some x:=hx';have ek:ks[i]?=some ks[i]:=by simp[hlt]
  obtain⟨kis,ksc⟩:=hk i _ x ek hpos;have kp':∀ b o,h0.get? b=some o->h'.get? b=some o:=λb o e=>hk' b o (by simpa using λz:b=I=>by rw[z,hI] at e;cases e) (kp b o e);have hg':=hg.on (h':=h') λo e=>hk' d o (by simpa using hdI) e;have ts:ks.take (i+1)=ks.take i++[ks[i]]:=by rw[List.take_add_one,ek];rfl
  obtain⟨js,us,pm,lu,nd,mem,hi'⟩:=hp.ex;show wpAny _ _ (holding [x] _ >>= _) _ _ _;refine YA (XO ?_);unfold setAdd;refine XO (YA (knd.pyHash kis ?_));by_cases hin:ks[i]∈js
  ·obtain⟨m,hm,em⟩:=jv hin;have hu:us[m]?=some (us[m]'U):=J8
   refine Z0i kis ksc hg' ⟨(knd.hash js[m],us[m]'U),pm.mem_iff.mpr ?_,?_⟩ ?_
   ·unfold setL;rw[List.mem_iff_getElem];exact⟨m,by rw[ju];omega,by rw[Y10]⟩
   ·have:=hi' m js[m] _ J8 hu;rw[em] at this;exact this
   refine YE ⟨zm Yz _,?_⟩;refine ih (i+1) _ es U hlt (st.1.at λo e=>e) hg' ⟨js,us,pm,lu,nd,λk=>?_,hi'⟩ U (λb o e=>kp' b o e) λh3 tk3 es3 g3 p3 k3=>?_
   ·rw[ts,YN,mem k];constructor
    ·exact .inl
    rintro (h | h)
    ·exact h
    rw[JA.mp h];exact (mem _).mp hin
   exact hR h3 tk3 es3 g3 p3 λb o bI bd e=>k3 b o bI bd (hk' b o (by simpa using bI) e)
  have new:∀ e∈es.toList,knd.is ks[i] e.2=false:=λe he=>by
   have:=pm.mem_iff.mp he;unfold setL at this;obtain⟨m,hm,em⟩:=jv this;rw[ju] at hm;rw[Y10] at em;subst em;have k2:=hi' m (js[m]'U) (us[m]'U) J8 J8
   cases hb:knd.is ks[i] (us[m]'U) with
   | false=>rfl
   | true =>
    exfalso;have:=knd.inj _ _ _ hb k2;exact hin (this ▸ jc _)
  have sz:es.size+1<scanBound:=by
   show es.size+1<4096;omega
  refine Z2u kis ksc hg' sz new λh2 es2 sb2 g2 p2=>?_;refine YE ⟨zm Yz _,?_⟩;refine ih (i+1) _ es2 U hlt (st.1.at λo e=>(sb2.2 I (JZ hdI)).trans e) g2 ⟨js++[ks[i]],us++[x],?_,by rw[XF,XF,lu];rfl,?_,λk=>?_,?_⟩ ?_ (λb o e=>(sb2.2 b (λz=>by rw[z,hd] at e;cases e)).trans (kp' b o e)) λh3 tk3 es3 g3 p3 k3=>?_
  ·refine p2.trans ?_;unfold setL;rw[List.zipWith_append lu.symm];exact List.Perm.append_right _ pm
  ·rw[List.nodup_append];refine⟨nd,J8,λa ha b hb=>?_⟩;rw[JA.mp hb];exact λz=>hin (z ▸ ha)
  ·rw[ts,YN,YN,mem k]
  ·intro m k v h1 h2;rcases Y0l m js.length with h | h | h
   ·rw[GC h] at h1;rw[GC U] at h2;exact hi' m k v h1 h2
   ·rw[JX U,h,Y0J] at h1;rw[JX U,h,lu,Y0J] at h2
    cases h1
    cases h2;exact kis
   rw[qE (by rw[XF];show js.length+1<=m;omega)] at h1
   cases h1
  ·have:=p2.length_eq;rw[XF,JW,JW] at this;have:es2.size=es.size+1:=this;omega
  exact hR h3 tk3 es3 g3 p3 λb o bI bd e=>k3 b o bI bd ((sb2.2 b bd).trans (hk' b o (by simpa using bI) e))
theorem Sr {l:Addr}{items:Array Value}{ks:List κ}{Q:TC}(hA:A.handled=none)(hl:s.heap.IsList l items)
  (len:items.size=ks.length) (hz:ks.length<1000) (hk:∀ (i:Nat) (k:κ) (v:Value),ks[i]?=some k->items[i]?=some v->knd.is k v=true/\v.scannable=true)
  (h:∀ h' tk es,SetG knd h' s.heap.objs.size es (!byT w)->Held knd es.toList ks->(∀ b o,s.heap.get? b=some o->h'.get? b=some o)->Q (.ref s.heap.objs.size) { s with heap:=h',toks:=tk }) :
  wpAny (model prog w) A (call (.type "set") [.ref l]) Q E s:=by
 refine Gq ?_;have hS:(s.heap.push (set0 w)).get? s.heap.objs.size=some (set0 w):=YL _ rfl;have hT:Shared.TypeIs { s with heap:=s.heap.push (set0 w) } (.ref s.heap.objs.size) "set":=⟨_,hS,rfl⟩;have g0:SetG knd (s.heap.push (set0 w)) s.heap.objs.size #[] (!byT w):=⟨⟨_,0,_,hS,⟨rfl,rfl,rfl⟩,rfl,rfl,⟨λi j _ hj=>by simp[SetTable.fresh] at hj,rfl⟩,rfl⟩,λe he=>by simp at he,J7⟩;have hl1:(s.heap.push (set0 w)).IsList l items:=hl.at λo e=>YD _ e;have hTl:Shared.TypeIs { s with heap:=s.heap.push (set0 w) } (.ref l) "list":=Heap.IsList.typeIs (s:={ s with heap:=s.heap.push (set0 w) }) hl1;have f1:=Q9;have f2:=Sy;unfold Builtin.«set.__init__» noKeywords
 wp_walk using zr hl1
 have e1:(s.heap.push (set0 w)).objs.size=s.heap.objs.size+1:=GM ..;have no:∀ {n:Nat},s.heap.objs.size<=n->s.heap.get? n=none:=λ{n} hn=>by
  cases e:s.heap.get? n with
  | none=>rfl
  | some o=>exact absurd (YJ e) (j8.mpr hn)
 have up:∀ (h':Heap) (x y:Obj) (b:Addr) (o:Obj),h'.get? b=some o->((h'.push x).push y).get? b=some o:=λh' x y b o e=>YD _ (YD _ e);refine J5 (A:=A.in1.in1) (knd:=knd) (h0:=s.heap) (l:=l) (led:=!byT w) (items:=items) (ks:=ks) hA (no (by show s.heap.objs.size<=(s.heap.push (set0 w)).objs.size;omega)) (no (YO _)) (by show s.heap.objs.size≠(s.heap.push (set0 w)).objs.size;omega) hl len hz hk ks.length 0 _ #[] rfl (JU _) ?_ ?_ ⟨[],[],by simp[setL],rfl,.nil,J8,J8⟩ (YO _) ?_ λh' tk es g p k=>?_
 ·exact⟨_,YL _ rfl,rfl,rfl⟩
 ·exact g0.on λo e=>YD _ e
 ·exact λb o e=>up _ _ _ b o e
 dsimp only;refine YE (YE ⟨rfl,h h' tk es g p λb o e=>?_⟩);have lt:=YJ e;exact k b o (XM (by show b<(s.heap.push (set0 w)).objs.size;rw[e1];exact Nat.lt_succ_of_lt lt)) (XM lt) (up _ _ _ b o e)
end
section
variable {X:Cx}{K:TQ}
inductive rSetSD (P:TR) (w:World) (K:TQ) (xs:TV) (H:Hp) (Q:VK):Prop
 | mk (p:Addr) (ws:List PySem.Str) (a0:xs=[.ref p]) (a1:SqL K H p (ws.map V.str)) (a3:ws.length<1000) (a4:∀ (d:Addr) (es:Array (Int × Value)) (js:List PySem.Str),H d=none->es.size=js.length->js.Nodup->(∀ k,k∈js ↔ k∈ws)->Q (.ref d) (upd H d (setS P w d es)))
theorem Lr (hA:X.A.handled=none)(hK:X.K=K:=by rfl):CallR X (.type "set") (rSetSD X.prog X.w K):=by
 subst hK;intro pins s σ H xs us Q I r h;obtain⟨p,ws,rfl,hq,hz,q⟩:=h;obtain⟨u,rfl,rx⟩:=W7 r
 cases rx;obtain⟨its,r',pl,_⟩:=I.list hq;obtain⟨l,e1,rfl⟩:=T4 r';have lr:=r'.length;rw[YB] at lr;refine Sr (knd:=strKind X.prog X.w) (ks:=ws) hA pl.isList (by simpa using lr.symm) hz (λi k v hk hv=>?_) λh' tk es g pm kp=>?_
 ·rw[qf] at hv;obtain⟨w',e2,t,rfl⟩:=r'.get (i:=i) (x:=V.str k) (by rw[YQ,hk];rfl);rw[hv] at e2
  cases e2;exact⟨strKind_is _ _ k t,rfl⟩
 obtain⟨js,us,pm,lu,nd,mem,_⟩:=pm.ex;have sz:es.size=js.length:=by
  rw[<-JW,pm.length_eq,Fd lu]
 refine⟨.ref s.heap.objs.size,_,I.laid (t':=tk) kp (YO _) (show ObjOk X.prog X.w _ h' _ (setS X.prog X.w s.heap.objs.size es) from ⟨g,?_,?_⟩),rfl,q _ _ js (I.hok.fresh (YO _)) sz nd mem⟩
 ·obtain⟨⟨o,ep,t,ho,_⟩,_,_⟩:=g;exact⟨o,ho⟩
 intro h1 h2 g1 k;exact g1.on k
inductive rSetID (P:TR) (w:World) (K:TQ) (xs:TV) (H:Hp) (Q:VK):Prop
 | mk (p:Addr) (ns:TU) (a0:xs=[.ref p]) (a1:SqL K H p (ns.map V.int)) (a3:ns.length<1000) (a4:∀ (d:Addr) (es:Array (Int × Value)) (ms:TU),H d=none->ms.Nodup->(∀ m,m∈ms ↔ m∈ns)->Vals (ms.map V.int) (es.toList.map (·.2))->Q (.ref d) (upd H d (setI P w d es)))
theorem W6 {P:TR}{w:World}:∀ {js:TU} {us:TH},us.length=js.length->(∀ (m:Nat) (k:Int) (v:Value),js[m]?=some k->us[m]?=some v->(intKind P w).is k v=true)->Vals (js.map V.int) us
 | [],[],_,_=>.nil
 | [],_::_,h,_=>by cases h
 | _::_,[],h,_=>by cases h
 | j::js,u::us,h,hi=>by
  refine .cons ?_ (W6 (P:=P) (w:=w) (by simpa using h) λm k v h1 h2=>hi (m+1) k v (by simpa using h1) (by simpa using h2));have:=hi 0 j u rfl rfl
  cases u <;> simp[intKind,Value.isInt] at this;subst this;exact⟨_,rfl⟩
theorem Ls (hA:X.A.handled=none)(hK:X.K=K:=by rfl):CallR X (.type "set") (rSetID X.prog X.w K):=by
 subst hK;intro pins s σ H xs us Q I r h;obtain⟨p,ns,rfl,hq,hz,q⟩:=h;obtain⟨u,rfl,rx⟩:=W7 r
 cases rx;obtain⟨its,r',pl,_⟩:=I.list hq;have lr:=r'.length;rw[YB] at lr;refine Sr (knd:=intKind X.prog X.w) (ks:=ns) hA pl.isList (by simpa using lr.symm) hz (λi k v hk hv=>?_) λh' tk es g pm kp=>?_
 ·rw[qf] at hv;obtain⟨w',e2,t,rfl⟩:=r'.get (i:=i) (x:=V.int k) (by rw[YQ,hk];rfl);rw[hv] at e2
  cases e2;exact⟨by simp[intKind,Value.isInt],rfl⟩
 obtain⟨js,us,pm,lu,nd,mem,hi⟩:=pm.ex;have e3:(setL (intKind X.prog X.w) js us).map (·.2)=us:=by
  unfold setL;rw[List.map_zipWith];have key:∀ {a:TU} {b:TH},b.length=a.length->List.zipWith (λ(_:Int) (v:Value)=>v) a b=b:=by
   intro a
   induction a with
   | nil=>intro b hb;cases b;rfl;cases hb
   | cons x a ih=>intro b hb;cases b with | nil=>cases hb | cons y b=>rw[List.zipWith_cons_cons,ih (by simpa using hb)]
  exact key lu
 have pv:(es.toList.map (·.2)).Perm us:=by
  have:=pm.map (·.2);rw[e3] at this;exact this
 obtain⟨ms,p2,v2⟩:=R9 pv (W6 lu hi);refine⟨.ref s.heap.objs.size,_,I.laid (t':=tk) kp (YO _) (show ObjOk X.prog X.w _ h' _ (setI X.prog X.w s.heap.objs.size es) from ⟨g,?_,?_⟩),rfl,q _ _ ms (I.hok.fresh (YO _)) (p2.nodup_iff.mpr nd) (λm=>(p2.mem_iff).trans (mem m)) v2⟩
 ·obtain⟨⟨o,ep,t,ho,_⟩,_,_⟩:=g;exact⟨o,ho⟩
 intro h1 h2 g1 k;exact g1.on k
inductive rNeIL (K:TQ) (x:V) (y:V) (H:Hp) (Q:VK):Prop
 | mk (a b:Addr) (ns ms:TU) (zz0:x=.ref a) (zz1:y=.ref b) (zz2:SqL K H a (ns.map V.int)) (zz3:SqL K H b (ms.map V.int)) (zz4:Q (.bl (!decide (ns=ms))) H)
theorem Bg (hu:X.A.units<cLine)(hK:X.K=K:=by rfl):OpR X (compareOp .NotEq) (rNeIL K):=by
 subst hK;intro pins s σ H x y v u Q I rx ry h;obtain⟨a,b,ns,ms,rfl,rfl,ha,hb,q⟩:=h
 cases rx
 cases ry;obtain⟨its,r1,p1,_⟩:=I.list ha;obtain⟨its2,r2,p2,_⟩:=I.list hb;have l1:=r1.length;have l2:=r2.length;rw[YB] at l1 l2;by_cases hl:ns.length=ms.length
 ·refine SeqAt.RcNeAt.lists (A:=X.A) (e:=λj=>ns.getD j 0 == ms.getD j 0) p1.isList p2.isList (by simp;omega) hu (λj h1 h2=>?_) _ _ _ _ ?_
  ·obtain⟨t,e1⟩:=Ki r1 (j:=j) (by simpa using h1);obtain⟨t',e2⟩:=Ki r2 (j:=j) (by simpa using h2);have e1':its.toArray[j]=Value.int (ns.getD j 0) t:=by simpa using e1
   have e2':its2.toArray[j]=Value.int (ms.getD j 0) t':=by simpa using e2
   rw[e1',e2'];exact Y03 _ _ _ _
  have e:=Z29 ns ms;rw[<-hl,jW,ql,Bool.and_true] at e;rw[YY,<-l1,e];exact⟨.bl _,H,I,rfl,q⟩
 refine SeqAt.RcNeAt.lists_lengths (A:=X.A) p1.isList p2.isList (by simp;omega) hu _ _ _ _ ?_;rw[XI (λe=>hl (by rw[e]))] at q;exact⟨.bl _,H,I,rfl,q⟩
end
theorem Cc {α:Type}{l:Addr}{zs:List α}{gi g:α->V}{p:α->Bool}{tt:TT}{k:Nat}{fv:List Nat}{σ:L2.St}{Q:VK}
  (htl:∀ G:VK,G (.ref l) H->tl σ H G) (hl:SqL K H l (zs.map gi)) (hz:zs.length<=1000)
  (test:∀ (i:Nat) (z:α) (H1:Hp) (G:Bool->Hp->Prop),zs[i]?=some z->Same H H1->(∀ H2,Same H1 H2->G (p z) H2)->tt ((comp0 k fv σ).set 0 (some (gi z))) H1 G)
  (elt:∀ (i:Nat) (z:α) (H1:Hp) (G:VK),zs[i]?=some z->p z=true->Same H H1->(∀ H2,Same H1 H2->G (g z) H2)->te ((comp0 k fv σ).set 0 (some (gi z))) H1 G)
  (fin:∀ (d:Addr) (H2:Hp),H d=none->Same H H2->H2 d=some (.lst ((zs.filter p).map g))->Q (.ref d) H2) :
  tComp (iList K tl) (gName 0) tt te k fv σ H Q:=by
 refine htl _ ⟨l,rfl,⟨_,hl⟩,λd hd=>?_⟩;refine⟨zs.length,λi ys H2=>Same H H2/\ys=((zs.take i).filter p).map g,XV hz J7,⟨Same.new hd,rfl⟩,?_,?_⟩
 ·rintro i ys H2 hi ⟨S2,rfl⟩ hd2;have hl2:=Yc S2 hl;have ez:zs[i]?=some zs[i]:=by simp[hi]
  generalize zs[i]=z at ez;have ex:(zs.map gi)[i]?=some (gi z):=by rw[YQ,ez];rfl
  refine⟨⟨_,gi z,hl2,ex⟩,?_⟩;rintro x H3 ⟨rfl,fx⟩;have e:=fx _ hl2;rw[ex] at e
  cases e;refine Nb ?_;refine test i z H3 _ ez S2 λH4 S4=>?_;have hd4:=S4 _ _ hd2;by_cases hp:p z=true
  ·rw[hp];refine Xq (elt i z H4 _ ez hp (S2.trans S4) λH5 S5=>⟨S5 _ _ hd4,Xe ((S2.trans S4).trans S5) hd,?_⟩);rw[Y9 ez,zJ,jd,JD hp,XA];rfl
  have hp':p z=false:=by simpa using hp
  rw[hp'];refine Yb ⟨hd4,S2.trans S4,?_⟩;rw[Y9 ez,zJ,jd,XQ hp,List.filter_nil,YM]
 rintro ys H2 ⟨S2,rfl⟩ hd2;rw[JR] at hd2;exact⟨⟨_,Yc S2 hl,J8⟩,fin d H2 hd S2 hd2⟩
section
variable {X:Cx}
inductive tFmtB_i (c1 c2:PySem.Str) (Q:VK) (x:V) (H1:Hp):Prop
 | mk (i:Int) (a0:x=.int i) (a1:i.natAbs.log2<1920) (a2:(PySem.Str.empty++c1++PySem.Str.ofString (toString i)++c2).length<=sizeLine) (a3:Q (.str (PySem.Str.empty++c1++PySem.Str.ofString (toString i)++c2)) H1)
def tFmtB (c1:PySem.Str)(ta:TE)(c2:PySem.Str):TE:=λσ H Q=>ta σ H (tFmtB_i c1 c2 Q)
theorem Be {ea:Expr}{ta:TE}{c1 c2:PySem.Str}{j1 j2 p1 p2 p3 pos}(hc:(PySem.Str.empty++c1).length<=sizeLine)(ha:PE X ea ta):PE X (.JoinedStr [.Constant (.str c1) j1 p1,.FormattedValue ea (-1) none p2,.Constant (.str c2) j2 p3] pos) (tFmtB c1 ta c2):=by
 intro pins s σ H Q I h;refine wpAny_JoinedStr ?_;refine zI ⟨_,_,rfl,hc,?_⟩;refine zy (thn (ha pins _ σ H _ (I.tok _) h) λv s1 z=>?_);obtain⟨x,H1,I1,r1,i,rfl,l1,z1,q1⟩:=z;obtain⟨t,rfl⟩:=r1;refine zZ l1 ⟨_,_,rfl,XV (by rw[strLen_append (PySem.Str.empty++c1++PySem.Str.ofString (toString i)) c2];exact qm _ _) z1,?_⟩;refine zI ⟨_,_,rfl,z1,?_⟩;exact⟨z1,.str _,H1,((I1.tok _).tok _).tok _,⟨_,rfl⟩,q1⟩
inductive rZfill (x:V) (vs:TV) (H:Hp) (Q:VK):Prop
 | mk (z:PySem.Str) (i:Int) (a0:x=.str z) (a1:vs=[.int i]) (a2:PadOk i=true) (a3:Q (.str (Txt.zfill z i)) H)
theorem Tv:MtR X "str.zfill" rZfill:=by
 intro pins s σ H x vs v us Q I rx rv h;obtain⟨z,i,rfl,rfl,hp,q⟩:=h;obtain⟨t,rfl⟩:=rx;obtain⟨u,rfl,t',rfl⟩:=rv.one;exact SC.zfill hp λt' k=>⟨.str _,H,I.tok _,⟨t',rfl⟩,q⟩
def repS (z:PySem.Str)(n:Nat):PySem.Str:=⟨(List.replicate n z.cps.toList).flatten.toArray⟩
theorem Ru:∀ (l:List (Array Nat)) (a:Array Nat),l.foldl (·++·) a=a++(l.map Array.toList).flatten.toArray
 | [],a=>J8
 | x::l,a=>by
  rw[jp,Ru l];apply Array.ext';simp
theorem Z1b (z:PySem.Str)(n:Nat):(⟨(List.replicate n z.cps).foldl (·++·) #[]⟩:PySem.Str)=repS z n:=by
 unfold repS;rw[Ru,Y09];simp
inductive rRepS (x:V) (y:V) (H:Hp) (Q:VK):Prop
 | mk (z:PySem.Str) (n:Nat) (a0:x=.str z) (a1:y=.int (n:Int)) (a2:2<=n) (a3:n<=1000) (a4:1<=z.length) (a5:z.length<=1000) (a6:Q (.str (repS z n)) H)
theorem Tn:OpR X (binaryOp .Mult) rRepS:=by
 intro pins s σ H x y v u Q I rx ry h;obtain⟨z,n,rfl,rfl,n2,n3,z1,z2,q⟩:=h;obtain⟨t,rfl⟩:=rx;obtain⟨t',rfl⟩:=ry;have hm:z.length*n<=1000*1000:=Nat.mul_le_mul z2 n3;have e1:((n:Int) == 1 || z.length == 0)=false:=by
  have a:((n:Int) == 1)=false:=by
   rw[JO];omega
  have b:(z.length == 0)=false:=by
   rw[JO];omega
  rw[a,b];rfl
 refine PySem.P.mul_str ?_ (λ_ _=>?_) (λ_ _=>?_) ?_
 ·rw[XI (show ¬ (n:Int) < -(2 ^ 63:Int) by omega),XI (show ¬ (n:Int) ≥ 2 ^ 63 by omega)];rfl
 ·have:(1000:Int)<=(2 ^ 63 - 1) / (n:Int):=by
   rw[Int.le_ediv_iff_mul_le U];omega
  omega
 ·unfold Builtin.Str.tooLong;have e:sizeLine=16777216:=YX;simp;omega
 rw[XQ U,XQ (by rw[e1];decide),GW,Z1b];refine⟨?_,.str _,H,I.tok _,⟨_,rfl⟩,q⟩;have:(repS z n).length=n*z.length:=by
  rw[Ze];show (List.replicate n z.cps.toList).flatten.toArray.toList.length=_;rw[Ze];simp
 rw[this,YX,Y1o];omega
end
/-- a def's promise by its body alone -/
theorem Def.h9 {P:TR}{w:World}{base:Heap}{k:Nat}{x:Str}(D:Def K mg x st ps)(S:FnScope N ps (defScope st))
  (hbody:∀ {f:Addr} {cdv:Value} {A:Around} {outer:TM} {s:Shared} {vs:TV} {E:XK} (H:Hp) (Q:VK),Room k (A.deeper (envOfC x (defScope st) s.heap.objs.size f cdv)) sr->sp vs H Q E->N.Nodup →
   ∃ t,PSs (cxOf CX0 P w K mg base N x (defScope st) f cdv A outer s H E).nox (defBody st) t/\t { nx:=λ_ H'=>Q .non H',rt:=Q } (start N vs) H)
  (len:∀ vs H Q E,sp vs H Q E->vs.length=ps.length:=by intro _ _ _ _ h;first | (cases h;subst_vars;rfl) | ((repeat (obtain⟨_,h⟩:=h));subst_vars;rfl)):Has P w K mg base (k+1) x ps sp sr :=
 D.has λ_ _ F=>F.ok S len λ_ _ _ _ H _ Q _ hr h=>hbody H Q hr h S.nd
theorem Def.hD9 {P:TR}{w:World}{base:Heap}{k:Nat}{x:Str}(D:Def K mg x st ps)(S:FnScope N ps (defScope st))
  (hbody:∀ {f:Addr} {cdv:Value} {A:Around} {outer:TM} {s:Shared} {vs:TV} (H:Hp) (Q:VK) (E:XK),Room k (A.deeper (envOfC x (defScope st) s.heap.objs.size f cdv)) true->sp vs H Q E->N.Nodup →
   ∃ t,PSs (cxOf (CXD P w) P w K mg base N x (defScope st) f cdv A outer s H E) (defBody st) t/\t { nx:=λ_ H'=>Q .non H',rt:=Q } (start N vs) H)
  (len:∀ vs H Q E,sp vs H Q E->vs.length=ps.length:=by intro _ _ _ _ h;first | (cases h;subst_vars;rfl) | ((repeat (obtain⟨_,h⟩:=h));subst_vars;rfl)):HasD P w K mg base (k+1) x ps sp :=
 D.hasD S len λ_ _ _ _ _ H _ Q E hr h=>hbody H Q E hr h S.nd
end Sb
namespace Sb
open PySem L2
def top (i:Nat):Stmt:=PySem.Challenge.pw_surebook_k49_texts_refused.main.body.getD i (.Pass ⟨0,0,0,0⟩)
abbrev gA:Stmt:=top 9
abbrev fN:Stmt:=top 10
abbrev gE:Stmt:=top 11
abbrev gD:Stmt:=top 12
abbrev fR:Stmt:=top 17
abbrev fL:Stmt:=top 18
abbrev fS:Stmt:=top 19
abbrev gF:Stmt:=top 20
abbrev gB:Stmt:=top 26
abbrev fT:Stmt:=top 27
abbrev f6:Stmt:=top 28
abbrev fP:Stmt:=top 29
abbrev fM:Stmt:=top 30
abbrev fU:Stmt:=top 31
abbrev gN:Stmt:=top 32
abbrev gQ:Stmt:=top 34
abbrev gG:Stmt:=top 35
abbrev gH:Stmt:=top 36
abbrev gS:Stmt:=top 38
abbrev gL:Stmt:=top 39
abbrev f8:Stmt:=top 40
abbrev gJ:Stmt:=top 41
abbrev gO:Stmt:=top 42
abbrev fX:Stmt:=top 43
abbrev gM:Stmt:=top 44
abbrev gP:Stmt:=top 45
abbrev gK:Stmt:=top 46
abbrev fV:Stmt:=top 47
abbrev gC:Stmt:=top 48
abbrev fW:Stmt:=top 49
abbrev fZ:Stmt:=top 50
abbrev fY:Stmt:=top 51
abbrev fO:Stmt:=top 52
abbrev gR:Stmt:=top 53
abbrev fQ:Stmt:=inClass (top 5) 0
structure Blt (mg:TB):Prop where
 len:mg "len"=none
 abs:mg "abs"=none
 isinstance:mg "isinstance"=none
 int:mg "int"=none
 bool:mg "bool"=none
 tuple:mg "tuple"=none
 range:mg "range"=none
 zip:mg "zip"=none
 enumerate:mg "enumerate"=none
 any:mg "any"=none
 sum:mg "sum"=none
 list:mg "list"=none
 min:mg "min"=none
theorem Ks {k:Int}(h0:0<=k)(h1:k<((ns.map V.int).length:Int)):∃ z,atI (ns.map V.int) k=some (.int z):=by
 obtain⟨j,rfl⟩:=JB h0;rw[YB] at h1;have hj:j<ns.length:=U
 exact⟨ns[j],Yh (by simp[hj])⟩
theorem Dj {n:Nat}{k:Int}(h0:0<=k)(h1:k<(n:Int)):ixN n k=some k.toNat:=by
 unfold ixN;rw[JD h0,JD h1]
theorem Tw {j:Int}(h:(0:Int)<j):(0:Int)<j:=h
theorem Cb {j:Int}(h0:0<=j)(h1:j<=1000):CPow 10 j:=⟨h0,by omega,by decide⟩
theorem V2 (t:Int):-(2 ^ 64)<t % 65537/\t % 65537<2 ^ 64:=by omega
theorem Z00 (p q:Int):Int.gcd (if p<0 then -p else p) (if q<0 then -q else q)=Int.gcd p q:=by
 split <;> split <;> simp
theorem W9 {n:Nat}(h:n<=1000):n<=sizeLine:=XV h J7
theorem D4 {r:Rat}(hp:0<r.2)(hc:Int.gcd r.1 r.2=1):nrm r.1 r.2=r:=by
 have e:=Bs r.1 r.2;have hq:r.2≠0:=U
 refine Mr (Qr hq) hp (D8 hq) hc ?_;exact e
inductive spWhole (vs:TV) (H:Hp) (Q:VK) (_z3:XK):Prop
 | mk (i:Int) (zz0:vs=[.int i]) (zz1:Q (.bl true) H)
section
variable {P:TR}{w:World}{K:TQ}{mg:TB}{base:Heap}
inductive spCell (K:TQ) (vs:TV) (H:Hp) (Q:VK) (_z3:XK):Prop
 | mk (a:Addr) (k:Int) (ns:TU) (zz0:vs=[.ref a,.int k]) (zz1:SqL K H a (ns.map V.int)) (zz2:0<=k) (zz3:k<=100000) (zz4:∀ z:Int,Q (.int z) H)
theorem Z1s (D:Def K mg "_law_cell" gQ TY)(T:Blt mg):Has P w K mg base 1 "_law_cell" TY (spCell K):=by
 refine D.h9 (N:=["_law_script","_law_k","_law_seed","_law_some"]) fsc λH Q hr h nd=>?_;obtain⟨a,k,ns,rfl,hS,hk,hk2,q⟩:=h;refine⟨_,(Z4 (Zy (Zf Wv (pv 1) (Zg Zh rfl T.len JT (Z0 (pv 0) Z3)) (Zl _))
   (Zb (Zi (Zq Y5 (pv 0) (pv 1) (λ_ _=>rfl))))
   Zm)
  (Z4 (Zc (i:=2) nd rfl (Or.inl rfl) (Za Xl (pv 1) Z8))
  (Z4 (Zy (Zf Z0q (Zg Zh rfl T.len JT (Z0 (pv 0) Z3)) Z8 (Zl _))
   (Zb (Zc (i:=2) nd rfl (Or.inl rfl) (Za Ya (pv 2) (Za Xp (Zq Y5 (pv 0) (Za Xp (pv 1) (Zg Zh rfl T.len JT (Z0 (pv 0) Z3))) (λ_ _=>rfl)) Z8))))
   Zm)
  (Z4 (Zc (i:=3) nd rfl (Or.inl rfl) (Za Xp (Za Xl (pv 2) Z8) Z8))
  (Zb (Zi (Za Xp (Za V5 (Za Xl (pv 3) (Za Ya (Za Ya (pv 3) (Za Xl Z8 (pv 1))) Z8)) Z8) Z8))))))),?_⟩
 refine⟨_,rfl,_,rfl,a,_,rfl,.inl hS,_,_,rfl,rfl,_,rfl,?_⟩;refine Qs (λh=>?_) (λh=>?_)
 ·have h':=XR h;obtain⟨z,hz⟩:=Ks hk h';exact⟨_,rfl,_,rfl,a,_,_,_,rfl,rfl,hS,hz,q z⟩
 refine⟨_,rfl,_,_,rfl,rfl,Jt J7 J7,?_⟩;refine⟨_,rfl,a,_,rfl,.inl hS,_,_,rfl,rfl,_,rfl,?_⟩;refine Qs (λh2=>?_) (λh2=>?_)
 ·have h3:=XR h2;obtain⟨z,hz⟩:=Ks (ns:=ns) (k:=k % ((ns.map V.int).length:Int)) (zF _ U) (zK _ h3);refine⟨_,rfl,_,rfl,_,rfl,_,rfl,a,_,rfl,.inl hS,_,_,rfl,rfl,h3,a,_,_,_,rfl,rfl,hS,hz,_,_,rfl,rfl,Tw J7,_,_,rfl,rfl,?_⟩;refine⟨_,rfl,_,_,rfl,rfl,Jt J7 J7,_,_,rfl,rfl,Tw J7,?_⟩;exact⟨_,rfl,_,rfl,_,rfl,_,_,rfl,rfl,La J7 J7,_,_,rfl,rfl,_,_,rfl,rfl,_,_,rfl,rfl,La (V2 _).1 (V2 _).2,_,_,rfl,rfl,⟨J7,J9⟩,_,_,rfl,rfl,Tw J7,q _⟩
 refine⟨_,rfl,_,_,rfl,rfl,Jt J7 J7,_,_,rfl,rfl,Tw J7,?_⟩;exact⟨_,rfl,_,rfl,_,rfl,_,_,rfl,rfl,La J7 J7,_,_,rfl,rfl,_,_,rfl,rfl,_,_,rfl,rfl,La (V2 _).1 (V2 _).2,_,_,rfl,rfl,⟨J7,J9⟩,_,_,rfl,rfl,Tw J7,q _⟩
inductive spRatio (vs:TV) (H:Hp) (Q:VK) (_z3:XK):Prop
 | mk (p q:Int) (zz0:vs=[.int p,.int q]) (zz1:q≠0) (zz2:q.natAbs.log2<450000) (zz3:∀ a H',H a=none->Same H H'->H' a=some (.tup [.int (nT p q),.int (nB p q)])->Q (.ref a) H')
theorem Qd {p q:Int}(h:q≠0)(k:q.natAbs.log2<450000):(sg p q).natAbs.log2<450000:=by
 have h1:=Z2c (p:=p) h;have h0:=Rb (p:=p) h;have h2:(sg p q).natAbs≠0:=U
 have h3:q.natAbs≠0:=U
 exact (Y11 h2).mpr (JK h1 ((Y11 h3).mp k))
def muRat (σ:St)(_:Hp):Nat:=match σ with
 | [_,_,some (.int x),_,_]=>x.toNat
 | _=>0
theorem Bk (D:Def K mg "_law_ratio" gH TZ)(T:Blt mg):Has P w K mg base 2 "_law_ratio" TZ spRatio:=by
 refine D.h9 (N:=["_law_top","_law_bottom","_law_one","_law_most","_law_rest"]) fsc λH Q hr h nd=>?_;obtain⟨p,q,rfl,hq,hlog,k⟩:=h;refine⟨_,(Z4 (Zc (i:=2) nd rfl (Or.inl rfl) (Zg Ss rfl T.abs j3 (Z0 (pv 0) Z3)))
  (Z4 (Zc (i:=3) nd rfl (Or.inl rfl) (Zg Ss rfl T.abs j3 (Z0 (pv 1) Z3)))
  (Z4 (Tc GQ (Zf Z0q (pv 2) Z8 (Zl _))
   (Z4 (Zc (i:=4) nd rfl (Or.inl rfl) (Za Xp (pv 3) (pv 2)))
   (Z4 (Zc (i:=3) nd rfl (Or.inl rfl) (pv 2))
   (Zb (Zc (i:=2) nd rfl (Or.inl rfl) (pv 4))))))
  (Z4 (Zn (Zy (Zf Wv (pv 1) Z8 (Zl _))
   (Zb (Zc (i:=3) nd rfl (Or.inl rfl) (Fs Mc (pv 3))))
   Zm))
  (Zb (Zi (Xt (Z0 (Za V5 (pv 0) (pv 3)) (Z0 (Za V5 (pv 1) (pv 3)) Z3))))))))),?_⟩
 refine⟨_,rfl,_,rfl,_,rfl,_,rfl,?_⟩;refine Pe (λσ H'=>H'=H/\∃ (x y:Int) (r:Option V),σ=[some (.int p),some (.int q),some (.int x),some (.int y),r]/\0<=x/\0<=y/\Int.gcd y x=Int.gcd p q) muRat ⟨rfl,_,_,none,rfl,(by split <;> omega),(by split <;> omega),by rw[jy];exact Z00 p q⟩ ?_
  (λσ H Q Q' f ⟨v,e,i,j,e1,e2,k,e3,z⟩=>⟨v,e,i,j,e1,e2,k,e3,f _ _ z⟩)
 rintro σ H' ⟨rfl,x,y,r,rfl,hx,hy,hg⟩;refine⟨_,rfl,_,_,rfl,rfl,_,rfl,?_⟩;refine Qs (λh=>?_) (λh=>?_)
 ·have h':0<x:=XR h;refine⟨_,rfl,_,rfl,_,_,rfl,rfl,h',?_⟩;refine⟨_,rfl,_,rfl,⟨rfl,y % x,x,_,rfl,zF _ U,hx,gcd_step.trans hg⟩,?_⟩;show (y % x).toNat<x.toNat;have:=zK y h';have:=zF y (show x≠0 by omega);omega
 have h':¬ 0<x:=λz=>h (XD z);have e:=Z23 y x hy U;rw[hg] at e;subst e;refine⟨λσ H''=>H''=H'/\σ=[some (.int p),some (.int q),some (.int x),some (.int (sg p q)),r],?_,?_⟩
 ·refine⟨_,rfl,_,_,rfl,rfl,_,rfl,?_⟩;refine Qs (λh=>?_) (λh=>?_)
  ·have h':q<0:=XR h;refine⟨_,rfl,_,rfl,rfl,?_⟩;have e:sg p q=-((Int.gcd p q:Nat):Int):=by unfold sg gI;rw[JD h']
   rw[e];rfl
  have h':¬ q<0:=λz=>h (XD z);refine⟨rfl,?_⟩;have e:sg p q=((Int.gcd p q:Nat):Int):=by unfold sg gI;rw[XQ h']
  rw[e]
 rintro σ H'' ⟨rfl,rfl⟩;refine⟨_,rfl,_,rfl,_,_,rfl,rfl,⟨Rb hq,Qd hq hlog⟩,_,rfl,_,rfl,_,_,rfl,rfl,⟨Rb hq,Qd hq hlog⟩,sz2,λa ha=>?_⟩;exact k a _ ha (Same.new ha) Z5
inductive spBag (vs:TV) (H:Hp) (Q:VK) (_z3:XK):Prop
 | mk (c:Int) (zz0:vs=[.int c]) (zz1:∀ a H',H a=none->Same H H'->BagAt H' a 1->Q (.ref a) H')
theorem Z2k (D:Def K mg "_law_bag" gS UA):Has P w K mg base 1 "_law_bag" UA spBag:=by
 refine D.h9 (N:=UA) fsc λH Q hr h nd=>?_;obtain⟨c,rfl,q⟩:=h;refine⟨_,(Z4 (Zy (Zf Wv (pv 0) (Za To Z8 Z8) (Zl _))
   (Zb (Zi (Y3 (Z0 (pv 0) (Z0 Z8 Z3)))))
   Zm)
  (Zb (Zi (Y3 (Z0 (pv 0) (Z0 Z8 Z3)))))),?_⟩
 refine⟨_,rfl,_,_,rfl,rfl,Cb J7 J7,_,_,rfl,rfl,_,rfl,?_⟩;refine Qs (λ_=>?_) (λ_=>?_)
 ·exact⟨_,rfl,sz2,λa ha=>q a _ ha (Same.new ha) ⟨_,_,Z5,J7,J7⟩⟩
 exact⟨_,rfl,sz2,λa ha=>q a _ ha (Same.new ha) ⟨_,_,Z5,J7,J7⟩⟩
inductive spTake (vs:TV) (H:Hp) (Q:VK) (_z3:XK):Prop
 | mk (b:Addr) (m:Int) (n:Nat) (zz0:vs=[.ref b,.int m]) (zz1:BagAt H b n) (zz2:n<=1000000000) (zz3:0<m) (zz4:m.natAbs.log2<450000) (zz5:∀ (r:Int) (H':Hp),0<=r->r<m->BagAt H' b (n+1)->SameX b H H'->Q (.int r) H')
abbrev Z1 (P:TR)(w:World)(K:TQ)(mg:TB)(base:Heap):Prop:=Has P w K mg base 1 "_law_take" ["_law_bag_here","_law_many"] spTake
theorem Z1p (D:Def K mg "_law_take" gL ["_law_bag_here","_law_many"]):Z1 P w K mg base:=by
 refine D.h9 (N:=["_law_bag_here","_law_many","_law_told"]) fsc λH Q hr h nd=>?_;obtain⟨b,m,n,rfl,⟨x,y,e,hy,hyn⟩,hn,hm,hlog,q⟩:=h;have hL:SqL K H b [.int x,.int y]:=SqL.of e;refine⟨_,(Z4 (Zy (Zf W2 (Zq Kd (pv 0) Z8 (λ_ _=>rfl)) Z8 (Zl _))
   (Z4 (Zc (i:=2) nd rfl (Or.inl rfl) (Za Xp (Zq Ke (pv 0) Z8 (λ_ _=>rfl)) (pv 1)))
   (Z4 (Td (Za V5 (Zq Ke (pv 0) Z8 (λ_ _=>rfl)) (pv 1)) (Th (pv 0) Z8 Wu))
   (Zb (Zi (pv 2)))))
   Zm)
  (Z4 (Td (Za Xp (Za Ya (Za Ya (Za Xl (Zq Ke (pv 0) Z8 (λ_ _=>rfl)) Z8) (Za Xl (Za Xl Z8 (Zq Kd (pv 0) Z8 (λ_ _=>rfl))) (Zq Kd (pv 0) Z8 (λ_ _=>rfl)))) Z8) Z8) (Th (pv 0) Z8 Wu))
  (Z4 (Td (Za Ya (Zq Kd (pv 0) Z8 (λ_ _=>rfl)) Z8) (Th (pv 0) Z8 Wu))
  (Zb (Zi (Za Xp (Za Xp (Za Xl (Zq Ke (pv 0) Z8 (λ_ _=>rfl)) Z8) Z8) (pv 1))))))),?_⟩
 refine⟨_,rfl,b,_,_,rfl,rfl,hL,rfl,_,rfl,?_⟩;refine Qs (λh=>?_) (λh=>?_)
 ·refine⟨_,rfl,b,_,_,rfl,rfl,hL,_,rfl,_,_,rfl,rfl,hm,?_⟩;refine⟨_,rfl,b,_,_,rfl,rfl,hL,_,rfl,_,_,rfl,rfl,⟨U,hlog⟩,_,rfl,b,_,_,0,rfl,rfl,e,rfl,?_⟩;refine⟨_,rfl,?_⟩;exact q _ _ (zF _ U) (zK _ hm) ⟨_,y,Z5,hy,U⟩ (SameX.upd b H _)
 refine⟨_,rfl,b,_,_,rfl,rfl,hL,_,_,rfl,rfl,Jt J7 J7,_,rfl,b,_,_,rfl,rfl,hL,_,_,rfl,rfl,La J7 J7,_,rfl,b,_,_,rfl,rfl,hL,_,_,rfl,rfl,Jt U U,_,_,rfl,rfl,_,_,rfl,rfl,_,_,rfl,rfl,Tw J7,_,rfl,b,_,_,0,rfl,rfl,e,rfl,?_⟩;refine⟨_,rfl,b,_,_,rfl,rfl,SqL.of Z5,_,_,rfl,rfl,_,rfl,b,_,_,1,rfl,rfl,Z5,rfl,?_⟩;refine⟨_,rfl,b,_,_,rfl,rfl,SqL.of Z5,_,_,rfl,rfl,Jt J7 J7,_,_,rfl,rfl,Tw J7,_,rfl,_,_,rfl,rfl,hm,?_⟩;exact q _ _ (zF _ U) (zK _ hm) ⟨_,y+1,Z5,U,U⟩ ((SameX.upd b H _).trans (SameX.upd b _ _))
inductive spGcd (vs:TV) (H:Hp) (Q:VK) (_z3:XK):Prop
 | mk (a b:Int) (zz0:vs=[.int a,.int b]) (zz1:Q (.int (Int.gcd a b:Nat)) H)
theorem Z2d:FnScope ["one","other","rest"] ["one","other"] (defScope fN):=fsc
def muGcd (σ:St)(_:Hp):Nat:=match σ with
 | [_,some (.int y),_]=>y.natAbs
 | _=>0
theorem Bq {y:Int}(h:(!decide (V.int y=V.int 0))=true):y≠0:=by
 intro z;subst z;simp at h
theorem Z06 {y:Int}(h:¬ (!decide (V.int y=V.int 0))=true):y=0:=by
 apply Classical.byContradiction;intro z;apply h;have:¬ V.int y=V.int 0:=λq=>z (V.int.inj q);simp[this]
theorem Z2j (D:Def K mg "common_divisor" fN ["one","other"])(T:Blt mg):Has P w K mg base 1 "common_divisor" ["one","other"] spGcd:=by
 refine D.h9 Z2d λH Q hr h nd=>?_;obtain⟨a,b,rfl,q⟩:=h;refine⟨_,(Z4 (Tc GQ (Zf K7 (pv 1) Z8 (Zl _))
   (Z4 (Zc (i:=2) nd rfl (Or.inl rfl) (Za Bh (pv 0) (pv 1)))
   (Z4 (Zc (i:=0) nd rfl (Or.inl rfl) (pv 1))
   (Zb (Zc (i:=1) nd rfl (Or.inl rfl) (pv 2))))))
  (Zb (Zi (Zg Ss rfl T.abs j3 (Z0 (pv 0) Z3))))),?_⟩
 refine Pe (λσ H'=>H'=H/\∃ (x y:Int) (r:Option V),σ=[some (.int x),some (.int y),r]/\Int.gcd x y=Int.gcd a b) muGcd ⟨rfl,a,b,none,rfl,rfl⟩ ?_
  (λσ H Q Q' f ⟨v,e,e1,k,e3,z⟩=>⟨v,e,e1,k,e3,f _ _ z⟩)
 rintro σ H' ⟨rfl,x,y,r,rfl,hg⟩;refine⟨_,rfl,rfl,_,rfl,?_⟩;refine Qs (λh=>?_) (λh=>?_)
 ·have h':y≠0:=Bq h;refine⟨_,rfl,_,rfl,_,_,rfl,rfl,h',?_⟩;refine⟨_,rfl,_,rfl,⟨rfl,y,x.fmod y,_,rfl,(Gf x y).trans hg⟩,?_⟩;exact Dr x h'
 have h':y=0:=Z06 h;subst h';refine⟨_,rfl,_,rfl,?_⟩;have e:(if x<0 then -x else x)=((Int.gcd a b:Nat):Int):=by
  rw[<-hg];simp;split <;> omega
 rw[e];exact q
inductive spLowest (vs:TV) (H:Hp) (Q:VK) (_z3:XK):Prop
 | mk (p q:Int) (zz0:vs=[.int p,.int q]) (zz1:q≠0) (zz2:q.natAbs.log2<450000) (zz3:∀ a H',H a=none->Same H H'->H' a=some (.tup [.int (nT p q),.int (nB p q)])->Q (.ref a) H')
theorem Fz (D:Def K mg "lowest" gE UB)(eP:Has P w K mg base 1 "common_divisor" ["one","other"] spGcd):Has P w K mg base 2 "lowest" UB spLowest:=by
 refine D.h9 (N:=["top","bottom","divisor"]) fsc λH Q hr h nd=>?_;obtain⟨p,q,rfl,hq,hlog,k⟩:=h;refine⟨_,(Z4 (Zc (i:=2) nd rfl (Or.inl rfl) (Zo eP hr (Z0 (pv 0) (Z0 (pv 1) Z3))))
  (Z4 (Zn (Zy (Zf Wv (pv 1) Z8 (Zl _))
   (Zb (Zc (i:=2) nd rfl (Or.inl rfl) (Fs Mc (pv 2))))
   Zm))
  (Zb (Zi (Xt (Z0 (Za V5 (pv 0) (pv 2)) (Z0 (Za V5 (pv 1) (pv 2)) Z3))))))),?_⟩
 refine⟨_,rfl,_,rfl,_,_,rfl,?_⟩;refine⟨λσ H'=>H'=H/\σ=[some (.int p),some (.int q),some (.int (sg p q))],?_,?_⟩
 ·refine⟨_,rfl,_,_,rfl,rfl,_,rfl,?_⟩;refine Qs (λh=>?_) (λh=>?_)
  ·have h':q<0:=XR h;refine⟨_,rfl,_,rfl,rfl,?_⟩;have e:sg p q=-((Int.gcd p q:Nat):Int):=by unfold sg gI;rw[JD h']
   rw[e];rfl
  have h':¬ q<0:=λz=>h (XD z);refine⟨rfl,?_⟩;have e:sg p q=((Int.gcd p q:Nat):Int):=by unfold sg gI;rw[XQ h']
  rw[e];rfl
 rintro σ H' ⟨rfl,rfl⟩;refine⟨_,rfl,_,rfl,_,_,rfl,rfl,⟨Rb hq,Qd hq hlog⟩,_,rfl,_,rfl,_,_,rfl,rfl,⟨Rb hq,Qd hq hlog⟩,sz2,λa ha=>?_⟩;exact k a _ ha (Same.new ha) Z5
end
section
variable {K:TQ}{H:Hp}{a:Addr}{rs:TW}
theorem RowAt.same {H':Hp}(h:RowAt K H a rs)(S:Same H H'):RowAt K H' a rs:=h.ext (Ext.same S)
end
theorem Kb {c:Nat}(h:c<=1000):(c:Int).natAbs.log2<450000:=by
 have e:(c:Int).natAbs=c:=U
 rw[e];rcases Nat.eq_zero_or_pos c with z | z
 ·subst z;decide
 exact JK (Nat.log2_le_self c) U
theorem Y4 {σ:L2.St}{Q:Option Int->Hp->Prop}(h:Q none H):tNoPart σ H Q:=h
section
variable {P:TR}{w:World}{K:TQ}{mg:TB}{base:Heap}
theorem Jn (D:Def K mg "is_whole" gA ["value"])(T:Blt mg):Has P w K mg base 1 "is_whole" ["value"] spWhole:=by
 refine D.h9 (N:=["value"]) fsc λH Q hr h nd=>?_;obtain⟨i,rfl,q⟩:=h;refine⟨_,(Zb (Zi (Ql (Zg W4 rfl T.isinstance JS (Z0 (pv 0) (Z0 (N4 T.int zq) Z3))) (Ti (Ft (Zg W4 rfl T.isinstance JS (Z0 (pv 0) (Z0 (N4 T.bool Y0K) Z3)))))))),?_⟩;refine⟨_,rfl,_,_,_,_,rfl,TyOf.int i,Nl,_,rfl,Xq ?_⟩;exact⟨_,rfl,_,_,_,_,rfl,TyOf.int i,Vx,_,rfl,q⟩
theorem Fy (D:Def K mg "ratio" gD UB)(eV:Has P w K mg base 1 "is_whole" ["value"] spWhole)(fG:Has P w K mg base 2 "lowest" UB spLowest):Has P w K mg base 3 "ratio" UB spLowest:=by
 refine D.h9 (N:=UB) fsc λH Q hr h nd=>?_;obtain⟨p,q,rfl,hq,hlog,k⟩:=h;refine⟨_,(Z4 (Zy (PW.pt (Yx (Xg (Yr (Zo eV hr (Z0 (pv 0) Z3)))) (Xf (Xg (Yr (Zo eV hr (Z0 (pv 1) Z3)))))))
   (Zb Pz)
   Zm)
  (Z4 (Zy (Zf W2 (pv 1) Z8 (Zl _))
   (Zb Pz)
   Zm)
  (Zb (Zi (Zo fG hr (Z0 (pv 0) (Z0 (pv 1) Z3))))))),?_⟩
 refine⟨_,rfl,p,rfl,_,rfl,Yb ⟨_,rfl,q,rfl,_,rfl,Yb ?_⟩⟩;refine⟨_,rfl,rfl,_,rfl,Dk (λz=>hq (V.int.inj z)) ?_⟩;exact⟨_,rfl,_,rfl,p,q,rfl,hq,hlog,k⟩
end
end Sb
namespace Sb
open PySem PySem.Spec PyProof.Rows L2
section
variable {P:TR}{w:World}{K:TQ}{mg:TB}{base:Heap}
structure BltT (mg:TB):Prop extends Blt mg where
 str:mg "str"=none
 all:mg "all"=none
 set:mg "set"=none
 dict:mg "dict"=none
 sorted:mg "sorted"=none
def shR (r:Rat):PySem.Str:=if r.2=1 then numS r.1 else numS r.1++⟨#[47]⟩++numS r.2
theorem Ul {n:Int}(h:n.natAbs<10 ^ 70):n.natAbs.log2<1920:=by
 by_cases z:n.natAbs=0
 ·rw[z];decide
 exact (Y11 z).mpr (qK h J9)
inductive spShowR (K:TQ) (vs:TV) (H:Hp) (Q:VK) (_z3:XK):Prop
 | mk (a:Addr) (r:Rat) (zz0:vs=[.ref a]) (zz1:SqT K H a [.int r.1,.int r.2]) (zz2:r.1.natAbs<10 ^ 70) (zz3:r.2.natAbs<10 ^ 70) (zz4:Q (.str (shR r)) H)
theorem N6 (D:Def K mg "show_ratio" fR ["one"])(T:BltT mg):Has P w K mg base 1 "show_ratio" ["one"] (spShowR K):=by
 refine D.h9 (N:=["one","top","bottom"]) fsc λH Q hr h nd=>?_;obtain⟨a,r,rfl,hS,h1,h2,q⟩:=h;refine⟨_,(Z4 (Zc (i:=1) nd rfl (Or.inl rfl) (Zq Di (pv 0) Z8 (λ_ _=>rfl)))
  (Z4 (Zc (i:=2) nd rfl (Or.inl rfl) (Zq Dh (pv 0) Z8 (λ_ _=>rfl)))
  (Zb (Zi (Yi (Zf W2 (pv 2) Z8 (Zl _)) (Y1 Xc rfl T.str qF (Z0 (pv 1) Z3)) (Z1h (pv 1) (pv 2))))))),?_⟩
 refine⟨_,rfl,_,_,_,rfl,rfl,hS,?_⟩;refine⟨_,rfl,_,_,_,rfl,rfl,hS,?_⟩;refine⟨_,rfl,rfl,_,rfl,Y7 (λe=>?_) λe=>?_⟩
 ·refine⟨_,rfl,_,rfl,Ul h1,?_⟩;have e':r.2=1:=by simpa [eqV] using e
  have:shR r=numS r.1:=by unfold shR;rw[JD e']
  rw[this] at q;exact q
 have e':¬ r.2=1:=by simpa [eqV] using e
 have:shR r=PySem.Str.empty++numS r.1++⟨#[47]⟩++numS r.2:=by unfold shR;rw[XQ e',Str.empty_append]
 have l1:=(Xm (k:=70) J7 h1).1;have l2:=(Xm (k:=70) J7 h2).1;rw[this] at q;refine⟨_,rfl,_,rfl,Ul h1,?_,_,rfl,_,rfl,Ul h2,?_,q⟩
 ·rw[YF,YF,YX];show 0+(numS r.1).length+1<=_;omega
 rw[YF,YF,YF,YX];show 0+(numS r.1).length+1+(numS r.2).length<=_;omega
inductive spFigs (vs:TV) (H:Hp) (Q:VK) (_z3:XK):Prop
 | mk (n:Int) (zz0:vs=[.str (numS n)]) (zz1:n.natAbs<10 ^ 30) (zz2:∀ H',Same H H'->Q (.int n) H')
theorem Xj:FnScope ["text","figures"] UC (defScope fL):=fsc
theorem R3 (F:Fun K "read_figures" "read_figures" fL f fd)(T:BltT mg)(m_FIGURES:∃ t,mg "FIGURES"=some (.str ⟨#[48,49,50,51,52,53,54,55,56,57]⟩ t))(m_MOST_FIGURES:∃ t,mg "MOST_FIGURES"=some (.int 30 t)):FnOk P w K mg base CX0 1 f fd UC spFigs:=by
 refine F.ok Xj (λvs H Q E h=>?_) (λcdv A outer s H vs Q E hr h=>?_)
 ·obtain⟨n,rfl,_⟩:=h;rfl
 obtain⟨n,rfl,hn,q⟩:=h;have sc:=Xj;obtain⟨_,m_MOST_FIGURES⟩:=m_MOST_FIGURES;obtain⟨tF,m_FIGURES⟩:=m_FIGURES;let s_FIGURES:PySem.Str:=⟨#[48,49,50,51,52,53,54,55,56,57]⟩;have nd1:(["sign"]:TF).Nodup:=J9
 have nd2:(["sign"]:TF).Nodup:=J9
 refine⟨_,(Z4 (Zn (Zc (i:=1) sc.nd rfl (Or.inl rfl) (Yi (Yr (Yg XN jX jY Rp (pv 0) (Z0 Z9 Z3))) (Zz Ve (pv 0) (Zw Z8) Y0) (pv 0))))
  (Z4 (Zy (PW.pt (Yx (Xg (Tb Vt Vt Z8 (Zg Wp rfl T.len JT (Z0 (pv 1) Z3)) (Yf (v:=.int 30) rfl m_MOST_FIGURES ⟨_,rfl⟩))) (Xf (Yr (Zg (Q0 rfl) rfl T.any Y0P (Z0 (Xk (ox:=none) (N:=["sign"]) (k:=1) (fv:=[]) rfl (Mw (pv 1))
  (λ_ _ _ _ _=>Zx (i:=0) nd2 rfl (Or.inl rfl)) (λ_ _ _ _ _=>Yy) (λ_ _ _ _ _=>(Vq Vr (pv 0) (Yf (v:=.str s_FIGURES) rfl m_FIGURES ⟨_,rfl⟩) rfl)) Y6) Z3))))))
   (Zb (Zi Zr))
   Zm)
  (Zb (Zi (Y1 M3 rfl T.int zq (Z0 (pv 0) Z3)))))),?_⟩
 refine⟨λσ' H'=>σ'=[some (.str (numS n)),some (.str (figs n))]/\H'=H,?_,?_⟩
 ·refine⟨_,rfl,rfl,_,_,rfl,rfl,_,rfl,?_⟩;have e:Txt.startswith (numS n) (Str.ofString "-")=decide (n<0):=(Uh (numS n) 45).trans (Js n);rw[e];have ln:=Xm (k:=30) J7 hn;refine Y7 (λe=>?_) λe=>?_
  ·have e:=XR e;refine⟨_,rfl,_,rfl,Y4 ⟨_,some 1,none,rfl,rfl,rfl,?_,U,?_⟩⟩
   ·show min 1 (numS n).length<=min (numS n).length (numS n).length;omega
   show [some (V.str (numS n)),some (V.str (cutS (numS n) (min 1 (numS n).length) (min (numS n).length (numS n).length)))]=_/\H=H;rw[C9 e];exact⟨rfl,rfl⟩
  have e:=GT e;obtain⟨m,rfl⟩:=JB (Int.not_lt.mp e);refine⟨_,rfl,?_⟩;show [some (V.str (numS m)),some (V.str (numS m))]=_/\H=H;rw[Dv];exact⟨rfl,rfl⟩
 rintro _ _ ⟨rfl,rfl⟩;have lf:=Dw (k:=30) J7 hn;refine⟨_,rfl,_,rfl,by rw[YX];omega,_,_,rfl,rfl,_,rfl,?_⟩;rw[XD (show (1:Int)<=((figs n).length:Int) by omega)];refine Xq ⟨_,_,rfl,rfl,_,rfl,?_⟩;rw[XD (show ((figs n).length:Int)<=30 by omega)];refine Yb ?_;show tCB _ _ _ _ _;refine Z0b (P6 ?_);refine Ue (λc=>!decide (c∈s_FIGURES.cps.toList)) (λG g=>⟨_,rfl,g⟩) (Ll n) U (λc H1 G hc g=>?_) λd H2 hd S2 e2=>?_
 ·refine⟨_,rfl,_,_,rfl,rfl,?_⟩;rw[Kj]
  simpa using g
 refine⟨d,_,rfl,SqL.of e2,_,rfl,?_⟩;have e:((figs n).cps.toList.map λc=>!decide (c∈s_FIGURES.cps.toList)).any id=false:=by
  rw[Y0G,Y0g];intro c hc;simp only [Function.comp,id];rw[XD (Z03 (Nu n c hc))]
  decide
 rw[e];refine Yb ?_;have ln:=Xm (k:=30) J7 hn;exact⟨_,rfl,_,n,rfl,Wb (k:=30) J7 hn J7,U,q H2 S2⟩
end
abbrev wordsOf (c:Nat)(z:PySem.Str):List PySem.Str:=Txt.split z ⟨#[c]⟩
theorem Xd (c:Nat)(z:PySem.Str):Str.join ⟨#[c]⟩ (wordsOf c z)=z:=StrLaws.join_split _ _
theorem M9 (c:Nat)(z:PySem.Str):∀ w∈wordsOf c z,c ∉ w.cps.toList:=λv hv=>StrLaws.split_free _ c v hv
theorem Uz (c:Nat)(z:PySem.Str):wordsOf c z≠[]:=λe=>by
 have:=split_pos z ⟨#[c]⟩;rw[show Txt.split z ⟨#[c]⟩=[] from e] at this;exact absurd this J7
theorem R8 (c:Nat)(z:PySem.Str):(wordsOf c z).length<=z.length+2:=split_le _ _
theorem Tz {y:PySem.Str}:∀ {ws:List PySem.Str} {w:PySem.Str},w∈ws->(∀ x∈w.cps.toList,x∈(Str.join y ws).cps.toList)/\w.length<=(Str.join y ws).length
 | [v],w,h=>by
  rw[JA.mp h];exact⟨λx hx=>hx,YO _⟩
 | v::u::ws,w,h=>by
  rw[Xa,YF,YF];rcases YC.mp h with rfl | h
  ·refine⟨λx hx=>?_,U⟩;rw[Z6,Z6];exact XE _ (XE _ hx)
  obtain⟨a,b⟩:=Tz (y:=y) h;refine⟨λx hx=>?_,U⟩;rw[Z6];exact YZ _ (a x hx)
def Asc (z:PySem.Str):Prop:=∀ c∈z.cps.toList,c<128
theorem Asc.all {z:PySem.Str}(h:Asc z):z.cps.all (·<128)=true:=by
 rw[<-Array.all_toList,GG];intro c hc
 simpa using h c hc
theorem Asc.word {c:Nat}{z w:PySem.Str}(h:Asc z)(hw:w∈wordsOf c z):Asc w:=λx hx=>h x (by
 have:=(Tz (y:=⟨#[c]⟩) hw).1 x hx
 rwa [Xd] at this)
theorem Pd {c:Nat}{z w:PySem.Str}(hw:w∈wordsOf c z):w.length<=z.length:=by
 have:=(Tz (y:=⟨#[c]⟩) hw).2
 rwa [Xd] at this
theorem P3:∀ (cs:List Nat) (a:Nat),NumText.AllDigits cs->cs.foldl (λacc c=>acc*10+(c - 48)) a<(a+1)*10 ^ cs.length
 | [],a,_=>J8
 | c::cs,a,h=>by
  have h0:=h c YI;have ih:=P3 cs (a*10+(c - 48)) λx hx=>h x (YG _ hx);rw[jp,YR,Nat.pow_succ];refine YU ih ?_;rw[Y1o (10 ^ cs.length) 10,<-Nat.mul_assoc];exact GB _ U
theorem Z0v {P:TR}{w:World}{base:Heap}{CX:CXT}{k:Nat}{sp':Sp}(F:FnOk P w K mg base CX k f fd ps sp sr)(G:FnOk P w K mg base CX k f fd ps sp' sr) :
  FnOk P w K mg base CX k f fd ps (λvs H Q E=>sp vs H Q E \/ sp' vs H Q E) sr :=
 ⟨λvs H Q E q=>q.elim (F.len vs H Q E) (G.len vs H Q E),λA outer s H args us vs Q E hr he hb hv hs=>hs.elim (F.run A outer s H args us vs Q E hr he hb hv) (G.run A outer s H args us vs Q E hr he hb hv)⟩
section
variable {P:TR}{w:World}{K:TQ}{mg:TB}{base:Heap}
inductive spFigsN (vs:TV) (H:Hp) (Q:VK) (_z3:XK):Prop
 | mk (z:PySem.Str) (zz0:vs=[.str z]) (zz1:Asc z) (zz2:z.length<=1000) (zz3:∀ H',Same H H'->Q .non H') (zz4:∀ (n:Int) H',n.natAbs<10 ^ 30->Same H H'->Q (.int n) H')
theorem Sf {f:Addr}{fd:FuncData}(F:Fun K "read_figures" "read_figures" fL f fd)(T:BltT mg)(m_FIGURES:∃ t,mg "FIGURES"=some (.str ⟨#[48,49,50,51,52,53,54,55,56,57]⟩ t))(m_MOST_FIGURES:∃ t,mg "MOST_FIGURES"=some (.int 30 t)):FnOk P w K mg base CX0 1 f fd UC spFigsN:=by
 refine F.ok Xj (λvs H Q E h=>?_) (λcdv A outer s H vs Q E hr h=>?_)
 ·obtain⟨n,rfl,_⟩:=h;rfl
 obtain⟨z,rfl,ha,hl,qn,qi⟩:=h;have sc:=Xj;obtain⟨_,m_MOST_FIGURES⟩:=m_MOST_FIGURES;obtain⟨tF,m_FIGURES⟩:=m_FIGURES;let s_FIGURES:PySem.Str:=⟨#[48,49,50,51,52,53,54,55,56,57]⟩;have nd1:(["sign"]:TF).Nodup:=J9
 have nd2:(["sign"]:TF).Nodup:=J9
 refine⟨_,(Z4 (Zn (Zc (i:=1) sc.nd rfl (Or.inl rfl) (Yi (Yr (Yg XN jX jY Rp (pv 0) (Z0 Z9 Z3))) (Zz Ve (pv 0) (Zw Z8) Y0) (pv 0))))
  (Z4 (Zy (PW.pt (Yx (Xg (Tb Vt Vt Z8 (Zg Wp rfl T.len JT (Z0 (pv 1) Z3)) (Yf (v:=.int 30) rfl m_MOST_FIGURES ⟨_,rfl⟩))) (Xf (Yr (Zg (Q0 rfl) rfl T.any Y0P (Z0 (Xk (ox:=none) (N:=["sign"]) (k:=1) (fv:=[]) rfl (Mw (pv 1))
  (λ_ _ _ _ _=>Zx (i:=0) nd2 rfl (Or.inl rfl)) (λ_ _ _ _ _=>Yy) (λ_ _ _ _ _=>(Vq Vr (pv 0) (Yf (v:=.str s_FIGURES) rfl m_FIGURES ⟨_,rfl⟩) rfl)) Y6) Z3))))))
   (Zb (Zi Zr))
   Zm)
  (Zb (Zi (Y1 M3 rfl T.int zq (Z0 (pv 0) Z3)))))),?_⟩
 refine⟨λσ' H'=>∃ y:PySem.Str,σ'=[some (.str z),some (.str y)]/\H'=H/\(z.cps.toList=45::y.cps.toList \/ z=y),?_,?_⟩
 ·refine⟨_,rfl,rfl,_,_,rfl,rfl,_,rfl,?_⟩;have e:Txt.startswith z (Str.ofString "-")=decide (z.cps.toList[0]?=some 45):=Uh z 45;rw[e];refine Y7 (λe=>?_) λe=>?_
  ·have e:=XR e;obtain⟨cs,hz⟩:∃ cs,z.cps.toList=45::cs:=by
    cases h:z.cps.toList with
    | nil=>rw[h] at e;cases e
    | cons a cs =>
     rw[h] at e;simp at e;exact⟨cs,by rw[e]⟩
   have lz:z.length=cs.length+1:=by rw[Ze,hz];rfl
   refine⟨_,rfl,_,rfl,Y4 ⟨_,some 1,none,rfl,rfl,rfl,?_,U,?_⟩⟩
   ·show min 1 z.length<=min z.length z.length;omega
   refine⟨_,rfl,rfl,.inl ?_⟩;show _=45::(z.cps.toList.drop (min 1 z.length)).take (min z.length z.length - min 1 z.length);rw[hz,lz,jW,JQ (show 1<=cs.length+1 by omega),jf,zS,JF U]
  exact⟨_,rfl,z,rfl,rfl,.inr rfl⟩
 rintro _ Hx ⟨y,rfl,hx,hy⟩;rw[hx];have ly:y.length<=z.length:=by
  rcases hy with hy | hy
  ·have:z.length=y.length+1:=by rw[Ze,hy,Ze];rfl
   omega
  rw[hy];exact YO _
 have ay:Asc y:=λc hc=>by
  rcases hy with hy | hy
  ·exact ha c (by rw[hy];exact YG _ hc)
  rw[hy] at ha;exact ha c hc
 refine⟨_,rfl,_,rfl,by rw[YX];omega,_,_,rfl,rfl,_,rfl,?_⟩;refine Y7 (λe1=>⟨_,_,rfl,rfl,_,rfl,?_⟩) λe1=>?_
 ·by_cases h30:(y.length:Int)<=30
  ·rw[XD h30];refine Yb ?_;show tCB _ _ _ _ _;refine Z0b (P6 ?_);refine Ue (λc=>!decide (c∈s_FIGURES.cps.toList)) (λG g=>⟨_,rfl,g⟩) ay.all U (λc H1 G hc g=>?_) λd H2 hd S2 e2=>?_
   ·refine⟨_,rfl,_,_,rfl,rfl,?_⟩;rw[Kj]
    simpa using g
   refine⟨d,_,rfl,SqL.of e2,_,rfl,?_⟩;refine Y7 (λe=>qn H2 S2) λe=>?_;have e1:=XR e1;have hall:NumText.AllDigits y.cps.toList:=λc hc=>by
    rw[Y0G,Y0g] at e;have:=e c hc;simp only [Function.comp,id] at this;have h:c∈s_FIGURES.cps.toList:=by simpa using this
    have h:c∈[48,49,50,51,52,53,54,55,56,57]:=h;simp at h;show 48<=c/\c<=57;omega
   have hl1:1<=y.cps.toList.length:=by rw[<-Ze];omega
   have hl2:y.cps.toList.length<=30:=by rw[<-Ze];omega
   have hne:y.cps.toList≠[]:=λz=>by rw[z] at hl1;exact absurd hl1 J7
   have hv:NumText.digitsVal y.cps.toList<10 ^ 30:=by
    have:=P3 y.cps.toList 0 hall;rw[Nat.zero_add,Nat.one_mul] at this;exact YU this (Nat.pow_le_pow_right J7 hl2)
   rcases hy with hy | hy
   ·exact⟨_,rfl,_,-((NumText.digitsVal y.cps.toList:Nat):Int),rfl,intText_neg hy hall hne U,by
     have:z.length=y.length+1:=by rw[Ze,hy,Ze];rfl
     omega,qi _ H2 U S2⟩
   subst hy;exact⟨_,rfl,_,((NumText.digitsVal z.cps.toList:Nat):Int),rfl,intText_digits hall hne U,U,qi _ H2 U S2⟩
  rw[XI h30];exact Xq (qn H (Same.refl _))
 exact⟨_,rfl,Xq (qn H (Same.refl _))⟩
theorem Tp (D:Def K mg "read_figures" fL UC)(T:BltT mg)(m_FIGURES:∃ t,mg "FIGURES"=some (.str ⟨#[48,49,50,51,52,53,54,55,56,57]⟩ t))(m_MOST_FIGURES:∃ t,mg "MOST_FIGURES"=some (.int 30 t)):Has P w K mg base 1 "read_figures" UC (λvs H Q E=>spFigs vs H Q E \/ spFigsN vs H Q E) :=
 D.has λ_ _ F=>Z0v (R3 F T m_FIGURES m_MOST_FIGURES) (Sf F T m_FIGURES m_MOST_FIGURES)
end
theorem U6 {n:Int}:47 ∉ (numS n).cps.toList:=λh=>by
 have:=Xv h;omega
theorem Tk {r:Rat}:∃ y w,partP (shR r) ⟨#[47]⟩=[numS r.1,y,w]/\((y=(⟨#[47]⟩:PySem.Str)/\w=numS r.2) \/ (y=Str.empty/\r.2=1)):=by
 by_cases h:r.2=1
 ·exact⟨_,_,by unfold shR;rw[JD h,Rj U6],.inr ⟨rfl,h⟩⟩
 exact⟨_,_,by unfold shR;rw[XQ h,Ri U6],.inl ⟨rfl,rfl⟩⟩
theorem Xz {r:Rat}{k:Nat}(hk:1<=k)(h1:r.1.natAbs<10 ^ k)(h2:r.2.natAbs<10 ^ k):(shR r).length<=2*k+3:=by
 have l1:=(Xm hk h1).1;have l2:=(Xm hk h2).1;unfold shR;split
 ·omega
 rw[YF,YF];show (numS r.1).length+1+(numS r.2).length<=_;omega
section
variable {P:TR}{w:World}{K:TQ}{mg:TB}{base:Heap}
structure Fit30 (r:Rat):Prop where
 pos:0<r.2
 gcd:Int.gcd r.1 r.2=1
 b1:r.1.natAbs<10 ^ 30
 b2:r.2.natAbs<10 ^ 30
theorem Ka {n:Int}(h:n.natAbs<10 ^ 30):n.natAbs.log2<450000:=by
 by_cases z:n.natAbs=0
 ·rw[z];decide
 exact qK ((Y11 z).mpr (qK h (show 10 ^ 30<2 ^ 100 by decide +kernel))) J7
theorem Fw (z:PySem.Str):∃ a y w,partP z ⟨#[47]⟩=[a,y,w]/\((y=(⟨#[47]⟩:PySem.Str)/\z=a++⟨#[47]⟩++w) \/ (y=Str.empty/\z=a)):=by
 by_cases h:47∈z.cps.toList
 ·obtain⟨l,r,e,hl⟩:∃ l r,z.cps.toList=l++47::r/\47 ∉ l:=by
   generalize z.cps.toList=cs at h
   induction cs with
   | nil=>cases h
   | cons c cs ih =>
    by_cases hc:c=47
    ·exact⟨[],cs,by rw[hc];rfl,J8⟩
    rcases YC.mp h with h | h
    ·exact absurd h.symm hc
    obtain⟨l,r,e,hl⟩:=ih h;exact⟨c::l,r,by rw[e];rfl,λq=>by rcases YC.mp q with q | q;exact hc q.symm;exact hl q⟩
  have ez:z=(⟨l.toArray⟩:PySem.Str)++⟨#[47]⟩++⟨r.toArray⟩:=Zu (by rw[Z6,Z6,e];simp);exact⟨⟨l.toArray⟩,_,⟨r.toArray⟩,by rw[ez];exact Ri (by simpa using hl),.inl ⟨rfl,ez⟩⟩
 exact⟨z,_,_,Rj h,.inr ⟨rfl,rfl⟩⟩
theorem Du {p q:Int}(hq:q≠0)(h1:p.natAbs<10 ^ 30)(h2:q.natAbs<10 ^ 30):Fit30 (nrm p q) :=
 ⟨Qr hq,D8 hq,JK (Z0s hq) h1,JK (Z0t hq) h2⟩
def NumV (v:V):Prop:=v=.non \/ ∃ n:Int,v=.int n/\n.natAbs<10 ^ 30
inductive spReadRG (vs:TV) (H:Hp) (Q:VK) (_z3:XK):Prop
 | mk (z:PySem.Str) (zz0:vs=[.str z]) (zz1:Asc z) (zz2:z.length<=1000) (zz3:∀ r,Fit30 r->z=shR r->∀ a H',Same H H'->H' a=some (.tup [.int r.1,.int r.2])->Q (.ref a) H') (zz4:(∀ r,Fit30 r->z≠shR r)->∀ H',Same H H'->Q .non H')
theorem Qm (D:Def K mg "read_ratio" fS UC)(eK:Has P w K mg base 1 "read_figures" UC (λvs H Q E=>spFigs vs H Q E \/ spFigsN vs H Q E))(fK:Has P w K mg base 3 "ratio" UB spLowest)(eW:Has P w K mg base 1 "show_ratio" ["one"] (spShowR K)):Has P w K mg base 4 "read_ratio" UC spReadRG:=by
 refine D.h9 (N:=["text","parts","top","bottom","one"]) fsc λH Q hr h nd=>?_;obtain⟨z,rfl,ha,hl,qA,qN⟩:=h;refine⟨_,(Z4 (Zc (i:=1) nd rfl (Or.inl rfl) (Yg XN PySem.F.slot_str_partition PySem.F.type_str_partition Ju (pv 0) (Z0 Z9 Z3)))
  (Z4 (Zn (Zc (i:=2) nd rfl (Or.inl rfl) (Zo eK hr (Z0 (Zq Ye (pv 1) Z8 (λ_ _=>rfl)) Z3))))
  (Z4 (Zn (Zc (i:=3) nd rfl (Or.inl rfl) (Yi (Zf W2 (Zq Ye (pv 1) Z8 (λ_ _=>rfl)) Z9 (Zl _)) (Zo eK hr (Z0 (Zq Ye (pv 1) Z8 (λ_ _=>rfl)) Z3)) Z8)))
  (Z4 (Zy (PW.pt (Yx (Zf Xu (pv 2) Zr (Zl _)) (Yx (Zf Xu (pv 3) Zr (Zl _)) (Xf (Zf W2 (pv 3) Z8 (Zl _))))))
   (Zb (Zi Zr))
   Zm)
  (Z4 (Zc (i:=4) nd rfl (Or.inl rfl) (Zo fK hr (Z0 (pv 2) (Z0 (pv 3) Z3))))
  (Zb (Zi (Yi (Zf W2 (Zo eW hr (Z0 (pv 4) Z3)) (pv 0) (Zl _)) (pv 4) Zr)))))))),?_⟩
 by_cases hA:∃ r,Fit30 r/\z=shR r
 ·obtain⟨r,hr',rfl⟩:=hA;obtain⟨y,w',hp,hc⟩:=Tk (r:=r);have ln:=Xz (k:=30) J7 hr'.b1 hr'.b2;refine⟨_,rfl,rfl,_,_,rfl,rfl,rfl,U,λp f1=>?_⟩;have hp:partP (shR r) (Str.ofString "/")=[numS r.1,y,w']:=hp;rw[hp];refine⟨λσ' H'=>σ'=[some (.str (shR r)),some (.ref p),some (.int r.1),none,none]/\Same H H'/\H' p=some (.tup [.str (numS r.1),.str y,.str w']),?_,?_⟩
  ·refine⟨_,rfl,_,_,_,_,rfl,rfl,SqT.of Z5,rfl,?_⟩;exact .inl ⟨_,rfl,hr'.b1,λH2 S2=>⟨rfl,(Same.new f1).trans S2,S2 _ _ Z5⟩⟩
  rintro _ H2 ⟨rfl,S3,ep⟩;refine⟨λσ' H'=>σ'=[some (.str (shR r)),some (.ref p),some (.int r.1),some (.int r.2),none]/\Same H H',?_,?_⟩
  ·refine⟨_,rfl,_,_,_,_,rfl,rfl,SqT.of ep,rfl,rfl,_,rfl,?_⟩;refine Y7 (λe=>?_) λe=>?_
   ·rcases hc with ⟨rfl,rfl⟩ | ⟨rfl,e1⟩
    ·refine⟨_,rfl,_,_,_,_,rfl,rfl,SqT.of ep,rfl,?_⟩;exact .inl ⟨_,rfl,hr'.b2,λH5 S5=>⟨rfl,S3.trans S5⟩⟩
    exact absurd e J7
   rcases hc with ⟨rfl,rfl⟩ | ⟨rfl,e1⟩
   ·exact absurd e J7
   show [some (V.str (shR r)),some (V.ref p),some (V.int r.1),some (V.int 1),none]=_/\Same H H2;rw[e1];exact⟨rfl,S3⟩
  rintro _ H4 ⟨rfl,S4⟩;refine⟨_,rfl,rfl,_,rfl,Yb ?_⟩;refine⟨_,rfl,rfl,_,rfl,Yb ?_⟩;refine⟨_,rfl,rfl,_,rfl,Dk (λz=>by have:=V.int.inj z;have:=hr'.pos;omega) ?_⟩;refine⟨_,rfl,_,rfl,_,_,rfl,by have:=hr'.pos;omega,Ka hr'.b2,λa H5 f5 S5 e5=>?_⟩;have hN:nrm r.1 r.2=r:=D4 hr'.pos hr'.gcd;have e5:H5 a=some (.tup [.int r.1,.int r.2]):=by
   rw[e5,show nT r.1 r.2=r.1 from congrArg Prod.fst hN,show nB r.1 r.2=r.2 from congrArg Prod.snd hN]
  have up:∀ {n:Int},n.natAbs<10 ^ 30->n.natAbs<10 ^ 70:=λh=>qK h J9;refine⟨_,rfl,a,r,rfl,SqT.of e5,up hr'.b1,up hr'.b2,_,rfl,rfl,_,rfl,?_⟩;refine Y7 (λe=>?_) λe=>?_
  ·exact⟨_,rfl,qA r hr' rfl a H5 (S4.trans S5) e5⟩
  exact absurd e (by simp[eqV])
 have hN:∀ r,Fit30 r->z≠shR r:=λr h e=>hA ⟨r,h,e⟩;have qN:=qN hN;obtain⟨a,y,w',hp,hc⟩:=Fw z;have hsub:(Asc a/\a.length<=1000)/\(y=(⟨#[47]⟩:PySem.Str)->Asc w'/\w'.length<=1000):=by
  rcases hc with ⟨rfl,e⟩ | ⟨rfl,e⟩
  ·have l:z.length=a.length+1+w'.length:=by rw[e,YF,YF];rfl
   refine⟨⟨λc h=>ha c ?_,U⟩,λ_=>⟨λc h=>ha c ?_,U⟩⟩
   ·rw[e,Z6,Z6];exact XE _ (XE _ h)
   rw[e,Z6,Z6];exact YZ _ h
  subst e;exact⟨⟨ha,hl⟩,λh=>absurd h J7⟩
 refine⟨_,rfl,rfl,_,_,rfl,rfl,rfl,U,λp f1=>?_⟩;have hp:partP z (Str.ofString "/")=[a,y,w']:=hp;rw[hp];refine⟨λσ' H'=>∃ v,σ'=[some (.str z),some (.ref p),some v,none,none]/\Same H H'/\H' p=some (.tup [.str a,.str y,.str w'])/\NumV v,?_,?_⟩
 ·refine⟨_,rfl,_,_,_,_,rfl,rfl,SqT.of Z5,rfl,?_⟩;exact .inr ⟨a,rfl,hsub.1.1,hsub.1.2,λH2 S2=>⟨_,rfl,(Same.new f1).trans S2,S2 _ _ Z5,.inl rfl⟩,λn H2 hn S2=>⟨_,rfl,(Same.new f1).trans S2,S2 _ _ Z5,.inr ⟨n,rfl,hn⟩⟩⟩
 rintro _ H2 ⟨v,rfl,S2,e2,hv⟩;refine⟨λσ' H'=>∃ u,σ'=[some (.str z),some (.ref p),some v,some u,none]/\Same H H'/\NumV u,?_,?_⟩
 ·refine⟨_,rfl,_,_,_,_,rfl,rfl,SqT.of e2,rfl,rfl,_,rfl,?_⟩;refine Y7 (λe=>?_) λe=>⟨_,rfl,S2,.inr ⟨1,rfl,J9⟩⟩;have ey:y=(⟨#[47]⟩:PySem.Str):=by
   have:=XR e;exact V.str.inj this
  obtain⟨aw,lw⟩:=hsub.2 ey;refine⟨_,rfl,_,_,_,_,rfl,rfl,SqT.of e2,rfl,?_⟩;exact .inr ⟨w',rfl,aw,lw,λH3 S3=>⟨_,rfl,S2.trans S3,.inl rfl⟩,λn H3 hn S3=>⟨_,rfl,S2.trans S3,.inr ⟨n,rfl,hn⟩⟩⟩
 rintro _ H3 ⟨u,rfl,S3,hu⟩;refine⟨_,rfl,rfl,_,rfl,Y7 (λe=>qN H3 S3) λe=>?_⟩;obtain⟨n,rfl,hn⟩:∃ n:Int,v=.int n/\n.natAbs<10 ^ 30:=hv.resolve_left (by simpa using e);refine⟨_,rfl,rfl,_,rfl,Y7 (λe=>qN H3 S3) λe=>?_⟩;obtain⟨m,rfl,hm⟩:∃ n:Int,u=.int n/\n.natAbs<10 ^ 30:=hu.resolve_left (by simpa using e);refine⟨_,rfl,rfl,_,rfl,Y7 (λe=>qN H3 S3) λe=>?_⟩;have hm0:m≠0:=λz=>by
  have:=GT e;exact this (by rw[z])
 refine⟨_,rfl,_,rfl,_,_,rfl,hm0,Ka hm,λb H5 f5 S5 e5=>?_⟩;have fit:=Du hm0 hn hm;have up:∀ {n:Int},n.natAbs<10 ^ 30->n.natAbs<10 ^ 70:=λh=>qK h J9;refine⟨_,rfl,b,nrm n m,rfl,SqT.of e5,up fit.b1,up fit.b2,_,rfl,rfl,_,rfl,?_⟩;refine Y7 (λe=>?_) λe=>?_
 ·exact absurd (V.str.inj (XR e)).symm (hN _ fit)
 exact qN H5 (S3.trans S5)
structure NameOk (z:PySem.Str):Prop where
 l1:1<=z.length
 l2:z.length<=8
 az:∀ c∈z.cps.toList,97<=c/\c<=122
inductive spIsNameG (vs:TV) (H:Hp) (Q:VK) (_z3:XK):Prop
 | mk (z:PySem.Str) (zz0:vs=[.str z]) (zz1:Asc z) (zz2:z.length<=1000) (zz3:∀ b H',(b=true ↔ NameOk z)->Same H H'->Q (.bl b) H')
theorem Jo (D:Def K mg "is_name" gF UC)(T:BltT mg)(m_MOST_LETTERS:∃ t,mg "MOST_LETTERS"=some (.int 8 t)):Has P w K mg base 1 "is_name" UC spIsNameG:=by
 refine D.h9 (N:=UC) fsc λH Q hr h nd=>?_;obtain⟨z,rfl,ha,hl,q⟩:=h;obtain⟨_,m_MOST_LETTERS⟩:=m_MOST_LETTERS;have nd1:(["sign"]:TF).Nodup:=J9
 refine⟨_,(Zb (Zi (Ql (N5 Vt Vt Z8 (Zg Wp rfl T.len JT (Z0 (pv 0) Z3)) (Yf (v:=.int 8) rfl m_MOST_LETTERS ⟨_,rfl⟩)) (Ti (Zg (Q1 (K:=K) rfl) rfl T.all Y0Q (Z0 (Xk (ox:=none) (N:=["sign"]) (k:=1) (fv:=[]) rfl (Mw (pv 0))
  (λ_ _ _ _ _=>Zx (i:=0) nd1 rfl (Or.inl rfl)) (λ_ _ _ _ _=>Yy) (λ_ _ _ _ _=>(N5 Rk Rk Z9 (pv 0) Z9)) Y6) Z3)))))),?_⟩
 refine⟨_,rfl,_,rfl,by rw[YX];omega,_,_,rfl,rfl,_,rfl,?_⟩;refine Y7 (λe1=>?_) λe1=>?_
 ·have e1:(1:Int)<=(z.length:Int):=XR e1;refine⟨_,_,rfl,rfl,?_⟩;by_cases e2:(z.length:Int)<=8
  ·rw[XD e2];refine⟨_,rfl,Xq (Z0b (P6 ?_))⟩;refine Ue (λc=>decide (97<=c) && decide (c<=122)) (λG g=>⟨_,rfl,g⟩) ha.all U (λc H1 G hc g=>?_) λd H2 hd S2 e2'=>?_
   ·have e3:(!decide (([c]:List Nat)<[97]))=decide (97<=c):=by
     have:([c]:List Nat)<[97] ↔ ¬ 97<=c:=by
      rw[Y0R];constructor
      ·rintro (h | ⟨_,h⟩)
       ·omega
       cases h
      intro h;exact .inl U
     rw[decide_eq_decide.mpr this,decide_not,Bool.not_not]
    have e4:(!decide (([122]:List Nat)<[c]))=decide (c<=122):=by
     have:([122]:List Nat)<[c] ↔ ¬ c<=122:=by
      rw[Y0R];constructor
      ·rintro (h | ⟨_,h⟩)
       ·omega
       cases h
      intro h;exact .inl U
     rw[decide_eq_decide.mpr this,decide_not,Bool.not_not]
    refine⟨_,rfl,_,_,rfl,rfl,_,rfl,?_⟩;show if (!decide (([c]:List Nat)<[97]))=true then _ else _
    rw[e3];refine Y7 (λh=>⟨_,_,rfl,rfl,?_⟩) λh=>?_
    ·show G (.bl (!decide (([122]:List Nat)<[c]))) _;rw[e4];rw[h,Bool.true_and] at g;exact g
    rw[h,Bool.false_and] at g;exact g
   refine⟨d,_,rfl,SqL.of e2',?_⟩;refine q _ H2 ?_ S2;rw[Y1n,GG];constructor
   ·intro h;exact⟨U,U,λc hc=>by simpa using h c hc⟩
   intro h c hc
   simpa using h.az c hc
  rw[XI e2];refine⟨_,rfl,Yb ?_⟩;exact q false H ⟨λh=>(by cases h),λh=>absurd h.l2 U⟩ (Same.refl _)
 have e1:¬ (1:Int)<=(z.length:Int):=GT e1;refine⟨_,rfl,Yb ?_⟩;exact q false H ⟨λh=>(by cases h),λh=>absurd h.l1 U⟩ (Same.refl _)
end
theorem Nz {α:Type}{l:Addr}{zs:List α}{gi:α->V}{k:Nat}{fv:List Nat}{σ:L2.St}{Q:VK}(R:Hp->α->V->Prop)(hext:∀ H1 H2 z v,Ext H1 H2->R H1 z v->R H2 z v)
  (htl:∀ G:VK,G (.ref l) H->tl σ H G) (hl:SqL K H l (zs.map gi)) (hz:zs.length<=1000)
  (elt:∀ (i:Nat) (z:α) (H1:Hp) (G:VK),zs[i]?=some z->Same H H1->(∀ v H2,Same H1 H2->R H2 z v->G v H2)->te ((comp0 k fv σ).set 0 (some (gi z))) H1 G)
  (fin:∀ (d:Addr) (H2:Hp) (ys:TV),H d=none->Same H H2->H2 d=some (.lst ys)->Paired (R H2) zs ys->Q (.ref d) H2) :
  tComp (iList K tl) (gName 0) tYes te k fv σ H Q:=by
 refine htl _ ⟨l,rfl,⟨_,hl⟩,λd hd=>?_⟩;refine⟨zs.length,λi ys H2=>Same H H2/\Paired (R H2) (zs.take i) ys,XV hz J7,⟨Same.new hd,by simpa using Paired.nil⟩,?_,?_⟩
 ·rintro i ys H2 hi ⟨S2,P2⟩ hd2;have hl2:=Yc S2 hl;have ez:zs[i]?=some zs[i]:=by simp[hi]
  generalize zs[i]=z at ez;have ex:(zs.map gi)[i]?=some (gi z):=by rw[YQ,ez];rfl
  refine⟨⟨_,gi z,hl2,ex⟩,?_⟩;rintro x H3 ⟨rfl,fx⟩;have e:=fx _ hl2;rw[ex] at e
  cases e;refine W3 ?_;refine elt i z H3 _ ez S2 λv H4 S4 r4=>?_;have hd4:=S4 _ _ hd2;have E5:Ext H4 (upd H4 d (.lst (ys++[v]))):=Ext.upd hd4;refine⟨hd4,Xe (S2.trans S4) hd,?_⟩;rw[Y9 ez];exact Paired.appP (Paired.mapP P2 λz v h=>hext _ _ _ _ ((Ext.same S4).trans E5) h) (.cons (hext _ _ _ _ E5 r4) .nil)
 rintro ys H2 ⟨S2,P2⟩ hd2;rw[JR] at P2;exact⟨⟨_,Yc S2 hl,J8⟩,fin d H2 ys hd S2 hd2 P2⟩
inductive RatV (K:TQ) (H:Hp) (z:PySem.Str) (v:V):Prop
 | some (r:Rat) (f:Fit30 r) (e:z=shR r) (h:IsR K H r v)
 | none (n:∀ r,Fit30 r->z≠shR r) (h:v=.non)
theorem Fl {K:TQ}:∀ H1 H2 z v,Ext H1 H2->RatV K H1 z v->RatV K H2 z v:=λ_ _ _ _ E h=>by
 cases h with
 | some r f e h=>exact .some r f e (h.ext E)
 | none n h=>exact .none n h
theorem Pt {K:TQ}{H:Hp}:∀ {zs:List PySem.Str} {ys:TV},Paired (RatV K H) zs ys->V.non ∉ ys->∃ rs:List Rat,zs=rs.map shR/\(∀ r∈rs,Fit30 r)/\Rs K H rs ys
 | _,_,.nil,_=>⟨[],rfl,(λ_ h=>nomatch h),.nil⟩
 | _,_,.cons h t,hn=>by
  obtain⟨rs,e,hf,hR⟩:=Pt t λq=>hn (YG _ q)
  cases h with
  | some r f e' h =>
   refine⟨r::rs,by rw[e,e'];rfl,λx hx=>?_,.cons h hR⟩;rcases YC.mp hx with rfl | hx
   ·exact f
   exact hf x hx
  | none n h=>exact absurd (h ▸ YI) hn
theorem K1 {K:TQ}{H:Hp}:∀ {zs:List PySem.Str} {ys:TV},Paired (RatV K H) zs ys->V.non∈ys->¬ ∃ rs:List Rat,zs=rs.map shR/\∀ r∈rs,Fit30 r
 | _,_,.nil,h,_=>by cases h
 | _,_,.cons h t,hn,⟨rs,e,hf⟩=>by
  cases rs with
  | nil=>cases e
  | cons r rs =>
   rw[YT] at e;injection e with e1 e2
   rcases YC.mp hn with q | q
   ·cases h with
    | some r f e' h =>
     obtain⟨a,e,_⟩:=h;rw[e] at q
     cases q
    | none n h=>exact n r (hf r YI) e1
   exact K1 t q ⟨rs,e2,λx hx=>hf x (YG _ hx)⟩
theorem Rg {K:TQ}{H:Hp}:∀ {zs:List PySem.Str} {ys:TV},Paired (RatV K H) zs ys->∀ z∈ys,z=.non \/ ∃ c zs,z=.ref c/\SqT K H c zs
 | _,_,.nil,z,hz=>by cases hz
 | _,_,.cons h t,z,hz=>by
  rcases YC.mp hz with rfl | hz
  ·cases h with
   | some r f e' h =>
    obtain⟨a,e,q⟩:=h;exact .inr ⟨a,_,e,q⟩
   | none n h=>exact .inl h
  exact Rg t z hz
section
variable {P:TR}{w:World}{K:TQ}{mg:TB}{base:Heap}
inductive spReadRowG (K:TQ) (vs:TV) (H:Hp) (Q:VK) (_z3:XK):Prop
 | mk (p:Addr) (ws:List PySem.Str) (zz0:vs=[.ref p]) (zz1:SqL K H p (ws.map V.str)) (zz2:∀ w∈ws,Asc w/\w.length<=1000) (zz3:ws.length<=1000) (zz4:∀ rs:List Rat,ws=rs.map shR->(∀ r∈rs,Fit30 r)->∀ a H',Same H H'->RowAt K H' a rs->Q (.ref a) H') (zz5:(¬ ∃ rs:List Rat,ws=rs.map shR/\∀ r∈rs,Fit30 r)->∀ H',Same H H'->Q .non H')
theorem Mz (D:Def K mg "read_row" f6 UD)(T:BltT mg)(eJ:Has P w K mg base 4 "read_ratio" UC spReadRG):Has P w K mg base 5 "read_row" UD (spReadRowG K):=by
 refine D.h9 (N:=["words","worths"]) fsc λH Q hr h nd=>?_;obtain⟨p,ws,rfl,hS,hw,hn,qA,qN⟩:=h;have hU1:=JK (jq (show 1<=64 by decide) _) hr.units;have nd1:(["word"]:TF).Nodup:=J9
 refine⟨_,(Z4 (Qh (i:=1) (ox:=none) (N:=["word"]) (k:=1) (fv:=[]) nd rfl (Or.inl rfl) rfl (Wl (pv 0))
  (λ_ _ _ _ _=>Zx (i:=0) nd1 rfl (Or.inl rfl)) (λ_ _ _ _ _=>Yy) (λ_ _ _ _ _=>(Zo eJ hr (Z0 (pv 0) Z3))) Y6)
  (Zb (Zi (Yi (Zf (Z1j (K:=K) hU1) Zr (pv 1) rfl) Zr (Y1 Yo rfl T.tuple qu (Z0 (pv 1) Z3)))))),?_⟩
 refine Z0l (Z0x ?_);refine Nz (RatV K) Fl (λG g=>⟨_,rfl,g⟩) hS hn (λi z H1 G ez S1 g=>?_) λd H2 ys hd S2 e2 pr=>?_
 ·have hz:=hw z (YV ez);exact⟨_,rfl,z,rfl,hz.1,hz.2,λr f e a H3 S3 e3=>g _ H3 S3 (.some r f e ⟨a,rfl,SqT.of e3⟩),λn H3 S3=>g _ H3 S3 (.none n rfl)⟩
 refine⟨_,rfl,_,_,rfl,rfl,SqL.of e2,Rg pr,_,rfl,?_⟩;by_cases h:V.non∈ys
 ·rw[XD h];exact Xq (qN (K1 pr h) H2 S2)
 rw[XI h];obtain⟨rs,e,hf,hR⟩:=Pt pr h;have lp:=qO pr;exact Yb ⟨_,rfl,_,_,rfl,.inl ⟨SqL.of e2,λl hl=>qA rs e hf l _ (S2.trans (Same.new hl)) ⟨_,SqT.of Z5,hR.ext (Ext.new hl)⟩⟩⟩
end
theorem V7 {α:Type}[DecidableEq α]:∀ {l m:List α},l.Nodup->(∀ x∈l,x∈m)->l.length<=m.length
 | [],_,_,_=>JU _
 | x::l,m,nd,h=>by
  have hx:=h x YI;have:=V7 (l:=l) (m:=m.erase x) nd.tail λy hy=>by
   refine (Y12 λz=>?_).mpr (h y (YG _ hy));exact (zj.mp nd).1 (z ▸ hy)
  rw[Y0r hx] at this;have:=List.length_pos_of_mem hx;rw[YR];omega
theorem Vf {α:Type}[DecidableEq α]:∀ {l m:List α},l.Nodup->(∀ x∈l,x∈m)->m.length<=l.length->l.Perm m
 | [],m,_,_,hl=>by
  rw[qp (show m.length=0 by simpa using hl)]
 | x::l,m,nd,h,hl=>by
  have hx:=h x YI;have:=Vf (l:=l) (m:=m.erase x) nd.tail (λy hy=>by
   refine (Y12 λz=>?_).mpr (h y (YG _ hy));exact (zj.mp nd).1 (z ▸ hy)) (by rw[Y0r hx];rw[YR] at hl;omega)
  exact (this.cons x).trans (List.perm_cons_erase hx).symm
theorem Wx (z:PySem.Str)(ns:List PySem.Str):inV (.str z) (ns.map V.str)=decide (z∈ns):=by
 unfold inV;rw[Y0G,GS];simp only [List.any_eq_true,GZ,Function.comp];constructor
 ·rintro ⟨x,hx,e⟩;have:x=z:=by simpa [eqV] using e
  exact this ▸ hx
 intro h;exact⟨z,h,by simp[eqV]⟩
theorem Yu (ns:List PySem.Str):(ns.map V.str).all flatV=true:=by
 rw[Y1n,GG];intro x _;rfl
theorem Qv {ns:List PySem.Str}{z:PySem.Str}(h:z∈ns):ns[ns.idxOf z]?=some z/\(∀ m,m<ns.idxOf z->ns[m]?≠some z):=by
 have hl:=qQ.mpr h;refine⟨by rw[XY hl,Y1l hl],λm hm e=>?_⟩;obtain⟨h1,e⟩:=XS.mp e;have:=List.not_of_lt_findIdx hm;simp[e] at this
theorem Se {ns:List PySem.Str}(nd:ns.Nodup){e:Nat}(he:e<ns.length):ns.idxOf (ns.getD e "")=e:=by
 have h1:ns.getD e ""=ns[e]:=by simp[List.getD,he]
 rw[h1];have hm:ns[e]∈ns:=jc he;obtain⟨a,b⟩:=Qv hm;rcases Y0l (ns.idxOf ns[e]) e with h | h | h
 ·obtain⟨h2,a⟩:=XS.mp a;exact absurd a (qe.mp nd _ _ h2 he h)
 ·exact h
 exact absurd J8 (b e h)
section
variable {P:TR}{w:World}{K:TQ}{mg:TB}{base:Heap}
abbrev natV (es:List Nat):List V:=(es.map λ(k:Nat)=>(k:Int)).map V.int
structure EvOf (ns ws:List PySem.Str)(es:List Nat):Prop where
 w:ws=es.map λi=>ns.getD i ""
 r:es.Pairwise (·<·)
 l:∀ e∈es,e<ns.length
inductive spEventOfG (K:TQ) (vs:TV) (H:Hp) (Q:VK) (_z3:XK):Prop
 | mk (a b:Addr) (ns ws:List PySem.Str) (zz0:vs=[.ref a,.ref b]) (zz1:SqL K H a (ns.map V.str)) (zz2:SqL K H b (ws.map V.str)) (zz3:ns.Nodup) (zz4:ns.length<=12) (zz5:ws.length<1000) (zz6:∀ es,EvOf ns ws es->∀ c H',Same H H'->H' c=some (.tup (natV es))->Q (.ref c) H') (zz7:(∀ es,¬ EvOf ns ws es)->∀ H',Same H H'->Q .non H')
theorem Rc:FnScope ["names","words","worlds"] UE (defScope gB):=fsc
theorem L3 (D:Def K mg "event_of" gB UE)(T:BltT mg):Has P w K mg base 5 "event_of" UE (spEventOfG K) true:=by
 refine D.has λf fd F=>F.ok Rc (λvs H Q E h=>?_) (λcdv A outer s H vs Q E hr h=>?_)
 ·obtain⟨a,b,ns,es,rfl,_⟩:=h;rfl
 obtain⟨a,b,ns,ws,rfl,hN,hW,nd,ln,lw,qA,qN⟩:=h;have sc:=Rc;have hH:=hr.hd rfl;have hU:=Y0f (Z2s hr);have nd1:(["word","names"]:List Str).Nodup:=J9
 refine⟨_,(Z4 (Qh (i:=2) (ox:=none) (N:=["word","names"]) (k:=1) (fv:=[0]) sc.nd rfl (Or.inl rfl) rfl (Wl (pv 1))
  (λ_ _ _ _ _=>Zx (i:=0) nd1 rfl (Or.inl rfl)) (λ_ _ _ _ _=>K2 (Zf (Z1k (K:=K)) (pv 0) (pv 1) rfl)) (λ_ _ _ _ _=>(Z1i (K:=K) GL zN zO (U9 (K:=K)) (pv 1) (Z0 (pv 0) Z3))) Y6)
  (Z4 (Zy (PW.pt (Yx (Zf Wv (Zg Zh rfl T.len JT (Z0 (pv 2) Z3)) (Zg Zh rfl T.len JT (Z0 (pv 1) Z3)) (Zl _)) (Xf (Zf (Bg (K:=K) hU) (pv 2) (Zg (Lq hH) rfl T.sorted PyProof.Rows.boot_sorted (Z0 (Y1 (Ls (K:=K) hH) rfl T.set Y0S (Z0 (pv 2) Z3)) Z3)) (Zl _)))))
   (Zb (Zi Zr))
   Zm)
  (Zb (Zi (Y1 Yo rfl T.tuple qu (Z0 (pv 2) Z3)))))),?_⟩
 refine Z0l (Z0x ?_);refine Cc (p:=λw:PySem.Str=>decide (w∈ns)) (g:=λw:PySem.Str=>V.int ((ns.idxOf w:Nat):Int)) (λG g=>⟨_,rfl,g⟩) hW U (λi z H1 G ez S1 g=>?_) (λi z H1 G ez hp S1 g=>?_) λd H2 hd S2 e2=>?_
 ·refine⟨_,rfl,_,rfl,a,_,rfl,.inl (Yc S1 hN),rfl,Yu ns,_,rfl,?_⟩;rw[Wx];exact g H1 (Same.refl _)
 ·obtain⟨h1,h2⟩:=Qv (XR hp);refine⟨_,rfl,.inl ⟨rfl,_,Yc S1 hN⟩,_,rfl,a,_,_,ns.idxOf z,rfl,rfl,Yc S1 hN,rfl,Yu ns,⟨.str z,by rw[YQ,h1];rfl,by simp[eqV]⟩,λm y hm hy=>?_,by rw[YB];omega,g H1 (Same.refl _)⟩;rw[YQ] at hy
  cases e:ns[m]? with
  | none=>rw[e] at hy;cases hy
  | some v =>
   rw[e] at hy
   cases hy;have:v≠z:=λq=>h2 m hm (by rw[e,q])
   simpa [eqV] using this
 refine Xw ?_;have hW2:=Yc S2 hW;generalize hes:(ws.filter λw=>decide (w∈ns)).map (λw=>ns.idxOf w)=es;have e2:H2 d=some (.lst (natV es)):=by rw[e2,<-hes];simp[natV,Function.comp]
 have lse:es.length<=ws.length:=by rw[<-hes,YB];exact Y0T _ _
 have same:∀ es',EvOf ns ws es'->es'=es:=λes' h=>by
  have hf:ws.filter (λw=>decide (w∈ns))=ws:=by
   rw[List.filter_eq_self];intro x hx;rw[h.w] at hx;obtain⟨i,hi,rfl⟩:=JC.mp hx;have:=h.l i hi;exact XD (by simp[List.getD,this])
  rw[<-hes,hf,h.w,jZ]
  conv=>lhs;rw[<-List.map_id es']
  refine jw λi hi=>?_;exact (Se nd (h.l i hi)).symm
 refine⟨_,rfl,d,_,rfl,.inl (SqL.of e2),_,rfl,b,_,rfl,.inl hW2,_,_,rfl,rfl,_,rfl,?_⟩;by_cases hlt:es.length<ws.length
 ·rw[XD (by simpa [natV] using hlt)];refine Xq (qN (λes' h=>?_) H2 S2);have h1:=same es' h;rw[h.w,h1,YB] at hlt;omega
 rw[XI (by simpa [natV] using hlt)];refine Yb ⟨_,rfl,_,rfl,d,_,rfl,SqL.of e2,by rw[YB];omega,λd2 es2 ms h2 ndm mem vl=>?_⟩;have lm:=V7 (m:=(List.range ns.length).map λ(k:Nat)=>(k:Int)) ndm λx hx=>by
  obtain⟨k,hk,rfl⟩:=JC.mp ((mem x).mp hx);rw[<-hes] at hk;obtain⟨z,hz,rfl⟩:=JC.mp hk;exact JC.mpr ⟨_,qC.mpr (qQ.mpr (XR (qv.mp hz).2)),rfl⟩
 rw[YB,zT] at lm;refine⟨d2,es2,ms,rfl,Z5,vl,U,λd3 ms' h3 pm' pw=>?_⟩;have S3:Same H2 (upd (upd H2 d2 (setI P w d2 es2)) d3 (.lst (ms'.map V.int))):=(Same.new h2).trans (Same.new h3);refine⟨d,d3,es.map (λ(k:Nat)=>(k:Int)),ms',rfl,rfl,SqL.of (S3 _ _ e2),SqL.of Z5,_,rfl,?_⟩;by_cases he:es.map (λ(k:Nat)=>(k:Int))=ms'
 ·rw[XD he];refine Yb ⟨_,rfl,d,_,rfl,.inl ⟨SqL.of (S3 _ _ e2),λl hl=>?_⟩⟩;refine qA es ⟨?_,?_,?_⟩ l _ ((S2.trans S3).trans (Same.new hl)) Z5
  ·have hf:ws.filter (λw=>decide (w∈ns))=ws:=by
    refine (List.filter_sublist (l:=ws) (p:=λw=>decide (w∈ns))).eq_of_length ?_;have:=congrArg List.length hes;rw[YB] at this;have:=Y0T (λw=>decide (w∈ns)) ws;omega
   rw[<-hes,hf,jZ]
   conv=>lhs;rw[<-List.map_id ws]
   refine jw λz hz=>?_;rw[<-hf] at hz;have hz2:z∈ns:=XR (qv.mp hz).2;obtain⟨h1,_⟩:=Qv hz2;show z=ns.getD (ns.idxOf z) "";rw[List.getD,h1];rfl
  ·have nd':ms'.Nodup:=pm'.nodup_iff.mpr ndm;have:(es.map λ(k:Nat)=>(k:Int)).Pairwise (·<·):=by
    rw[he];exact (pw.and nd').imp λ{a b} h=>by
     have h1:=h.1;have h2:=h.2;omega
   rw[qL] at this;exact this.imp λ{a b} h=>U
  intro e he';rw[<-hes] at he';obtain⟨z,hz,rfl⟩:=JC.mp he';exact qQ.mpr (XR (qv.mp hz).2)
 rw[XI he];refine Xq (qN (λes' h=>he ?_) _ (S2.trans S3));have h1:=same es' h;rw[h1] at h;have p2:(es.map λ(k:Nat)=>(k:Int)).Perm ms:=(Vf (Mq h.r) (λx hx=>(mem x).mpr hx) (V7 ndm λx hx=>(mem x).mp hx));refine (Pj (pm'.trans p2.symm) pw ?_).symm;rw[qL];exact h.r.imp λ{a b} q=>U
end
theorem Qa {c:Nat}{ws:List PySem.Str}{Q:VK}(h0:ws≠[])(h:∀ w∈ws,c ∉ w.cps.toList)(hl:(Str.join ⟨#[c]⟩ ws).length<=1000000)(q:∀ l,H l=none->Q (.ref l) (upd H l (.lst (ws.map V.str)))):rSplit (.str (Str.join ⟨#[c]⟩ ws)) [.str ⟨#[c]⟩] H Q:=by
 have e:=Wi h0 h;have l2:=split_le (Str.join ⟨#[c]⟩ ws) ⟨#[c]⟩;refine⟨_,_,rfl,rfl,rfl,hl,by rw[YX];omega,?_,λl hl=>by rw[e];exact q l hl⟩;rw[len_partsBetween,YX];have:=StrLaws.occ_length_le (Str.join ⟨#[c]⟩ ws) ⟨#[c]⟩ 0 (Str.join ⟨#[c]⟩ ws).length ((Str.join ⟨#[c]⟩ ws).length+1);omega
theorem Xx {x:V}:atI (x::xs) 0=some x:=Yh (xs:=x::xs) (j:=0) rfl
theorem NameOk.free {z:PySem.Str}(h:NameOk z){c:Nat}(hc:c<97):c ∉ z.cps.toList:=λq=>by
 have:=h.az c q;omega
theorem Yd {c:Nat}{m:Nat}:∀ {ws:List PySem.Str},(∀ w∈ws,w.length<=m)->(Str.join ⟨#[c]⟩ ws).length<=ws.length*(m+1)
 | [],_=>JU _
 | [w],h=>by
  have:=h w YI;show w.length<=_;simp;omega
 | w::v::ws,h=>by
  have a:=h w YI;have b:=Yd (c:=c) (ws:=v::ws) λx hx=>h x (YG _ hx);rw[Xa,YF,YF,YR,Y13];show w.length+1+_<=_;omega
theorem M4 {p:PySem.Str->Prop}:∀ {ns:List PySem.Str} {ys:TV},Paired (λz v=>∃ b:Bool,v=V.bl b/\(b=true ↔ p z)) ns ys->∃ bs:List Bool,ys=bs.map V.bl/\(bs.all id=true ↔ ∀ z∈ns,p z)
 | _,_,.nil=>⟨[],rfl,J8⟩
 | _,_,.cons h t=>by
  obtain⟨b,rfl,hb⟩:=h;obtain⟨bs,rfl,hbs⟩:=M4 t;refine⟨b::bs,rfl,?_⟩;rw[zC,JP,List.forall_mem_cons,<-hbs,<-hb];rfl
theorem Q8 {c:Nat}{z:PySem.Str}{Q:VK}(hl:z.length<=1000000)(q:∀ l,H l=none->Q (.ref l) (upd H l (.lst ((wordsOf c z).map V.str)))):rSplit (.str z) [.str ⟨#[c]⟩] H Q:=by
 have:=Qa (c:=c) (ws:=wordsOf c z) (H:=H) (Q:=Q) (Uz c z) (M9 c z) (by rw[Xd];exact hl) q;rw[Xd] at this;exact this
section
variable {P:TR}{w:World}{K:TQ}{mg:TB}{base:Heap}
def rowN (ns:List PySem.Str):PySem.Str:=Str.join ⟨#[32]⟩ (Str.ofString "worlds"::ns)
structure NamesOk (ns:List PySem.Str):Prop where
 nd:ns.Nodup
 l1:2<=ns.length
 l2:ns.length<=12
 ok:∀ z∈ns,NameOk z
theorem Ys {z:PySem.Str}{ns:List PySem.Str}(ok:NamesOk ns)(e:z=rowN ns):wordsOf 32 z=Str.ofString "worlds"::ns:=by
 rw[e];refine Wi J8 λz hz=>?_;rcases YC.mp hz with rfl | hz
 ·decide
 exact (ok.ok z hz).free J7
inductive spReadNamesG (vs:TV) (H:Hp) (Q:VK) (_z3:XK):Prop
 | mk (z:PySem.Str) (zz0:vs=[.str z]) (zz1:Asc z) (zz2:z.length<=900) (zz3:∀ ns,NamesOk ns->z=rowN ns->∀ l H',Same H H'->H l=none->H' l=some (.lst (ns.map V.str))->Q (.ref l) H') (zz4:(∀ ns,NamesOk ns->z≠rowN ns)->∀ H',Same H H'->Q .non H')
theorem Uj:FnScope ["row","words","names"] ["row"] (defScope fT):=fsc
theorem Qo (D:Def K mg "read_names" fT ["row"])(T:BltT mg)(fJ:Has P w K mg base 1 "is_name" UC spIsNameG)(m_LEAST_WORLDS:∃ t,mg "LEAST_WORLDS"=some (.int 2 t))(m_MOST_WORLDS:∃ t,mg "MOST_WORLDS"=some (.int 12 t)):Has P w K mg base 5 "read_names" ["row"] spReadNamesG true:=by
 refine D.has λf fd F=>F.ok Uj (λvs H Q E h=>?_) (λcdv A outer s H vs Q E hr h=>?_)
 ·obtain⟨ns,rfl,_⟩:=h;rfl
 obtain⟨z,rfl,ha,lz,qA,qN⟩:=h;have sc:=Uj;obtain⟨_,m_LEAST_WORLDS⟩:=m_LEAST_WORLDS;obtain⟨_,m_MOST_WORLDS⟩:=m_MOST_WORLDS;have hH:=hr.hd rfl;have nd1:(["name"]:TF).Nodup:=J9
 refine⟨_,(Z4 (Zc (i:=1) sc.nd rfl (Or.inl rfl) (Yg XN zg zh Vw (pv 0) (Z0 Z9 Z3)))
  (Z4 (Zc (i:=2) sc.nd rfl (Or.inl rfl) (Zz Yw (pv 1) (Zw Z8) Y0))
  (Z4 (Zy (PW.pt (Yx (Zf K7 (Zq Y5 (pv 1) Z8 (λ_ _=>rfl)) Z9 (Zl _)) (Xf (Xg (Tb Vt Vt (Yf (v:=.int 2) rfl m_LEAST_WORLDS ⟨_,rfl⟩) (Zg Zh rfl T.len JT (Z0 (pv 2) Z3)) (Yf (v:=.int 12) rfl m_MOST_WORLDS ⟨_,rfl⟩))))))
   (Zb (Zi Zr))
   Zm)
  (Z4 (Zy (PW.pt (Yx (Zf Wv (Zg Gr rfl T.len JT (Z0 (Y1 (Lr (K:=K) hH) rfl T.set Y0S (Z0 (pv 2) Z3)) Z3)) (Zg Zh rfl T.len JT (Z0 (pv 2) Z3)) (Zl _)) (Xf (Xg (Yr (Zg (Q1 (K:=K) rfl) rfl T.all Y0Q (Z0 (Xk (ox:=none) (N:=["name"]) (k:=1) (fv:=[]) rfl (Wl (pv 2))
  (λ_ _ _ _ _=>Zx (i:=0) nd1 rfl (Or.inl rfl)) (λ_ _ _ _ _=>Yy) (λ_ _ _ _ _=>(Zo fJ hr (Z0 (pv 0) Z3))) Y6) Z3)))))))
   (Zb (Zi Zr))
   Zm)
  (Zb (Zi (pv 2))))))),?_⟩
 obtain⟨w0,ns,hw⟩:∃ w0 ns,wordsOf 32 z=w0::ns:=by
  cases h:wordsOf 32 z with
  | nil=>exact absurd h (Uz 32 z)
  | cons a b=>exact⟨a,b,rfl⟩
 have key:∀ ns',NamesOk ns'->z=rowN ns'->w0=Str.ofString "worlds"/\ns=ns':=λns' ok e=>by
  have:=Ys ok e;rw[hw] at this;injection this with a b
  exact⟨a,b⟩
 have lw:=R8 32 z;rw[hw,YR] at lw;refine⟨_,rfl,rfl,?_⟩;refine Q8 (c:=32) U λl f1=>?_;rw[hw];refine⟨_,rfl,_,rfl,Y4 ⟨l,_,rfl,SqL.of Z5,λl2 f2=>?_⟩⟩;have e1:cutV ((w0::ns).map V.str) (some 1) none=ns.map V.str:=by
  rw[show (1:Int)=((1:Nat):Int) from rfl,Vj J8];rfl
 rw[e1];have S2:Same H (upd (upd H l (.lst ((w0::ns).map V.str))) l2 (.lst (ns.map V.str))):=(Same.new f1).trans (Same.new f2);have el:upd (upd H l (.lst ((w0::ns).map V.str))) l2 (.lst (ns.map V.str)) l=some (.lst ((w0::ns).map V.str)):=Same.new f2 _ _ Z5;have e2:upd (upd H l (.lst ((w0::ns).map V.str))) l2 (.lst (ns.map V.str)) l2=some (.lst (ns.map V.str)):=Z5;have n2:H l2=none:=by
  cases e:H l2 with
  | none=>rfl
  | some o=>exact absurd (Same.new f1 _ _ e) (by rw[f2];simp)
 generalize upd (upd H l (.lst ((w0::ns).map V.str))) l2 (.lst (ns.map V.str))=H2 at S2 el e2;refine Xw ?_;refine⟨_,rfl,l,_,0,.str w0,rfl,rfl,SqL.of el,by exact Xx,rfl,_,rfl,Y7 (λe=>?_) λe=>?_⟩
 ·refine qN (λns' ok z=>?_) H2 S2;have:=(key ns' ok z).1;rw[this] at e;simp at e
 have e:w0=Str.ofString "worlds":=by simpa using e
 refine⟨_,rfl,l2,_,rfl,.inl (SqL.of e2),_,_,rfl,rfl,_,rfl,?_⟩;rw[YB];refine Y7 (λh2=>?_) λh2=>⟨_,rfl,Xq (qN (λns' ok z=>?_) H2 S2)⟩
 ·have h2:=XR h2;refine⟨_,_,rfl,rfl,_,rfl,?_⟩;by_cases h12:(ns.length:Int)<=12
  ·rw[XD h12];refine Yb ?_;refine⟨_,rfl,l2,ns,rfl,SqL.of e2,U,λd es js fd ez nd mem=>?_⟩;refine⟨d,es,rfl,Z5,_,rfl,l2,_,rfl,.inl (SqL.of (Same.new fd _ _ e2)),_,_,rfl,rfl,_,rfl,?_⟩;rw[YB,ez];have S3:=S2.trans (Same.new fd (o:=setS P w d es));by_cases hjs:(js.length:Int)<(ns.length:Int)
   ·rw[XD hjs];refine Xq (qN (λns' ok z=>?_) _ S3);have e:=(key ns' ok z).2;rw[<-e] at ok;have:=V7 ok.nd λx hx=>(mem x).mpr hx;omega
   rw[XI hjs];have ndn:ns.Nodup:=(Vf nd (λx hx=>(mem x).mp hx) U).nodup_iff.mp nd;refine Yb ?_;show tCB _ _ _ _ _;refine Z0b (P6 ?_);refine Nz (zs:=ns) (λ_ z v=>∃ b:Bool,v=.bl b/\(b=true ↔ NameOk z)) (λ_ _ _ _ _ h=>h) (λG g=>⟨_,rfl,g⟩) (SqL.of (Same.new fd _ _ e2)) U (λi x H3 G ex S3 g=>?_) λd3 H3 ys h3 S4 e3 pr=>?_
   ·have hx:x∈wordsOf 32 z:=by rw[hw];exact YG _ (YV ex)
    exact⟨_,rfl,x,rfl,ha.word hx,by have:=Pd hx;omega,λb H4 hb S4=>g _ H4 S4 ⟨b,rfl,hb⟩⟩
   obtain⟨bs,rfl,hb⟩:=M4 pr;have S5:=S3.trans S4;refine⟨d3,bs,rfl,SqL.of e3,_,rfl,?_⟩;by_cases hok:bs.all id=true
   ·rw[hok];refine Yb ⟨_,rfl,?_⟩;have ok:NamesOk ns:=⟨ndn,U,U,hb.mp hok⟩;have ez:z=rowN ns:=by
     rw[<-Xd 32 z,hw,e];rfl
    exact qA ns ok ez l2 H3 S5 n2 (S4 _ _ (Same.new fd _ _ e2))
   have hok':bs.all id=false:=by simpa using hok
   rw[hok'];refine Xq (qN (λns' ok z=>hok (hb.mpr ?_)) H3 S5);rw[(key ns' ok z).2];exact ok.ok
  rw[XI h12];refine Xq (qN (λns' ok z=>?_) H2 S2);have e:=(key ns' ok z).2;have:=ok.l2;rw[<-e] at this;omega
 have h2:=GT h2;have e:=(key ns' ok z).2;have:=ok.l1;rw[<-e] at this;omega
abbrev sAsk:PySem.Str:=Str.ofString "ask"
abbrev sBid:PySem.Str:=Str.ofString "bid"
def prW (oa ob:Option Rat):List PySem.Str:=(match oa with | none=>[] | some r=>[sAsk,shR r])++(match ob with | none=>[] | some r=>[sBid,shR r])
def PrAt (K:TQ)(H:Hp)(v:V):Option Rat->Prop
 | none=>v=.non
 | some r=>∃ c,v=.ref c/\SqT K H c [.int r.1,.int r.2]
def prR (oa ob:Option Rat):List Rat:=oa.toList++ob.toList
def prK (oa ob:Option Rat):List PySem.Str:=(match oa with | none=>[] | some _=>[sAsk])++(match ob with | none=>[] | some _=>[sBid])
abbrev ixs (lo:Option Int)(n:Nat):List Nat:=sliceRange (sliceBounds lo none (some 2) n).1 (sliceBounds lo none (some 2) n).2.1 (sliceBounds lo none (some 2) n).2.2
theorem ix10:ixs (some 1) 0=[]:=by decide +kernel
theorem Z21:ixs (some 1) 2=[1]:=by decide +kernel
theorem Z2p:ixs (some 1) 4=[1,3]:=by decide +kernel
theorem ix00:ixs none 0=[]:=by decide +kernel
theorem Z22:ixs none 2=[0]:=by decide +kernel
theorem Z2q:ixs none 4=[0,2]:=by decide +kernel
theorem Z0j (oa ob:Option Rat):stepV ((prW oa ob).map V.str) (some 1) none (some 2)=(prR oa ob).map λr=>V.str (shR r):=by
 cases oa <;> cases ob
 ·show (ixs (some 1) 0).filterMap _=_;rw[ix10];rfl
 ·show (ixs (some 1) 2).filterMap _=_;rw[Z21];rfl
 ·show (ixs (some 1) 2).filterMap _=_;rw[Z21];rfl
 show (ixs (some 1) 4).filterMap _=_;rw[Z2p];rfl
theorem K0 (oa ob:Option Rat):stepV ((prW oa ob).map V.str) none none (some 2)=(prK oa ob).map V.str:=by
 cases oa <;> cases ob
 ·show (ixs none 0).filterMap _=_;rw[ix00];rfl
 ·show (ixs none 2).filterMap _=_;rw[Z22];rfl
 ·show (ixs none 2).filterMap _=_;rw[Z22];rfl
 show (ixs none 4).filterMap _=_;rw[Z2q];rfl
theorem V4 (oa ob:Option Rat):(prR oa ob).length<=2:=by cases oa <;> cases ob <;> simp[prR]
theorem Qj (oa ob:Option Rat):(prK oa ob).length=(prR oa ob).length:=by cases oa <;> cases ob <;> rfl
theorem Qi (oa ob:Option Rat):(prW oa ob).length=2*(prR oa ob).length:=by cases oa <;> cases ob <;> rfl
theorem askbid:sAsk≠sBid:=by decide
theorem Z1c (oa ob:Option Rat):(prK oa ob).Nodup:=by
 have:=askbid
 cases oa <;> cases ob <;> simp[prK];exact this
theorem Z1d (oa ob:Option Rat):prK oa ob∈[[],[sAsk],[sBid],[sAsk,sBid]]:=by cases oa <;> cases ob <;> simp[prK]
inductive PwC (K:TQ) (mg:TB):Prop
 | mk (c:Addr) (cs:TJ) (m:mg "PRICE_WORDS"=some (.ref c)) (s:∀ H,SqT K H c (cs.map V.ref)) (t:∀ H,Paired (λc us=>SqT K H c (List.map V.str us)) cs [[],[sAsk],[sBid],[sAsk,sBid]])
theorem Z0y {H:Hp}{oa ob:Option Rat}{xs:TV}(rx:Rs K H (prR oa ob) xs):PrAt K H ((valK (((prK oa ob).map (Sum.inr:PySem.Str->Key)).zip xs) (.inr sAsk)).getD .non) oa/\PrAt K H ((valK (((prK oa ob).map (Sum.inr:PySem.Str->Key)).zip xs) (.inr sBid)).getD .non) ob:=by
 have n1:=askbid;have n2:=askbid.symm
 cases oa with
 | none =>
  cases ob with
  | none=>exact⟨rfl,rfl⟩
  | some b =>
   cases rx with
   | cons h t =>
    cases t;refine⟨?_,?_⟩
    ·simp[valK,prK,PrAt,n2]
    simpa [valK,prK,PrAt,IsR] using h
 | some a =>
  cases ob with
  | none =>
   cases rx with
   | cons h t =>
    cases t;refine⟨?_,?_⟩
    ·simpa [valK,prK,PrAt,IsR] using h
    simp[valK,prK,PrAt,n1]
  | some b =>
   cases rx with
   | cons h t =>
    cases t with
    | cons h2 t2 =>
     cases t2;refine⟨?_,?_⟩
     ·simpa [valK,prK,PrAt,IsR] using h
     simpa [valK,prK,PrAt,IsR,n1] using h2
theorem Qc (r:Rat):Asc (shR r):=λc hc=>by
 have:c=45 \/ c=47 \/ (48<=c/\c<=57):=by
  unfold shR at hc;split at hc
  ·rcases Xv hc with h | h
   ·exact .inl h
   exact .inr (.inr h)
  rw[Z6,Z6] at hc;rcases YN.mp hc with hc | hc
  ·rcases YN.mp hc with hc | hc
   ·rcases Xv hc with h | h
    ·exact .inl h
    exact .inr (.inr h)
   exact .inr (.inl (by simpa using hc))
  rcases Xv hc with h | h
  ·exact .inl h
  exact .inr (.inr h)
 omega
theorem Vo {r s:Rat}(hr:Fit30 r)(hs:Fit30 s)(h:shR r=shR s):r=s:=by
 obtain⟨y,w,e1,c1⟩:=Tk (r:=r);obtain⟨y',w',e2,c2⟩:=Tk (r:=s);rw[h,e2] at e1;injection e1 with a1 t1
 injection t1 with a2 t2
 injection t2 with a3 _
 have n1:∀ {a b:Int},a.natAbs<10 ^ 30->b.natAbs<10 ^ 30->numS a=numS b->a=b:=λha hb e=>by
  have x:=Wb (k:=30) J7 ha J7;have y:=Wb (k:=30) J7 hb J7;rw[e,y] at x;exact (XH x).symm
 have f1:=n1 hs.b1 hr.b1 a1;refine Prod.ext f1.symm ?_;rcases c1 with ⟨rfl,rfl⟩ | ⟨rfl,q1⟩
 ·rcases c2 with ⟨q2,rfl⟩ | ⟨q2,_⟩
  ·exact (n1 hs.b2 hr.b2 a3).symm
  rw[q2] at a2;exact absurd a2 J7
 rcases c2 with ⟨q2,_⟩ | ⟨_,q2⟩
 ·rw[q2] at a2;exact absurd a2 J7
 rw[q1,q2]
theorem Wt:∀ {rs ss:TW},(∀ r∈rs,Fit30 r)->(∀ r∈ss,Fit30 r)->rs.map shR=ss.map shR->rs=ss
 | [],[],_,_,_=>rfl
 | [],_::_,_,_,h=>by cases h
 | _::_,[],_,_,h=>by cases h
 | r::rs,s::ss,hr,hs,h=>by
  rw[YT,YT] at h;injection h with h1 h2
  rw[Vo (hr r YI) (hs s YI) h1,Wt (λx hx=>hr x (YG _ hx)) (λx hx=>hs x (YG _ hx)) h2]
def picks (lo:Option Int)(ws:List PySem.Str):List PySem.Str:=(ixs lo ws.length).filterMap (ws[·]?)
theorem Wh (lo:Option Int)(ws:List PySem.Str):stepV (ws.map V.str) lo none (some 2)=(picks lo ws).map V.str:=by
 unfold stepV picks;rw[YB,List.map_filterMap]
 congr 1
 funext i
 rw[YQ]
theorem Ji {lo:Option Int}{ws:List PySem.Str}{z:PySem.Str}(h:z∈picks lo ws):z∈ws:=by
 obtain⟨i,_,e⟩:=qZ.mp h;exact YV e
theorem Dg (n:Nat):ixs none n=(List.range ((n+1) / 2)).map λk=>2*k:=by
 show ((List.range (if (2:Int) > 0 then (if (0:Int)<(n:Int) then ((n:Int) - 0+2 - 1) / 2 else 0) else _).toNat).map λ(k:Nat)=>((0:Int)+2*(k:Int)).toNat)=_;rw[JD J7];have e:(if (0:Int)<(n:Int) then ((n:Int) - 0+2 - 1) / 2 else 0).toNat=(n+1) / 2:=by
  split <;> omega
 rw[e];refine jw λk _=>U
theorem Bu (lo:Int)(h:0<=lo)(n:Nat):(ixs (some lo) n).length<=n:=by
 show ((List.range (if (2:Int) > 0 then (if max 0 (min (if lo<0 then lo+(n:Int) else lo) (n:Int))<(n:Int) then ((n:Int) - max 0 (min (if lo<0 then lo+(n:Int) else lo) (n:Int))+2 - 1) / 2 else 0) else _).toNat).map _).length<=n;rw[JD J7,YB,zT,XQ (show ¬ lo<0 by omega)];split <;> omega
theorem Tg (ws:List PySem.Str):(picks none ws).length=(ws.length+1) / 2:=by
 unfold picks;rw[Dg,List.filterMap_map];have:∀ m,2*m<=ws.length+1->((List.range m).filterMap ((λx=>ws[x]?) ∘ λk=>2*k)).length=m:=by
  intro m
  induction m with
  | zero=>intro _;rfl
  | succ m ih =>
   intro hm;rw[zG,List.filterMap_append,XF,ih U];have:ws[2*m]?=some (ws[2*m]'U):=J8
   simp[GI,Function.comp,this]
 exact this _ U
theorem Mu (ws:List PySem.Str):(picks (some 1) ws).length<=ws.length :=
 XV (List.length_filterMap_le _ _) (Bu 1 J7 _)
structure PrOf (ws:List PySem.Str)(oa ob:Option Rat):Prop where
 w:ws=prW oa ob
 fa:∀ r,oa=some r->Fit30 r
 fb:∀ r,ob=some r->Fit30 r
theorem N0 {ws:List PySem.Str}{rs:TW}(h0:picks none ws∈[[],[sAsk],[sBid],[sAsk,sBid]])(h1:ws.length % 2≠1)(h2:picks (some 1) ws=rs.map shR)(hf:∀ r∈rs,Fit30 r):∃ oa ob,PrOf ws oa ob:=by
 have l0:=Tg ws;have l4:(picks none ws).length<=2:=by
  simp only [YC,YH,XL] at h0;rcases h0 with h | h | h | h <;> rw[h] <;> decide
 match ws,l0,h0,h1,h2 with
 | [],_,_,_,_=>exact⟨none,none,rfl,J8,J8⟩
 | [a],l0,h0,h1,h2=>exact absurd rfl h1
 | [a,b],l0,h0,h1,h2 =>
  have e0:picks none [a,b]=[a]:=by
   unfold picks;show (ixs none 2).filterMap _=_;rw[Z22];rfl
  have e1:picks (some 1) [a,b]=[b]:=by
   unfold picks;show (ixs (some 1) 2).filterMap _=_;rw[Z21];rfl
  rw[e0] at h0;rw[e1] at h2
  cases rs with
  | nil=>cases h2
  | cons r rs =>
   rw[YT] at h2;injection h2 with h2 _
   simp only [YC,YH,XL] at h0;have fr:=hf r YI;rcases h0 with h | h | h | h
   ·cases h
   ·injection h with h _
    exact⟨some r,none,by rw[h,h2];rfl,λx hx=>by cases hx;exact fr,J8⟩
   ·injection h with h _
    exact⟨none,some r,by rw[h,h2];rfl,J8,λx hx=>by cases hx;exact fr⟩
   injection h with _ h
   cases h
 | [a,b,c],l0,h0,h1,h2=>exact absurd (show 3 % 2=1 from rfl) h1
 | [a,b,c,d],l0,h0,h1,h2 =>
  have e0:picks none [a,b,c,d]=[a,c]:=by
   unfold picks;show (ixs none 4).filterMap _=_;rw[Z2q];rfl
  have e1:picks (some 1) [a,b,c,d]=[b,d]:=by
   unfold picks;show (ixs (some 1) 4).filterMap _=_;rw[Z2p];rfl
  rw[e0] at h0;rw[e1] at h2
  match rs,h2,hf with
  | [r,s],h2,hf =>
   have h2:[b,d]=[shR r,shR s]:=h2;injection h2 with hb h2
   injection h2 with hd _
   simp only [YC,YH,XL] at h0;rcases h0 with h | h | h | h
   ·cases h
   ·injection h with _ h
    cases h
   ·injection h with _ h
    cases h
   injection h with ha h
   injection h with hc _
   exact⟨some r,some s,by rw[ha,hb,hc,hd];rfl,λx hx=>by cases hx;exact hf r YI,λx hx=>by cases hx;exact hf s (YG _ YI)⟩
  | [],h2,_=>cases h2
  | [r],h2,_=>injection h2 with _ h2;cases h2
  | r::s::u::rs,h2,_=>injection h2 with _ h2;injection h2 with _ h2;cases h2
 | a::b::c::d::e::t,l0,h0,h1,h2 =>
  rw[YR,YR,YR,YR,YR] at l0;omega
inductive spReadPricesG (K:TQ) (vs:TV) (H:Hp) (Q:VK) (_z3:XK):Prop
 | mk (p:Addr) (ws:List PySem.Str) (zz0:vs=[.ref p]) (zz1:SqL K H p (ws.map V.str)) (zz2:∀ w∈ws,Asc w/\w.length<=1000) (zz3:ws.length<=900) (zz4:∀ oa ob,(∀ r,oa=some r->Fit30 r)->(∀ r,ob=some r->Fit30 r)->ws=prW oa ob->∀ c H' va vb,Same H H'->H' c=some (.tup [va,vb])->PrAt K H' va oa->PrAt K H' vb ob->Q (.ref c) H') (zz5:(∀ oa ob,¬ PrOf ws oa ob)->∀ H',Same H H'->Q .non H')
theorem R1 (D:Def K mg "read_prices" fP UD)(T:BltT mg)(eE:Has P w K mg base 5 "read_row" UD (spReadRowG K))(hPW:PwC K mg):Has P w K mg base 6 "read_prices" UD (spReadPricesG K) true:=by
 refine D.h9 (N:=["words","prices","told"]) fsc λH Q hr h nd=>?_;obtain⟨p,ws,rfl,hS,hw,hn,qA,qN⟩:=h;have hH:=hr.hd rfl;have hU1:=JK (jq (show 1<=64 by decide) _) hr.units;obtain⟨c_PRICE_WORDS,cs,m_PRICE_WORDS,s1,t1⟩:=hPW;refine⟨_,(Z4 (Zn (Zc (i:=1) nd rfl (Or.inl rfl) (Zo eE hr (Z0 (U7 (pv 0) (Zw Z8) Y0 (Zw Z8)) Z3))))
  (Z4 (Zy (PW.pt (Yx (Zf (Jl (K:=K) hU1) (Y1 Yo rfl T.tuple qu (Z0 (U7 (pv 0) Y0 Y0 (Zw Z8)) Z3)) (Yf (v:=.ref c_PRICE_WORDS) rfl m_PRICE_WORDS rfl) rfl) (Yx (Zf W2 (Za Xp (Zg Zh rfl T.len JT (Z0 (pv 0) Z3)) Z8) Z8 (Zl _)) (Xf (Zf Xu (pv 1) Zr (Zl _))))))
   (Zb (Zi Zr))
   Zm)
  (Z4 (Zc (i:=2) nd rfl (Or.inl rfl) (Fu hH rfl T.dict rfl T.zip (Z0 (U7 (pv 0) Y0 Y0 (Zw Z8)) (Z0 (pv 1) Z3))))
  (Zb (Zi (Xt (Z0 (Yg Y0z zY Y0U K9 (pv 2) (Z0 Z9 Z3)) (Z0 (Yg Y0z zY Y0U K9 (pv 2) (Z0 Z9 Z3)) Z3)))))))),?_⟩
 by_cases hA:∃ oa ob,PrOf ws oa ob
 ·obtain⟨oa,ob,rfl,fa,fb⟩:=hA;refine⟨λσ' H'=>∃ a,σ'=[some (.ref p),some (.ref a),none]/\Same H H'/\RowAt K H' a (prR oa ob),?_,?_⟩
  ·refine⟨_,rfl,_,rfl,Y4 ⟨_,rfl,p,_,rfl,hS,J7,?_,λp1 f1=>?_⟩⟩
   ·have:=V4 oa ob;rw[Z0j,YB,YX];omega
   rw[Z0j];refine⟨p1,(prR oa ob).map shR,rfl,SqL.of (by rw[Z5,jZ];rfl),λw hw=>?_,by rw[YB];have:=V4 oa ob;omega,λrs e hf a H2 S2 ra=>?_,λhno=>absurd ⟨prR oa ob,rfl,λr hr'=>by
       rcases YN.mp hr' with h | h
       ·exact fa r (by simpa using h)
       exact fb r (by simpa using h)⟩ hno⟩
   ·obtain⟨r,hr',rfl⟩:=JC.mp hw;have hf:Fit30 r:=by
     rcases YN.mp hr' with h | h
     ·exact fa r (by simpa using h)
     exact fb r (by simpa using h)
    exact⟨Qc r,by have:=Xz (k:=30) J7 hf.b1 hf.b2;omega⟩
   have:rs=prR oa ob:=Wt hf (λr hr'=>by
    rcases YN.mp hr' with h | h
    ·exact fa r (by simpa using h)
    exact fb r (by simpa using h)) e.symm
   rw[this] at ra;exact⟨a,rfl,(Same.new f1).trans S2,ra⟩
  rintro _ H2 ⟨a,rfl,S3,ra⟩;refine⟨_,rfl,Y4 (Y4 ⟨_,rfl,p,_,rfl,Yc S3 hS,J7,?_,λp2 f2=>?_⟩)⟩
  ·have:=V4 oa ob;rw[K0,YB,YX,Qj];omega
  rw[K0];refine⟨p2,_,rfl,.inl ⟨SqL.of Z5,λp3 f3=>?_⟩⟩;refine⟨p3,c_PRICE_WORDS,prK oa ob,cs,_,rfl,rfl,SqT.of Z5,s1 _,t1 _,_,rfl,?_⟩;rw[XD (Z1d oa ob)];refine Yb ?_;generalize hH4:upd (upd H2 p2 (.lst ((prK oa ob).map V.str))) p3 (.tup ((prK oa ob).map V.str))=H4;have S4:Same H2 H4:=hH4 ▸ (Same.new f2).trans (Same.new f3);have hS4:=Yc (S3.trans S4) hS;have ra4:RowAt K H4 a (prR oa ob):=ra.same S4;refine⟨_,rfl,p,_,rfl,.inl hS4,_,_,rfl,rfl,J7,rfl,_,rfl,Dk (λz=>?_) ?_⟩
  ·have z:=V.int.inj z;rw[YB,Qi] at z;omega
  refine⟨_,rfl,rfl,_,rfl,Yb ?_⟩;obtain⟨xs,sx,rx⟩:=ra4;have lx:=rx.len;refine⟨_,rfl,Y4 (Y4 ⟨_,rfl,p,_,rfl,hS4,J7,?_,λp4 f4=>?_⟩)⟩
  ·have:=V4 oa ob;rw[K0,YB,YX,Qj];omega
  rw[K0];have S5:Same H4 (upd H4 p4 (.lst ((prK oa ob).map V.str))):=Same.new f4;refine⟨_,rfl,p4,a,prK oa ob,xs,rfl,SqL.of Z5,Z0n S5 sx,by rw[Qj];omega,Z1c oa ob,λd fd'=>?_⟩;have S6:Same H4 (upd (upd H4 p4 (.lst ((prK oa ob).map V.str))) d (.dK (((prK oa ob).map Sum.inr).zip xs))):=S5.trans (Same.new fd');refine⟨_,rfl,.inr (.inr (.inl ⟨rfl,.inl ⟨_,Z5⟩⟩)),d,_,.inr sAsk,rfl,rfl,Z5,?_⟩;refine⟨_,rfl,.inr (.inr (.inl ⟨rfl,.inl ⟨_,Z5⟩⟩)),d,_,.inr sBid,rfl,rfl,Z5,?_⟩;refine⟨by show 2<=sizeLine;decide,λc fc=>?_⟩;have S7:=S6.trans (Same.new (o:=.tup [(valK (((prK oa ob).map (Sum.inr:PySem.Str->Key)).zip xs) (.inr sAsk)).getD .non,(valK (((prK oa ob).map (Sum.inr:PySem.Str->Key)).zip xs) (.inr sBid)).getD .non]) fc);have pr:=Z0y (rx.ext (Ext.same S7));exact qA oa ob fa fb rfl c _ _ _ ((S3.trans S4).trans S7) Z5 pr.1 pr.2
 have qN:=qN λoa ob h=>hA ⟨oa,ob,h⟩;have pl0:=Tg ws;have pl1:=Mu ws;refine⟨λσ' H'=>∃ v,σ'=[some (.ref p),some v,none]/\Same H H'/\(v=.non \/ ∃ rs:List Rat,picks (some 1) ws=rs.map shR/\∀ r∈rs,Fit30 r),?_,?_⟩
 ·refine⟨_,rfl,_,rfl,Y4 ⟨_,rfl,p,_,rfl,hS,J7,?_,λp1 f1=>?_⟩⟩
  ·rw[Wh,YB,YX];omega
  rw[Wh];exact⟨p1,picks (some 1) ws,rfl,SqL.of Z5,λw h=>hw w (Ji h),U,λrs e hf a H2 S2 ra=>⟨_,rfl,(Same.new f1).trans S2,.inr ⟨rs,e,hf⟩⟩,λ_ H2 S2=>⟨_,rfl,(Same.new f1).trans S2,.inl rfl⟩⟩
 rintro _ H2 ⟨v,rfl,S2,hv⟩;refine⟨_,rfl,Y4 (Y4 ⟨_,rfl,p,_,rfl,Yc S2 hS,J7,?_,λp2 f2=>?_⟩)⟩
 ·rw[Wh,YB,YX];omega
 rw[Wh];refine⟨p2,_,rfl,.inl ⟨SqL.of Z5,λp3 f3=>?_⟩⟩;refine⟨p3,c_PRICE_WORDS,picks none ws,cs,_,rfl,rfl,SqT.of Z5,s1 _,t1 _,_,rfl,?_⟩;have S4:Same H (upd (upd H2 p2 (.lst ((picks none ws).map V.str))) p3 (.tup ((picks none ws).map V.str))):=S2.trans ((Same.new f2).trans (Same.new f3));generalize upd (upd H2 p2 (.lst ((picks none ws).map V.str))) p3 (.tup ((picks none ws).map V.str))=H4 at S4;by_cases hm:picks none ws∈[[],[sAsk],[sBid],[sAsk,sBid]]
 ·rw[XD hm];refine Yb ?_;refine⟨_,rfl,p,_,rfl,.inl (Yc S4 hS),_,_,rfl,rfl,J7,rfl,_,rfl,Y7 (λe=>qN H4 S4) λe=>?_⟩;have e:=GT e;refine⟨_,rfl,rfl,_,rfl,Y7 (λe=>qN H4 S4) λe2=>?_⟩;exfalso;rcases hv with rfl | ⟨rs,er,hf⟩
  ·simp at e2
  refine hA (N0 hm (λz=>e ?_) er hf);rw[YB]
  congr 1
  omega
 rw[XI hm];exact Xq (qN H4 S4)
theorem Qw {k:Nat}{x:Str}{sp':Sp}(h:Has P w K mg base k x ps sp sr)(i:∀ vs H Q E,sp' vs H Q E->sp vs H Q E):Has P w K mg base k x ps sp' sr:=by
 obtain⟨f,fd,F,a,b,c⟩:=h;exact⟨f,fd,F.imp i,a,b,c⟩
inductive spReadRow (K:TQ) (vs:TV) (H:Hp) (Q:VK) (_z3:XK):Prop
 | mk (p:Addr) (rs:TW) (zz0:vs=[.ref p]) (zz1:SqL K H p (rs.map λr=>V.str (shR r))) (zz2:∀ r∈rs,Fit30 r) (zz3:rs.length<=1000) (zz4:∀ a H',Same H H'->RowAt K H' a rs->Q (.ref a) H')
inductive spEventOf (K:TQ) (vs:TV) (H:Hp) (Q:VK) (_z3:XK):Prop
 | mk (a b:Addr) (ns:List PySem.Str) (es:List Nat) (zz0:vs=[.ref a,.ref b]) (zz1:SqL K H a (ns.map V.str)) (zz2:SqL K H b (es.map λi=>V.str (ns.getD i ""))) (zz3:ns.Nodup) (zz4:ns.length<=12) (zz5:es.Pairwise (·<·)) (zz6:∀ e∈es,e<ns.length) (zz7:es.length<=12) (zz8:∀ c H',Same H H'->H' c=some (.tup (natV es))->Q (.ref c) H')
inductive spReadNames (vs:TV) (H:Hp) (Q:VK) (_z3:XK):Prop
 | mk (ns:List PySem.Str) (zz0:vs=[.str (rowN ns)]) (zz1:NamesOk ns) (zz2:∀ l H',Same H H'->H l=none->H' l=some (.lst (ns.map V.str))->Q (.ref l) H')
inductive spReadPrices (K:TQ) (vs:TV) (H:Hp) (Q:VK) (_z3:XK):Prop
 | mk (p:Addr) (oa ob:Option Rat) (zz0:vs=[.ref p]) (zz1:SqL K H p ((prW oa ob).map V.str)) (zz2:∀ r,oa=some r->Fit30 r) (zz3:∀ r,ob=some r->Fit30 r) (zz4:∀ c H' va vb,Same H H'->H' c=some (.tup [va,vb])->PrAt K H' va oa->PrAt K H' vb ob->Q (.ref c) H')
theorem rowG:∀ vs H Q E,spReadRow K vs H Q E->spReadRowG K vs H Q E:=by
 rintro vs H Q E ⟨p,rs,rfl,sq,hf,hl,q⟩;refine⟨p,rs.map shR,rfl,by rw[jZ];exact sq,λw hw=>?_,by rw[YB];exact hl,λrs' e hf' a H' S h=>q a H' S (by rw[Wt hf hf' e];exact h),λn=>absurd ⟨rs,rfl,hf⟩ n⟩;obtain⟨r,hr,rfl⟩:=JC.mp hw;have f:=hf r hr;exact⟨Qc r,by have:=Xz (k:=30) J7 f.b1 f.b2;omega⟩
theorem Wn {ns:List PySem.Str}(nd:ns.Nodup):∀ {es fs:List Nat},(∀ e∈es,e<ns.length)->(∀ e∈fs,e<ns.length)->es.map (λi=>ns.getD i "")=fs.map (λi=>ns.getD i "")->es=fs
 | [],[],_,_,_=>rfl
 | [],_::_,_,_,h=>by cases h
 | _::_,[],_,_,h=>by cases h
 | e::es,f::fs,h1,h2,h=>by
  rw[YT,YT] at h;injection h with a b
  have ea:=Se nd (h1 e YI);have eb:=Se nd (h2 f YI);rw[a,eb] at ea;rw[ea,Wn nd (λx hx=>h1 x (YG _ hx)) (λx hx=>h2 x (YG _ hx)) b]
theorem Z25:∀ vs H Q E,spEventOf K vs H Q E->spEventOfG K vs H Q E:=by
 rintro vs H Q E ⟨a,b,ns,es,rfl,sa,sb,nd,l,r,hl,le,q⟩;refine⟨a,b,ns,es.map λi=>ns.getD i "",rfl,sa,by rw[jZ];exact sb,nd,l,by rw[YB];omega,λes' h c H' S e=>q c H' S ?_,λn=>absurd ⟨rfl,r,hl⟩ (n es)⟩;rw[Wn nd hl h.l h.w];exact e
theorem D6:∀ vs H Q E,spReadNames vs H Q E->spReadNamesG vs H Q E:=by
 rintro vs H Q E ⟨ns,rfl,ok,q⟩;refine⟨_,rfl,?_,?_,λns' ok' e l H' S f h=>q l H' S f ?_,λn=>absurd rfl (n ns ok)⟩
 ·intro c hc;have free:=Ys ok rfl;have h32:∀ {ws:List PySem.Str},(∀ w∈ws,Asc w)->Asc (Str.join ⟨#[32]⟩ ws):=by
   intro ws
   induction ws with
   | nil=>intro _ c hc;cases hc
   | cons w ws ih =>
    intro h
    cases ws with
    | nil=>exact h w YI
    | cons v ws =>
     intro c hc;rw[Xa,Z6,Z6] at hc;rcases YN.mp hc with hc | hc
     ·rcases YN.mp hc with hc | hc
      ·exact h w YI c hc
      have:c=32:=by simpa using hc
      omega
     exact ih (λx hx=>h x (YG _ hx)) c hc
  refine h32 (λw hw=>?_) c hc;rcases YC.mp hw with rfl | hw
  ·exact (by decide:∀ c∈(Str.ofString "worlds").cps.toList,c<128)
  exact λc hc=>by have:=(ok.ok w hw).az c hc;omega
 ·have lj:=Yd (c:=32) (m:=8) (ws:=Str.ofString "worlds"::ns) λz hz=>by
   rcases YC.mp hz with rfl | hz
   ·decide
   exact (ok.ok z hz).l2
  rw[YR] at lj;have:=ok.l2;show (Str.join ⟨#[32]⟩ (Str.ofString "worlds"::ns)).length<=_;omega
 have:=(Ys ok' e).symm.trans (Ys ok rfl);injection this with _ e
 rw[<-e];exact h
theorem Ba {oa ob oc od:Option Rat}(h1:∀ r,oa=some r->Fit30 r)(h2:∀ r,ob=some r->Fit30 r)(h3:∀ r,oc=some r->Fit30 r)(h4:∀ r,od=some r->Fit30 r)(h:prW oa ob=prW oc od):oa=oc/\ob=od:=by
 have n1:=askbid
 cases oa <;> cases ob <;> cases oc <;> cases od <;> simp[prW,n1,n1.symm] at h ⊢
 ·exact Vo (h2 _ rfl) (h4 _ rfl) h
 ·exact Vo (h1 _ rfl) (h3 _ rfl) h
 exact⟨Vo (h1 _ rfl) (h3 _ rfl) h.1,Vo (h2 _ rfl) (h4 _ rfl) h.2⟩
theorem B0:∀ vs H Q E,spReadPrices K vs H Q E->spReadPricesG K vs H Q E:=by
 rintro vs H Q E ⟨p,oa,ob,rfl,sq,fa,fb,q⟩;refine⟨p,prW oa ob,rfl,sq,λw hw=>?_,?_,λoc od f1 f2 e c H' va vb S h pa pb=>?_,λn=>absurd ⟨rfl,fa,fb⟩ (n oa ob)⟩
 ·have sh:∀ r,Fit30 r->Asc (shR r)/\(shR r).length<=1000:=λr f=>⟨Qc r,by have:=Xz (k:=30) J7 f.b1 f.b2;omega⟩;have k1:Asc sAsk/\sAsk.length<=1000:=⟨(by decide:∀ c∈sAsk.cps.toList,c<128),J7⟩;have k2:Asc sBid/\sBid.length<=1000:=⟨(by decide:∀ c∈sBid.cps.toList,c<128),J7⟩
  cases oa with
  | none =>
   cases ob with
   | none=>cases hw
   | some b =>
    have:w=sBid \/ w=shR b:=by simpa [prW] using hw
    rcases this with rfl | rfl
    ·exact k2
    exact sh b (fb b rfl)
  | some a =>
   cases ob with
   | none =>
    have:w=sAsk \/ w=shR a:=by simpa [prW] using hw
    rcases this with rfl | rfl
    ·exact k1
    exact sh a (fa a rfl)
   | some b =>
    have:w=sAsk \/ w=shR a \/ w=sBid \/ w=shR b:=by simpa [prW] using hw
    rcases this with rfl | rfl | rfl | rfl
    ·exact k1
    ·exact sh a (fa a rfl)
    ·exact k2
    exact sh b (fb b rfl)
 ·have:=Qi oa ob;have:=V4 oa ob;omega
 obtain⟨rfl,rfl⟩:=Ba fa fb f1 f2 e;exact q c H' va vb S h pa pb
end
abbrev sOffer:PySem.Str:=Str.ofString "offer"
abbrev sIf:PySem.Str:=Str.ofString "if"
def evW (ns:List PySem.Str):Option (List Nat)->List PySem.Str
 | none=>[]
 | some es=>sIf::es.map λi=>ns.getD i ""
structure OffT (n:Nat)(rs:TW)(oa ob:Option Rat)(ev:Option (List Nat)):Prop where
 len:rs.length=n
 fr:∀ r∈rs,Fit30 r
 fa:∀ r,oa=some r->Fit30 r
 fb:∀ r,ob=some r->Fit30 r
 ev:∀ es,ev=some es->es≠[]/\es.Pairwise (·<·)/\∀ e∈es,e<n
def offW (ns:List PySem.Str)(rs:TW)(oa ob:Option Rat)(ev:Option (List Nat)):List PySem.Str:=sOffer::(rs.map shR++(prW oa ob++evW ns ev))
theorem Pm {r:Rat}{c:Nat}(h:c∈(shR r).cps.toList):45<=c/\c<=57:=by
 unfold shR at h;split at h
 ·have:=Xv h;omega
 rw[Z6,Z6] at h;rcases YN.mp h with h | h
 ·rcases YN.mp h with h | h
  ·have:=Xv h;omega
  have:c=47:=by simpa using h
  omega
 have:=Xv h;omega
theorem Z15 (r:Rat):shR r≠sIf:=λe=>by
 have:105∈(shR r).cps.toList:=by rw[e];decide
 have:=Pm this;omega
theorem Fo (oa ob:Option Rat):sIf ∉ prW oa ob:=by
 have h1:sIf≠sAsk:=J7
 have h2:sIf≠sBid:=J7
 have h3:=λr=>(Z15 r).symm
 cases oa <;> cases ob <;> simp[prW,h1,h2,h3]
theorem Re {n:Nat}:∀ {es:List Nat} {lo:Nat},lo<=n->es.Pairwise (·<·)->(∀ e∈es,lo<=e/\e<n)->es.length+lo<=n
 | [],lo,h,_,_=>by simpa using h
 | e::t,lo,_,h,hl=>by
  have a:=hl e YI;have:=Re (es:=t) (lo:=e+1) a.2 h.tail λx hx=>⟨Y0c h hx,(hl x (YG _ hx)).2⟩;rw[YR];omega
theorem Pr {n:Nat}{es:List Nat}(h:es.Pairwise (·<·))(hl:∀ e∈es,e<n):es.length<=n:=by
 have:=Re (lo:=0) (JU n) h λe he=>⟨JU _,hl e he⟩;omega
section
variable {K:TQ}
def EvT (K:TQ)(H:Hp)(v:V):Option (List Nat)->Prop
 | none=>v=.non
 | some es=>∃ c,v=.ref c/\SqT K H c (natV es)
inductive OffAt (K:TQ) (H:Hp) (v:V) (rs:TW) (oa ob:Option Rat) (ev:Option (List Nat)):Prop
 | mk (c r:Addr) (va vb ve:V) (e:v=.ref c) (h:SqT K H c [.ref r,va,vb,ve]) (hr:RowAt K H r rs) (ha:PrAt K H va oa) (hb:PrAt K H vb ob) (he:EvT K H ve ev)
theorem Ca {a b:Nat}(h:a<=b)(hb:b<=xs.length):cutV xs (some (a:Int)) (some (b:Int))=(xs.drop a).take (b - a):=by
 unfold cutV;rw[HT.sIx_nat,HT.sIx_nat,JQ hb,JQ (show a<=xs.length by omega)]
theorem Kr {a:Nat}(h:xs.length<=a):cutV xs (some (a:Int)) none=[]:=by
 unfold cutV;rw[HT.sIx_nat,je h,Y0A];simp
end
theorem PrAt.same {K:TQ}{H H':Hp}{v:V}{o:Option Rat}(h:PrAt K H v o)(S:Same H H'):PrAt K H' v o:=by
 cases o with
 | none=>exact h
 | some r =>
  obtain⟨c,e,q⟩:=h;exact⟨c,e,Z0n S q⟩
theorem N2 {oa ob:Option Rat}{z:PySem.Str}(h:z∈prW oa ob):z=sAsk \/ z=sBid \/ ∃ r,(oa=some r \/ ob=some r)/\z=shR r:=by
 cases oa with
 | none =>
  cases ob with
  | none=>cases h
  | some b =>
   have:z=sBid \/ z=shR b:=by simpa [prW] using h
   rcases this with h | h
   ·exact .inr (.inl h)
   exact .inr (.inr ⟨b,.inr rfl,h⟩)
 | some a =>
  cases ob with
  | none =>
   have:z=sAsk \/ z=shR a:=by simpa [prW] using h
   rcases this with h | h
   ·exact .inl h
   exact .inr (.inr ⟨a,.inl rfl,h⟩)
  | some b =>
   have:z=sAsk \/ z=shR a \/ z=sBid \/ z=shR b:=by simpa [prW] using h
   rcases this with h | h | h | h
   ·exact .inl h
   ·exact .inr (.inr ⟨a,.inl rfl,h⟩)
   ·exact .inr (.inl h)
   exact .inr (.inr ⟨b,.inr rfl,h⟩)
theorem Nw {ns:List PySem.Str}{ev:Option (List Nat)}{z:PySem.Str}(hl:∀ es,ev=some es->∀ e∈es,e<ns.length)(h:z∈evW ns ev):z=sIf \/ z∈ns:=by
 cases ev with
 | none=>cases h
 | some es =>
  rcases YC.mp h with h | h
  ·exact .inl h
  obtain⟨i,hi,e⟩:=JC.mp h;have:=hl es rfl i hi;exact .inr (by rw[<-e];simp[List.getD,this])
theorem Xr {ns:List PySem.Str}{rs:TW}{oa ob:Option Rat}{ev:Option (List Nat)}(ok:NamesOk ns)(ot:OffT ns.length rs oa ob ev):∀ z∈offW ns rs oa ob ev,(∀ c∈z.cps.toList,45<=c)/\z.length<=63:=by
 intro z hz;have sh:∀ r,Fit30 r->(∀ c∈(shR r).cps.toList,45<=c)/\(shR r).length<=63:=λr h=>⟨λc hc=>(Pm hc).1,Xz (k:=30) J7 h.b1 h.b2⟩;rcases YC.mp hz with rfl | hz
 ·exact⟨J7,J7⟩
 rcases YN.mp hz with hz | hz
 ·obtain⟨r,hr,rfl⟩:=JC.mp hz;exact sh r (ot.fr r hr)
 rcases YN.mp hz with hz | hz
 ·rcases N2 hz with rfl | rfl | ⟨r,h,rfl⟩
  ·exact⟨J7,J7⟩
  ·exact⟨J7,J7⟩
  rcases h with h | h
  ·exact sh r (ot.fa r h)
  exact sh r (ot.fb r h)
 rcases Nw (λes e=>(ot.ev es e).2.2) hz with rfl | hz
 ·exact⟨J7,J7⟩
 have:=ok.ok z hz;exact⟨λc hc=>by have:=this.az c hc;omega,by have:=this.l2;omega⟩
theorem Ww {ns:List PySem.Str}{rs:TW}{oa ob:Option Rat}{ev:Option (List Nat)}(ok:NamesOk ns)(ot:OffT ns.length rs oa ob ev):(offW ns rs oa ob ev).length<=40:=by
 have h1:=ok.l2;have h2:=ot.len;have h3:=Qi oa ob;have h4:=V4 oa ob;have h5:(evW ns ev).length<=13:=by
  cases ev with
  | none=>exact JU _
  | some es =>
   have:=Pr (ot.ev es rfl).2.1 (ot.ev es rfl).2.2;simp[evW];omega
 unfold offW;rw[YR,XF,XF,YB];omega
section
variable {P:TR}{w:World}{K:TQ}{mg:TB}{base:Heap}
inductive spReadOffer (K:TQ) (vs:TV) (H:Hp) (Q:VK) (_z3:XK):Prop
 | mk (a:Addr) (ns:List PySem.Str) (rs:TW) (oa ob:Option Rat) (ev:Option (List Nat)) (zz0:vs=[.ref a,.str (Str.join ⟨#[32]⟩ (offW ns rs oa ob ev))]) (zz1:SqL K H a (ns.map V.str)) (zz2:NamesOk ns) (zz3:OffT ns.length rs oa ob ev) (zz4:∀ c H',Same H H'->OffAt K H' (.ref c) rs oa ob ev->Q (.ref c) H')
theorem W0:FnScope ["names","row","words","told","rest","place","worths","prices","event"] UF (defScope fM):=fsc
theorem Nt {f:Addr}{fd:FuncData}(F:Fun K "read_offer" "read_offer" fM f fd)(T:BltT mg)(eE:Has P w K mg base 5 "read_row" UD (spReadRow K))(eB:Has P w K mg base 6 "read_prices" UD (spReadPrices K) true)(eF:Has P w K mg base 5 "event_of" UE (spEventOf K) true):FnOk P w K mg base CX0 7 f fd UF (spReadOffer K) true:=by
 refine F.ok W0 (λvs H Q E h=>?_) (λcdv A outer s H vs Q E hr h=>?_)
 ·obtain⟨a,ns,rs,oa,ob,ev,rfl,_⟩:=h;rfl
 obtain⟨a,ns,rs,oa,ob,ev,rfl,hN,ok,ot,q⟩:=h;have sc:=W0;have hH:=hr.hd rfl;refine⟨_,(Z4 (Zc (i:=2) sc.nd rfl (Or.inl rfl) (Yg XN zg zh Vw (pv 1) (Z0 Z9 Z3)))
  (Z4 (Zc (i:=3) sc.nd rfl (Or.inl rfl) (Zz Yw (pv 2) (Zw Z8) (Zw (Za Ya Z8 (Zg Zh rfl T.len JT (Z0 (pv 0) Z3))))))
  (Z4 (Zc (i:=4) sc.nd rfl (Or.inl rfl) (Zz Yw (pv 2) (Zw (Za Ya Z8 (Zg Zh rfl T.len JT (Z0 (pv 0) Z3)))) Y0))
  (Z4 (Zn (Zc (i:=5) sc.nd rfl (Or.inl rfl) (Yi (Zf U8 Z9 (pv 4) rfl) (Yg GL zN zO (U9 (K:=K)) (pv 4) (Z0 Z9 Z3)) (Zg Zh rfl T.len JT (Z0 (pv 4) Z3)))))
  (Z4 (Zc (i:=6) sc.nd rfl (Or.inl rfl) (Zo eE hr (Z0 (pv 3) Z3)))
  (Z4 (Zc (i:=7) sc.nd rfl (Or.inl rfl) (Yk eB (hr.mono J7) rfl (Z0 (Zz Yw (pv 4) Y0 (Zw (pv 5))) Z3)))
  (Z4 (Zc (i:=8) sc.nd rfl (Or.inl rfl) (Yk eF (hr.mono J7) rfl (Z0 (pv 0) (Z0 (Zz Yw (pv 4) (Zw (Za Ya (pv 5) Z8)) Y0) Z3))))
  (Z4 (Zy (PW.pt (Yx (Zf K7 (Zq Y5 (pv 2) Z8 (λ_ _=>rfl)) Z9 (Zl _)) (Yx (Zf Wv (Zg Zh rfl T.len JT (Z0 (pv 3) Z3)) (Zg Zh rfl T.len JT (Z0 (pv 0) Z3)) (Zl _)) (Yx (Zf Xu (pv 6) Zr (Zl _)) (Xf (Zf Xu (pv 7) Zr (Zl _)))))))
   (Zb (Zi Zr))
   Zm)
  (Z4 (Zy (Zf Vs Z9 (pv 4) rfl)
   (Zb (Zi (Xt (Z0 (pv 6) (Z0 (Zq Ye (pv 7) Z8 (λ_ _=>rfl)) (Z0 (Zq Ye (pv 7) Z8 (λ_ _=>rfl)) (Z0 Zr Z3)))))))
   Zm)
  (Zb (Zi (Yi (Py (pv 8) (λ_=>rfl)) (Xt (Z0 (pv 6) (Z0 (Zq Ye (pv 7) Z8 (λ_ _=>rfl)) (Z0 (Zq Ye (pv 7) Z8 (λ_ _=>rfl)) (Z0 (pv 8) Z3))))) Zr)))))))))))),?_⟩
 have ow:=Xr ok ot;have ol:=Ww ok ot;have lj:=Yd (c:=32) (m:=63) (ws:=offW ns rs oa ob ev) λz hz=>(ow z hz).2;have lj2:(offW ns rs oa ob ev).length*(63+1)<=40*64:=GB _ ol;refine⟨_,rfl,rfl,?_⟩;refine Qa (ws:=offW ns rs oa ob ev) (by simp[offW]) (λz hz q=>by have:=(ow z hz).1 32 q;omega) U λl f1=>?_;have S1:Same H (upd H l (.lst ((offW ns rs oa ob ev).map V.str))):=Same.new f1;have e1:upd H l (.lst ((offW ns rs oa ob ev).map V.str)) l=some (.lst ((offW ns rs oa ob ev).map V.str)):=Z5;generalize upd H l (.lst ((offW ns rs oa ob ev).map V.str))=H1 at S1 e1;have hN1:=Yc S1 hN;refine⟨_,rfl,_,rfl,_,rfl,a,_,rfl,.inl hN1,_,_,rfl,rfl,_,rfl,l,_,rfl,SqL.of e1,λp2 f2=>?_⟩;have nl:((ns.map V.str).length:Int)=(ns.length:Int):=by rw[YB]
 have ow2:(offW ns rs oa ob ev).map V.str=.str sOffer::(rs.map (λr=>V.str (shR r))++(prW oa ob++evW ns ev).map V.str):=by
  simp[offW,Function.comp]
 have lr:=ot.len;have e2:cutV ((offW ns rs oa ob ev).map V.str) (some 1) (some (1+((ns.map V.str).length:Int)))=rs.map λr=>V.str (shR r):=by
  rw[nl,show (1:Int)+(ns.length:Int)=((1+ns.length:Nat):Int) by omega,show (1:Int)=((1:Nat):Int) from rfl,Ca U (by rw[ow2];simp;omega),ow2,jf,zS,jo (by rw[YB];omega)]
 have e3:cutV ((offW ns rs oa ob ev).map V.str) (some (1+((ns.map V.str).length:Int))) none=(prW oa ob++evW ns ev).map V.str:=by
  rw[nl,show (1:Int)+(ns.length:Int)=((1+ns.length:Nat):Int) by omega,Vj (by rw[ow2];simp;omega),ow2,Y1p,Y18,Y0N (by rw[YB];omega)]
 rw[e2];have S2:Same H1 (upd H1 p2 (.lst (rs.map λr=>V.str (shR r)))):=Same.new f2;refine⟨_,rfl,_,rfl,a,_,rfl,.inl (Yc S2 hN1),_,_,rfl,rfl,_,rfl,Y4 ⟨l,_,rfl,SqL.of (S2 _ _ e1),λp3 f3=>?_⟩⟩;rw[e3];have S3:Same H1 (upd (upd H1 p2 (.lst (rs.map λr=>V.str (shR r)))) p3 (.lst ((prW oa ob++evW ns ev).map V.str))):=S2.trans (Same.new f3);have g2:upd (upd H1 p2 (.lst (rs.map λr=>V.str (shR r)))) p3 (.lst ((prW oa ob++evW ns ev).map V.str)) p2=some (.lst (rs.map λr=>V.str (shR r))):=Same.new f3 _ _ Z5;have g3:upd (upd H1 p2 (.lst (rs.map λr=>V.str (shR r)))) p3 (.lst ((prW oa ob++evW ns ev).map V.str)) p3=some (.lst ((prW oa ob++evW ns ev).map V.str)):=Z5;generalize upd (upd H1 p2 (.lst (rs.map λr=>V.str (shR r)))) p3 (.lst ((prW oa ob++evW ns ev).map V.str))=H3 at S3 g2 g3;have g1:=S3 _ _ e1;have hN3:=Yc S3 hN1;have lp:(prW oa ob++evW ns ev).length<=40:=by
  have:(prW oa ob++evW ns ev).length<=(offW ns rs oa ob ev).length:=by simp[offW];omega
  omega
 have hin:decide (sIf∈prW oa ob++evW ns ev)=ev.isSome:=by
  cases ev with
  | none=>simpa [evW] using Fo oa ob
  | some es=>simp[evW]
 refine⟨λσ' H'=>σ'=[some (.ref a),some (.str (Str.join ⟨#[32]⟩ (offW ns rs oa ob ev))),some (.ref l),some (.ref p2),some (.ref p3),some (.int ((prW oa ob).length:Int)),none,none,none]/\H'=H3,?_,?_⟩
 ·refine⟨_,rfl,p3,_,rfl,.inl (SqL.of g3),rfl,Yu _,_,rfl,?_⟩;rw[Wx,hin]
  cases ev with
  | none =>
   refine Yb ⟨_,rfl,p3,_,rfl,.inl (SqL.of g3),?_⟩;rw[YB,show prW oa ob++evW ns none=prW oa ob from YM _];exact⟨rfl,rfl⟩
  | some es =>
   refine Xq ⟨_,rfl,.inl ⟨rfl,_,SqL.of g3⟩,p3,_,_,(prW oa ob).length,rfl,rfl,SqL.of g3,rfl,Yu _,⟨.str sIf,?_,by simp[eqV]⟩,λm y hm hy=>?_,by rw[YB];omega,⟨rfl,rfl⟩⟩
   ·rw[YQ,JX (YO _),Y0J];rfl
   rw[YQ,GC hm,XY hm] at hy
   cases hy;have:=Fo oa ob;have n:(prW oa ob)[m]≠sIf:=λz=>this (z ▸ jc hm)
   simpa [eqV] using n
 rintro _ Hx ⟨rfl,hx⟩;rw[hx];refine⟨_,rfl,p2,rs,rfl,SqL.of g2,ot.fr,by have:=ok.l2;omega,λr H4 S4 ra=>?_⟩;have g3':=S4 _ _ g3;have c1:cutV ((prW oa ob++evW ns ev).map V.str) none (some ((prW oa ob).length:Int))=(prW oa ob).map V.str:=by
  rw[C8 J8,XA,jo (by rw[YB])]
 have c2:cutV ((prW oa ob++evW ns ev).map V.str) (some (((prW oa ob).length:Int)+1)) none=(ev.getD []).map λi=>V.str (ns.getD i ""):=by
  rw[show ((prW oa ob).length:Int)+1=(((prW oa ob).length+1:Nat):Int) by omega]
  cases ev with
  | none=>rw[Kr (by simp[evW])];rfl
  | some es =>
   rw[Vj (by simp[evW]),XA,<-List.drop_drop,Y0N (by rw[YB])];simp[evW,Function.comp]
 refine⟨_,rfl,Y4 ⟨_,rfl,_,rfl,p3,_,rfl,SqL.of g3',λp5 f5=>?_⟩⟩;rw[c1];refine⟨p5,oa,ob,rfl,SqL.of Z5,ot.fa,ot.fb,λc H6 va vb S6 e6 pa pb=>?_⟩;have S5:Same H3 H6:=S4.trans ((Same.new f5).trans S6);refine⟨_,rfl,_,rfl,_,rfl,_,_,rfl,rfl,_,rfl,Y4 ⟨p3,_,rfl,SqL.of (S5 _ _ g3),λp7 f7=>?_⟩⟩;rw[c2];have S7:Same H6 (upd H6 p7 (.lst ((ev.getD []).map λi=>V.str (ns.getD i "")))):=Same.new f7;have hes:(ev.getD []).Pairwise (·<·)/\∀ e∈ev.getD [],e<ns.length:=by
  cases ev with
  | none=>exact⟨.nil,λe he=>by cases he⟩
  | some es=>exact (ot.ev es rfl).2
 refine⟨a,p7,ns,ev.getD [],rfl,Yc (S5.trans S7) hN3,SqL.of Z5,ok.nd,ok.l2,hes.1,hes.2,by have:=Pr hes.1 hes.2;have:=ok.l2;omega,λc8 H8 S8 e8=>?_⟩;have S9:Same H6 H8:=S7.trans S8;have S10:Same H3 H8:=S5.trans S9;refine⟨_,rfl,l,_,0,.str sOffer,rfl,rfl,SqL.of (S10 _ _ g1),by rw[ow2];exact Xx,rfl,_,rfl,Y7 (λe=>absurd e J8) λ_=>?_⟩;refine⟨_,rfl,p2,_,rfl,.inl (SqL.of (S10 _ _ g2)),_,rfl,a,_,rfl,.inl (Yc S10 hN3),_,_,rfl,rfl,_,rfl,?_⟩;rw[YB,YB,XI U];refine Yb ⟨_,rfl,rfl,_,rfl,Yb ⟨_,rfl,rfl,_,rfl,Yb ?_⟩⟩;have e6':=S9 _ _ e6;have pa':=pa.same S9;have pb':=pb.same S9;have ra':=ra.same ((Same.new f5).trans S6 |>.trans S9);have ST:Same H H8:=S1.trans (S3.trans S10);refine⟨_,rfl,p3,_,rfl,.inl (SqL.of (S10 _ _ g3)),rfl,Yu _,_,rfl,?_⟩;rw[Wx,hin]
 cases ev with
 | none =>
  refine Xq ?_;refine⟨_,rfl,_,rfl,c,_,_,va,rfl,rfl,SqT.of e6',rfl,_,rfl,c,_,_,vb,rfl,rfl,SqT.of e6',rfl,by show 4<=sizeLine;decide,λc9 f9=>?_⟩;have Sn:=Same.new (o:=.tup [.ref r,va,vb,.non]) f9;exact q c9 _ (ST.trans Sn) ⟨c9,r,va,vb,.non,rfl,SqT.of Z5,ra'.same Sn,pa'.same Sn,pb'.same Sn,rfl⟩
 | some es =>
  refine Yb ?_;have hne:=(ot.ev es rfl).1;refine⟨_,rfl,true,.inr (.inl ⟨_,SqT.of e8,?_⟩),Xq ?_⟩
  ·cases es with
   | nil=>exact absurd rfl hne
   | cons x t=>rfl
  refine⟨_,rfl,_,rfl,c,_,_,va,rfl,rfl,SqT.of e6',rfl,_,rfl,c,_,_,vb,rfl,rfl,SqT.of e6',rfl,_,rfl,by show 4<=sizeLine;decide,λc9 f9=>?_⟩;have Sn:=Same.new (o:=.tup [.ref r,va,vb,.ref c8]) f9;exact q c9 _ (ST.trans Sn) ⟨c9,r,va,vb,.ref c8,rfl,SqT.of Z5,ra'.same Sn,pa'.same Sn,pb'.same Sn,c8,rfl,SqT.of (Sn _ _ e8)⟩
end
theorem Nx {i:Nat}:cutV xs (some (i:Int)) none=xs.drop i:=by
 rcases Y0L i xs.length with h | h
 ·exact Vj h
 rw[Kr h,zU h]
theorem Z08 {a b:Nat}(h:a<=b):cutV xs (some (a:Int)) (some (b:Int))=(xs.drop a).take (b - a):=by
 unfold cutV;rw[HT.sIx_nat,HT.sIx_nat];rcases Y0L b xs.length with hb | hb
 ·rw[JQ hb,JQ (show a<=xs.length by omega)]
 rw[je hb];rcases Y0L a xs.length with ha | ha
 ·rw[JQ ha,JF J8,JF (i:=b - a) (by simp;omega)]
 rw[je ha,Y0A,zU ha];simp
theorem Fk {z:PySem.Str}:∀ {ws:List PySem.Str},z∈ws->ws=ws.take (ws.idxOf z)++z::ws.drop (ws.idxOf z+1)
 | ws,h=>by
  have hl:=qQ.mpr h;have e:ws[ws.idxOf z]=z:=Y1l hl
  conv=>lhs;rw[<-j4 (ws.idxOf z) ws,zB hl,e]
section
variable {P:TR}{w:World}{K:TQ}{mg:TB}{base:Heap}
def BadRow (ns:List PySem.Str)(z:PySem.Str):Prop:=∀ rs oa ob ev,OffT ns.length rs oa ob ev->z≠Str.join ⟨#[32]⟩ (offW ns rs oa ob ev)
inductive spReadOfferN (K:TQ) (vs:TV) (H:Hp) (Q:VK) (_z3:XK):Prop
 | mk (a:Addr) (ns:List PySem.Str) (z:PySem.Str) (zz0:vs=[.ref a,.str z]) (zz1:SqL K H a (ns.map V.str)) (zz2:NamesOk ns) (zz3:Asc z) (zz4:z.length<=800) (zz5:BadRow ns z) (zz6:∀ H',Same H H'->Q .non H')
theorem Qy {f:Addr}{fd:FuncData}(F:Fun K "read_offer" "read_offer" fM f fd)(T:BltT mg)(eE:Has P w K mg base 5 "read_row" UD (spReadRowG K))(eB:Has P w K mg base 6 "read_prices" UD (spReadPricesG K) true)(eF:Has P w K mg base 5 "event_of" UE (spEventOfG K) true):FnOk P w K mg base CX0 7 f fd UF (spReadOfferN K) true:=by
 refine F.ok W0 (λvs H Q E h=>?_) (λcdv A outer s H vs Q E hr h=>?_)
 ·obtain⟨a,ns,z,rfl,_⟩:=h;rfl
 obtain⟨a,ns,z,rfl,hN,ok,ha,lz,bad,q⟩:=h;have sc:=W0;have hH:=hr.hd rfl;refine⟨_,(Z4 (Zc (i:=2) sc.nd rfl (Or.inl rfl) (Yg XN zg zh Vw (pv 1) (Z0 Z9 Z3)))
  (Z4 (Zc (i:=3) sc.nd rfl (Or.inl rfl) (Zz Yw (pv 2) (Zw Z8) (Zw (Za Ya Z8 (Zg Zh rfl T.len JT (Z0 (pv 0) Z3))))))
  (Z4 (Zc (i:=4) sc.nd rfl (Or.inl rfl) (Zz Yw (pv 2) (Zw (Za Ya Z8 (Zg Zh rfl T.len JT (Z0 (pv 0) Z3)))) Y0))
  (Z4 (Zn (Zc (i:=5) sc.nd rfl (Or.inl rfl) (Yi (Zf U8 Z9 (pv 4) rfl) (Yg GL zN zO (U9 (K:=K)) (pv 4) (Z0 Z9 Z3)) (Zg Zh rfl T.len JT (Z0 (pv 4) Z3)))))
  (Z4 (Zn (Zc (i:=6) sc.nd rfl (Or.inl rfl) (Zo eE hr (Z0 (pv 3) Z3))))
  (Z4 (Zn (Zc (i:=7) sc.nd rfl (Or.inl rfl) (Yk eB (hr.mono J7) rfl (Z0 (Zz Yw (pv 4) Y0 (Zw (pv 5))) Z3))))
  (Z4 (Zn (Zc (i:=8) sc.nd rfl (Or.inl rfl) (Yk eF (hr.mono J7) rfl (Z0 (pv 0) (Z0 (Zz Yw (pv 4) (Zw (Za Ya (pv 5) Z8)) Y0) Z3)))))
  (Z4 (Zy (PW.pt (Yx (Zf K7 (Zq Y5 (pv 2) Z8 (λ_ _=>rfl)) Z9 (Zl _)) (Yx (Zf Wv (Zg Zh rfl T.len JT (Z0 (pv 3) Z3)) (Zg Zh rfl T.len JT (Z0 (pv 0) Z3)) (Zl _)) (Yx (Zf Xu (pv 6) Zr (Zl _)) (Xf (Zf Xu (pv 7) Zr (Zl _)))))))
   (Zb (Zi Zr))
   Zm)
  (Z4 (Zy (Zf Vs Z9 (pv 4) rfl)
   (Zb (Zi (Xt (Z0 (pv 6) (Z0 (Zq Ye (pv 7) Z8 (λ_ _=>rfl)) (Z0 (Zq Ye (pv 7) Z8 (λ_ _=>rfl)) (Z0 Zr Z3)))))))
   Zm)
  (Zb (Zi (Yi (Py (pv 8) (λ_=>rfl)) (Xt (Z0 (pv 6) (Z0 (Zq Ye (pv 7) Z8 (λ_ _=>rfl)) (Z0 (Zq Ye (pv 7) Z8 (λ_ _=>rfl)) (Z0 (pv 8) Z3))))) Zr)))))))))))),?_⟩
 obtain⟨w0,ws,hw⟩:∃ w0 ws,wordsOf 32 z=w0::ws:=by
  cases h:wordsOf 32 z with
  | nil=>exact absurd h (Uz 32 z)
  | cons a b=>exact⟨a,b,rfl⟩
 have ez:z=Str.join ⟨#[32]⟩ (w0::ws):=by rw[<-hw,Xd]
 have lw:=R8 32 z;rw[hw,YR] at lw;have wok:∀ w∈ws,Asc w/\w.length<=1000:=λw h=>by
  have h:w∈wordsOf 32 z:=by rw[hw];exact YG _ h
  exact⟨ha.word h,by have:=Pd h;omega⟩
 refine⟨_,rfl,rfl,?_⟩;refine Q8 (c:=32) U λl f1=>?_;rw[hw];have S1:Same H (upd H l (.lst ((w0::ws).map V.str))):=Same.new f1;have e1:upd H l (.lst ((w0::ws).map V.str)) l=some (.lst ((w0::ws).map V.str)):=Z5;generalize upd H l (.lst ((w0::ws).map V.str))=H1 at S1 e1;have hN1:=Yc S1 hN;refine⟨_,rfl,_,rfl,_,rfl,a,_,rfl,.inl hN1,_,_,rfl,rfl,_,rfl,l,_,rfl,SqL.of e1,λp2 f2=>?_⟩;have nl:(1:Int)+((ns.map V.str).length:Int)=((1+ns.length:Nat):Int):=by rw[YB];omega
 have e2:cutV ((w0::ws).map V.str) (some 1) (some (1+((ns.map V.str).length:Int)))=(ws.take ns.length).map V.str:=by
  rw[nl,show (1:Int)=((1:Nat):Int) from rfl,Z08 U,YT,jf,zS,Nat.add_sub_cancel_left,List.map_take]
 have e3:cutV ((w0::ws).map V.str) (some (1+((ns.map V.str).length:Int))) none=(ws.drop ns.length).map V.str:=by
  rw[nl,Nx,YT,Y1p,Y18,List.map_drop]
 rw[e2];have S2:Same H1 (upd H1 p2 (.lst ((ws.take ns.length).map V.str))):=Same.new f2;refine⟨_,rfl,_,rfl,a,_,rfl,.inl (Yc S2 hN1),_,_,rfl,rfl,_,rfl,Y4 ⟨l,_,rfl,SqL.of (S2 _ _ e1),λp3 f3=>?_⟩⟩;rw[e3];have S3:Same H1 (upd (upd H1 p2 (.lst ((ws.take ns.length).map V.str))) p3 (.lst ((ws.drop ns.length).map V.str))):=S2.trans (Same.new f3);have g2:upd (upd H1 p2 (.lst ((ws.take ns.length).map V.str))) p3 (.lst ((ws.drop ns.length).map V.str)) p2=some (.lst ((ws.take ns.length).map V.str)):=Same.new f3 _ _ Z5;have g3:upd (upd H1 p2 (.lst ((ws.take ns.length).map V.str))) p3 (.lst ((ws.drop ns.length).map V.str)) p3=some (.lst ((ws.drop ns.length).map V.str)):=Z5;generalize upd (upd H1 p2 (.lst ((ws.take ns.length).map V.str))) p3 (.lst ((ws.drop ns.length).map V.str))=H3 at S3 g2 g3;have g1:=S3 _ _ e1;have hN3:=Yc S3 hN1;have ewt:ws=ws.take ns.length++ws.drop ns.length:=(j4 _ _).symm;have tok:∀ w∈ws.take ns.length,Asc w/\w.length<=1000:=λw h=>wok w (qq h);have rok:∀ w∈ws.drop ns.length,Asc w/\w.length<=1000:=λw h=>wok w (Y14 h);have lt:(ws.take ns.length).length<=802:=by rw[JJ];omega
 have lr:(ws.drop ns.length).length<=802:=by rw[qy];omega
 have lt2:(ws.take ns.length).length<=ns.length:=by rw[JJ];omega
 generalize ws.take ns.length=told at *
 generalize ws.drop ns.length=rest at *
 refine⟨λσ' H'=>σ'=[some (.ref a),some (.str z),some (.ref l),some (.ref p2),some (.ref p3),some (.int ((rest.idxOf sIf:Nat):Int)),none,none,none]/\H'=H3,?_,?_⟩
 ·refine⟨_,rfl,p3,_,rfl,.inl (SqL.of g3),rfl,Yu _,_,rfl,?_⟩;rw[Wx];by_cases hin:sIf∈rest
  ·obtain⟨h1,h2⟩:=Qv hin;rw[XD hin];refine Xq ⟨_,rfl,.inl ⟨rfl,_,SqL.of g3⟩,p3,_,_,rest.idxOf sIf,rfl,rfl,SqL.of g3,rfl,Yu _,⟨.str sIf,by rw[YQ,h1];rfl,by simp[eqV]⟩,λm y hm hy=>?_,by rw[YB];omega,⟨rfl,rfl⟩⟩;rw[YQ] at hy
   cases e:rest[m]? with
   | none=>rw[e] at hy;cases hy
   | some v =>
    rw[e] at hy
    cases hy;have:v≠sIf:=λq=>h2 m hm (by rw[e,q])
    simpa [eqV] using this
  rw[XI hin];refine Yb ⟨_,rfl,p3,_,rfl,.inl (SqL.of g3),?_⟩;rw[YB,Y15 hin];exact⟨rfl,rfl⟩
 rintro _ Hx ⟨rfl,hx⟩;rw[hx];refine⟨λσ' H'=>∃ v,σ'=[some (.ref a),some (.str z),some (.ref l),some (.ref p2),some (.ref p3),some (.int ((rest.idxOf sIf:Nat):Int)),some v,none,none]/\Same H3 H'/\(v=.non \/ ∃ rs:List Rat,told=rs.map shR/\∀ r∈rs,Fit30 r),?_,?_⟩
 ·exact⟨_,rfl,p2,told,rfl,SqL.of g2,tok,U,λrs e hf a H4 S4 _=>⟨_,rfl,S4,.inr ⟨rs,e,hf⟩⟩,λ_ H4 S4=>⟨_,rfl,S4,.inl rfl⟩⟩
 rintro _ H4 ⟨v1,rfl,S4,hv1⟩;refine⟨λσ' H'=>∃ v,σ'=[some (.ref a),some (.str z),some (.ref l),some (.ref p2),some (.ref p3),some (.int ((rest.idxOf sIf:Nat):Int)),some v1,some v,none]/\Same H3 H'/\(v=.non \/ ∃ oa ob,PrOf (rest.take (rest.idxOf sIf)) oa ob),?_,?_⟩
 ·refine⟨_,rfl,Y4 ⟨_,rfl,_,rfl,p3,_,rfl,SqL.of (S4 _ _ g3),λp5 f5=>?_⟩⟩;have c1:cutV (rest.map V.str) none (some ((rest.idxOf sIf:Nat):Int))=(rest.take (rest.idxOf sIf)).map V.str:=by
   rw[C8 (by rw[YB];exact List.idxOf_le_length),List.map_take]
  rw[c1];exact⟨p5,rest.take (rest.idxOf sIf),rfl,SqL.of Z5,λw h=>rok w (qq h),by rw[JJ];omega,λoa ob fa fb e c H6 va vb S6 _ _ _=>⟨_,rfl,S4.trans ((Same.new f5).trans S6),.inr ⟨oa,ob,e,fa,fb⟩⟩,λ_ H6 S6=>⟨_,rfl,S4.trans ((Same.new f5).trans S6),.inl rfl⟩⟩
 rintro _ H5 ⟨v2,rfl,S5,hv2⟩;refine⟨λσ' H'=>∃ v,σ'=[some (.ref a),some (.str z),some (.ref l),some (.ref p2),some (.ref p3),some (.int ((rest.idxOf sIf:Nat):Int)),some v1,some v2,some v]/\Same H3 H'/\(v=.non \/ ∃ c es,v=.ref c/\H' c=some (.tup (natV es))/\EvOf ns (rest.drop (rest.idxOf sIf+1)) es),?_,?_⟩
 ·refine⟨_,rfl,_,rfl,_,rfl,_,_,rfl,rfl,_,rfl,Y4 ⟨p3,_,rfl,SqL.of (S5 _ _ g3),λp7 f7=>?_⟩⟩;have c2:cutV (rest.map V.str) (some (((rest.idxOf sIf:Nat):Int)+1)) none=(rest.drop (rest.idxOf sIf+1)).map V.str:=by
   rw[show ((rest.idxOf sIf:Nat):Int)+1=((rest.idxOf sIf+1:Nat):Int) by omega,Nx,List.map_drop]
  rw[c2];exact⟨a,p7,ns,rest.drop (rest.idxOf sIf+1),rfl,Yc (S5.trans (Same.new f7)) hN3,SqL.of Z5,ok.nd,ok.l2,by rw[qy];omega,λes h c H8 S8 e=>⟨_,rfl,S5.trans ((Same.new f7).trans S8),.inr ⟨c,es,rfl,e,h⟩⟩,λ_ H8 S8=>⟨_,rfl,S5.trans ((Same.new f7).trans S8),.inl rfl⟩⟩
 rintro _ H6 ⟨v3,rfl,S6,hv3⟩;have q:=q H6 (S1.trans (S3.trans S6));have S16:=S3.trans S6;refine⟨_,rfl,l,_,0,.str w0,rfl,rfl,SqL.of (S6 _ _ g1),by exact Xx,rfl,_,rfl,Y7 (λe=>q) λe=>?_⟩;have hw0:w0=sOffer:=by simpa using e
 refine⟨_,rfl,p2,_,rfl,.inl (SqL.of (S6 _ _ g2)),_,rfl,a,_,rfl,.inl (Yc S6 hN3),_,_,rfl,rfl,_,rfl,?_⟩;rw[YB,YB];refine Y7 (λe=>q) λe=>?_;have lts:¬ (told.length:Int)<(ns.length:Int):=GT e;refine⟨_,rfl,rfl,_,rfl,Y7 (λe=>q) λe=>?_⟩;obtain⟨rs,er,hf⟩:=hv1.resolve_left (by simpa using e);refine⟨_,rfl,rfl,_,rfl,Y7 (λe=>q) λe=>?_⟩;obtain⟨oa,ob,pw,fa,fb⟩:=hv2.resolve_left (by simpa using e);have lrs:rs.length=ns.length:=by
  have:=congrArg List.length er;rw[YB] at this;omega
 refine⟨_,rfl,p3,_,rfl,.inl (SqL.of (S6 _ _ g3)),rfl,Yu _,_,rfl,?_⟩;rw[Wx];by_cases hin:sIf∈rest
 ·rw[XD hin];refine Yb ?_;have er2:=Fk hin;rcases hv3 with rfl | ⟨c,es,rfl,ec,ev⟩
  ·exact⟨_,rfl,false,rfl,Yb q⟩
  refine⟨_,rfl,!(natV es).isEmpty,.inr (.inl ⟨_,SqT.of ec,rfl⟩),?_⟩
  cases es with
  | nil=>exact Yb q
  | cons x t =>
   refine absurd ?_ (bad rs oa ob (some (x::t)) ⟨lrs,hf,fa,fb,λes' e=>by cases e;exact⟨J8,ev.r,ev.l⟩⟩);rw[ez,hw0,ewt,er,er2,pw,ev.w];rfl
 rw[XI hin];refine absurd ?_ (bad rs oa ob none ⟨lrs,hf,fa,fb,λes' e=>by cases e⟩);rw[Y15 hin,JR] at pw;rw[ez,hw0,ewt,er,pw];show _=Str.join ⟨#[32]⟩ (sOffer::(rs.map shR++(prW oa ob++[])));rw[YM]
theorem Qn (D:Def K mg "read_offer" fM UF)(T:BltT mg)(eE:Has P w K mg base 5 "read_row" UD (spReadRowG K))(eB:Has P w K mg base 6 "read_prices" UD (spReadPricesG K) true)(eF:Has P w K mg base 5 "event_of" UE (spEventOfG K) true):Has P w K mg base 7 "read_offer" UF (λvs H Q E=>spReadOffer K vs H Q E \/ spReadOfferN K vs H Q E) true :=
 D.has λ_ _ F=>Z0v (Nt F T (Qw eE rowG) (Qw eB B0) (Qw eF Z25)) (Qy F T eE eB eF)
end
def ErrAtHere (K:TQ)(mg:TB)(x q:Str)(st:Stmt):Prop:=∃ (C f:Addr) (fd:FuncData),ExcI K mg x C f/\Fun K "__init__" q st f fd/\Binds K fd UG []/\StoI K C "at"/\ExcRead K C
theorem C2 {x q:Str}{sl:Array (Option Value)}{kV dc cd:Value}(X:K.In h)(G:h.Ns mainGlobals mg)(aC:W.nsIn K mainGlobals x=some (some (.ref C)))
  (a1:W.findIn K (.ref C) "__init__"=some (some (.ref f))) (i1:W.isFn K (.ref f)=true) (l1:K.lookup f=some ⟨oc,od,.func (W.fnOf "__init__" q (defArgs st) (defBody st) (defScope st) .none kV dc pm an cd ct),sl⟩) (c1:W.codeIn K cd q=true) (k1:W.keepIn K (.ref f)=true)
  (sa:W.findIn K (.ref C) "__setattr__"=some (some (.builtin "object.__setattr__"))) (na:W.findIn K (.ref C) "at"=some none)
  (ga:W.findIn K (.ref C) "__getattribute__"=some (some (.builtin "BaseException.__getattribute__"))) (gh:W.findIn K (.ref C) "__getattr__"=some none) (cl:W.findIn K (.ref C) "__class__"=some (some (.builtin "object.__class__"))) (gt:W.specialIn K (.builtin "object.__class__") "__get__"=some (some (.builtin "getset_descriptor.__get__")))
  (tk:W.takesIn K (.builtin "object.__class__")=some true) (mo:W.mroIn K C (.type "object")=some true) (be:W.subIn K (.ref C) (.type "BaseException")=some true)
  (ok:excInI K C f=true) (bd:∀ (us:TH),us.length=2->bindArgs (W.fnOf "__init__" q (defArgs st) (defBody st) (defScope st) .none kV dc pm an cd ct) ⟨us,[]⟩=pure ((UG:List Str).zip us)):ErrAtHere K mg x q st :=
 ⟨C,f,_,⟨ok,i1,zt X G aC⟩,Qx l1 c1 k1,Binds.all bd,⟨sa,na⟩,⟨ga,gh,cl,gt,tk,mo,be⟩⟩
inductive spTextInit (C:Addr) (vs:TV) (H:Hp) (Q:VK) (_z3:XK):Prop
 | mk (e:Addr) (n:Nat) (zz0:vs=[.ref e,.int (n:Int)]) (zz1:H e=some (excN e C none)) (zz2:n<=10000) (zz3:∀ (d:Addr) (H':Hp),H d=none->H' e=some (excN e C (some d))->H' d=some (.xd [("at",.int (n:Int))])->(∀ b o,H b=some o->b≠e->H' b=some o)->Q .non H')
theorem Ta {e:Addr}{n:Nat}{E:XK}(he:H1 e=none)(hn:n<=10000)(hw:∀ (d:Addr) (H':Hp),Same H1 H'->H' d=some (.xd [("at",.int (n:Int))])->E (.ref C) (some d) H') :
  spTextInit C [.ref e,.int (n:Int)] (upd H1 e (excN e C none)) (λv H2=>v=.non/\∃ dd,H2 e=some (excN e C dd)/\E (.ref C) dd (unT H2 e)) E0:=by
 refine⟨e,n,rfl,Z5,hn,λd H' hd h1 h2 kp=>⟨rfl,some d,h1,?_⟩⟩;have nd:d≠e:=λz=>by rw[z,Z5] at hd;cases hd
 refine hw d _ (λb o hb=>?_) (by rw[Wr nd];exact h2);have nb:b≠e:=Zd hb he;rw[Wr nb];exact kp b o (by rw[Zj nb];exact hb) nb
section
variable {P:TR}{w:World}{K:TQ}{mg:TB}{base:Heap}{C:Addr}
theorem Qg:FnScope UG UG (defScope fQ):=fsc
theorem Qp (F:Fun K "__init__" "NoText.__init__" fQ f fd)(O:ExcI K mg xn C fI)(B:BaseI K mg "SureError" D)(S:StoI K C "at"):FnOk P w K mg base CX0 1 f fd UG (spTextInit C):=by
 refine F.ok Qg (λvs H Q E h=>?_) (λcdv A outer s H vs Q E hr h=>?_)
 ·obtain⟨e,n,rfl,_⟩:=h;rfl
 obtain⟨e,n,rfl,he,hn,k⟩:=h;refine⟨_,Z4 (V3 (Fv B rfl (Z0 (pv 0) (Z0 (Be J7 (pv 1)) Z3)))) (Zb (Cz (pv 0) (pv 1) rfl)),?_⟩;have l1:=(Xm (n:=(n:Int)) (k:=70) J7 (JK (show (n:Int).natAbs<=10000 by omega) J9)).1;refine⟨_,rfl,_,rfl,(n:Int),rfl,Ul (JK (show (n:Int).natAbs<=10000 by omega) J9),?_,?_⟩
 ·rw[YF,YF,YF,YX];show 0+4+(numS (n:Int)).length+19<=_;omega
 refine⟨e,C,fI,none,xn,_,rfl,sz1,he,O,?_⟩;refine⟨_,rfl,_,rfl,e,C,fI,xn,rfl,he,O,S,λd hd hde=>?_⟩;refine k d _ hd (by rw[Zj (JZ hde),Z5]) Z5 λb o hb hne=>?_;rw[Zj (λz=>by rw[z,hd] at hb;cases hb),Zj hne];exact hb
end
theorem Rt {a:Addr}{D:Ends}{σ:L2.St}(Pv:Nat->L2.St->Hp->Prop)(h0:Pv 0 σ H)(hl:∀ i σ H,i<=xs.length->Pv i σ H->SqL K H a xs)
  (hs:∀ i x σ H p,xs[i]?=some x->Pv i σ H->H p=none->g (.ref p) σ (upd H p (.tup [.int ((i+1:Nat):Int),x])) λσ2 H2=>tb { D with nx:=Pv (i+1),ct:=Pv (i+1),bk:=D.nx } σ2 H2) (hd:∀ σ H,Pv xs.length σ H->D.nx σ H) :
  ∃ W:Nat->Nat->L2.St->Hp->Prop,(∃ m,W 0 m σ H)/\∀ i m σ H,W i m σ H →
   ((Ite1 (SqL K) a).stop i H/\D.nx σ H) \/ ((Ite1 (SqL K) a).go i H/\∃ N:L2.St->Hp->Prop,(∀ σ' H',N σ' H'->∃ m',m'<m/\W (i+1) m' σ' H')/\∀ x H',(Ite1 (SqL K) a).yld i H x H'->g x σ H' λσ2 H2=>tb { D with nx:=N,ct:=N,bk:=D.nx } σ2 H2):=by
 refine⟨λi m σ H=>m=xs.length - i/\i<=xs.length/\Pv i σ H,⟨xs.length,J8,JU _,h0⟩,?_⟩;rintro i m σ H ⟨rfl,hi,p⟩;have q:=hl i σ H hi p;by_cases hlt:i<xs.length
 ·refine .inr ⟨⟨xs,q,hlt⟩,Pv (i+1),λσ' H' p'=>⟨xs.length - (i+1),U,rfl,hlt,p'⟩,λx H' y=>?_⟩;obtain⟨pp,x0,rfl,hp,rfl,fx⟩:=y;exact hs i x0 σ H pp (fx xs q) p hp
 have e:i=xs.length:=U
 subst e;exact .inl ⟨⟨xs,q,rfl⟩,hd σ H p⟩
structure Ofr where
 rs:List Rat
 oa:Option Rat
 ob:Option Rat
 ev:Option (List Nat)
abbrev Ofr.T (o:Ofr)(n:Nat):Prop:=OffT n o.rs o.oa o.ob o.ev
abbrev Ofr.At (o:Ofr)(K:TQ)(H:Hp)(c:Addr):Prop:=OffAt K H (.ref c) o.rs o.oa o.ob o.ev
def Ofr.row (o:Ofr)(ns:List PySem.Str):PySem.Str:=Str.join ⟨#[32]⟩ (offW ns o.rs o.oa o.ob o.ev)
theorem PrAt.ext {K:TQ}{H H':Hp}{v:V}{o:Option Rat}(h:PrAt K H v o)(S:Ext H H'):PrAt K H' v o:=by
 cases o with
 | none=>exact h
 | some r =>
  obtain⟨c,e,q⟩:=h;exact⟨c,e,S.sq q⟩
theorem OffAt.ext {K:TQ}{H H':Hp}{v:V}{rs:TW}{oa ob:Option Rat}{ev:Option (List Nat)}(h:OffAt K H v rs oa ob ev)(S:Ext H H'):OffAt K H' v rs oa ob ev:=by
 obtain⟨c,r,va,vb,ve,e,h,hr,ha,hb,he⟩:=h;refine⟨c,r,va,vb,ve,e,S.sq h,hr.ext S,ha.ext S,hb.ext S,?_⟩
 cases ev with
 | none=>exact he
 | some es =>
  obtain⟨c,e,q⟩:=he;exact⟨c,e,S.sq q⟩
section
variable {P:TR}{w:World}{K:TQ}{mg:TB}{base:Heap}
inductive BookT (K:TQ) (H H':Hp) (c:Addr) (ns:List PySem.Str) (os:List Ofr):Prop
 | mk (n l:Addr) (bs:TJ) (h:H' c=some (.tup [.ref n,.ref l])) (fn:H n=none) (fl:H l=none) (nl:n≠l) (hn:H' n=some (.lst (ns.map V.str))) (hl:H' l=some (.lst (bs.map V.ref))) (ho:Paired (λb o=>Ofr.At o K H' b) bs os)
def BadHead (z:PySem.Str):Prop:=∀ ns,NamesOk ns->z≠rowN ns
inductive BadAt:List PySem.Str->Nat->Prop
 | head (z:PySem.Str) (zs:List PySem.Str) (ha:Asc z) (hl:z.length<=900) (h:BadHead z):BadAt (z::zs) 0
 | row (ns:List PySem.Str) (os:List Ofr) (z:PySem.Str) (zs:List PySem.Str) (ok:NamesOk ns) (ht:∀ o∈os,Ofr.T o ns.length) (lo:os.length<12) (ha:Asc z) (hl:z.length<=800) (h:BadRow ns z):BadAt (rowN ns::(os.map (λo=>o.row ns)++z::zs)) (os.length+1)
 | many (ns:List PySem.Str) (os:List Ofr) (z:PySem.Str) (zs:List PySem.Str) (ok:NamesOk ns) (ht:∀ o∈os,Ofr.T o ns.length) (lo:os.length=12):BadAt (rowN ns::(os.map (λo=>o.row ns)++z::zs)) 13
inductive spRowsX (K:TQ) (C:Addr) (vs:TV) (H:Hp) (Q:VK) (E:XK):Prop
 | good (p:Addr) (ns:List PySem.Str) (os:List Ofr) (zz0:vs=[.ref p]) (zz1:SqL K H p (.str (rowN ns)::os.map λo=>.str (o.row ns))) (zz2:NamesOk ns) (zz3:∀ o∈os,Ofr.T o ns.length) (zz4:os.length<=12) (zz5:∀ c H',Same H H'->BookT K H H' c ns os->Q (.ref c) H')
 | bad (p:Addr) (zs:List PySem.Str) (n:Nat) (zz0:vs=[.ref p]) (zz1:SqL K H p (zs.map V.str)) (zz2:BadAt zs n) (zz3:∀ d H',Same H H'->H' d=some (.xd [("at",.int (n:Int))])->E (.ref C) (some d) H')
variable {C fI:Addr}{fdI:FuncData}
theorem T8:FnScope ["rows","names","offers","at","row","offer"] ["rows"] (defScope fU):=fsc
theorem N7 (D:Def K mg "read_rows" fU ["rows"])(T:BltT mg)(x_NoText:ExcI K mg "NoText" C fI)(F_NoText:FnOk P w K mg base CX0 1 fI fdI UG (spTextInit C))(b_NoText:Binds K fdI UG [])(eY:Has P w K mg base 5 "read_names" ["row"] spReadNamesG true)(eX:Has P w K mg base 7 "read_offer" UF (λvs H Q E=>spReadOffer K vs H Q E \/ spReadOfferN K vs H Q E) true)(m_MOST_OFFERS:∃ t,mg "MOST_OFFERS"=some (.int 12 t)):HasD P w K mg base 8 "read_rows" ["rows"] (spRowsX K C):=by
 refine D.hasD T8 (λvs H Q E h=>?_) (λf cdv A outer s H vs Q E hr h=>?_)
 ·cases h with
  | good p ns os zz0=>rw[zz0];rfl
  | bad p zs n zz0=>rw[zz0];rfl
 have sc:=T8;obtain⟨_,m_MOST_OFFERS⟩:=m_MOST_OFFERS;refine⟨_,(Z4 (Zc (i:=1) sc.nd rfl (Or.inl rfl) (Yk eY (hr.mono J7) rfl (Z0 (Zq Y5 (pv 0) Z8 (λ_ _=>rfl)) Z3)))
  (Z4 (Zy (Zf Xu (pv 1) Zr (Zl _))
   (Zb (Rh x_NoText F_NoText b_NoText (hr.mono J7) rfl (Z0 Z8 Z3)))
   Zm)
  (Z4 (Zc (i:=2) sc.nd rfl (Or.inl rfl) (Y3 Z3))
  (Z4 (Wk PassesOwn.leaving rfl (Fr rfl T.enumerate (Z0 (Zz Yw (pv 0) (Zw Z8) Y0) Z3)) (Z1e (n:=2) rfl (N3 (Zx (i:=3) sc.nd rfl (Or.inl rfl)) (N3 (Zx (i:=4) sc.nd rfl (Or.inl rfl)) Bc)))
   (Z4 (Zc (i:=5) sc.nd rfl (Or.inl rfl) (Yi (Zf Vt (pv 3) (Yf (v:=.int 12) rfl m_MOST_OFFERS ⟨_,rfl⟩) (Zl _)) (Yk eX (hr.mono J7) rfl (Z0 (pv 1) (Z0 (pv 4) Z3))) Zr))
   (Z4 (Zy (Zf Xu (pv 5) Zr (Zl _))
    (Zb (Rh x_NoText F_NoText b_NoText (hr.mono J7) rfl (Z0 (pv 3) Z3)))
    Zm)
   (Zb (V3 (Yg GL qR qS Wc (pv 2) (Z0 (pv 5) Z3)))))))
  (Zb (Zi (Xt (Z0 (pv 1) (Z0 (pv 2) Z3))))))))),?_⟩
 cases h with
 | good p ns os zz0 hS ok hT lo q =>
  subst zz0;refine⟨_,rfl,p,_,0,.str (rowN ns),rfl,rfl,hS,by exact Xx,D6 _ _ _ E0 ⟨ns,rfl,ok,λn H1 S1 fn e1=>?_⟩⟩;refine⟨_,rfl,rfl,_,rfl,Yb ?_⟩;refine⟨by show 0<=sizeLine;decide,λl fl=>?_⟩;have hS1:=Yc (S1.trans (Same.new (o:=.lst []) fl)) hS;have c1:cutV (.str (rowN ns)::os.map λo=>V.str (o.row ns)) (some 1) none=os.map λo=>V.str (o.row ns):=by
   rw[show (1:Int)=((1:Nat):Int) from rfl,Vj J8];rfl
  refine⟨_,rfl,_,rfl,Y4 ⟨p,_,rfl,hS1,λt ft=>?_⟩⟩;rw[c1];refine⟨t,rfl,⟨_,SqL.of Z5⟩,?_⟩;have tl:t≠l:=λz=>by rw[z,Z5] at ft;cases ft
  refine Rt (xs:=os.map λo=>V.str (o.row ns)) (λi σ' H'=>∃ (bs:TJ) (v3 v4 v5:Option V),σ'=[some (.ref p),some (.ref n),some (.ref l),v3,v4,v5]/\Same H1 H'/\H' l=some (.lst (bs.map V.ref))/\H' t=some (.lst (os.map λo=>V.str (o.row ns)))/\Paired (λb o=>Ofr.At o K H' b) bs (os.take i)) ?_ ?_ ?_ ?_
  ·exact⟨[],_,_,_,rfl,(Same.new fl).trans (Same.new ft),Same.new ft _ _ Z5,Z5,.nil⟩
  ·rintro i σ' H' _ ⟨_,_,_,_,_,_,_,e,_⟩;exact SqL.of e
  ·rintro i x _ H4 p' ex ⟨bs,v3,v4,v5,rfl,S4,el,et,pr⟩ fp;rw[YQ] at ex
   cases eo:os[i]? with
   | none=>rw[eo] at ex;cases ex
   | some o =>
    rw[eo] at ex
    cases ex;have hi:=(XS.mp eo).1;have S5:Same H4 (upd H4 p' (.tup [.int ((i+1:Nat):Int),.str (o.row ns)])):=Same.new fp;refine⟨_,_,rfl,SqT.of Z5,rfl,_,_,rfl,_,_,rfl,rfl,?_⟩;refine⟨_,rfl,_,_,rfl,rfl,_,rfl,?_⟩;rw[XD (show ((i+1:Nat):Int)<=12 by omega)];refine Xq ?_;refine⟨_,rfl,_,rfl,.inl ⟨n,ns,o.rs,o.oa,o.ob,o.ev,rfl,SqL.of ((S4.trans S5) _ _ e1),ok,hT o (YV eo),λc H6 S6 oc=>?_⟩⟩;refine⟨_,rfl,rfl,_,rfl,Yb ?_⟩;have S56:Same H4 H6:=S5.trans S6;have el6:=S56 _ _ el;have lb:=qO pr;have l12:(os.take i).length<=12:=by rw[JJ];omega
    refine⟨_,rfl,.inl ⟨rfl,_,SqL.of el6⟩,_,rfl,l,_,_,rfl,rfl,el6,by rw[YB,YX];omega,?_⟩;have E7:Ext H6 (upd H6 l (.lst (bs.map V.ref++[V.ref c]))):=Ext.upd el6;refine⟨bs++[c],_,_,_,rfl,Xe (S4.trans S56) fl,?_,?_,?_⟩
    ·rw[Z5,XA];rfl
    ·rw[Zj tl];exact S56 _ _ et
    rw[Y9 eo];exact Paired.appP (Paired.mapP pr λb o h=>h.ext ((Ext.same S56).trans E7)) (.cons (OffAt.ext oc E7) .nil)
  rintro _ H4 ⟨bs,v3,v4,v5,rfl,S4,el,et,pr⟩;rw[YB,JR] at pr;refine⟨_,rfl,_,rfl,by show 2<=sizeLine;decide,λc fc=>?_⟩;have S5:=Same.new (o:=.tup [.ref n,.ref l]) fc;have fl0:H l=none:=by
   cases e:H l with
   | none=>rfl
   | some o=>exact absurd (S1 _ _ e) (by rw[fl];simp)
  refine q c _ (S1.trans (S4.trans S5)) ⟨n,l,bs,Z5,fn,fl0,λz=>?_,S5 _ _ (S4 _ _ e1),S5 _ _ el,Paired.mapP pr λb o h=>h.ext (Ext.same S5)⟩;rw[z] at e1;rw[e1] at fl
  cases fl
 | bad p zs nb zz0 hS hbad kE =>
  subst zz0;have hsplit:(∃ z zs',zs=z::zs'/\nb=0/\Asc z/\z.length<=900/\BadHead z) \/ ∃ (ns:List PySem.Str) (os:List Ofr) (z:PySem.Str) (zs':List PySem.Str),zs=rowN ns::(os.map (λo:Ofr=>o.row ns)++z::zs')/\nb=os.length+1/\NamesOk ns/\(∀ o∈os,Ofr.T o ns.length)/\(os.length<12/\Asc z/\z.length<=800/\BadRow ns z \/ os.length=12):=by
   cases hbad with
   | head z zs ha hl h=>exact .inl ⟨z,zs,rfl,rfl,ha,hl,h⟩
   | row ns os z zs ok ht lo ha hl h=>exact .inr ⟨ns,os,z,zs,rfl,rfl,ok,ht,.inl ⟨lo,ha,hl,h⟩⟩
   | many ns os z zs ok ht lo=>exact .inr ⟨ns,os,z,zs,rfl,by rw[lo],ok,ht,.inr lo⟩
  rcases hsplit with ⟨z,zs',rfl,rfl,ha,hl,h⟩ | ⟨ns,os,z,zs',rfl,rfl,ok,hT,hc⟩
  ·refine⟨_,rfl,p,_,0,.str z,rfl,rfl,hS,by exact Xx,z,rfl,ha,hl,λns ok e=>absurd e (h ns ok),λ_ H1 S1=>?_⟩;refine⟨_,rfl,rfl,_,rfl,Y7 (λ_=>?_) λe=>absurd e J8⟩;exact⟨by show 1<=sizeLine;decide,λe he=>Ta (n:=0) he J7 λd H' S' hd=>kE d H' (S1.trans S') hd⟩
  have lo:os.length<=12:=U
  refine⟨_,rfl,p,_,0,.str (rowN ns),rfl,rfl,hS,by exact Xx,D6 _ _ _ E0 ⟨ns,rfl,ok,λn H1 S1 fn e1=>?_⟩⟩;refine⟨_,rfl,rfl,_,rfl,Yb ?_⟩;refine⟨by show 0<=sizeLine;decide,λl fl=>?_⟩;have hS1:=Yc (S1.trans (Same.new (o:=.lst []) fl)) hS;have c1:cutV ((rowN ns::(os.map (λo=>o.row ns)++z::zs')).map V.str) (some 1) none=(os.map (λo=>o.row ns)++z::zs').map V.str:=by
   rw[show (1:Int)=((1:Nat):Int) from rfl,Vj J8];rfl
  refine⟨_,rfl,_,rfl,Y4 ⟨p,_,rfl,hS1,λt ft=>?_⟩⟩;rw[c1];refine⟨t,rfl,⟨_,SqL.of Z5⟩,?_⟩;have tl:t≠l:=λz=>by rw[z,Z5] at ft;cases ft
  refine Rt (xs:=(os.map (λo=>o.row ns)++z::zs').map V.str) (λi σ' H'=>i<=os.length/\∃ (bs:TJ) (v3 v4 v5:Option V),σ'=[some (.ref p),some (.ref n),some (.ref l),v3,v4,v5]/\Same H1 H'/\H' l=some (.lst (bs.map V.ref))/\H' t=some (.lst ((os.map (λo=>o.row ns)++z::zs').map V.str))/\bs.length=i) ?_ ?_ ?_ ?_
  ·exact⟨JU _,[],_,_,_,rfl,(Same.new fl).trans (Same.new ft),Same.new ft _ _ Z5,Z5,rfl⟩
  ·rintro i σ' H' _ ⟨_,_,_,_,_,_,_,_,e,_⟩;exact SqL.of e
  ·rintro i x _ H4 p' ex ⟨hi,bs,v3,v4,v5,rfl,S4,el,et,lb⟩ fp;rw[YQ] at ex;have S5:∀ y:V,Same H4 (upd H4 p' (.tup [.int ((i+1:Nat):Int),y])):=λy=>Same.new fp;by_cases hio:i<os.length
   ·have eo:os[i]?=some os[i]:=J8
    rw[GC (by rw[YB];exact hio),YQ,eo] at ex;generalize os[i]=o at eo ex
    cases ex;refine⟨_,_,rfl,SqT.of Z5,rfl,_,_,rfl,_,_,rfl,rfl,?_⟩;refine⟨_,rfl,_,_,rfl,rfl,_,rfl,?_⟩;rw[XD (show ((i+1:Nat):Int)<=12 by omega)];refine Xq ?_;refine⟨_,rfl,_,rfl,.inl ⟨n,ns,o.rs,o.oa,o.ob,o.ev,rfl,SqL.of ((S4.trans (S5 _)) _ _ e1),ok,hT o (YV eo),λc H6 S6 oc=>?_⟩⟩;refine⟨_,rfl,rfl,_,rfl,Yb ?_⟩;have S56:Same H4 H6:=(S5 _).trans S6;have el6:=S56 _ _ el;refine⟨_,rfl,.inl ⟨rfl,_,SqL.of el6⟩,_,rfl,l,_,_,rfl,rfl,el6,by rw[YB,YX];omega,?_⟩;refine⟨hio,bs++[c],_,_,_,rfl,Xe (S4.trans S56) fl,?_,?_,by rw[XF,lb];rfl⟩
    ·rw[Z5,XA];rfl
    rw[Zj tl];exact S56 _ _ et
   have hi0:i=os.length:=U
   subst hi0;rw[JX (by rw[YB];exact YO _),YB,Y0J] at ex
   cases ex;have S15:=S1.trans (S4.trans (S5 (.str z)));refine⟨_,_,rfl,SqT.of Z5,rfl,_,_,rfl,_,_,rfl,rfl,?_⟩;refine⟨_,rfl,_,_,rfl,rfl,_,rfl,?_⟩;rcases hc with ⟨lo,ha,hl,h⟩ | lo
   ·rw[XD (show ((os.length+1:Nat):Int)<=12 by omega)];refine Xq ?_;refine⟨_,rfl,_,rfl,.inr ⟨n,ns,z,rfl,SqL.of ((S4.trans (S5 _)) _ _ e1),ok,ha,hl,h,λH6 S6=>?_⟩⟩;refine⟨_,rfl,rfl,_,rfl,Y7 (λ_=>?_) λe=>absurd e J8⟩;refine⟨_,rfl,by show 1<=sizeLine;decide,λe he=>?_⟩;exact Ta (n:=os.length+1) he U λd H' S' hd=>kE d H' ((S15.trans S6).trans S') hd
   rw[XI (show ¬ ((os.length+1:Nat):Int)<=12 by omega)];refine Yb ?_;refine⟨_,rfl,rfl,_,rfl,Y7 (λ_=>?_) λe=>absurd e J8⟩;refine⟨_,rfl,by show 1<=sizeLine;decide,λe he=>?_⟩;exact Ta (n:=os.length+1) he U λd H' S' hd=>kE d H' (S15.trans S') hd
  rintro _ H4 ⟨hi,_⟩;rw[YB,XF,YB,YR] at hi;omega
def bookT (ns:List PySem.Str)(os:List Ofr):PySem.Str:=Str.join ⟨#[10]⟩ (rowN ns::os.map λo=>o.row ns)
theorem We {c d:Nat}(hcd:c≠d):∀ {ws:List PySem.Str},(∀ w∈ws,c ∉ w.cps.toList)->c ∉ (Str.join ⟨#[d]⟩ ws).cps.toList
 | [],_=>λq=>by cases q
 | [w],h=>h w YI
 | w::v::ws,h=>by
  rw[Xa,Z6,Z6];intro q;rcases YN.mp q with q | q
  ·rcases YN.mp q with q | q
   ·exact h w YI q
   exact hcd (by simpa using q)
  exact We hcd (λx hx=>h x (YG _ hx)) q
inductive spReadX (K:TQ) (C:Addr) (vs:TV) (H:Hp) (Q:VK) (E:XK):Prop
 | good (ns:List PySem.Str) (os:List Ofr) (zz0:vs=[.str (bookT ns os)]) (zz2:NamesOk ns) (zz3:∀ o∈os,Ofr.T o ns.length) (zz4:os.length<=12) (zz5:∀ c H',Same H H'->BookT K H H' c ns os->Q (.ref c) H')
 | bad (z:PySem.Str) (n:Nat) (zz0:vs=[.str z]) (zz1:z.length<=1000000) (zz2:BadAt (wordsOf 10 z) n) (zz3:∀ d H',Same H H'->H' d=some (.xd [("at",.int (n:Int))])->E (.ref C) (some d) H')
theorem Ff:FnScope UC UC (defScope gN):=fsc
theorem Bj (D:Def K mg "read" gN UC)(eZ:HasD P w K mg base 8 "read_rows" ["rows"] (spRowsX K C)):HasD P w K mg base 9 "read" UC (spReadX K C):=by
 refine D.hasD Ff (λvs H Q E h=>?_) (λf cdv A outer s H vs Q E hr h=>?_)
 ·cases h with
  | good ns os zz0=>rw[zz0];rfl
  | bad z n zz0=>rw[zz0];rfl
 have sc:=Ff;refine⟨_,(Zb (Zi (Qk eZ (hr.mono J7) rfl Lg (Z0 (Yg XN zg zh Vw (pv 0) (Z0 Z9 Z3)) Z3)))),?_⟩
 cases h with
 | good ns os zz0 ok hT lo q =>
  subst zz0;refine⟨_,rfl,rfl,?_⟩;have wl:∀ z∈rowN ns::os.map (λo=>o.row ns),10 ∉ z.cps.toList/\z.length<=2560:=by
   intro z hz;rcases YC.mp hz with rfl | hz
   ·refine⟨We J7 λw hw=>?_,?_⟩
    ·rcases YC.mp hw with rfl | hw
     ·decide
     exact (ok.ok w hw).free J7
    have lj:=Yd (c:=32) (m:=8) (ws:=Str.ofString "worlds"::ns) λz hz=>by
     rcases YC.mp hz with rfl | hz
     ·decide
     exact (ok.ok z hz).l2
    rw[YR] at lj;have:=ok.l2;show (Str.join ⟨#[32]⟩ (Str.ofString "worlds"::ns)).length<=_;omega
   obtain⟨o,ho,rfl⟩:=JC.mp hz;have ot:=hT o ho;have ow:=Xr ok ot;have ol:=Ww ok ot;have lj:=Yd (c:=32) (m:=63) (ws:=offW ns o.rs o.oa o.ob o.ev) λz hz=>(ow z hz).2;have lj2:(offW ns o.rs o.oa o.ob o.ev).length*(63+1)<=40*64:=GB _ ol;refine⟨We J7 λw hw q=>?_,?_⟩
   ·have:=(ow w hw).1 10 q;omega
   show (Str.join ⟨#[32]⟩ (offW ns o.rs o.oa o.ob o.ev)).length<=_;omega
  have lj:=Yd (c:=10) (m:=2560) (ws:=rowN ns::os.map λo=>o.row ns) λz hz=>(wl z hz).2;rw[YR,YB] at lj;have lj2:(os.length+1)*(2560+1)<=13*2561:=GB _ U;refine Qa (ws:=rowN ns::os.map λo=>o.row ns) J8 (λz hz=>(wl z hz).1) U λl f1=>?_;have Sn:=Same.new (o:=.lst ((rowN ns::os.map λo=>o.row ns).map V.str)) f1;refine .good l ns os rfl (SqL.of (by rw[Z5];simp[Function.comp])) ok hT lo λc H' S b=>?_;obtain⟨n,l',bs,h,fn,fl,nl,hn,hl,ho⟩:=b;have back:∀ {x:Addr},upd H l (.lst ((rowN ns::os.map λo=>o.row ns).map V.str)) x=none->H x=none:=λ{x} h=>by
   cases e:H x with
   | none=>rfl
   | some o=>exact absurd (Sn _ _ e) (by rw[h];simp)
  exact q c H' (Sn.trans S) ⟨n,l',bs,h,back fn,back fl,nl,hn,hl,ho⟩
 | bad z n zz0 hl hb kE =>
  subst zz0;refine⟨_,rfl,rfl,?_⟩;refine Q8 (c:=10) hl λl f1=>?_;exact .bad l (wordsOf 10 z) n rfl (SqL.of Z5) hb λd H' S hd=>kE d H' ((Same.new f1).trans S) hd
end
def onW (z:PySem.Str):Option Rat->List PySem.Str
 | none=>[]
 | some r=>[z,shR r]
theorem Nr {c m:Nat}:∀ {ws:List PySem.Str} {k:Nat},(∀ w∈ws,w.length<=m)->ws.foldl (λacc w=>acc+w.length+(⟨#[c]⟩:PySem.Str).length) k<=k+ws.length*(m+1)
 | [],k,_=>J8
 | w::ws,k,h=>by
  have a:=h w YI;have b:=Nr (c:=c) (ws:=ws) (k:=k+w.length+1) λx hx=>h x (YG _ hx);rw[jp,YR,Y13];show ws.foldl _ (k+w.length+1)<=_;omega
theorem Z20 {c m:Nat}{ws:List PySem.Str}(h:∀ w∈ws,w.length<=m)(hl:ws.length*(m+1)<=1000000):JoinOk ⟨#[c]⟩ ws=true:=by
 have:=Nr (c:=c) (k:=0) h;unfold JoinOk PySem.Builtin.Str.tooLong;rw[Y19]
 ·simp;have e:sizeLine=16777216:=YX;omega
 rfl
theorem Va (y:PySem.Str)(ws:List PySem.Str):Txt.join y ws=Str.join y ws:=by
 unfold Txt.join;rw[StrLaws.glued_eq_join]
theorem Tf (oa ob:Option Rat):prW oa ob=onW sAsk oa++onW sBid ob:=by cases oa <;> cases ob <;> rfl
theorem T3 {H H1:Hp}{d:Addr}(S:Same H H1)(hd:H1 d=none):H d=none:=by
 cases e:H d with
 | none=>rfl
 | some o=>exact absurd (S _ _ e) (by rw[hd];simp)
section
variable {K:TQ}
inductive spShowOffer (K:TQ) (vs:TV) (H:Hp) (Q:VK) (_z3:XK):Prop
 | mk (a c:Addr) (ns:List PySem.Str) (o:Ofr) (zz0:vs=[.ref a,.ref c]) (zz1:SqL K H a (ns.map V.str)) (zz2:Ofr.At o K H c) (zz3:NamesOk ns) (zz4:Ofr.T o ns.length) (zz5:∀ H',Same H H'->Q (.str (o.row ns)) H')
end
section
variable {P:TR}{w:World}{K:TQ}{mg:TB}{base:Heap}
theorem Bo (D:Def K mg "_law_show" gM ["_law_one"])(T:BltT mg):Has P w K mg base 1 "_law_show" ["_law_one"] (spShowR K):=by
 refine D.h9 (N:=["_law_one"]) fsc λH Q hr h nd=>?_;obtain⟨a,r,rfl,hS,h1,h2,q⟩:=h;refine⟨_,(Z4 (Zy (Zf W2 (Zq Dh (pv 0) Z8 (λ_ _=>rfl)) Z8 (Zl _))
   (Zb (Zi (Y1 Xc rfl T.str qF (Z0 (Zq Di (pv 0) Z8 (λ_ _=>rfl)) Z3))))
   Zm)
  (Zb (Zi (Za Z7 (Za Z7 (Y1 Xc rfl T.str qF (Z0 (Zq Di (pv 0) Z8 (λ_ _=>rfl)) Z3)) Z9) (Y1 Xc rfl T.str qF (Z0 (Zq Dh (pv 0) Z8 (λ_ _=>rfl)) Z3)))))),?_⟩
 refine⟨_,rfl,_,_,_,rfl,rfl,hS,rfl,_,rfl,Y7 (λe=>?_) λe=>?_⟩
 ·have e':r.2=1:=by simpa using e
  have:shR r=numS r.1:=by unfold shR;rw[JD e']
  rw[this] at q;exact⟨_,rfl,_,_,_,rfl,rfl,hS,_,rfl,Ul h1,q⟩
 have e':¬ r.2=1:=by simpa using e
 have:shR r=numS r.1++⟨#[47]⟩++numS r.2:=by unfold shR;rw[XQ e']
 have l1:=(Xm (k:=70) J7 h1).1;have l2:=(Xm (k:=70) J7 h2).1;rw[this] at q;refine⟨_,rfl,_,_,_,rfl,rfl,hS,_,rfl,Ul h1,_,_,rfl,rfl,?_,_,rfl,_,_,_,rfl,rfl,hS,_,rfl,Ul h2,_,_,rfl,rfl,?_,q⟩
 ·rw[YX];show (numS r.1).length+1<=_;omega
 rw[YF,YX];show (numS r.1).length+1+(numS r.2).length<=_;omega
end
theorem p30:(10:Int) ^ (30:Int).toNat=1000000000000000000000000000000:=by decide +kernel
theorem Kl {p q:Int}(hq:0<q)(h1:p.natAbs<10 ^ 30)(h2:q.natAbs<10 ^ 30):Fit30 (nrm p q) :=
 ⟨Qr U,D8 U,JK (Z0s U) h1,JK (Z0t U) h2⟩
section
variable {P:TR}{w:World}{K:TQ}{mg:TB}{base:Heap}
inductive spPart (vs:TV) (H:Hp) (Q:VK) (_z3:XK):Prop
 | mk (b:Addr) (n:Nat) (zz0:vs=[.ref b]) (zz1:BagAt H b n) (zz2:n<=1000000) (zz3:∀ (a:Addr) (H':Hp) (r:Rat),BagAt H' b (n+3)->SameX b H H'->H' a=some (.tup [.int r.1,.int r.2])->Fit30 r->Q (.ref a) H')
theorem Z1q (D:Def K mg "_law_part" gO ["_law_bag_here"])(eA:Z1 P w K mg base)(eQ:Has P w K mg base 2 "_law_ratio" TZ spRatio):Has P w K mg base 3 "_law_part" ["_law_bag_here"] spPart:=by
 refine D.h9 (N:=["_law_bag_here","_law_way","_law_top"]) fsc λH Q hr h nd=>?_;obtain⟨b,n,rfl,hB,hn,k⟩:=h;refine⟨_,(Z4 (Zc (i:=1) nd rfl (Or.inl rfl) (Zo eA hr (Z0 (pv 0) (Z0 Z8 Z3))))
  (Z4 (Zy (Zf W2 (pv 1) Z8 (Zl _))
   (Z4 (Zc (i:=2) nd rfl (Or.inl rfl) (Za Tm (Zo eA hr (Z0 (pv 0) (Z0 (Za Tm (Za Xl Z8 (Za To Z8 Z8)) Z8) Z3))) (Za Tm (Za To Z8 Z8) Z8)))
   (Zb (Zi (Zo eQ hr (Z0 (pv 2) (Z0 (Za Ya Z8 (Zo eA hr (Z0 (pv 0) (Z0 (Za Tm (Za To Z8 Z8) Z8) Z3)))) Z3))))))
   Zm)
  (Zb (Zi (Zo eQ hr (Z0 (Za Tm (Zo eA hr (Z0 (pv 0) (Z0 Z8 Z3))) Z8) (Z0 (Za Ya Z8 (Zo eA hr (Z0 (pv 0) (Z0 Z8 Z3)))) Z3))))))),?_⟩
 have e30:(10:Nat) ^ 30=1000000000000000000000000000000:=J9
 refine⟨_,rfl,b,_,n,rfl,hB,U,J7,J9,λw1 H1 w10 w11 B1 S1=>?_⟩;refine⟨_,rfl,rfl,_,rfl,Y7 (λe=>?_) λe=>?_⟩
 ·refine⟨_,rfl,_,_,rfl,rfl,Cb J7 J7,_,_,rfl,rfl,La J7 J7,_,_,rfl,rfl,b,_,n+1,rfl,B1,U,by rw[p30];decide,by rw[p30];decide +kernel,λr2 H2 r20 r21 B2 S2=>?_⟩;rw[p30] at r21;refine⟨_,_,rfl,rfl,Cb J7 J7,_,_,rfl,rfl,_,_,rfl,rfl,?_⟩;rw[p30];refine⟨_,rfl,_,rfl,_,_,rfl,rfl,Cb J7 J7,_,_,rfl,rfl,b,_,n+1+1,rfl,B2,U,by rw[p30];decide,by rw[p30];decide +kernel,λr3 H3 r30 r31 B3 S3=>⟨_,_,rfl,rfl,?_⟩⟩;rw[p30] at r31;have b2:(1+r3).natAbs<10 ^ 30:=by rw[e30];omega
  refine⟨_,_,rfl,U,Ka b2,λa H4 fa S4 ea=>?_⟩;exact k a H4 (nrm (r2 - (1000000000000000000000000000000 - 1)) (1+r3)) (B3.same S4) (((S1.trans S2).trans S3).trans (SameX.of S4)) ea (Kl U (by rw[e30];omega) b2)
 refine⟨_,rfl,b,_,n+1,rfl,B1,U,J7,J9,λr2 H2 r20 r21 B2 S2=>⟨_,_,rfl,rfl,?_⟩⟩;refine⟨_,rfl,b,_,n+1+1,rfl,B2,U,J7,J9,λr3 H3 r30 r31 B3 S3=>⟨_,_,rfl,rfl,?_⟩⟩;have b2:(1+r3).natAbs<10 ^ 30:=by rw[e30];omega
 refine⟨_,_,rfl,U,Ka b2,λa H4 fa S4 ea=>?_⟩;exact k a H4 (nrm (r2 - 10) (1+r3)) (B3.same S4) (((S1.trans S2).trans S3).trans (SameX.of S4)) ea (Kl U (by rw[e30];omega) b2)
inductive spAnyOffer (K:TQ) (vs:TV) (H:Hp) (Q:VK) (_z3:XK):Prop
 | mk (b:Addr) (c n:Nat) (zz0:vs=[.ref b,.int c]) (zz1:BagAt H b n) (zz2:n<=100000) (zz3:2<=c) (zz4:c<=12) (zz5:∀ (a:Addr) (H':Hp) (o:Ofr),BagAt H' b (n+100)->SameX b H H'->Ofr.At o K H' a->Ofr.T o c->Q (.ref a) H')
theorem T9:FnScope ["_law_bag_here","_law_count","_law_row","_law_ask","_law_bid","_law_event","_law_bits"] UH (defScope fX):=fsc
theorem L6 (D:Def K mg "_law_any_offer" fX UH)(T:BltT mg)(eO:Has P w K mg base 3 "_law_part" ["_law_bag_here"] spPart)(eA:Z1 P w K mg base):Has P w K mg base 4 "_law_any_offer" UH (spAnyOffer K):=by
 refine D.has λf fd F=>F.ok T9 (λvs H Q E h=>?_) (λcdv A outer s H vs Q E hr h=>?_)
 ·obtain⟨b,c,n,rfl,_⟩:=h;rfl
 obtain⟨b,c,n,rfl,hB,hn,hc,hc2,k⟩:=h;have sc:=T9;have nd1:(UI:List Str).Nodup:=J9
 have nd2:(UI:List Str).Nodup:=J9
 have nd3:(UI:List Str).Nodup:=J9
 have nd4:(["_law_world","_law_bits"]:List Str).Nodup:=J9
 have nd5:(["_law_world","_law_bits"]:List Str).Nodup:=J9
 refine⟨_,(Z4 (Zn (Zc (i:=2) sc.nd rfl (Or.inl rfl) (Y1 Yo rfl T.tuple qu (Z0 (Xk (ox:=none) (N:=UI) (k:=1) (fv:=[0]) rfl (Yj rfl T.range (Z0 (pv 1) Z3))
  (λ_ _ _ _ _=>Zx (i:=0) nd2 rfl (Or.inl rfl)) (λ_ _ _ _ _=>Yy) (λ_ _ _ _ _=>(Zo eO hr (Z0 (pv 1) Z3))) Y6) Z3))))
  (Z4 (Zn (Zc (i:=3) sc.nd rfl (Or.inl rfl) (Zq Y5 (Y3 (Z0 Zr (Z0 (Zo eO hr (Z0 (pv 0) Z3)) Z3))) (Zo eA hr (Z0 (pv 0) (Z0 Z8 Z3))) (λ_ _=>rfl))))
  (Z4 (Zn (Zc (i:=4) sc.nd rfl (Or.inl rfl) (Zq Y5 (Y3 (Z0 Zr (Z0 (Zo eO hr (Z0 (pv 0) Z3)) Z3))) (Zo eA hr (Z0 (pv 0) (Z0 Z8 Z3))) (λ_ _=>rfl))))
  (Z4 (Zc (i:=5) sc.nd rfl (Or.inl rfl) Zr)
  (Z4 (Zn (Zy (Zf W2 (Zo eA hr (Z0 (pv 0) (Z0 Z8 Z3))) Z8 (Zl _))
   (Z4 (Zc (i:=6) sc.nd rfl (Or.inr rfl) (Xk (ox:=none) (N:=UI) (k:=1) (fv:=[0]) rfl (Yj rfl T.range (Z0 (pv 1) Z3))
  (λ_ _ _ _ _=>Zx (i:=0) nd3 rfl (Or.inl rfl)) (λ_ _ _ _ _=>Yy) (λ_ _ _ _ _=>(Zo eA hr (Z0 (pv 1) (Z0 Z8 Z3)))) Y6))
   (Z4 (Td Z8 (Th (pv 6) (Zo eA hr (Z0 (pv 0) (Z0 (pv 1) Z3))) Wu))
   (Zb (Zc (i:=5) sc.nd rfl (Or.inl rfl) (Y1 Yo rfl T.tuple qu (Z0 (Xk (ox:=none) (N:=["_law_world","_law_bits"]) (k:=1) (fv:=[6]) rfl (Yj rfl T.range (Z0 (pv 1) Z3))
  (λ_ _ _ _ _=>Zx (i:=0) nd5 rfl (Or.inl rfl)) (λ_ _ _ _ _=>K2 (Zf W2 (Zq (Z2o (K:=K)) (pv 1) (pv 0) (λ_ _=>rfl)) Z8 (Zl _))) (λ_ _ _ _ _=>(pv 0)) Y6) Z3))))))
   Zm))
  (Zb (Zi (Xt (Z0 (pv 2) (Z0 (pv 3) (Z0 (pv 4) (Z0 (pv 5) Z3)))))))))))),?_⟩
 have hBl:=hB.lst;refine⟨λσ' H'=>∃ (r:Addr) (rs:TW),σ'=[some (.ref b),some (.int c),some (.ref r),none,none,none,none]/\BagAt H' b (n+36)/\SameX b H H'/\RowAt K H' r rs/\rs.length=c/\∀ r∈rs,Fit30 r,?_,?_⟩
 ·refine⟨_,rfl,(c:Int),rfl,U,U,λd hd=>?_⟩;have hdb:d≠b:=by
   obtain⟨ys,e⟩:=hBl;exact (Zd e hd).symm
  have et:(c:Int).toNat=c:=U
  rw[et];refine⟨c,λi ys H2=>∃ rs,Rs K H2 rs ys/\rs.length=i/\(∀ r∈rs,Fit30 r)/\BagAt H2 b (n+3*i)/\SameX b H H2,W9 U,?_,?_,?_⟩
  ·exact⟨[],.nil,rfl,(λ_ h=>nomatch h),hB.upd (JZ hdb),SameX.of (Same.new hd)⟩
  ·rintro i ys H2 hi ⟨rs,h1,h2,h3,h4,h5⟩ hd2;refine⟨hi,?_⟩;rintro x H3 ⟨rfl,rfl⟩;refine W3 ?_;refine⟨_,rfl,b,n+3*i,rfl,h4,U,λa H4 r B4 S4 e4 g4=>?_⟩;have E4:=Ext.bag S4 h4;have hd4:H4 d=some (.lst ys):=S4 _ _ hd2 hdb;have E5:Ext H4 (upd H4 d (.lst (ys++[.ref a]))):=Ext.upd hd4;refine⟨hd4,rs++[r],(h1.ext (E4.trans E5)).snoc ⟨a,rfl,E5.sq (SqT.of e4)⟩,by rw[XF,h2];rfl,λr' hr'=>?_,(B4.upd (JZ hdb)).mono U,?_⟩
   ·rcases YN.mp hr' with z | z
    ·exact h3 r' z
    rw[JA.mp z];exact g4
   exact λq o e ne=>by
    have e2:=S4 q o (h5 q o e ne) ne;rw[Zj (Zd e hd)];exact e2
  rintro ys H2 ⟨rs,h1,h2,h3,h4,h5⟩ hd2;refine⟨YO _,d,ys,rfl,.inl ⟨SqL.of hd2,λl hl=>?_⟩⟩;have E:=Ext.new (o:=.tup ys) hl;exact⟨l,rs,rfl,(h4.same (Same.new hl)).mono U,h5.trans (SameX.of (Same.new hl)),⟨ys,SqT.of Z5,h1.ext E⟩,h2,h3⟩
 rintro _ H1 ⟨r,rs,rfl,B1,S1,r1,l1,f1⟩;refine⟨λσ' H'=>∃ (va:V) (oa:Option Rat),σ'=[some (.ref b),some (.int c),some (.ref r),some va,none,none,none]/\BagAt H' b (n+40)/\SameX b H H'/\RowAt K H' r rs/\PrAt K H' va oa/\∀ r,oa=some r->Fit30 r,?_,?_⟩
 ·refine⟨_,rfl,b,n+36,rfl,B1,U,λa1 H2 r2 B2 S2 e2 f2=>⟨by show 2<=sizeLine;decide,λp1 g1=>?_⟩⟩;have hpb:p1≠b:=by
   obtain⟨ys,e⟩:=B2.lst;exact (Zd e g1).symm
  have Sn:Same H2 (upd H2 p1 (.lst [.non,.ref a1])):=Same.new g1;refine⟨_,rfl,b,_,n+36+3,rfl,B2.same Sn,U,J7,J9,λj H3 j0 j1 B3 S3=>?_⟩;have el:H3 p1=some (.lst [.non,.ref a1]):=S3 _ _ Z5 hpb;have EX:Ext H1 H3:=(Ext.bag S2 B1).trans ((Ext.same Sn).trans (Ext.bag S3 (B2.same Sn)));have EA:SqT K H3 a1 [.int r2.1,.int r2.2]:=((Ext.same Sn).trans (Ext.bag S3 (B2.same Sn))).sq (SqT.of e2);have ST:SameX b H H3:=(S1.trans S2).trans ((SameX.of Sn).trans S3);have hj:j=0 \/ j=1:=U
  rcases hj with rfl | rfl
  ·exact⟨p1,_,_,.non,rfl,rfl,SqL.of el,rfl,.non,none,rfl,B3,ST,r1.ext EX,rfl,λr z=>by cases z⟩
  exact⟨p1,_,_,.ref a1,rfl,rfl,SqL.of el,rfl,.ref a1,some r2,rfl,B3,ST,r1.ext EX,⟨a1,rfl,EA⟩,λr z=>by cases z;exact f2⟩
 rintro _ H2 ⟨va,oa,rfl,B2,S2,r2,pa,fa⟩;refine⟨λσ' H'=>∃ (vb:V) (ob:Option Rat),σ'=[some (.ref b),some (.int c),some (.ref r),some va,some vb,none,none]/\BagAt H' b (n+44)/\SameX b H H'/\RowAt K H' r rs/\PrAt K H' va oa/\PrAt K H' vb ob/\∀ r,ob=some r->Fit30 r,?_,?_⟩
 ·refine⟨_,rfl,b,n+40,rfl,B2,U,λa1 H3 r3 B3 S3 e3 f3=>⟨by show 2<=sizeLine;decide,λp1 g1=>?_⟩⟩;have hpb:p1≠b:=by
   obtain⟨ys,e⟩:=B3.lst;exact (Zd e g1).symm
  have Sn:Same H3 (upd H3 p1 (.lst [.non,.ref a1])):=Same.new g1;refine⟨_,rfl,b,_,n+40+3,rfl,B3.same Sn,U,J7,J9,λj H4 j0 j1 B4 S4=>?_⟩;have el:H4 p1=some (.lst [.non,.ref a1]):=S4 _ _ Z5 hpb;have EX:Ext H2 H4:=(Ext.bag S3 B2).trans ((Ext.same Sn).trans (Ext.bag S4 (B3.same Sn)));have EA:SqT K H4 a1 [.int r3.1,.int r3.2]:=((Ext.same Sn).trans (Ext.bag S4 (B3.same Sn))).sq (SqT.of e3);have ST:SameX b H H4:=(S2.trans S3).trans ((SameX.of Sn).trans S4);have hj:j=0 \/ j=1:=U
  rcases hj with rfl | rfl
  ·exact⟨p1,_,_,.non,rfl,rfl,SqL.of el,rfl,.non,none,rfl,B4,ST,r2.ext EX,pa.ext EX,rfl,λr z=>by cases z⟩
  exact⟨p1,_,_,.ref a1,rfl,rfl,SqL.of el,rfl,.ref a1,some r3,rfl,B4,ST,r2.ext EX,pa.ext EX,⟨a1,rfl,EA⟩,λr z=>by cases z;exact f3⟩
 rintro _ H3 ⟨vb,ob,rfl,B3,S3,r3,pa3,pb,fb⟩;refine⟨λσ' H'=>∃ (ve:V) (ev:Option (List Nat)) (v6:Option V),σ'=[some (.ref b),some (.int c),some (.ref r),some va,some vb,some ve,v6]/\BagAt H' b (n+80)/\SameX b H H'/\RowAt K H' r rs/\PrAt K H' va oa/\PrAt K H' vb ob/\EvT K H' ve ev/\∀ es,ev=some es->es≠[]/\es.Pairwise (·<·)/\∀ e∈es,e<c,?_,?_⟩
 ·refine⟨_,rfl,b,_,n+44,rfl,B3,U,J7,J9,λz H4 z0 z1 B4 S4=>⟨rfl,_,rfl,?_⟩⟩;have X4:=Ext.bag S4 B3;refine Y7 (λe=>?_) λe=>⟨.non,none,none,rfl,B4.mono U,S3.trans S4,r3.ext X4,pa3.ext X4,pb.ext X4,rfl,λes z=>by cases z⟩;have hBl4:=B4.lst;refine⟨_,rfl,(c:Int),rfl,U,U,λd hd=>?_⟩;have hdb:d≠b:=by
   obtain⟨ys,e⟩:=hBl4;exact (Zd e hd).symm
  have et:(c:Int).toNat=c:=U
  rw[et];refine⟨c,λi ys H2=>∃ ns:List Int,ys=ns.map V.int/\ns.length=i/\BagAt H2 b (n+45+i)/\SameX b H4 H2,W9 U,?_,?_,?_⟩
  ·exact⟨[],rfl,rfl,B4.upd (JZ hdb),SameX.of (Same.new hd)⟩
  ·rintro i ys H2 hi ⟨ns,rfl,ln,B2,S2⟩ hd2;refine⟨hi,?_⟩;rintro x H3 ⟨rfl,rfl⟩;refine W3 ?_;refine⟨_,rfl,b,_,_,rfl,B2,U,J7,J9,λr H4 r0 r1 B4 S4=>?_⟩;have hd4:H4 d=some (.lst (ns.map V.int)):=S4 _ _ hd2 hdb;refine⟨hd4,ns++[r],by rw[XA];rfl,by rw[XF,ln];rfl,(B4.upd (JZ hdb)).mono U,λq o e ne=>?_⟩;have e2:=S4 q o (S2 q o e ne) ne;rw[Zj (Zd e hd)];exact e2
  rintro ys H5 ⟨ns,rfl,ln,B5,S5⟩ hd5;refine⟨YO _,?_⟩;have X5:=Ext.bag S5 B4;refine⟨_,rfl,_,rfl,_,rfl,b,_,n+45+c,rfl,B5,U,U,Kb U,λj H6 j0 j1 B6 S6=>?_⟩;have hd6:H6 d=some (.lst (ns.map V.int)):=S6 _ _ hd5 hdb;have X6:=Ext.bag S6 B5;refine⟨d,_,j,j.toNat,rfl,rfl,hd6,Dj j0 (by rw[YB,ln];exact j1),?_⟩;have X7:Ext H6 (upd H6 d (.lst ((ns.map V.int).set j.toNat (.int 1)))):=Ext.upd hd6;have B7:BagAt (upd H6 d (.lst ((ns.map V.int).set j.toNat (.int 1)))) b (n+45+c+1):=B6.upd (JZ hdb);have em:(ns.map V.int).set j.toNat (.int 1)=(ns.set j.toNat 1).map V.int:=by rw[List.map_set]
  have ST:SameX b H (upd H6 d (.lst ((ns.map V.int).set j.toNat (.int 1)))):=λq o e ne=>by
   have e4:=(S3.trans S4) q o e ne;rw[Zj (Zd e4 hd)];exact S6 q o (S5 q o e4 ne) ne
  have hd7:upd H6 d (.lst ((ns.map V.int).set j.toNat (.int 1))) d=some (.lst ((ns.set j.toNat 1).map V.int)):=by rw[Z5,em]
  have XT:Ext H3 (upd H6 d (.lst ((ns.map V.int).set j.toNat (.int 1)))):=X4.trans (X5.trans (X6.trans X7));generalize upd H6 d (.lst ((ns.map V.int).set j.toNat (.int 1)))=H7 at B7 ST hd7 XT;have lm:(ns.set j.toNat 1).length=c:=by rw[ji,ln]
  have hj1:(ns.set j.toNat 1).getD j.toNat 0=1:=by
   have:j.toNat<ns.length:=U
   simp[List.getD,this]
  have hjc:j.toNat<c:=U
  generalize ns.set j.toNat 1=ms at hd7 lm hj1;refine⟨_,rfl,(c:Int),rfl,U,U,λd5 h5=>?_⟩;rw[et];refine⟨c,λi ys H8=>ys=natV ((List.range i).filter λj=>decide (ms.getD j 0=1))/\Same H7 H8,W9 U,⟨rfl,Same.new h5⟩,?_,?_⟩
  ·rintro i ys H8 hi ⟨rfl,S8⟩ hd8;refine⟨hi,?_⟩;rintro x H9 ⟨rfl,rfl⟩;have e0:(0+(i:Int))=((i:Nat):Int):=U
   rw[e0];refine Nb ?_;have hin:i<ms.length:=U
   have en:(ms.map V.int)[i]?=some (V.int (ms.getD i 0)):=by rw[YQ];simp[List.getD,hin]
   refine⟨_,rfl,_,rfl,d,_,_,_,rfl,rfl,SqL.of (S8 _ _ hd7),Yh en,rfl,_,rfl,?_⟩;refine Qs (λh=>?_) (λh=>?_)
   ·have h0:ms.getD i 0=1:=V.int.inj (XR h);refine⟨_,rfl,hd8,?_,λq o e=>?_⟩
    ·have ef:[i].filter (λj=>decide (ms.getD j 0=1))=[i]:=by
      rw[jd,JD (XD h0)];rfl
     rw[zG,zJ,ef];unfold natV;rw[XA,XA];rfl
    rw[Zj (Zd e h5)];exact S8 _ _ e
   have h0:¬ ms.getD i 0=1:=λz=>h (XD (by rw[z]));refine⟨hd8,?_,S8⟩;have ef:[i].filter (λj=>decide (ms.getD j 0=1))=[]:=by
    rw[jd,XQ (by rw[GZ];exact h0)];rfl
   rw[zG,zJ,ef,YM]
  rintro ys H8 ⟨rfl,S8⟩ hd8;refine⟨YO _,d5,_,rfl,.inl ⟨SqL.of hd8,λl hl'=>?_⟩⟩;have S9:=S8.trans (Same.new (o:=.tup (natV ((List.range c).filter λj=>decide (ms.getD j 0=1)))) hl');have X9:=XT.trans (Ext.same S9);refine⟨.ref l,some ((List.range c).filter λj=>decide (ms.getD j 0=1)),_,rfl,(B7.same S9).mono U,ST.trans (SameX.of S9),r3.ext X9,pa3.ext X9,pb.ext X9,⟨l,rfl,SqT.of Z5⟩,λes z=>?_⟩
  cases z;refine⟨λz=>?_,?_,λe he=>?_⟩
  ·have:j.toNat∈(List.range c).filter λj=>decide (ms.getD j 0=1):=qv.mpr ⟨qC.mpr hjc,XD hj1⟩;rw[z] at this
   cases this
  ·exact List.Pairwise.filter _ (zR (n:=c))
  exact qC.mp (qv.mp he).1
 rintro _ H4 ⟨ve,ev,v6,rfl,B4,S4,r4,pa4,pb4,he,hev⟩;refine⟨_,rfl,_,rfl,_,rfl,_,rfl,by show 4<=sizeLine;decide,λa fa'=>?_⟩;have Sn:=Same.new (o:=.tup [.ref r,va,vb,ve]) fa';have En:=Ext.same Sn;exact k a _ ⟨rs,oa,ob,ev⟩ ((B4.same Sn).mono U) (S4.trans (SameX.of Sn)) (OffAt.ext (H:=upd H4 a (.tup [.ref r,va,vb,ve])) ⟨a,r,va,vb,ve,rfl,SqT.of Z5,r4.ext En,pa4.ext En,pb4.ext En,by
  cases ev with
  | none=>exact he
  | some es =>
   obtain⟨c0,e0,q0⟩:=he;exact⟨c0,e0,En.sq q0⟩⟩ (Ext.same (Same.refl _))) ⟨l1,f1,fa,fb,hev⟩
end
theorem Yt (y w:PySem.Str):∀ {ws:List PySem.Str},ws≠[]->Str.join y (ws++[w])=Str.join y ws++y++w
 | [],h=>absurd rfl h
 | [a],_=>rfl
 | a::b::ws,_=>by
  have:=Yt y w (ws:=b::ws) J8;rw[YS,YS,Xa,<-YS,this,Xa];simp only [Y0B]
theorem K8 (z:PySem.Str)(r:Rat){ws:List PySem.Str}(h:ws≠[]):Str.join ⟨#[32]⟩ (ws++onW z (some r))=Str.join ⟨#[32]⟩ ws++(⟨#[32]⟩++z++⟨#[32]⟩)++shR r:=by
 rw[show ws++onW z (some r)=(ws++[z])++[shR r] by simp[onW],Yt _ _ J8,Yt _ _ h];simp only [Y0B]
theorem Nq {a:Addr}{D:Ends}{σ:L2.St}(Pv:Nat->L2.St->Hp->Prop)(h0:Pv 0 σ H)(hl:∀ i σ H,i<=xs.length->Pv i σ H->SqT K H a xs)
  (hs:∀ i x σ H,xs[i]?=some x->Pv i σ H->g x σ H λσ2 H2=>tb { D with nx:=Pv (i+1),ct:=Pv (i+1),bk:=D.nx } σ2 H2) (hd:∀ σ H,Pv xs.length σ H->D.nx σ H) :
  ∃ W:Nat->Nat->L2.St->Hp->Prop,(∃ m,W 0 m σ H)/\∀ i m σ H,W i m σ H →
   ((Itt K a).stop i H/\D.nx σ H) \/ ((Itt K a).go i H/\∃ N:L2.St->Hp->Prop,(∀ σ' H',N σ' H'->∃ m',m'<m/\W (i+1) m' σ' H')/\∀ x H',(Itt K a).yld i H x H'->g x σ H' λσ2 H2=>tb { D with nx:=N,ct:=N,bk:=D.nx } σ2 H2):=by
 refine⟨λi m σ H=>m=xs.length - i/\i<=xs.length/\Pv i σ H,⟨xs.length,J8,JU _,h0⟩,?_⟩;rintro i m σ H ⟨rfl,hi,p⟩;have q:=hl i σ H hi p;by_cases hlt:i<xs.length
 ·refine .inr ⟨⟨xs,xs[i],q,by simp[hlt]⟩,Pv (i+1),λσ' H' p'=>⟨xs.length - (i+1),U,rfl,hlt,p'⟩,λx H' y=>?_⟩;obtain⟨rfl,fx⟩:=y;exact hs i x σ _ (fx xs q) p
 have e:i=xs.length:=U
 subst e;exact .inl ⟨⟨xs,q,YO _⟩,hd σ H p⟩
theorem Db {ws vs:List PySem.Str}(h:∀ z∈ws,z.length<=63)(hl:ws.length<=40)(hv:∀ z∈vs,z∈ws)(hl2:vs.length<=ws.length):(Str.join ⟨#[32]⟩ vs).length<=2560:=by
 have lj:=Yd (c:=32) (m:=63) (ws:=vs) λz hz=>h z (hv z hz);have:vs.length*(63+1)<=40*64:=GB _ U;omega
section
variable {P:TR}{w:World}{K:TQ}{mg:TB}{base:Heap}
theorem Z1r (D:Def K mg "_law_line" gP UJ)(eN:Has P w K mg base 1 "_law_show" ["_law_one"] (spShowR K)):Has P w K mg base 2 "_law_line" UJ (spShowOffer K):=by
 refine D.h9 (N:=["_law_names_here","_law_offer","_law_line_here","_law_part_here","_law_world"]) fsc λH Q hr h nd=>?_;obtain⟨a,c,ns,o,rfl,hN,ho,ok,ot,q⟩:=h;refine⟨_,(Z4 (Zc (i:=2) nd rfl (Or.inl rfl) Z9)
  (Z4 (Wk GQ rfl (Fq (Zq Ye (pv 1) Z8 (λ_ _=>rfl))) (Zx (i:=3) nd rfl (Or.inl rfl))
   (Zb (Zc (i:=2) nd rfl (Or.inl rfl) (Za Z7 (Za Z7 (pv 2) Z9) (Zo eN hr (Z0 (pv 3) Z3))))))
  (Z4 (Zn (Zy (Zf Uu (Zq Ye (pv 1) Z8 (λ_ _=>rfl)) Zr (Zl _))
   (Zb (Zc (i:=2) nd rfl (Or.inl rfl) (Za Z7 (Za Z7 (pv 2) Z9) (Zo eN hr (Z0 (Zq Ye (pv 1) Z8 (λ_ _=>rfl)) Z3)))))
   Zm))
  (Z4 (Zn (Zy (Zf Uu (Zq Ye (pv 1) Z8 (λ_ _=>rfl)) Zr (Zl _))
   (Zb (Zc (i:=2) nd rfl (Or.inl rfl) (Za Z7 (Za Z7 (pv 2) Z9) (Zo eN hr (Z0 (Zq Ye (pv 1) Z8 (λ_ _=>rfl)) Z3)))))
   Zm))
  (Z4 (Zn (Zy (Zf Uu (Zq Ye (pv 1) Z8 (λ_ _=>rfl)) Zr (Zl _))
   (Z4 (Zc (i:=2) nd rfl (Or.inl rfl) (Za Z7 (pv 2) Z9))
   (Zb (Wk GQ rfl (Fq (Zq Ye (pv 1) Z8 (λ_ _=>rfl))) (Zx (i:=4) nd rfl (Or.inl rfl))
    (Zb (Zc (i:=2) nd rfl (Or.inl rfl) (Za Z7 (Za Z7 (pv 2) Z9) (Zq Y5 (pv 0) (pv 4) (λ_ _=>rfl))))))))
   Zm))
  (Zb (Zi (pv 2)))))))),?_⟩
 obtain⟨_,r,va,vb,ve,e0,hc,hr',ha,hb,he⟩:=ho
 cases e0;obtain⟨xs,sx,rx⟩:=hr';have lx:=rx.len;have ow:=Xr ok ot;have ol:=Ww ok ot;have up:∀ {n:Int},n.natAbs<10 ^ 30->n.natAbs<10 ^ 70:=λh=>qK h J9;have ll:=λ(vs:List PySem.Str) hv hl2=>Db (ws:=offW ns o.rs o.oa o.ob o.ev) (vs:=vs) (λz hz=>(ow z hz).2) ol hv hl2;refine⟨_,rfl,c,_,_,.ref r,rfl,rfl,hc,rfl,r,rfl,⟨_,sx⟩,?_⟩;refine Nq (xs:=xs) (λi σ' H'=>H'=H/\∃ v3,σ'=[some (.ref a),some (.ref c),some (.str (Str.join ⟨#[32]⟩ (sOffer::(o.rs.take i).map shR))),v3,none]) ⟨rfl,_,rfl⟩ ?_ ?_ ?_
 ·rintro i σ' H' _ ⟨rfl,_⟩;exact sx
 ·rintro i x σ' H' ex ⟨rfl,v3,rfl⟩;have hi:i<o.rs.length:=by have:=(XS.mp ex).1;omega
  have er:o.rs[i]?=some o.rs[i]:=by simp[hi]
  obtain⟨v,ev',b,rfl,sq⟩:=rx.at er;rw[ex] at ev'
  cases ev';have f0:=ot.fr _ (YV er);have l1:=ll (sOffer::(o.rs.take i).map shR) (λz hz=>by
   rcases YC.mp hz with rfl | hz
   ·exact YI
   obtain⟨r1,h1,rfl⟩:=JC.mp hz;exact YG _ (XE _ (JC.mpr ⟨r1,qq h1,rfl⟩))) (by simp[offW];omega)
  have l2:=Xz (k:=30) J7 f0.b1 f0.b2;refine⟨_,rfl,_,_,rfl,rfl,?_,_,rfl,b,_,rfl,sq,up f0.b1,up f0.b2,_,_,rfl,rfl,?_,rfl,some (.ref b),?_⟩
  ·rw[YX];show _+1<=_;omega
  ·rw[YF,YX];show _+1+_<=_;omega
  rw[Y9 er,XA,show sOffer::((o.rs.take i).map shR++[o.rs[i]].map shR)=(sOffer::(o.rs.take i).map shR)++[shR o.rs[i]] from rfl,Yt _ _ J8];rfl
 rintro σ' Hx ⟨hx,v3,rfl⟩;rw[hx,<-lx,JR];have on_len:∀ (z:PySem.Str) (o:Option Rat),(onW z o).length<=2:=λz o=>by cases o <;> simp[onW]
 have hw1:∀ z∈sOffer::o.rs.map shR,z∈offW ns o.rs o.oa o.ob o.ev:=λz hz=>by
  rcases YC.mp hz with rfl | hz
  ·exact YI
  exact YG _ (XE _ hz)
 have l1:=ll (sOffer::o.rs.map shR) hw1 (by simp[offW]);refine⟨λσ' H'=>H'=H/\∃ v3,σ'=[some (.ref a),some (.ref c),some (.str (Str.join ⟨#[32]⟩ (sOffer::o.rs.map shR++onW sAsk o.oa))),v3,none],?_,?_⟩
 ·refine⟨_,rfl,c,_,_,va,rfl,rfl,hc,rfl,rfl,_,rfl,?_⟩
  cases hoa:o.oa with
  | none =>
   rw[hoa] at ha;have ha:va=.non:=ha;subst ha;refine Y7 (λe=>absurd e J8) λ_=>⟨rfl,v3,?_⟩;simp[onW]
  | some r0 =>
   rw[hoa] at ha;obtain⟨b,rfl,sq⟩:=ha;have f0:=ot.fa r0 hoa;have l2:=Xz (k:=30) J7 f0.b1 f0.b2;refine Y7 (λ_=>?_) λe=>absurd e J8;refine⟨_,rfl,_,_,rfl,rfl,?_,_,rfl,c,_,_,.ref b,rfl,rfl,hc,rfl,b,r0,rfl,sq,up f0.b1,up f0.b2,_,_,rfl,rfl,?_,rfl,v3,?_⟩
   ·rw[YX];show _+5<=_;omega
   ·rw[YF,YX];show _+5+_<=_;omega
   show [some (V.ref a),some (V.ref c),some (V.str (Str.join ⟨#[32]⟩ (sOffer::o.rs.map shR)++Str.ofString " ask "++shR r0)),v3,none]=_;rw[K8 sAsk r0 J8,show Str.ofString " ask "=(⟨#[32]⟩:PySem.Str)++sAsk++⟨#[32]⟩ from rfl]
 rintro σ' Hy ⟨hy,v3,rfl⟩;rw[hy];have hw2:∀ z∈sOffer::o.rs.map shR++onW sAsk o.oa,z∈offW ns o.rs o.oa o.ob o.ev:=λz hz=>by
  rcases YN.mp hz with hz | hz
  ·exact hw1 z hz
  exact YG _ (YZ _ (XE _ (by rw[Tf];exact XE _ hz)))
 have l2':=ll (sOffer::o.rs.map shR++onW sAsk o.oa) hw2 (by simp[offW,Tf]);refine⟨λσ' H'=>H'=H/\∃ v3,σ'=[some (.ref a),some (.ref c),some (.str (Str.join ⟨#[32]⟩ (sOffer::o.rs.map shR++onW sAsk o.oa++onW sBid o.ob))),v3,none],?_,?_⟩
 ·refine⟨_,rfl,c,_,_,vb,rfl,rfl,hc,rfl,rfl,_,rfl,?_⟩
  cases hob:o.ob with
  | none =>
   rw[hob] at hb;have hb:vb=.non:=hb;subst hb;refine Y7 (λe=>absurd e J8) λ_=>⟨rfl,v3,?_⟩;simp[onW]
  | some r0 =>
   rw[hob] at hb;obtain⟨b,rfl,sq⟩:=hb;have f0:=ot.fb r0 hob;have l2:=Xz (k:=30) J7 f0.b1 f0.b2;refine Y7 (λ_=>?_) λe=>absurd e J8;refine⟨_,rfl,_,_,rfl,rfl,?_,_,rfl,c,_,_,.ref b,rfl,rfl,hc,rfl,b,r0,rfl,sq,up f0.b1,up f0.b2,_,_,rfl,rfl,?_,rfl,v3,?_⟩
   ·rw[YX];show _+5<=_;omega
   ·rw[YF,YX];show _+5+_<=_;omega
   show [some (V.ref a),some (V.ref c),some (V.str (Str.join ⟨#[32]⟩ (sOffer::o.rs.map shR++onW sAsk o.oa)++Str.ofString " bid "++shR r0)),v3,none]=_;rw[K8 sBid r0 J8,show Str.ofString " bid "=(⟨#[32]⟩:PySem.Str)++sBid++⟨#[32]⟩ from rfl]
 rintro σ' Hz ⟨hz,v3,rfl⟩;rw[hz];have hrow:o.row ns=Str.join ⟨#[32]⟩ (sOffer::o.rs.map shR++onW sAsk o.oa++onW sBid o.ob++evW ns o.ev):=by
  unfold Ofr.row offW;rw[Tf];simp
 refine⟨λσ' H'=>H'=H/\∃ v3 v4,σ'=[some (.ref a),some (.ref c),some (.str (o.row ns)),v3,v4],?_,?_⟩
 ·refine⟨_,rfl,c,_,_,ve,rfl,rfl,hc,rfl,rfl,_,rfl,?_⟩
  cases hev:o.ev with
  | none =>
   rw[hev] at he hrow;have he:ve=.non:=he;subst he;refine Y7 (λe=>absurd e J8) λ_=>⟨rfl,v3,none,?_⟩;rw[hrow];simp[evW]
  | some es =>
   rw[hev] at he hrow;obtain⟨b,rfl,sq⟩:=he;have oe:=ot.ev es hev;refine Y7 (λ_=>?_) λe=>absurd e J8;have hw3:∀ i,∀ z∈sOffer::o.rs.map shR++onW sAsk o.oa++onW sBid o.ob++sIf::(es.take i).map (λi=>ns.getD i ""),z∈offW ns o.rs o.oa o.ob o.ev:=λi z hz=>by
    have:z∈sOffer::o.rs.map shR++onW sAsk o.oa++onW sBid o.ob++evW ns o.ev:=by
     rcases YN.mp hz with hz | hz
     ·exact XE _ hz
     refine YZ _ ?_;rw[hev];rcases YC.mp hz with rfl | hz
     ·exact YI
     obtain⟨k,hk,rfl⟩:=JC.mp hz;exact YG _ (JC.mpr ⟨k,qq hk,rfl⟩)
    unfold offW;rw[Tf]
    simpa using this
   have l3:=λi=>ll (sOffer::o.rs.map shR++onW sAsk o.oa++onW sBid o.ob++sIf::(es.take i).map λi=>ns.getD i "") (hw3 i) (by
    unfold offW;rw[Tf,hev];simp[evW];omega)
   generalize hW:sOffer::o.rs.map shR++onW sAsk o.oa++onW sBid o.ob=W at l3 hrow;have wne:W≠[]:=by rw[<-hW];simp
   have l30:(Str.join ⟨#[32]⟩ W).length<=2560:=by
    have h:=l3 0;rw[show W++sIf::(es.take 0).map (λi=>ns.getD i "")=W++[sIf] from rfl,Yt _ _ wne,YF,YF] at h;omega
   refine⟨_,rfl,_,_,rfl,rfl,by rw[YX];show _+3<=_;omega,?_⟩;refine⟨_,rfl,c,_,_,.ref b,rfl,rfl,hc,rfl,b,rfl,⟨_,sq⟩,?_⟩;refine Nq (xs:=natV es) (λi σ' H'=>H'=H/\∃ v4,σ'=[some (.ref a),some (.ref c),some (.str (Str.join ⟨#[32]⟩ (W++sIf::(es.take i).map λi=>ns.getD i ""))),v3,v4]) ⟨rfl,none,?_⟩ ?_ ?_ ?_
   ·show [some (V.ref a),some (V.ref c),some (V.str (Str.join ⟨#[32]⟩ W++Str.ofString " if")),v3,none]=_;rw[show W++sIf::(es.take 0).map (λi=>ns.getD i "")=W++[sIf] from rfl,Yt _ _ wne,Y0B];rfl
   ·rintro i σ' Hu _ ⟨hu,_⟩;rw[hu];exact sq
   ·rintro i x σ' Hu ex ⟨hu,v4,rfl⟩;rw[hu];rw[YQ,YQ] at ex
    cases ek:es[i]? with
    | none=>rw[ek] at ex;cases ex
    | some k =>
     rw[ek] at ex
     cases ex;have hk:=oe.2.2 k (YV ek);have li:=l3 i;have nk:(ns.getD k "").length<=8:=(ok.ok _ (by simp[List.getD,hk])).l2;refine⟨_,rfl,_,_,rfl,rfl,?_,_,rfl,_,rfl,a,_,_,.str (ns.getD k ""),rfl,rfl,hN,Yh (by rw[YQ,XY hk];simp[List.getD,hk]),_,_,rfl,rfl,?_,rfl,some (.int (k:Int)),?_⟩
     ·rw[YX];show _+1<=_;omega
     ·rw[YF,YX];show _+1+_<=_;omega
     rw[Y9 ek,XA,show W++sIf::((es.take i).map (λi=>ns.getD i "")++[k].map λi=>ns.getD i "")=(W++sIf::(es.take i).map λi=>ns.getD i "")++[ns.getD k ""] by simp,Yt _ _ J8];rfl
   rintro σ' Hu ⟨hu,v4,rfl⟩;rw[hu,show (natV es).length=es.length by simp,JR];refine⟨rfl,v3,v4,?_⟩;rw[hrow];rfl
 rintro σ' Hw ⟨hw,v3,v4,rfl⟩;rw[hw];exact⟨_,rfl,q H (Same.refl _)⟩
end
theorem Uc {a:Addr}{D:Ends}{σ:L2.St}(Pv:Nat->L2.St->Hp->Prop)(h0:Pv 0 σ H)(hl:∀ i σ H,i<=xs.length->Pv i σ H->SqL K H a xs)
  (hs:∀ i x σ H,xs[i]?=some x->Pv i σ H->g x σ H λσ2 H2=>tb { D with nx:=Pv (i+1),ct:=Pv (i+1),bk:=D.nx } σ2 H2) (hd:∀ σ H,Pv xs.length σ H->D.nx σ H) :
  ∃ W:Nat->Nat->L2.St->Hp->Prop,(∃ m,W 0 m σ H)/\∀ i m σ H,W i m σ H →
   ((Itl K a).stop i H/\D.nx σ H) \/ ((Itl K a).go i H/\∃ N:L2.St->Hp->Prop,(∀ σ' H',N σ' H'->∃ m',m'<m/\W (i+1) m' σ' H')/\∀ x H',(Itl K a).yld i H x H'->g x σ H' λσ2 H2=>tb { D with nx:=N,ct:=N,bk:=D.nx } σ2 H2):=by
 refine⟨λi m σ H=>m=xs.length - i/\i<=xs.length/\Pv i σ H,⟨xs.length,J8,JU _,h0⟩,?_⟩;rintro i m σ H ⟨rfl,hi,p⟩;have q:=hl i σ H hi p;by_cases hlt:i<xs.length
 ·refine .inr ⟨⟨xs,xs[i],q,by simp[hlt]⟩,Pv (i+1),λσ' H' p'=>⟨xs.length - (i+1),U,rfl,hlt,p'⟩,λx H' y=>?_⟩;obtain⟨rfl,fx⟩:=y;exact hs i x σ _ (fx xs q) p
 have e:i=xs.length:=U
 subst e;exact .inl ⟨⟨xs,q,YO _⟩,hd σ H p⟩
section
variable {P:TR}{w:World}{K:TQ}{mg:TB}{base:Heap}
inductive spLines (K:TQ) (vs:TV) (H:Hp) (Q:VK) (_z3:XK):Prop
 | mk (a b:Addr) (ns:List PySem.Str) (bs:TJ) (os:List Ofr) (zz0:vs=[.ref a,.ref b]) (zz1:SqL K H a (ns.map V.str)) (zz2:SqL K H b (bs.map V.ref)) (zz3:Paired (λb o=>Ofr.At o K H b) bs os) (zz4:NamesOk ns) (zz5:∀ o∈os,Ofr.T o ns.length) (zz6:os.length<=12) (zz7:∀ l H',Same H H'->H l=none->H' l=some (.lst ((rowN ns::os.map λo=>o.row ns).map V.str))->Q (.ref l) H')
theorem Bm (D:Def K mg "_law_lines" gK UK)(fE:Has P w K mg base 2 "_law_line" UJ (spShowOffer K)):Has P w K mg base 3 "_law_lines" UK (spLines K):=by
 refine D.h9 (N:=["_law_names_here","_law_offers","_law_line_here","_law_name"]) fsc λH Q hr h nd=>?_;obtain⟨a,b,ns,bs,os,rfl,hN,hB,pr,ok,hT,lo,q⟩:=h;have nd1:(["_law_offer","_law_names_here"]:List Str).Nodup:=J9
 refine⟨_,(Z4 (Zc (i:=2) nd rfl (Or.inl rfl) Z9)
  (Z4 (Wk GQ rfl (Wl (pv 0)) (Zx (i:=3) nd rfl (Or.inl rfl))
   (Zb (Zc (i:=2) nd rfl (Or.inl rfl) (Za Z7 (Za Z7 (pv 2) Z9) (pv 3)))))
  (Zb (Zi (Za Ym (Y3 (Z0 (pv 2) Z3)) (Xk (ox:=none) (N:=["_law_offer","_law_names_here"]) (k:=1) (fv:=[0]) rfl (Wl (pv 1))
  (λ_ _ _ _ _=>Zx (i:=0) nd1 rfl (Or.inl rfl)) (λ_ _ _ _ _=>Yy) (λ_ _ _ _ _=>(Zo fE hr (Z0 (pv 1) (Z0 (pv 0) Z3)))) Y6)))))),?_⟩
 have l2:=ok.l2;have lb:=qO pr;refine⟨_,rfl,a,rfl,⟨_,hN⟩,?_⟩;refine Uc (xs:=ns.map V.str) (λi σ' H'=>H'=H/\∃ v3,σ'=[some (.ref a),some (.ref b),some (.str (Str.join ⟨#[32]⟩ (Str.ofString "worlds"::ns.take i))),v3]) ⟨rfl,none,rfl⟩ ?_ ?_ ?_
 ·rintro i σ' Hu _ ⟨hu,_⟩;rw[hu];exact hN
 ·rintro i x σ' Hu ex ⟨hu,v3,rfl⟩;rw[hu];rw[YQ] at ex
  cases ek:ns[i]? with
  | none=>rw[ek] at ex;cases ex
  | some z =>
   rw[ek] at ex
   cases ex;have nz:=(ok.ok z (YV ek)).l2;have lj:=Yd (c:=32) (m:=8) (ws:=Str.ofString "worlds"::ns.take i) λz hz=>by
    rcases YC.mp hz with rfl | hz
    ·decide
    exact (ok.ok z (qq hz)).l2
   rw[YR,JJ] at lj;have lj2:(min i ns.length+1)*(8+1)<=13*9:=GB _ U;refine⟨_,rfl,_,_,rfl,rfl,?_,_,rfl,_,_,rfl,rfl,?_,rfl,some (.str z),?_⟩
   ·rw[YX];show _+1<=_;omega
   ·rw[YF,YX];show _+1+_<=_;omega
   rw[Y9 ek,show Str.ofString "worlds"::(ns.take i++[z])=(Str.ofString "worlds"::ns.take i)++[z] from rfl,Yt _ _ J8];rfl
 rintro σ' Hu ⟨hu,v3,rfl⟩;rw[hu,YB,JR];refine⟨_,rfl,by show 1<=sizeLine;decide,λp1 f1=>?_⟩;have S1:Same H (upd H p1 (.lst [.str (rowN ns)])):=Same.new f1;refine Gn (ys:=os.map λo=>V.str (o.row ns)) (λG g=>⟨_,rfl,g⟩) (Yc S1 hB) (by rw[YB];omega) (by rw[YB,YB];omega) (λi x y H5 G ex ey S5 g=>?_) λd H5 hd S5 e5=>?_
 ·rw[YQ] at ex ey
  cases eo:os[i]? with
  | none=>rw[eo] at ey;cases ey
  | some o =>
   cases eb:bs[i]? with
   | none=>rw[eb] at ex;cases ex
   | some b0 =>
    rw[eb] at ex;rw[eo] at ey
    cases ex
    cases ey;have hA:=Paired.getB pr eb eo;exact⟨_,rfl,_,rfl,a,b0,ns,o,rfl,Yc (S1.trans S5) hN,OffAt.ext hA (Ext.same (S1.trans S5)),ok,hT o (YV eo),λH6 S6=>g H6 S6⟩
 refine⟨p1,d,_,_,rfl,rfl,S5 _ _ Z5,e5,by rw[YB,YX];show 1+_<=_;omega,λl fl=>?_⟩;refine q l _ ((S1.trans S5).trans (Same.new fl)) (T3 (S1.trans S5) fl) ?_;rw[Z5];simp[Function.comp,rowN]
theorem Bi (D:Def K mg "_law_whole" gG ["_law_found"])(T:Blt mg):Has P w K mg base 1 "_law_whole" ["_law_found"] spWhole:=by
 refine D.h9 (N:=["_law_found"]) fsc λH Q hr h nd=>?_;obtain⟨i,rfl,q⟩:=h;refine⟨_,(Zb (Zi (Ql (Zg W4 rfl T.isinstance JS (Z0 (pv 0) (Z0 (N4 T.int zq) Z3))) (Ti (Ft (Zg W4 rfl T.isinstance JS (Z0 (pv 0) (Z0 (N4 T.bool Y0K) Z3)))))))),?_⟩;refine⟨_,rfl,_,_,_,_,rfl,TyOf.int i,Nl,_,rfl,Xq ?_⟩;exact⟨_,rfl,_,_,_,_,rfl,TyOf.int i,Vx,_,rfl,q⟩
end
def Az (z:PySem.Str):Prop:=∀ c∈z.cps.toList,97<=c/\c<=122
theorem Nm:∀ {ws:List PySem.Str},(∀ w∈ws,Az w)->Az (Str.join Str.empty ws)
 | [],_=>λc hc=>by cases hc
 | [w],h=>h w YI
 | w::v::ws,h=>by
  intro c hc;rw[Xa,Z6,Z6] at hc;rcases YN.mp hc with hc | hc
  ·rcases YN.mp hc with hc | hc
   ·exact h w YI c hc
   cases hc
  exact Nm (λx hx=>h x (YG _ hx)) c hc
theorem Rq {m:Nat}:∀ {ws:List PySem.Str},(∀ w∈ws,w.length<=m)->(Str.join Str.empty ws).length<=ws.length*m
 | [],_=>JU _
 | [w],h=>by
  have:=h w YI;show w.length<=_;simp;exact this
 | w::v::ws,h=>by
  have a:=h w YI;have b:=Rq (ws:=v::ws) λx hx=>h x (YG _ hx);rw[Xa,YF,YF,YR,Y13];show w.length+0+_<=_;omega
theorem Rv {m:Nat}:∀ {ws:List PySem.Str} {k:Nat},(∀ w∈ws,w.length<=m)->ws.foldl (λacc w=>acc+w.length+Str.empty.length) k<=k+ws.length*(m+1)
 | [],k,_=>J8
 | w::ws,k,h=>by
  have a:=h w YI;have b:=Rv (ws:=ws) (k:=k+w.length+0) λx hx=>h x (YG _ hx);rw[jp,YR,Y13];show ws.foldl _ (k+w.length+0)<=_;omega
theorem Bt {m:Nat}{ws:List PySem.Str}(h:∀ w∈ws,w.length<=m)(hl:ws.length*(m+1)<=1000000):JoinOk Str.empty ws=true:=by
 have:=Rv (k:=0) h;unfold JoinOk PySem.Builtin.Str.tooLong;rw[Y19]
 ·simp;have e:sizeLine=16777216:=YX;omega
 rfl
theorem Cm:∀ t:Fin 26,(Str.ofString "abcdefghijklmnopqrstuvwxyz").cps.toList[t.val]?=some (97+t.val):=by decide
section
variable {P:TR}{w:World}{K:TQ}{mg:TB}{base:Heap}
inductive spLetters (vs:TV) (H:Hp) (Q:VK) (_z3:XK):Prop
 | mk (b:Addr) (n:Nat) (zz0:vs=[.ref b,.int 8]) (zz1:BagAt H b n) (zz2:n<=1000000) (zz3:∀ (z:PySem.Str) (H':Hp),BagAt H' b (n+9)->SameX b H H'->Az z->z.length<=7->Q (.str z) H')
theorem Jm (D:Def K mg "_law_letters" f8 UL)(T:BltT mg)(eA:Z1 P w K mg base):Has P w K mg base 2 "_law_letters" UL spLetters:=by
 refine D.h9 (N:=["_law_bag_here","_law_most","_law_letters_here"]) fsc λH Q hr h nd=>?_;obtain⟨b,n,rfl,hB,hn,k⟩:=h;have nd1:(["_law_k","_law_bag_here","_law_letters_here"]:List Str).Nodup:=J9
 refine⟨_,(Z4 (Zc (i:=2) nd rfl (Or.inr rfl) Z9)
  (Zb (Zi (Yg XN qh qj (V8 (K:=K)) Z9 (Z0 (Xk (ox:=none) (N:=["_law_k","_law_bag_here","_law_letters_here"]) (k:=1) (fv:=[0,2]) rfl (Yj rfl T.range (Z0 (Zo eA hr (Z0 (pv 0) (Z0 (pv 1) Z3))) Z3))
  (λ_ _ _ _ _=>Zx (i:=0) nd1 rfl (Or.inl rfl)) (λ_ _ _ _ _=>Yy) (λ_ _ _ _ _=>(Zq Lh (pv 2) (Zo eA hr (Z0 (pv 1) (Z0 Z8 Z3))) (λ_ _=>rfl))) Y6) Z3))))),?_⟩
 refine⟨rfl,_,rfl,_,rfl,b,_,n,rfl,hB,U,J7,J9,λm H1 m0 m1 B1 S1=>?_⟩;refine⟨m,rfl,U,U,λd hd=>?_⟩;have hdb:d≠b:=by
  obtain⟨ys,e⟩:=B1.lst;exact (Zd e hd).symm
 have mt:m.toNat<=7:=U
 generalize m.toNat=mm at mt;refine⟨mm,λi ys H2=>∃ ws:List PySem.Str,ys=ws.map V.str/\ws.length=i/\(∀ w∈ws,Az w/\w.length<=1)/\BagAt H2 b (n+1+i)/\SameX b H1 H2,W9 U,⟨[],rfl,rfl,(λ_ h=>nomatch h),B1.upd (JZ hdb),SameX.of (Same.new hd)⟩,?_,?_⟩
 ·rintro i ys H2 hi ⟨ws,rfl,lw,hw,B2,S2⟩ hd2;refine⟨hi,?_⟩;rintro x H3 ⟨rfl,rfl⟩;refine W3 ?_;refine⟨_,rfl,_,rfl,b,_,_,rfl,B2,U,J7,J9,λj H4 j0 j1 B4 S4=>?_⟩;obtain⟨t,rfl⟩:=JB j0;have ht:t<26:=U
  have hd4:H4 d=some (.lst (ws.map V.str)):=S4 _ _ hd2 hdb;refine⟨_,_,97+t,rfl,rfl,J7,Yh (Cm ⟨t,ht⟩),hd4,ws++[⟨#[97+t]⟩],by rw[XA];rfl,by rw[XF,lw];rfl,λz hz=>?_,(B4.upd (JZ hdb)).mono U,λq o e ne=>?_⟩
  ·rcases YN.mp hz with hz | hz
   ·exact hw z hz
   rw[JA.mp hz];refine⟨λc hc=>?_,YO _⟩;have:c=97+t:=by simpa using hc
   omega
  have e2:=S4 q o (S2 q o e ne) ne;rw[Zj (Zd e hd)];exact e2
 rintro ys H2 ⟨ws,rfl,lw,hw,B2,S2⟩ hd2;have l1:=Rq (m:=1) (ws:=ws) λz hz=>(hw z hz).2;refine⟨YO _,_,d,ws,rfl,rfl,SqL.of hd2,Bt (m:=1) (λz hz=>(hw z hz).2) U,?_⟩;rw[Va];exact k _ H2 (B2.mono U) (S1.trans S2) (Nm λz hz=>(hw z hz).1) (by show (Str.join Str.empty ws).length<=7;omega)
end
def rowWords:List PySem.Str:=["offer","ask","bid","if","worlds","for","book","judge","price","join","thin","learn"].map Str.ofString
def wayWord (first k:Nat):PySem.Str:=rowWords.getD ((first+5*k) % 12) ""
def waySign (base:PySem.Str)(at' first k:Nat):PySem.Str:=⟨(base.cps.toList.take at'++(97+(first+k) % 26)::base.cps.toList.drop at').toArray⟩
theorem Pq:∀ z∈rowWords,(1<=z.length/\z.length<=8)/\(z.cps.toList.all λc=>decide (97<=c) && decide (c<=122))=true:=by decide
theorem Uk:rowWords.Nodup:=by decide
theorem Ma (first k:Nat):NameOk (wayWord first k):=by
 have h:wayWord first k∈rowWords:=by
  have:(first+5*k) % 12<rowWords.length:=ja _ J7;unfold wayWord;rw[List.getD,XY this];exact jc this
 obtain⟨⟨a,b⟩,c⟩:=Pq _ h;refine⟨a,b,λd hd=>?_⟩;have:=GG.mp c d hd
 simpa using this
theorem Pf {first i j:Nat}(hi:i<12)(hj:j<12)(h:wayWord first i=wayWord first j):i=j:=by
 have li:(first+5*i) % 12<rowWords.length:=ja _ J7;have lj:(first+5*j) % 12<rowWords.length:=ja _ J7;unfold wayWord at h;rw[List.getD,List.getD,XY li,XY lj] at h;have e:(first+5*i) % 12=(first+5*j) % 12:=by
  rcases Y0l ((first+5*i) % 12) ((first+5*j) % 12) with z | z | z
  ·exact absurd h ((qe.mp Uk) _ _ li lj z)
  ·exact z
  exact absurd h.symm ((qe.mp Uk) _ _ lj li z)
 omega
theorem Mb {base:PySem.Str}{at' first k:Nat}(h:Az base)(hl:base.length<=7):NameOk (waySign base at' first k):=by
 have lb:base.cps.toList.length<=7:=by rw[<-Ze];exact hl
 have l:(waySign base at' first k).length=base.cps.toList.length+1:=by
  rw[Ze];show (base.cps.toList.take at'++(97+(first+k) % 26)::base.cps.toList.drop at').length=_;rw[XF,YR,JJ,qy];omega
 refine⟨U,U,λc hc=>?_⟩;have hc:c∈base.cps.toList.take at'++(97+(first+k) % 26)::base.cps.toList.drop at':=hc;rcases YN.mp hc with hc | hc
 ·exact h c (qq hc)
 rcases YC.mp hc with rfl | hc
 ·omega
 exact h c (Y14 hc)
theorem Pg {base:PySem.Str}{at' first i j:Nat}(hi:i<12)(hj:j<12)(h:waySign base at' first i=waySign base at' first j):i=j:=by
 have h2:base.cps.toList.take at'++(97+(first+i) % 26)::base.cps.toList.drop at'=base.cps.toList.take at'++(97+(first+j) % 26)::base.cps.toList.drop at':=congrArg (λz:PySem.Str=>z.cps.toList) h;have h3:=List.append_cancel_left h2;have h4:97+(first+i) % 26=97+(first+j) % 26:=by injection h3
 omega
theorem Nc {g:Nat->PySem.Str}{c:Nat}(h:∀ k,NameOk (g k))(inj:∀ i j,i<12->j<12->g i=g j->i=j)(l1:2<=c)(l2:c<=12):NamesOk ((List.range c).map g):=by
 refine⟨?_,by simpa using l1,by simpa using l2,λz hz=>?_⟩
 ·rw[qD,qL];refine (zR (n:=c)).imp_of_mem λ{a b} ha hb hab e=>?_;have:=inj a b (by have:=qC.mp ha;omega) (by have:=qC.mp hb;omega) e;omega
 obtain⟨k,_,rfl⟩:=JC.mp hz;exact h k
theorem J2 {c:Const}{k:Nat}:starEach (.Constant c k pos::es) env=(false,eval (.Constant c k pos) env)::starEach es env:=rfl
def isS:Expr->Option PySem.Str
 | .Constant (.str i) _ _=>some i
 | _=>none
theorem Bv {e:Expr}{i:PySem.Str}(h:isS e=some i):∃ k p,e=.Constant (.str i) k p:=by
 unfold isS at h;split at h
 ·cases h;exact⟨_,_,rfl⟩
 cases h
theorem K6 {X:Cx}:∀ (ns:List PySem.Str) (es:TK),es.map isS=ns.map some->PA X es (λ_ H Q=>Q (ns.map V.str) H)
 | [],[],_=>Z3
 | [],_::_,h=>by cases h
 | _::_,[],h=>by cases h
 | n::ns,e::es,h=>by
  rw[YT,YT] at h;injection h with h1 h2
  obtain⟨k,p,rfl⟩:=Bv h1;exact Z0 (X:=X) (Z9 (x:=n)) (K6 ns es h2) J2
theorem K3 {X:Cx}{es:TK}{pos:Pos}(ns:List PySem.Str)(h:es.map isS=ns.map some):PE X (.List es pos) (λ_ H Q=>(ns.map V.str).length<=sizeLine/\∀ p,H p=none->Q (.ref p) (upd H p (.lst (ns.map V.str)))) :=
 Y3 (K6 ns es h)
theorem F6 {t:Option Expr}{n:Nat}:swapsWith (.List es pos) t n env=pure false:=rfl
section
variable {P:TR}{w:World}{K:TQ}{mg:TB}{base:Heap}
theorem Xo (z:PySem.Str)(a b:Nat):(cutS z a b).length<=z.length:=by
 rw[Ze,Ze];show ((z.cps.toList.drop a).take (b - a)).length<=_;rw[JJ,qy];omega
inductive spNames (vs:TV) (H:Hp) (Q:VK) (_z3:XK):Prop
 | mk (b:Addr) (c n:Nat) (zz0:vs=[.ref b,.int c]) (zz1:BagAt H b n) (zz2:n<=900000) (zz3:2<=c) (zz4:c<=12) (zz5:∀ (l:Addr) (H':Hp) (ns:List PySem.Str),BagAt H' b (n+12)->SameX b H H'->H' l=some (.lst (ns.map V.str))->H l=none->NamesOk ns->ns.length=c->Q (.ref l) H')
theorem Bl (D:Def K mg "_law_names" gJ UH)(T:BltT mg)(eA:Z1 P w K mg base)(eU:Has P w K mg base 2 "_law_letters" UL spLetters):Has P w K mg base 3 "_law_names" UH spNames:=by
 refine D.h9 (N:=["_law_bag_here","_law_count","_law_words","_law_way","_law_base","_law_at","_law_first","_law_names_here","_law_k","_law_sign"]) fsc λH Q hr h nd=>?_;obtain⟨b,c,n,rfl,hB,hn,hc,hc2,k⟩:=h;refine⟨_,(@Z4 _ _ _ _ _ (@Zc _ _ 2 _ _ _ _ nd rfl (Or.inl rfl) (@K3 _ _ _ rowWords rfl) F6 (by first | exact .inl rfl | exact .inr rfl))
  (Z4 (Zc (i:=3) nd rfl (Or.inl rfl) (Zo eA hr (Z0 (pv 0) (Z0 Z8 Z3))))
  (Z4 (Zc (i:=4) nd rfl (Or.inl rfl) (Zo eU hr (Z0 (pv 0) (Z0 Z8 Z3))))
  (Z4 (Zc (i:=5) nd rfl (Or.inl rfl) (Zo eA hr (Z0 (pv 0) (Z0 Z8 Z3))))
  (Z4 (Zc (i:=6) nd rfl (Or.inl rfl) (Zo eA hr (Z0 (pv 0) (Z0 Z8 Z3))))
  (Z4 (Zc (i:=7) nd rfl (Or.inl rfl) (Y3 Z3))
  (Z4 (Wk GQ rfl (Yj rfl T.range (Z0 (pv 1) Z3)) (Zx (i:=8) nd rfl (Or.inl rfl))
   (Zb (Zy (Zf W2 (pv 3) Z8 (Zl _))
    (Zb (V3 (Yg GL qR qS Wc (pv 7) (Z0 (Zq Y5 (pv 2) (Za Xp (Za Ya (pv 6) (Za Xl Z8 (pv 8))) Z8) (λ_ _=>rfl)) Z3))))
    (Z4 (Zc (i:=9) nd rfl (Or.inl rfl) (Zq Lh Z9 (Za Xp (Za Ya (pv 6) (pv 8)) Z8) (λ_ _=>rfl)))
    (Zb (V3 (Yg GL qR qS Wc (pv 7) (Z0 (Za Z7 (Za Z7 (Zz Ve (pv 4) Y0 (Zw (pv 5))) (pv 9)) (Zz Ve (pv 4) (Zw (pv 5)) Y0)) Z3))))))))
  (Zb (Zi (pv 7)))))))))),?_⟩
 refine⟨by show 12<=sizeLine;decide,λp1 f1=>?_⟩;have p1b:p1≠b:=by
  obtain⟨ys,e⟩:=hB.lst;exact (Zd e f1).symm
 have S1:Same H (upd H p1 (.lst (rowWords.map V.str))):=Same.new f1;have e1:upd H p1 (.lst (rowWords.map V.str)) p1=some (.lst (rowWords.map V.str)):=Z5;have B1:=hB.same S1;generalize upd H p1 (.lst (rowWords.map V.str))=H1 at S1 e1 B1;refine⟨_,rfl,b,_,n,rfl,B1,U,J7,J9,λway H2 w0 w1 B2 S2=>?_⟩;refine⟨_,rfl,b,n+1,rfl,B2,U,λz H3 B3 S3 az lz=>?_⟩;refine⟨_,rfl,b,_,n+1+9,rfl,B3,U,J7,J9,λat' H4 a0 a1 B4 S4=>?_⟩;obtain⟨t,rfl⟩:=JB a0;refine⟨_,rfl,b,_,n+1+9+1,rfl,B4,U,J7,J9,λfi H5 i0 i1 B5 S5=>?_⟩;obtain⟨fst,rfl⟩:=JB i0;have X5:SameX b H H5:=((((SameX.of S1).trans S2).trans S3).trans S4).trans S5;have g1:H5 p1=some (.lst (rowWords.map V.str)):=S5 _ _ (S4 _ _ (S3 _ _ (S2 _ _ e1 p1b) p1b) p1b) p1b;refine⟨by show 0<=sizeLine;decide,λl fl=>?_⟩;have lb:l≠b:=by
  obtain⟨ys,e⟩:=B5.lst;exact (Zd e fl).symm
 have lp:p1≠l:=Zd g1 fl;have fl0:H l=none:=by
  cases e:H l with
  | none=>rfl
  | some o=>exact absurd (X5 _ _ e lb) (by rw[fl];simp)
 refine⟨_,rfl,(c:Int),rfl,U,U,?_⟩;have et:(c:Int).toNat=c:=U
 rw[et];refine Ub (lo:=0) (n:=c) (λi σ H'=>(∃ x8 x9,σ=[some (.ref b),some (.int c),some (.ref p1),some (.int way),some (.str z),some (.int (t:Int)),some (.int (fst:Int)),some (.ref l),x8,x9])/\BagAt H' b (n+12)/\SameX b H H'/\H' p1=some (.lst (rowWords.map V.str))/\H' l=some (.lst (((List.range i).map (if way=0 then wayWord fst else waySign z t fst)).map V.str))) ?_ ?_ ?_
 ·exact⟨⟨none,none,rfl⟩,B5.upd (JZ lb),X5.trans (SameX.of (Same.new fl)),by rw[Zj lp];exact g1,Z5⟩
 ·rintro i σ H6 hi ⟨⟨x8,x9,rfl⟩,B6,X6,e6,l6⟩;have e0:(0+(i:Int))=((i:Nat):Int):=U
  rw[e0];refine Xw ?_;dsimp only;refine⟨_,rfl,rfl,_,rfl,Y7 (λe=>?_) λe=>?_⟩
  ·have e:way=0:=by simpa using e
   refine⟨_,rfl,.inl ⟨rfl,_,SqL.of l6⟩,?_⟩;have em:((fst:Int)+5*(i:Int)) % 12=(((fst+5*i) % 12:Nat):Int):=U
   have hw:rowWords[(fst+5*i) % 12]?=some (wayWord fst i):=by
    have:(fst+5*i) % 12<rowWords.length:=ja _ J7;unfold wayWord;rw[List.getD,XY this];rfl
   refine⟨_,rfl,_,rfl,_,rfl,_,_,rfl,rfl,La J7 J7,_,_,rfl,rfl,_,_,rfl,rfl,J7,?_⟩;show rIxL _ _ (V.int (((fst:Int)+5*(i:Int)) % 12)) _ _;rw[em];refine⟨p1,_,_,.str (wayWord fst i),rfl,rfl,SqL.of e6,Yh (by rw[YQ,hw];rfl),l,_,_,rfl,rfl,l6,by rw[YB,YB,zT,YX];omega,?_⟩;refine⟨⟨_,_,rfl⟩,B6.upd (JZ lb),?_,by rw[Zj lp];exact e6,?_⟩
   ·exact λq o e ne=>by rw[Zj (Zd e fl0)];exact X6 q o e ne
   rw[Z5,JD e,zG,XA,XA];rfl
  have e:¬ way=0:=by simpa using e
  rw[XQ e] at l6;have em:((fst:Int)+(i:Int)) % 26=(((fst+i) % 26:Nat):Int):=U
  refine⟨_,rfl,_,rfl,_,_,rfl,rfl,_,_,rfl,rfl,J7,?_⟩;show rIxS _ (V.int (((fst:Int)+(i:Int)) % 26)) _ _;rw[em];refine⟨_,_,97+(fst+i) % 26,rfl,rfl,J7,Yh (Cm ⟨(fst+i) % 26,ja _ J7⟩),?_⟩;refine Xw ?_;have lz':z.cps.toList.length<=7:=by rw[<-Ze];exact lz
  refine⟨_,rfl,.inl ⟨rfl,_,SqL.of l6⟩,?_⟩;refine⟨_,rfl,Y4 ⟨_,rfl,_,rfl,_,none,some t,rfl,rfl,rfl,?_,U,_,rfl,_,_,rfl,rfl,?_,_,rfl,_,rfl,_,rfl,Y4 ⟨_,some t,none,rfl,rfl,rfl,?_,U,_,_,rfl,rfl,?_,l,_,_,rfl,rfl,l6,by rw[YB,YB,zT,YX];omega,?_⟩⟩⟩
  ·show min 0 z.length<=min t z.length;omega
  ·rw[YX];have:=Xo z 0 (min t z.length);show (cutS z 0 (min t z.length)).length+1<=_;omega
  ·show min t z.length<=min z.length z.length;omega
  ·rw[YX,YF];have:=Xo z 0 (min t z.length);have:=Xo z (min t z.length) (min z.length z.length);show (cutS z 0 (min t z.length)).length+1+(cutS z (min t z.length) (min z.length z.length)).length<=_;omega
  have ew:cutS z 0 (min t z.length)++(⟨#[97+(fst+i) % 26]⟩:PySem.Str)++cutS z (min t z.length) (min z.length z.length)=waySign z t fst i:=by
   apply Zu;rw[Z6,Z6];show (z.cps.toList.drop 0).take (min t z.length - 0)++[97+(fst+i) % 26]++(z.cps.toList.drop (min t z.length)).take (min z.length z.length - min t z.length)=z.cps.toList.take t++(97+(fst+i) % 26)::z.cps.toList.drop t;rw[Ze,Y01,Y1m,JF (l:=z.cps.toList.drop _) (by rw[qy];omega)];rcases Y0L t z.cps.toList.length with h | h
   ·rw[JQ h];simp
   rw[je h,JF (i:=t) h,zU (i:=t) h,JR,Y0A];simp
  refine⟨⟨_,_,rfl⟩,B6.upd (JZ lb),?_,by rw[Zj lp];exact e6,?_⟩
  ·exact λq o e ne=>by rw[Zj (Zd e fl0)];exact X6 q o e ne
  rw[Z5,XQ e,zG,XA,XA];exact congrArg (λq=>some (HO.lst (((List.range i).map (waySign z t fst)).map V.str++[V.str q]))) ew
 rintro σ H6 ⟨⟨x8,x9,rfl⟩,B6,X6,e6,l6⟩;refine⟨_,rfl,k l H6 _ B6 X6 l6 fl0 ?_ J8⟩;by_cases h:way=0
 ·rw[JD h];exact Nc (Ma fst) (λi j hi hj e=>Pf hi hj e) hc hc2
 rw[XQ h];exact Nc (λk=>Mb az lz) (λi j hi hj e=>Pg hi hj e) hc hc2
end
def BadWord (z:PySem.Str):Prop:=∀ r,Fit30 r->z≠shR r
def isFig (c:Nat):Bool:=decide (48<=c) && decide (c<=57)
def figB:List Nat->Bool
 | []=>false
 | 45::[]=>false
 | 45::48::_=>false
 | 45::t=>t.all isFig && decide (t.length<=30)
 | 48::[]=>true
 | 48::_::_=>false
 | t=>t.all isFig && decide (t.length<=30)
theorem Ry {m:Nat}{t:List Nat}(h:digs m=48::t):t=[]:=by
 cases t with
 | nil=>rfl
 | cons a t =>
  exfalso;have hv:NumText.digitsVal (digs m)=m:=Y08 m;have ha:=Xb m;rw[h] at hv ha;have hl:(48:Nat)::a::t=48::(a::t):=rfl;have hb:=P3 (a::t) 0 λx hx=>ha x (YG _ hx);rw[Nat.zero_add,Nat.one_mul] at hb;have hm:m<10 ^ (a::t).length:=by
   rw[<-hv];exact hb
  have:=Wg (k:=(a::t).length) J8 hm;rw[h] at this;simp at this;omega
theorem C5 (m:Nat):(digs m).all isFig=true:=by
 rw[GG];intro c hc;have:=Xb m c hc;simp[isFig,this.1,this.2]
theorem Ts {n:Int}(h:n.natAbs<10 ^ 30):figB (numS n).cps.toList=true:=by
 have ld:=Wg (k:=30) J7 h;have ne:=Wo n.natAbs;have fg:=C5 n.natAbs;rcases Xs n with ⟨m,rfl⟩ | ⟨m,hm,rfl⟩
 ·rw[Yp];rw[Int.natAbs_natCast] at ld ne fg
  cases hd:digs m with
  | nil=>exact absurd hd ne
  | cons c t =>
   rw[hd] at ld fg;by_cases h45:c=45
   ·subst h45;rw[zC] at fg;exact absurd fg (by simp[isFig])
   by_cases h48:c=48
   ·subst h48;rw[Ry hd];rfl
   have:figB (c::t)=((c::t).all isFig && decide ((c::t).length<=30)):=by
    unfold figB;split <;> simp_all
   rw[this,fg,XD ld];rfl
 rw[V6 m hm];have em:(-(m:Int)).natAbs=m:=U
 rw[em] at ld ne fg
 cases hd:digs m with
 | nil=>exact absurd hd ne
 | cons c t =>
  rw[hd] at ld fg;by_cases h48:c=48
  ·subst h48;have ht:=Ry hd;rw[ht] at hd;have hv:NumText.digitsVal (digs m)=m:=Y08 m;rw[hd] at hv;have:(0:Nat)=m:=hv;omega
  have:figB (45::c::t)=((c::t).all isFig && decide ((c::t).length<=30)):=by
   unfold figB;split <;> simp_all
  rw[this,fg,XD ld];rfl
theorem Yl {z:PySem.Str}(h:47 ∉ z.cps.toList)(hb:figB z.cps.toList=false):BadWord z:=λr f e=>by
 by_cases h1:r.2=1
 ·have e:z=numS r.1:=by rw[e];unfold shR;rw[JD h1]
  rw[e,Ts f.b1] at hb
  cases hb
 apply h;rw[e];unfold shR;rw[XQ h1,Z6,Z6];simp
theorem Xn {a b:PySem.Str}{r:Rat}(ha:47 ∉ a.cps.toList)(e:a++⟨#[47]⟩++b=shR r):numS r.1=a/\numS r.2=b/\r.2≠1:=by
 have h1:r.2≠1:=λh1=>by
  have:47∈(shR r).cps.toList:=by rw[<-e,Z6,Z6];simp
  unfold shR at this;rw[JD h1] at this;exact U6 this
 have e:a++⟨#[47]⟩++b=numS r.1++⟨#[47]⟩++numS r.2:=by rw[e];unfold shR;rw[XQ h1]
 have e2:=congrArg (λz:PySem.Str=>z.cps.toList) e;simp only [Z6,YK] at e2;obtain⟨p,q⟩:=P5 ha U6 e2;exact⟨(Zu p).symm,(Zu q).symm,h1⟩
theorem P8 {a b:PySem.Str}(ha:47 ∉ a.cps.toList)(h:figB a.cps.toList=false):BadWord (a++⟨#[47]⟩++b):=λr f e=>by
 rw[<-(Xn ha e).1,Ts f.b1] at h
 cases h
theorem Xi {a b:PySem.Str}(ha:47 ∉ a.cps.toList)(h:figB b.cps.toList=false):BadWord (a++⟨#[47]⟩++b):=λr f e=>by
 rw[<-(Xn ha e).2.1,Ts f.b2] at h
 cases h
theorem Vu {n m:Int}(hn:n.natAbs<10 ^ 30)(hm:m.natAbs<10 ^ 30)(e:numS n=numS m):n=m:=by
 have x:=Wb (k:=30) J7 hn J7;rw[e,Wb (k:=30) J7 hm J7] at x;exact (XH x).symm
theorem Wz {p q:Int}(hp:p.natAbs<10 ^ 30)(hq:q.natAbs<10 ^ 30)(h:q<=0 \/ q=1 \/ Int.gcd p q≠1):BadWord (numS p++⟨#[47]⟩++numS q):=λr f e=>by
 obtain⟨a,b,c⟩:=Xn U6 e;have a:=Vu f.b1 hp a;have b:=Vu f.b2 hq b;have h1:=f.pos;have h2:=f.gcd;rw[a,b] at h2;rw[b] at h1 c;rcases h with h | h | h
 ·omega
 ·exact c h
 exact h h2
theorem Z0e {a:PySem.Str}(ha:47 ∉ a.cps.toList):BadWord (a++⟨#[47]⟩++numS 1):=λr f e=>by
 obtain⟨_,b,c⟩:=Xn ha e;exact c (Vu f.b2 J9 b)
theorem Su {b:PySem.Str}:BadWord (numS 0++⟨#[47]⟩++b):=λr f e=>by
 obtain⟨a,_,c⟩:=Xn U6 e;have a:=Vu f.b1 J9 a;have h1:=f.pos;have h2:=f.gcd;rw[a,Int.gcd_zero_left] at h2;omega
def bw16:List PySem.Str:=["","-","-0","+1","01","-01","1.0","x","1/","/2","1/0","1/1","2/4","0/5","1/-2","1/02"].map Str.ofString
def bw6 (z:PySem.Str):List PySem.Str:=[Str.ofString "--1",Str.ofString "1/2/3",Str.ofString "1x",Str.ofString "1"++z,Str.ofString "-1"++z,Str.ofString "1/1"++z]
def bw10 (b:PySem.Str):List PySem.Str:=[b++Str.ofString "/1",Str.ofString "0/"++b,Str.ofString "-0/3",Str.ofString "1//2",Str.ofString "-/2",Str.ofString "3/3",Str.ofString "00",Str.ofString "1_0",Str.ofString "1/1_1",Str.ofString "1 "]
def badWords (b:PySem.Str):List PySem.Str:=bw16++bw6 (Txt.zfill b 30)++bw10 b
structure BigT (b:PySem.Str):Prop where
 dg:∀ c∈b.cps.toList,48<=c/\c<=57
 l1:1<=b.length
 l2:b.length<=30
theorem Uy {b:PySem.Str}(h:BigT b):(∀ c∈(Txt.zfill b 30).cps.toList,48<=c/\c<=57)/\(Txt.zfill b 30).length=30:=by
 unfold Txt.zfill;split
 ·rename_i hl
  have:=h.l2;exact⟨h.dg,U⟩
 rename_i hl
 have e:zfilled b ((30:Int).toNat - b.length)=Builtin.Str.padded b (30 - b.length) 0 48:=by
  unfold zfilled;have h0:∀ c,b.cps[0]?=some c->48<=c:=λc hc=>(h.dg c (by
   rw[<-zp] at hc;exact YV hc)).1
  split
  ·rename_i hc
   exact absurd (h0 _ hc) J7
  ·rename_i hc
   exact absurd (h0 _ hc) J7
  rfl
 rw[e];refine⟨λc hc=>?_,?_⟩
 ·unfold Builtin.Str.padded at hc;simp at hc;rcases hc with ⟨_,rfl⟩ | hc
  ·omega
  exact h.dg c (by simpa using hc)
 have:=h.l2;rw[Ze];unfold Builtin.Str.padded;simp;have e2:b.length=b.cps.size:=rfl;omega
theorem Cg:∀ z∈bw16,BadWord z:=by
 have pl:∀ s:String,47 ∉ (Str.ofString s).cps.toList->figB (Str.ofString s).cps.toList=false->BadWord (Str.ofString s):=λs a b=>Yl a b;intro z hz;unfold bw16 at hz;simp only [YT,XJ,YC,YH,XL] at hz;rcases hz with rfl | rfl | rfl | rfl | rfl | rfl | rfl | rfl | rfl | rfl | rfl | rfl | rfl | rfl | rfl | rfl
 ·exact pl _ J7 J7
 ·exact pl _ J7 J7
 ·exact pl _ J7 J7
 ·exact pl _ J7 J7
 ·exact pl _ J7 J7
 ·exact pl _ J7 J7
 ·exact pl _ J7 J7
 ·exact pl _ J7 J7
 ·exact Xi (a:=Str.ofString "1") (b:=Str.ofString "") J7 J7
 ·exact P8 (a:=Str.ofString "") (b:=Str.ofString "2") J7 J7
 ·exact Wz (p:=1) (q:=0) J9 J9 (.inl J7)
 ·exact Wz (p:=1) (q:=1) J9 J9 (.inr (.inl rfl))
 ·exact Wz (p:=2) (q:=4) J9 J9 (.inr (.inr J7))
 ·exact Su (b:=Str.ofString "5")
 ·exact Wz (p:=1) (q:=-2) J9 J9 (.inl J7)
 exact Xi (a:=Str.ofString "1") (b:=Str.ofString "02") J7 J7
theorem C6 {b:PySem.Str}(h:∀ c∈b.cps.toList,48<=c/\c<=57):47 ∉ b.cps.toList:=λq=>by
 have:=h 47 q;omega
theorem Da {z:PySem.Str}(hl:z.length=30):figB (Str.ofString "1"++z).cps.toList=false/\figB (Str.ofString "-1"++z).cps.toList=false:=by
 rw[Ze] at hl;rw[Z6,Z6];constructor
 ·show ((49::z.cps.toList).all isFig && decide ((49::z.cps.toList).length<=30))=false;rw[XI (by rw[YR];omega),Y0Y]
 show ((49::z.cps.toList).all isFig && decide ((49::z.cps.toList).length<=30))=false;rw[XI (by rw[YR];omega),Y0Y]
theorem P9 {b:PySem.Str}(h:BigT b):∀ z∈badWords b,BadWord z:=by
 obtain⟨zd,zl⟩:=Uy h;obtain⟨f1,f2⟩:=Da zl;intro z hz;unfold badWords at hz;generalize Txt.zfill b 30=zf at *
 rcases YN.mp hz with hz | hz
 ·rcases YN.mp hz with hz | hz
  ·exact Cg z hz
  unfold bw6 at hz;simp only [YC,YH,XL] at hz;rcases hz with rfl | rfl | rfl | rfl | rfl | rfl
  ·exact Yl J7 J7
  ·exact Xi (a:=Str.ofString "1") (b:=Str.ofString "2/3") J7 J7
  ·exact Yl J7 J7
  ·refine Yl (λq=>?_) f1;rw[Z6] at q;rcases YN.mp q with q | q
   ·exact absurd q J7
   exact C6 zd q
  ·refine Yl (λq=>?_) f2;rw[Z6] at q;rcases YN.mp q with q | q
   ·exact absurd q J7
   exact C6 zd q
  have e:Str.ofString "1/1"++zf=Str.ofString "1"++⟨#[47]⟩++(Str.ofString "1"++zf):=Zu (by simp only [Z6,YK];rfl);rw[e];exact Xi J7 f1
 unfold bw10 at hz;simp only [YC,YH,XL] at hz;rcases hz with rfl | rfl | rfl | rfl | rfl | rfl | rfl | rfl | rfl | rfl
 ·have e:b++Str.ofString "/1"=b++⟨#[47]⟩++numS 1:=Zu (by simp only [Z6,YK];rfl);rw[e];exact Z0e (C6 h.dg)
 ·have e:Str.ofString "0/"++b=numS 0++⟨#[47]⟩++b:=Zu (by simp only [Z6,YK];rfl);rw[e];exact Su
 ·exact P8 (a:=Str.ofString "-0") (b:=Str.ofString "3") J7 J7
 ·exact Xi (a:=Str.ofString "1") (b:=Str.ofString "/2") J7 J7
 ·exact P8 (a:=Str.ofString "-") (b:=Str.ofString "2") J7 J7
 ·exact Wz (p:=3) (q:=3) J9 J9 (.inr (.inr J7))
 ·exact Yl J7 J7
 ·exact Yl J7 J7
 ·exact Xi (a:=Str.ofString "1") (b:=Str.ofString "1_1") J7 J7
 exact Yl J7 J7
section
variable {P:TR}{w:World}{K:TQ}{mg:TB}{base:Heap}
inductive spBadWords (vs:TV) (H:Hp) (Q:VK) (_z3:XK):Prop
 | mk (b:PySem.Str) (zz0:vs=[.str b]) (zz1:BigT b) (zz2:∀ l H',Same H H'->H l=none->H' l=some (.lst ((badWords b).map V.str))->Q (.ref l) H')
theorem L4 (D:Def K mg "_law_bad_words" fV ["_law_big"]):Has P w K mg base 1 "_law_bad_words" ["_law_big"] spBadWords:=by
 refine D.h9 (N:=["_law_big","_law_words"]) fsc λH Q hr h nd=>?_;obtain⟨b,rfl,hb,q⟩:=h;refine⟨_,(@Z4 _ _ _ _ _ (@Zc _ _ 1 _ _ _ _ nd rfl (Or.inl rfl) (@K3 _ _ _ bw16 rfl) F6 (by first | exact .inl rfl | exact .inr rfl))
  (Z4 (Zc (i:=1) nd rfl (Or.inl rfl) (Za Ym (pv 1) (Y3 (Z0 Z9 (Z0 Z9 (Z0 Z9 (Z0 (Za Z7 Z9 (Yg XN zV zW Tv (pv 0) (Z0 Z8 Z3))) (Z0 (Za Z7 Z9 (Yg XN zV zW Tv (pv 0) (Z0 Z8 Z3))) (Z0 (Za Z7 Z9 (Yg XN zV zW Tv (pv 0) (Z0 Z8 Z3))) Z3)))))))))
  (Zb (Zi (Za Ym (pv 1) (Y3 (Z0 (Za Z7 (pv 0) Z9) (Z0 (Za Z7 Z9 (pv 0)) (Z0 Z9 (Z0 Z9 (Z0 Z9 (Z0 Z9 (Z0 Z9 (Z0 Z9 (Z0 Z9 (Z0 Z9 Z3)))))))))))))))),?_⟩
 obtain⟨zd,zl⟩:=Uy hb;have b2:=hb.l2;refine⟨by show 16<=sizeLine;decide,λp1 f1=>?_⟩;have S1:Same H (upd H p1 (.lst (bw16.map V.str))):=Same.new f1;have e1:upd H p1 (.lst (bw16.map V.str)) p1=some (.lst (bw16.map V.str)):=Z5;generalize upd H p1 (.lst (bw16.map V.str))=H1 at S1 e1;have sz:∀ c:PySem.Str,c.length<=100->c.length+(Txt.zfill b 30).length<=sizeLine:=λc hc=>by rw[YX];omega
 refine⟨_,rfl,_,rfl,rfl,_,_,rfl,rfl,J7,_,_,rfl,rfl,sz _ J7,_,rfl,rfl,_,_,rfl,rfl,J7,_,_,rfl,rfl,sz _ J7,_,rfl,rfl,_,_,rfl,rfl,J7,_,_,rfl,rfl,sz _ J7,sz6,λp2 f2=>?_⟩;have S2:Same H1 (upd H1 p2 (.lst ((bw6 (Txt.zfill b 30)).map V.str))):=Same.new f2;refine⟨p1,p2,bw16.map V.str,(bw6 (Txt.zfill b 30)).map V.str,rfl,rfl,S2 _ _ e1,Z5,by show 22<=sizeLine;decide,λp3 f3=>?_⟩;have S3:Same H (upd (upd H1 p2 (.lst ((bw6 (Txt.zfill b 30)).map V.str))) p3 (.lst (bw16.map V.str++(bw6 (Txt.zfill b 30)).map V.str))):=S1.trans (S2.trans (Same.new f3));have e3:upd (upd H1 p2 (.lst ((bw6 (Txt.zfill b 30)).map V.str))) p3 (.lst (bw16.map V.str++(bw6 (Txt.zfill b 30)).map V.str)) p3=some (.lst (bw16.map V.str++(bw6 (Txt.zfill b 30)).map V.str)):=Z5;refine Xw ?_;refine⟨_,rfl,_,rfl,_,_,rfl,rfl,by rw[YX];show b.length+2<=_;omega,_,rfl,_,_,rfl,rfl,by rw[YX];show 2+b.length<=_;omega,(by show 10<=sizeLine;decide),λp4 f4=>?_⟩;refine⟨p3,p4,_,(bw10 b).map V.str,rfl,rfl,Same.new f4 _ _ e3,Z5,by show 32<=sizeLine;decide,λp5 f5=>?_⟩;have S5:=(S3.trans (Same.new f4 (o:=.lst ((bw10 b).map V.str)))).trans (Same.new f5 (o:=.lst (bw16.map V.str++(bw6 (Txt.zfill b 30)).map V.str++(bw10 b).map V.str)));refine q p5 _ S5 (T3 (S3.trans (Same.new f4)) f5) ?_;rw[Z5];unfold badWords;rw[XA,XA]
end
def Told (z w0:PySem.Str)(ws:List PySem.Str):Prop:=z.cps.toList=w0.cps.toList++(ws.map λv=>32::v.cps.toList).flatten
theorem Z0u:∀ (w0:PySem.Str) (ws:List PySem.Str),Told (Str.join ⟨#[32]⟩ (w0::ws)) w0 ws
 | w0,[]=>by
  show w0.cps.toList=_;simp
 | w0,v::ws=>by
  have ih:=Z0u v ws;unfold Told at *
  rw[Xa,Z6,Z6,ih];simp
theorem Told.eq {z w0:PySem.Str}{ws:List PySem.Str}(h:Told z w0 ws):z=Str.join ⟨#[32]⟩ (w0::ws):=Zu (h.trans (Z0u w0 ws).symm)
structure LineOf (z w0:PySem.Str)(ws:List PySem.Str):Prop where
 t:Told z w0 ws
 f0:32 ∉ w0.cps.toList
 f:∀ v∈ws,32 ∉ v.cps.toList
theorem LineOf.words {z w0:PySem.Str}{ws:List PySem.Str}(h:LineOf z w0 ws){ns:List PySem.Str}(ok:NamesOk ns){rs:TW}{oa ob:Option Rat}{ev:Option (List Nat)}(ot:OffT ns.length rs oa ob ev)(e:z=Str.join ⟨#[32]⟩ (offW ns rs oa ob ev)):w0=sOffer/\ws=rs.map shR++(prW oa ob++evW ns ev):=by
 have ow:=Xr ok ot;have:=Sa (c:=32) (ws:=w0::ws) (vs:=offW ns rs oa ob ev) J8 (by simp[offW]) (λw hw=>by
  rcases YC.mp hw with rfl | hw
  ·exact h.f0
  exact h.f w hw) (λw hw q=>by have:=(ow w hw).1 32 q;omega) (by rw[<-h.t.eq];exact e)
 unfold offW at this;injection this with a b
 exact⟨a,b⟩
section
variable {ns:List PySem.Str}{z w0:PySem.Str}{ws:List PySem.Str}
theorem Uf (ok:NamesOk ns)(h:LineOf z w0 ws)(n:w0≠sOffer):BadRow ns z:=λ_ _ _ _ ot e=>n (h.words ok ot e).1
theorem Q6 (ok:NamesOk ns)(h:LineOf z w0 ws)(n:ws.length<ns.length):BadRow ns z:=λrs oa ob ev ot e=>by
 have e:=congrArg List.length (h.words ok ot e).2;rw[XF,YB,ot.len] at e;omega
theorem Fa (r:Rat):shR r≠Str.empty:=λe=>by
 have h1:1<=(shR r).length:=by
  unfold shR;split
  ·have:(numS r.1).cps.toList≠[]:=λh=>by
    rcases Xs r.1 with ⟨m,hm⟩ | ⟨m,hm,hm2⟩
    ·rw[hm,Yp] at h;exact Wo m h
    rw[hm2,V6 m hm] at h
    cases h
   rw[Ze];exact qU.mpr this
  rw[YF,YF];show 1<=_+1+_;omega
 rw[e] at h1;exact absurd h1 J7
theorem Y2 (ok:NamesOk ns)(h:LineOf z w0 ws)(n:Str.empty∈w0::ws):BadRow ns z:=λrs oa ob ev ot e=>by
 obtain⟨e0,e1⟩:=h.words ok ot e;rcases YC.mp n with n | n
 ·rw[<-n] at e0;exact absurd e0 J7
 rw[e1] at n;rcases YN.mp n with n | n
 ·obtain⟨r,_,hr⟩:=JC.mp n;exact Fa r hr
 rcases YN.mp n with n | n
 ·rcases N2 n with n | n | ⟨r,_,hr⟩
  ·exact absurd n J7
  ·exact absurd n J7
  exact Fa r hr.symm
 rcases Nw (λes e=>(ot.ev es e).2.2) n with n | n
 ·exact absurd n J7
 have:=(ok.ok _ n).l1;exact absurd this J7
theorem M5 (ok:NamesOk ns)(h:LineOf z w0 ws){v:PySem.Str}(hv:v∈ws.take ns.length)(n:BadWord v):BadRow ns z:=λrs oa ob ev ot e=>by
 obtain⟨_,e1⟩:=h.words ok ot e;rw[e1,jo (by rw[YB,ot.len])] at hv;obtain⟨r,hr,e⟩:=JC.mp hv;exact n r (ot.fr r hr) e.symm
def sOne:PySem.Str:=Str.ofString "1"
def ones (n:Nat):List PySem.Str:=List.replicate n sOne
def BadTail (ns t:List PySem.Str):Prop:=∀ oa ob ev,(∀ r,oa=some r->Fit30 r)->(∀ r,ob=some r->Fit30 r)->(∀ es,ev=some es->es≠[]/\es.Pairwise (·<·)/\∀ e∈es,e<ns.length)->t≠prW oa ob++evW ns ev
theorem Zv {t:List PySem.Str}(ok:NamesOk ns)(h:LineOf z sOffer (ones ns.length++t))(n:BadTail ns t):BadRow ns z:=λrs oa ob ev ot e=>by
 obtain⟨_,e1⟩:=h.words ok ot e;have:=(List.append_inj e1 (by rw[YB,ot.len];unfold ones;rw[zo])).2;exact n oa ob ev ot.fa ot.fb ot.ev this
theorem Yq:sAsk≠sBid/\sAsk≠sIf/\sBid≠sIf:=by decide
theorem U4 {v:PySem.Str}{t:List PySem.Str}(h1:v≠sAsk)(h2:v≠sBid)(h3:v≠sIf):BadTail ns (v::t):=λoa ob ev _ _ _ e=>by
 cases oa with
 | some r=>exact h1 (XZ e).1
 | none =>
  cases ob with
  | some r=>exact h2 (XZ e).1
  | none =>
   cases ev with
   | some es=>exact h3 (XZ e).1
   | none=>cases e
def BadBid (ns t:List PySem.Str):Prop:=∀ ob ev,(∀ r,ob=some r->Fit30 r)->(∀ es,ev=some es->es≠[]/\es.Pairwise (·<·)/\∀ e∈es,e<ns.length)->t≠prW none ob++evW ns ev
def BadEv (ns t:List PySem.Str):Prop:=∀ es:List Nat,es≠[]->es.Pairwise (·<·)->(∀ e∈es,e<ns.length)->t≠es.map λi=>ns.getD i ""
theorem J0:BadTail ns [sAsk]:=λoa ob ev _ _ _ e=>by
 cases oa with
 | some r=>exact absurd (XZ e).2 J8
 | none =>
  cases ob with
  | some r=>exact Yq.1 (XZ e).1
  | none =>
   cases ev with
   | some es=>exact Yq.2.1 (XZ e).1
   | none=>cases e
theorem W8 {v:PySem.Str}{t:List PySem.Str}(h:BadWord v \/ BadBid ns t):BadTail ns (sAsk::v::t):=λoa ob ev fa fb he e=>by
 cases oa with
 | some r =>
  have e:=(XZ e).2;rcases h with h | h
  ·exact h r (fa r rfl) (XZ e).1
  exact h ob ev fb he (XZ e).2
 | none =>
  cases ob with
  | some r=>exact Yq.1 (XZ e).1
  | none =>
   cases ev with
   | some es=>exact Yq.2.1 (XZ e).1
   | none=>cases e
theorem BadTail.bid {t:List PySem.Str}(h:BadTail ns t):BadBid ns t:=λob ev fb he e=>h none ob ev (λr z=>by cases z) fb he e
theorem Kz:BadTail ns [sBid]:=λoa ob ev _ _ _ e=>by
 cases oa with
 | some r=>exact Yq.1.symm (XZ e).1
 | none =>
  cases ob with
  | some r=>exact absurd (XZ e).2 J8
  | none =>
   cases ev with
   | some es=>exact Yq.2.2 (XZ e).1
   | none=>cases e
theorem Vn {v:PySem.Str}{t:List PySem.Str}(h:BadWord v \/ (t≠[]/\t.head?≠some sIf)):BadTail ns (sBid::v::t):=λoa ob ev fa fb he e=>by
 cases oa with
 | some r=>exact Yq.1.symm (XZ e).1
 | none =>
  cases ob with
  | some r =>
   have e:=(XZ e).2;rcases h with h | ⟨h1,h2⟩
   ·exact h r (fb r rfl) (XZ e).1
   have e:t=evW ns ev:=(XZ e).2
   cases ev with
   | none=>exact h1 e
   | some es =>
    rw[e] at h2;exact h2 rfl
  | none =>
   cases ev with
   | some es=>exact Yq.2.2 (XZ e).1
   | none=>cases e
theorem Xy {t:List PySem.Str}(h:BadEv ns t):BadTail ns (sIf::t):=λoa ob ev fa fb he e=>by
 cases oa with
 | some r=>exact Yq.2.1.symm (XZ e).1
 | none =>
  cases ob with
  | some r=>exact Yq.2.2.symm (XZ e).1
  | none =>
   cases ev with
   | some es =>
    obtain⟨a,b,c⟩:=he es rfl;exact h es a b c (XZ e).2
   | none=>cases e
theorem Dz:BadEv ns []:=λes h _ _ e=>h (Y17.mp e.symm)
theorem Ux (ok:NamesOk ns){t:List PySem.Str}{v:PySem.Str}(hv:v∈t)(n:¬ NameOk v):BadEv ns t:=λes _ _ hl e=>by
 rw[e] at hv;obtain⟨i,hi,rfl⟩:=JC.mp hv;have:=hl i hi;exact n (ok.ok _ (by simp[List.getD,this]))
theorem Dy (ok:NamesOk ns){i j:Nat}(hi:i<ns.length)(hj:j<ns.length)(h:j<=i):BadEv ns [ns.getD i "",ns.getD j ""]:=λes _ hr hl e=>by
 have:=Wn ok.nd (es:=[i,j]) (λx hx=>by
  simp at hx;rcases hx with rfl | rfl
  ·exact hi
  exact hj) hl e
 rw[<-this] at hr;have:=Y0c hr (JA.mpr rfl);omega
end
def bl1 (g W C one last w:PySem.Str):List PySem.Str:=[Str.ofString "",Str.ofString "offer",Str.ofString "Offer"++W,Str.ofString "offers"++W,g++Str.ofString " ",Str.ofString " "++g,g++Str.ofString " 1"]
def bl2 (g W C one last w:PySem.Str):List PySem.Str:=[Str.ofString "offer"++C,Str.ofString "worlds "++one++Str.ofString " "++last,g++Str.ofString " ask",g++Str.ofString " bid"]
def bl3 (g W C one last w:PySem.Str):List PySem.Str:=[g++Str.ofString " ask bid",g++Str.ofString " if",g++Str.ofString " bid 1 ask 2",g++Str.ofString " ask 1 ask 2"]
def bl4 (g W C one last w:PySem.Str):List PySem.Str:=[g++Str.ofString " bid 1 bid 1",g++Str.ofString " ask 1 2",g++Str.ofString " Ask 1",g++Str.ofString " if "++last++Str.ofString " "++one]
def bl5 (g W C one last w:PySem.Str):List PySem.Str:=[g++Str.ofString " if "++one++Str.ofString " "++one,g++Str.ofString " if abcdefghi",g++Str.ofString " if "++one++Str.ofString "A"]
def bl6 (g W C one last w:PySem.Str):List PySem.Str:=[g++Str.ofString " if "++one++Str.ofString " bid 1 2",g++Str.ofString " ask 1  bid 2",Str.ofString "offer "++W]
def bl7 (g W C one last w:PySem.Str):List PySem.Str:=[g++Str.ofString " if "++one++Str.ofString " ",g++Str.ofString " if  "++one,g++Str.ofString " if 1",g++Str.ofString " ask 1 if"]
def bl8 (g W C one last w:PySem.Str):List PySem.Str:=[g++Str.ofString "  if "++one,Str.ofString "offer "++w++C,Str.ofString "offer"++C++Str.ofString " "++w]
def bl9 (g W C one last w:PySem.Str):List PySem.Str:=[g++Str.ofString " ask "++w,g++Str.ofString " bid "++w++Str.ofString " if "++one,g++Str.ofString " ask 1 bid "++w]
theorem Wa (z:PySem.Str)(n:Nat):(repS z n).cps.toList=(List.replicate n z.cps.toList).flatten:=by
 unfold repS;simp
abbrev wor (n:Nat):PySem.Str:=repS (Str.ofString " 1") n
abbrev good (n:Nat):PySem.Str:=Str.ofString "offer"++wor n
theorem Yv (n:Nat):(wor n).cps.toList=((ones n).map λv=>32::v.cps.toList).flatten:=by
 rw[Wa];unfold ones;rw[Y09];rfl
theorem V0 (n:Nat):(wor n).length=2*n:=by
 rw[Ze,Wa];simp;show n*2=2*n;omega
theorem Cn {n:Nat}(h:1<=n):cutS (wor n) (min 2 (wor n).length) (min (wor n).length (wor n).length)=wor (n - 1):=by
 obtain⟨m,rfl⟩:∃ m,n=m+1:=⟨n - 1,U⟩;apply Zu;show ((wor (m+1)).cps.toList.drop (min 2 (wor (m+1)).length)).take (min (wor (m+1)).length (wor (m+1)).length - min 2 (wor (m+1)).length)=_;have e:(wor (m+1)).cps.toList=32::49::(wor m).cps.toList:=by
  rw[Wa,Wa,List.replicate_succ,YW];rfl
 have l:(wor (m+1)).length=2*(m+1):=V0 _;rw[l,e,jW,JQ U,Nat.add_sub_cancel];show (wor m).cps.toList.take _=_;rw[JF (by rw[<-Ze,V0];omega)]
def Cln (z:PySem.Str):Prop:=∀ c∈z.cps.toList,c<128/\c≠10
theorem Cln.app {a b:PySem.Str}(h:Cln a)(k:Cln b):Cln (a++b):=λc hc=>by
 rw[Z6] at hc;rcases YN.mp hc with hc | hc
 ·exact h c hc
 exact k c hc
theorem Cln.asc {z:PySem.Str}(h:Cln z):Asc z:=λc hc=>(h c hc).1
theorem Zp (n:Nat):Cln (wor n):=λc hc=>by
 rw[Wa] at hc;obtain⟨l,hl,hc⟩:=List.mem_flatten.mp hc;rw[(zL.mp hl).2] at hc;exact (by decide:∀ c∈(Str.ofString " 1").cps.toList,c<128/\c≠10) c hc
structure WordOk (w:PySem.Str):Prop where
 bad:BadWord w
 cl:Cln w
 ln:w.length<=40
 sp:32 ∉ w.cps.toList \/ w=Str.ofString "1 "
structure LineBad (ns:List PySem.Str)(z:PySem.Str):Prop where
 bad:BadRow ns z
 cl:Cln z
 ln:z.length<=800
theorem Zk {n:Nat}{z:PySem.Str}{t:List PySem.Str}(h:z.cps.toList=(good n).cps.toList++(t.map λv=>32::v.cps.toList).flatten)(f:∀ v∈t,32 ∉ v.cps.toList):LineOf z sOffer (ones n++t):=by
 refine⟨?_,J7,λv hv=>?_⟩
 ·unfold Told;rw[h,Z6,Yv,XA,List.flatten_append,YK]
 rcases YN.mp hv with hv | hv
 ·unfold ones at hv;rw[(zL.mp hv).2]
  decide
 exact f v hv
theorem Xh {n:Nat}{v:PySem.Str}(hv:v∈ones n):32 ∉ v.cps.toList:=by
 unfold ones at hv;rw[(zL.mp hv).2]
 decide
section
variable {ns:List PySem.Str}{one last w:PySem.Str}
theorem Jx (ok:NamesOk ns)(h1:one=ns.getD 0 "")(h2:last=ns.getD (ns.length - 1) "")(hw:WordOk w):∀ z∈bl1 (good ns.length) (wor ns.length) (wor (ns.length - 1)) one last w++bl2 (good ns.length) (wor ns.length) (wor (ns.length - 1)) one last w++bl3 (good ns.length) (wor ns.length) (wor (ns.length - 1)) one last w++bl4 (good ns.length) (wor ns.length) (wor (ns.length - 1)) one last w++bl5 (good ns.length) (wor ns.length) (wor (ns.length - 1)) one last w++bl6 (good ns.length) (wor ns.length) (wor (ns.length - 1)) one last w++bl7 (good ns.length) (wor ns.length) (wor (ns.length - 1)) one last w++bl8 (good ns.length) (wor ns.length) (wor (ns.length - 1)) one last w++bl9 (good ns.length) (wor ns.length) (wor (ns.length - 1)) one last w,LineBad ns z:=by
 have n2:=ok.l1;have n12:=ok.l2;have o1:NameOk one:=by rw[h1];exact ok.ok _ (by simp[List.getD,show 0<ns.length by omega])
 have o2:NameOk last:=by rw[h2];exact ok.ok _ (by simp[List.getD,show ns.length - 1<ns.length by omega])
 have c1:Cln one:=λc hc=>by have:=o1.az c hc;omega
 have c2:Cln last:=λc hc=>by have:=o2.az c hc;omega
 have f1:32 ∉ one.cps.toList:=o1.free J7;have f2:32 ∉ last.cps.toList:=o2.free J7;have k1:=o1.l2;have k2:=o2.l2;have k3:=hw.ln;have lw:=V0 ns.length;have lc:=V0 (ns.length - 1);have c_offer:Cln (Str.ofString "offer"):=(by decide:∀ c∈(Str.ofString "offer").cps.toList,c<128/\c≠10);have lS:∀ (s:String) (k:Nat),(Str.ofString s).length=k->(Str.ofString s).length<=k:=λs k h=>U
 intro z hz;simp only [YN] at hz;rcases hz with (((((((hz | hz) | hz) | hz) | hz) | hz) | hz) | hz) | hz
 ·unfold bl1 at hz;simp only [YC,YH,XL] at hz;rcases hz with rfl | rfl | rfl | rfl | rfl | rfl | rfl
  ·have HL:LineOf (Str.ofString "") (Str.empty) []:=⟨(YM _).symm,J7,λv hv=>by cases hv⟩;exact⟨Y2 ok HL J8,(show Cln (Str.ofString "") from (by decide:∀ c∈(Str.ofString "").cps.toList,c<128/\c≠10)),J7⟩
  ·have HL:LineOf (Str.ofString "offer") (sOffer) []:=⟨(YM _).symm,J7,λv hv=>by cases hv⟩;exact⟨Q6 ok HL (by show 0<_;omega),(show Cln (Str.ofString "offer") from (by decide:∀ c∈(Str.ofString "offer").cps.toList,c<128/\c≠10)),J7⟩
  ·have HL:LineOf (Str.ofString "Offer"++wor ns.length) (Str.ofString "Offer") (ones ns.length):=⟨by unfold Told;rw[Z6,Yv],J7,λv hv=>Xh hv⟩;exact⟨Uf ok HL J7,(Cln.app (show Cln (Str.ofString "Offer") from (by decide:∀ c∈(Str.ofString "Offer").cps.toList,c<128/\c≠10)) (Zp _)),(by simp only [YF];show 5+(wor ns.length).length<=800;omega)⟩
  ·have HL:LineOf (Str.ofString "offers"++wor ns.length) (Str.ofString "offers") (ones ns.length):=⟨by unfold Told;rw[Z6,Yv],J7,λv hv=>Xh hv⟩;exact⟨Uf ok HL J7,(Cln.app (show Cln (Str.ofString "offers") from (by decide:∀ c∈(Str.ofString "offers").cps.toList,c<128/\c≠10)) (Zp _)),(by simp only [YF];show 6+(wor ns.length).length<=800;omega)⟩
  ·have HL:=Zk (n:=ns.length) (z:=good ns.length++Str.ofString " ") (t:=[Str.empty]) (by simp only [Z6,YK,YT,XJ,YW,XC,YM,YS];rfl) (λv hv=>by
     simp only [YC,YH,XL] at hv;rcases hv with rfl
     decide)
   exact⟨Y2 ok HL (YG _ (YZ _ J8)),(Cln.app (Cln.app c_offer (Zp _)) (show Cln (Str.ofString " ") from (by decide:∀ c∈(Str.ofString " ").cps.toList,c<128/\c≠10))),(by simp only [YF];show (5+(wor ns.length).length)+1<=800;omega)⟩
  ·have HL:LineOf (Str.ofString " "++good ns.length) Str.empty (sOffer::ones ns.length):=⟨by unfold Told;rw[Z6,Z6,Yv];rfl,J7,λv hv=>by
     rcases YC.mp hv with rfl | hv
     ·decide
     exact Xh hv⟩
   exact⟨Y2 ok HL YI,(Cln.app (show Cln (Str.ofString " ") from (by decide:∀ c∈(Str.ofString " ").cps.toList,c<128/\c≠10)) (Cln.app c_offer (Zp _))),(by simp only [YF];show 1+(5+(wor ns.length).length)<=800;omega)⟩
  have HL:=Zk (n:=ns.length) (z:=good ns.length++Str.ofString " 1") (t:=[sOne]) (by simp only [Z6,YK,YT,XJ,YW,XC,YM,YS];rfl) (λv hv=>by
    simp only [YC,YH,XL] at hv;rcases hv with rfl
    decide)
  exact⟨Zv ok HL (U4 J7 J7 J7),(Cln.app (Cln.app c_offer (Zp _)) (show Cln (Str.ofString " 1") from (by decide:∀ c∈(Str.ofString " 1").cps.toList,c<128/\c≠10))),(by simp only [YF];show (5+(wor ns.length).length)+2<=800;omega)⟩
 ·unfold bl2 at hz;simp only [YC,YH,XL] at hz;rcases hz with rfl | rfl | rfl | rfl
  ·have HL:LineOf (Str.ofString "offer"++wor (ns.length - 1)) (sOffer) (ones (ns.length - 1)):=⟨by unfold Told;rw[Z6,Yv],J7,λv hv=>Xh hv⟩;exact⟨Q6 ok HL (by unfold ones;rw[zo];omega),(Cln.app (show Cln (Str.ofString "offer") from (by decide:∀ c∈(Str.ofString "offer").cps.toList,c<128/\c≠10)) (Zp _)),(by simp only [YF];show 5+(wor (ns.length - 1)).length<=800;omega)⟩
  ·have HL:LineOf (Str.ofString "worlds "++one++Str.ofString " "++last) (Str.ofString "worlds") [one,last]:=⟨by unfold Told;simp only [Z6,YK,YT,XJ,YW,XC,YM,YS];rfl,J7,λv hv=>by
     simp only [YC,YH,XL] at hv;rcases hv with rfl | rfl
     ·exact f1
     exact f2⟩
   exact⟨Uf ok HL J7,(Cln.app (Cln.app (Cln.app (show Cln (Str.ofString "worlds ") from (by decide:∀ c∈(Str.ofString "worlds ").cps.toList,c<128/\c≠10)) c1) (show Cln (Str.ofString " ") from (by decide:∀ c∈(Str.ofString " ").cps.toList,c<128/\c≠10))) c2),(by simp only [YF];show 7+one.length+1+last.length<=800;omega)⟩
  ·have HL:=Zk (n:=ns.length) (z:=good ns.length++Str.ofString " ask") (t:=[sAsk]) (by simp only [Z6,YK,YT,XJ,YW,XC,YM,YS];rfl) (λv hv=>by
     simp only [YC,YH,XL] at hv;rcases hv with rfl
     decide)
   exact⟨Zv ok HL (J0),(Cln.app (Cln.app c_offer (Zp _)) (show Cln (Str.ofString " ask") from (by decide:∀ c∈(Str.ofString " ask").cps.toList,c<128/\c≠10))),(by simp only [YF];show (5+(wor ns.length).length)+4<=800;omega)⟩
  have HL:=Zk (n:=ns.length) (z:=good ns.length++Str.ofString " bid") (t:=[sBid]) (by simp only [Z6,YK,YT,XJ,YW,XC,YM,YS];rfl) (λv hv=>by
    simp only [YC,YH,XL] at hv;rcases hv with rfl
    decide)
  exact⟨Zv ok HL (Kz),(Cln.app (Cln.app c_offer (Zp _)) (show Cln (Str.ofString " bid") from (by decide:∀ c∈(Str.ofString " bid").cps.toList,c<128/\c≠10))),(by simp only [YF];show (5+(wor ns.length).length)+4<=800;omega)⟩
 ·unfold bl3 at hz;simp only [YC,YH,XL] at hz;rcases hz with rfl | rfl | rfl | rfl
  ·have HL:=Zk (n:=ns.length) (z:=good ns.length++Str.ofString " ask bid") (t:=[sAsk,sBid]) (by simp only [Z6,YK,YT,XJ,YW,XC,YM,YS];rfl) (λv hv=>by
     simp only [YC,YH,XL] at hv;rcases hv with rfl | rfl
     ·decide
     decide)
   exact⟨Zv ok HL (W8 (.inl (Yl (z:=sBid) J7 J7))),(Cln.app (Cln.app c_offer (Zp _)) (show Cln (Str.ofString " ask bid") from (by decide:∀ c∈(Str.ofString " ask bid").cps.toList,c<128/\c≠10))),(by simp only [YF];show (5+(wor ns.length).length)+8<=800;omega)⟩
  ·have HL:=Zk (n:=ns.length) (z:=good ns.length++Str.ofString " if") (t:=[sIf]) (by simp only [Z6,YK,YT,XJ,YW,XC,YM,YS];rfl) (λv hv=>by
     simp only [YC,YH,XL] at hv;rcases hv with rfl
     decide)
   exact⟨Zv ok HL (Xy Dz),(Cln.app (Cln.app c_offer (Zp _)) (show Cln (Str.ofString " if") from (by decide:∀ c∈(Str.ofString " if").cps.toList,c<128/\c≠10))),(by simp only [YF];show (5+(wor ns.length).length)+3<=800;omega)⟩
  ·have HL:=Zk (n:=ns.length) (z:=good ns.length++Str.ofString " bid 1 ask 2") (t:=[sBid,sOne,sAsk,Str.ofString "2"]) (by simp only [Z6,YK,YT,XJ,YW,XC,YM,YS];rfl) (λv hv=>by
     simp only [YC,YH,XL] at hv;rcases hv with rfl | rfl | rfl | rfl
     ·decide
     ·decide
     ·decide
     decide)
   exact⟨Zv ok HL (Vn (.inr ⟨J8,J7⟩)),(Cln.app (Cln.app c_offer (Zp _)) (show Cln (Str.ofString " bid 1 ask 2") from (by decide:∀ c∈(Str.ofString " bid 1 ask 2").cps.toList,c<128/\c≠10))),(by simp only [YF];show (5+(wor ns.length).length)+12<=800;omega)⟩
  have HL:=Zk (n:=ns.length) (z:=good ns.length++Str.ofString " ask 1 ask 2") (t:=[sAsk,sOne,sAsk,Str.ofString "2"]) (by simp only [Z6,YK,YT,XJ,YW,XC,YM,YS];rfl) (λv hv=>by
    simp only [YC,YH,XL] at hv;rcases hv with rfl | rfl | rfl | rfl
    ·decide
    ·decide
    ·decide
    decide)
  exact⟨Zv ok HL (W8 (.inr (λob ev _ _ e=>by cases ob with | some r=>exact Yq.1 (XZ e).1 | none=>cases ev with | some es=>exact Yq.2.1 (XZ e).1 | none=>cases e))),(Cln.app (Cln.app c_offer (Zp _)) (show Cln (Str.ofString " ask 1 ask 2") from (by decide:∀ c∈(Str.ofString " ask 1 ask 2").cps.toList,c<128/\c≠10))),(by simp only [YF];show (5+(wor ns.length).length)+12<=800;omega)⟩
 ·unfold bl4 at hz;simp only [YC,YH,XL] at hz;rcases hz with rfl | rfl | rfl | rfl
  ·have HL:=Zk (n:=ns.length) (z:=good ns.length++Str.ofString " bid 1 bid 1") (t:=[sBid,sOne,sBid,sOne]) (by simp only [Z6,YK,YT,XJ,YW,XC,YM,YS];rfl) (λv hv=>by
     simp only [YC,YH,XL] at hv;rcases hv with rfl | rfl | rfl | rfl
     ·decide
     ·decide
     ·decide
     decide)
   exact⟨Zv ok HL (Vn (.inr ⟨J8,J7⟩)),(Cln.app (Cln.app c_offer (Zp _)) (show Cln (Str.ofString " bid 1 bid 1") from (by decide:∀ c∈(Str.ofString " bid 1 bid 1").cps.toList,c<128/\c≠10))),(by simp only [YF];show (5+(wor ns.length).length)+12<=800;omega)⟩
  ·have HL:=Zk (n:=ns.length) (z:=good ns.length++Str.ofString " ask 1 2") (t:=[sAsk,sOne,Str.ofString "2"]) (by simp only [Z6,YK,YT,XJ,YW,XC,YM,YS];rfl) (λv hv=>by
     simp only [YC,YH,XL] at hv;rcases hv with rfl | rfl | rfl
     ·decide
     ·decide
     decide)
   exact⟨Zv ok HL (W8 (.inr (BadTail.bid (U4 J7 J7 J7)))),(Cln.app (Cln.app c_offer (Zp _)) (show Cln (Str.ofString " ask 1 2") from (by decide:∀ c∈(Str.ofString " ask 1 2").cps.toList,c<128/\c≠10))),(by simp only [YF];show (5+(wor ns.length).length)+8<=800;omega)⟩
  ·have HL:=Zk (n:=ns.length) (z:=good ns.length++Str.ofString " Ask 1") (t:=[Str.ofString "Ask",sOne]) (by simp only [Z6,YK,YT,XJ,YW,XC,YM,YS];rfl) (λv hv=>by
     simp only [YC,YH,XL] at hv;rcases hv with rfl | rfl
     ·decide
     decide)
   exact⟨Zv ok HL (U4 J7 J7 J7),(Cln.app (Cln.app c_offer (Zp _)) (show Cln (Str.ofString " Ask 1") from (by decide:∀ c∈(Str.ofString " Ask 1").cps.toList,c<128/\c≠10))),(by simp only [YF];show (5+(wor ns.length).length)+6<=800;omega)⟩
  have HL:=Zk (n:=ns.length) (z:=good ns.length++Str.ofString " if "++last++Str.ofString " "++one) (t:=[sIf,last,one]) (by simp only [Z6,YK,YT,XJ,YW,XC,YM,YS];rfl) (λv hv=>by
    simp only [YC,YH,XL] at hv;rcases hv with rfl | rfl | rfl
    ·decide
    ·exact f2
    exact f1)
  exact⟨Zv ok HL (Xy (h2 ▸ h1 ▸ Dy ok U U U)),(Cln.app (Cln.app (Cln.app (Cln.app (Cln.app c_offer (Zp _)) (show Cln (Str.ofString " if ") from (by decide:∀ c∈(Str.ofString " if ").cps.toList,c<128/\c≠10))) c2) (show Cln (Str.ofString " ") from (by decide:∀ c∈(Str.ofString " ").cps.toList,c<128/\c≠10))) c1),(by simp only [YF];show (5+(wor ns.length).length)+4+last.length+1+one.length<=800;omega)⟩
 ·unfold bl5 at hz;simp only [YC,YH,XL] at hz;rcases hz with rfl | rfl | rfl
  ·have HL:=Zk (n:=ns.length) (z:=good ns.length++Str.ofString " if "++one++Str.ofString " "++one) (t:=[sIf,one,one]) (by simp only [Z6,YK,YT,XJ,YW,XC,YM,YS];rfl) (λv hv=>by
     simp only [YC,YH,XL] at hv;rcases hv with rfl | rfl | rfl
     ·decide
     ·exact f1
     exact f1)
   exact⟨Zv ok HL (Xy (h1 ▸ Dy ok U U U)),(Cln.app (Cln.app (Cln.app (Cln.app (Cln.app c_offer (Zp _)) (show Cln (Str.ofString " if ") from (by decide:∀ c∈(Str.ofString " if ").cps.toList,c<128/\c≠10))) c1) (show Cln (Str.ofString " ") from (by decide:∀ c∈(Str.ofString " ").cps.toList,c<128/\c≠10))) c1),(by simp only [YF];show (5+(wor ns.length).length)+4+one.length+1+one.length<=800;omega)⟩
  ·have HL:=Zk (n:=ns.length) (z:=good ns.length++Str.ofString " if abcdefghi") (t:=[sIf,Str.ofString "abcdefghi"]) (by simp only [Z6,YK,YT,XJ,YW,XC,YM,YS];rfl) (λv hv=>by
     simp only [YC,YH,XL] at hv;rcases hv with rfl | rfl
     ·decide
     decide)
   exact⟨Zv ok HL (Xy (Ux ok (v:=Str.ofString "abcdefghi") J8 (λh=>absurd h.l2 J7))),(Cln.app (Cln.app c_offer (Zp _)) (show Cln (Str.ofString " if abcdefghi") from (by decide:∀ c∈(Str.ofString " if abcdefghi").cps.toList,c<128/\c≠10))),(by simp only [YF];show (5+(wor ns.length).length)+13<=800;omega)⟩
  have fA:32 ∉ (one++Str.ofString "A").cps.toList:=by
   rw[Z6];intro q;rcases YN.mp q with q | q
   ·exact f1 q
   exact absurd q J7
  have HL:=Zk (n:=ns.length) (z:=good ns.length++Str.ofString " if "++one++Str.ofString "A") (t:=[sIf,one++Str.ofString "A"]) (by simp only [Z6,YK,YT,XJ,YW,XC,YM,YS];rfl) (λv hv=>by
    simp only [YC,YH,XL] at hv;rcases hv with rfl | rfl
    ·decide
    exact fA)
  exact⟨Zv ok HL (Xy (Ux ok (v:=one++Str.ofString "A") J8 (λh=>absurd (h.az 65 (by rw[Z6];exact YZ _ J7)).1 J7))),(Cln.app (Cln.app (Cln.app (Cln.app c_offer (Zp _)) (show Cln (Str.ofString " if ") from (by decide:∀ c∈(Str.ofString " if ").cps.toList,c<128/\c≠10))) c1) (show Cln (Str.ofString "A") from (by decide:∀ c∈(Str.ofString "A").cps.toList,c<128/\c≠10))),(by simp only [YF];show (5+(wor ns.length).length)+4+one.length+1<=800;omega)⟩
 ·unfold bl6 at hz;simp only [YC,YH,XL] at hz;rcases hz with rfl | rfl | rfl
  ·have HL:=Zk (n:=ns.length) (z:=good ns.length++Str.ofString " if "++one++Str.ofString " bid 1 2") (t:=[sIf,one,sBid,sOne,Str.ofString "2"]) (by simp only [Z6,YK,YT,XJ,YW,XC,YM,YS];rfl) (λv hv=>by
     simp only [YC,YH,XL] at hv;rcases hv with rfl | rfl | rfl | rfl | rfl
     ·decide
     ·exact f1
     ·decide
     ·decide
     decide)
   exact⟨Zv ok HL (Xy (Ux ok (v:=sOne) J8 (λh=>absurd (h.az 49 J7).1 J7))),(Cln.app (Cln.app (Cln.app (Cln.app c_offer (Zp _)) (show Cln (Str.ofString " if ") from (by decide:∀ c∈(Str.ofString " if ").cps.toList,c<128/\c≠10))) c1) (show Cln (Str.ofString " bid 1 2") from (by decide:∀ c∈(Str.ofString " bid 1 2").cps.toList,c<128/\c≠10))),(by simp only [YF];show (5+(wor ns.length).length)+4+one.length+8<=800;omega)⟩
  ·have HL:=Zk (n:=ns.length) (z:=good ns.length++Str.ofString " ask 1  bid 2") (t:=[sAsk,sOne,Str.empty,sBid,Str.ofString "2"]) (by simp only [Z6,YK,YT,XJ,YW,XC,YM,YS];rfl) (λv hv=>by
     simp only [YC,YH,XL] at hv;rcases hv with rfl | rfl | rfl | rfl | rfl
     ·decide
     ·decide
     ·decide
     ·decide
     decide)
   exact⟨Y2 ok HL (YG _ (YZ _ J8)),(Cln.app (Cln.app c_offer (Zp _)) (show Cln (Str.ofString " ask 1  bid 2") from (by decide:∀ c∈(Str.ofString " ask 1  bid 2").cps.toList,c<128/\c≠10))),(by simp only [YF];show (5+(wor ns.length).length)+13<=800;omega)⟩
  have HL:LineOf (Str.ofString "offer "++wor ns.length) sOffer (Str.empty::ones ns.length):=⟨by unfold Told;rw[Z6,Yv];rfl,J7,λv hv=>by
    rcases YC.mp hv with rfl | hv
    ·decide
    exact Xh hv⟩
  exact⟨Y2 ok HL J8,(Cln.app (show Cln (Str.ofString "offer ") from (by decide:∀ c∈(Str.ofString "offer ").cps.toList,c<128/\c≠10)) (Zp _)),(by simp only [YF];show 6+(wor ns.length).length<=800;omega)⟩
 ·unfold bl7 at hz;simp only [YC,YH,XL] at hz;rcases hz with rfl | rfl | rfl | rfl
  ·have HL:=Zk (n:=ns.length) (z:=good ns.length++Str.ofString " if "++one++Str.ofString " ") (t:=[sIf,one,Str.empty]) (by simp only [Z6,YK,YT,XJ,YW,XC,YM,YS];rfl) (λv hv=>by
     simp only [YC,YH,XL] at hv;rcases hv with rfl | rfl | rfl
     ·decide
     ·exact f1
     decide)
   exact⟨Y2 ok HL (YG _ (YZ _ J8)),(Cln.app (Cln.app (Cln.app (Cln.app c_offer (Zp _)) (show Cln (Str.ofString " if ") from (by decide:∀ c∈(Str.ofString " if ").cps.toList,c<128/\c≠10))) c1) (show Cln (Str.ofString " ") from (by decide:∀ c∈(Str.ofString " ").cps.toList,c<128/\c≠10))),(by simp only [YF];show (5+(wor ns.length).length)+4+one.length+1<=800;omega)⟩
  ·have HL:=Zk (n:=ns.length) (z:=good ns.length++Str.ofString " if  "++one) (t:=[sIf,Str.empty,one]) (by simp only [Z6,YK,YT,XJ,YW,XC,YM,YS];rfl) (λv hv=>by
     simp only [YC,YH,XL] at hv;rcases hv with rfl | rfl | rfl
     ·decide
     ·decide
     exact f1)
   exact⟨Y2 ok HL (YG _ (YZ _ J8)),(Cln.app (Cln.app (Cln.app c_offer (Zp _)) (show Cln (Str.ofString " if  ") from (by decide:∀ c∈(Str.ofString " if  ").cps.toList,c<128/\c≠10))) c1),(by simp only [YF];show (5+(wor ns.length).length)+5+one.length<=800;omega)⟩
  ·have HL:=Zk (n:=ns.length) (z:=good ns.length++Str.ofString " if 1") (t:=[sIf,sOne]) (by simp only [Z6,YK,YT,XJ,YW,XC,YM,YS];rfl) (λv hv=>by
     simp only [YC,YH,XL] at hv;rcases hv with rfl | rfl
     ·decide
     decide)
   exact⟨Zv ok HL (Xy (Ux ok (v:=sOne) J8 (λh=>absurd (h.az 49 J7).1 J7))),(Cln.app (Cln.app c_offer (Zp _)) (show Cln (Str.ofString " if 1") from (by decide:∀ c∈(Str.ofString " if 1").cps.toList,c<128/\c≠10))),(by simp only [YF];show (5+(wor ns.length).length)+5<=800;omega)⟩
  have HL:=Zk (n:=ns.length) (z:=good ns.length++Str.ofString " ask 1 if") (t:=[sAsk,sOne,sIf]) (by simp only [Z6,YK,YT,XJ,YW,XC,YM,YS];rfl) (λv hv=>by
    simp only [YC,YH,XL] at hv;rcases hv with rfl | rfl | rfl
    ·decide
    ·decide
    decide)
  exact⟨Zv ok HL (W8 (.inr (BadTail.bid (Xy Dz)))),(Cln.app (Cln.app c_offer (Zp _)) (show Cln (Str.ofString " ask 1 if") from (by decide:∀ c∈(Str.ofString " ask 1 if").cps.toList,c<128/\c≠10))),(by simp only [YF];show (5+(wor ns.length).length)+9<=800;omega)⟩
 ·unfold bl8 at hz;simp only [YC,YH,XL] at hz;rcases hz with rfl | rfl | rfl
  ·have HL:=Zk (n:=ns.length) (z:=good ns.length++Str.ofString "  if "++one) (t:=[Str.empty,sIf,one]) (by simp only [Z6,YK,YT,XJ,YW,XC,YM,YS];rfl) (λv hv=>by
     simp only [YC,YH,XL] at hv;rcases hv with rfl | rfl | rfl
     ·decide
     ·decide
     exact f1)
   exact⟨Y2 ok HL (YG _ (YZ _ J8)),(Cln.app (Cln.app (Cln.app c_offer (Zp _)) (show Cln (Str.ofString "  if ") from (by decide:∀ c∈(Str.ofString "  if ").cps.toList,c<128/\c≠10))) c1),(by simp only [YF];show (5+(wor ns.length).length)+5+one.length<=800;omega)⟩
  ·have HB:BadRow ns (Str.ofString "offer "++w++wor (ns.length - 1)):=by
    rcases hw.sp with hs | rfl
    ·have HL:LineOf (Str.ofString "offer "++w++wor (ns.length - 1)) sOffer (w::ones (ns.length - 1)):=⟨by unfold Told;rw[Z6,Z6,Yv,YK];rfl,J7,λv hv=>by
      rcases YC.mp hv with rfl | hv
      ·exact hs
      exact Xh hv⟩
     refine M5 ok HL (v:=w) ?_ hw.bad;obtain⟨m,hm⟩:∃ m,ns.length=m+1:=⟨ns.length - 1,U⟩;rw[hm,Y16];exact YI
    have HL:LineOf (Str.ofString "offer "++Str.ofString "1 "++wor (ns.length - 1)) sOffer (sOne::Str.empty::ones (ns.length - 1)):=⟨by unfold Told;rw[Z6,Z6,Yv];rfl,J7,λv hv=>by
     rcases YC.mp hv with rfl | hv
     ·decide
     rcases YC.mp hv with rfl | hv
     ·decide
     exact Xh hv⟩
    exact Y2 ok HL J8
   exact⟨HB,(Cln.app (Cln.app (show Cln (Str.ofString "offer ") from (by decide:∀ c∈(Str.ofString "offer ").cps.toList,c<128/\c≠10)) hw.cl) (Zp _)),(by simp only [YF];show 6+w.length+(wor (ns.length - 1)).length<=800;omega)⟩
  have HB:BadRow ns (Str.ofString "offer"++wor (ns.length - 1)++Str.ofString " "++w):=by
   have lo:(ones (ns.length - 1)).length=ns.length - 1:=by unfold ones;rw[zo]
   rcases hw.sp with hs | rfl
   ·have HL:LineOf (Str.ofString "offer"++wor (ns.length - 1)++Str.ofString " "++w) sOffer (ones (ns.length - 1)++[w]):=Zk (by simp only [Z6,YK,YT,XJ,YW,XC,YM,YS];rfl) (λv hv=>by rw[JA.mp hv];exact hs);refine M5 ok HL (v:=w) ?_ hw.bad;rw[JF (by rw[XF,lo];show _+1<=_;omega)];exact YZ _ YI
   have HL:LineOf (Str.ofString "offer"++wor (ns.length - 1)++Str.ofString " "++Str.ofString "1 ") sOffer (ones (ns.length - 1)++[sOne,Str.empty]):=Zk (by simp only [Z6,YK,YT,XJ,YW,XC,YM,YS];rfl) (λv hv=>by
    simp only [YC,YH,XL] at hv;rcases hv with rfl | rfl <;> decide)
   exact Y2 ok HL (YG _ (YZ _ J8))
  exact⟨HB,(Cln.app (Cln.app (Cln.app (show Cln (Str.ofString "offer") from (by decide:∀ c∈(Str.ofString "offer").cps.toList,c<128/\c≠10)) (Zp _)) (show Cln (Str.ofString " ") from (by decide:∀ c∈(Str.ofString " ").cps.toList,c<128/\c≠10))) hw.cl),(by simp only [YF];show 5+(wor (ns.length - 1)).length+1+w.length<=800;omega)⟩
 unfold bl9 at hz;simp only [YC,YH,XL] at hz;rcases hz with rfl | rfl | rfl
 ·have HB:BadRow ns (good ns.length++Str.ofString " ask "++w):=by
   rcases hw.sp with hs | rfl
   ·have HL:=Zk (n:=ns.length) (z:=good ns.length++Str.ofString " ask "++w) (t:=[sAsk,w]) (by simp only [Z6,YK,YT,XJ,YW,XC,YM,YS];rfl) (λv hv=>by
      simp only [YC,YH,XL] at hv;rcases hv with rfl | rfl
      ·decide
      exact hs)
    exact Zv ok HL (W8 (.inl hw.bad))
   have HL:=Zk (n:=ns.length) (z:=good ns.length++Str.ofString " ask "++Str.ofString "1 ") (t:=[sAsk,sOne,Str.empty]) (by simp only [Z6,YK,YT,XJ,YW,XC,YM,YS];rfl) (λv hv=>by
     simp only [YC,YH,XL] at hv;rcases hv with rfl | rfl | rfl
     ·decide
     ·decide
     decide)
   exact Y2 ok HL (YG _ (YZ _ J8))
  exact⟨HB,(Cln.app (Cln.app (Cln.app c_offer (Zp _)) (show Cln (Str.ofString " ask ") from (by decide:∀ c∈(Str.ofString " ask ").cps.toList,c<128/\c≠10))) hw.cl),(by simp only [YF];show (5+(wor ns.length).length)+5+w.length<=800;omega)⟩
 ·have HB:BadRow ns (good ns.length++Str.ofString " bid "++w++Str.ofString " if "++one):=by
   rcases hw.sp with hs | rfl
   ·have HL:=Zk (n:=ns.length) (z:=good ns.length++Str.ofString " bid "++w++Str.ofString " if "++one) (t:=[sBid,w,sIf,one]) (by simp only [Z6,YK,YT,XJ,YW,XC,YM,YS];rfl) (λv hv=>by
      simp only [YC,YH,XL] at hv;rcases hv with rfl | rfl | rfl | rfl
      ·decide
      ·exact hs
      ·decide
      exact f1)
    exact Zv ok HL (Vn (.inl hw.bad))
   have HL:=Zk (n:=ns.length) (z:=good ns.length++Str.ofString " bid "++Str.ofString "1 "++Str.ofString " if "++one) (t:=[sBid,sOne,Str.empty,sIf,one]) (by simp only [Z6,YK,YT,XJ,YW,XC,YM,YS];rfl) (λv hv=>by
     simp only [YC,YH,XL] at hv;rcases hv with rfl | rfl | rfl | rfl | rfl
     ·decide
     ·decide
     ·decide
     ·decide
     exact f1)
   exact Y2 ok HL (YG _ (YZ _ J8))
  exact⟨HB,(Cln.app (Cln.app (Cln.app (Cln.app (Cln.app c_offer (Zp _)) (show Cln (Str.ofString " bid ") from (by decide:∀ c∈(Str.ofString " bid ").cps.toList,c<128/\c≠10))) hw.cl) (show Cln (Str.ofString " if ") from (by decide:∀ c∈(Str.ofString " if ").cps.toList,c<128/\c≠10))) c1),(by simp only [YF];show (5+(wor ns.length).length)+5+w.length+4+one.length<=800;omega)⟩
 have HB:BadRow ns (good ns.length++Str.ofString " ask 1 bid "++w):=by
  rcases hw.sp with hs | rfl
  ·have HL:=Zk (n:=ns.length) (z:=good ns.length++Str.ofString " ask 1 bid "++w) (t:=[sAsk,sOne,sBid,w]) (by simp only [Z6,YK,YT,XJ,YW,XC,YM,YS];rfl) (λv hv=>by
     simp only [YC,YH,XL] at hv;rcases hv with rfl | rfl | rfl | rfl
     ·decide
     ·decide
     ·decide
     exact hs)
   exact Zv ok HL (W8 (.inr (BadTail.bid (Vn (.inl hw.bad)))))
  have HL:=Zk (n:=ns.length) (z:=good ns.length++Str.ofString " ask 1 bid "++Str.ofString "1 ") (t:=[sAsk,sOne,sBid,sOne,Str.empty]) (by simp only [Z6,YK,YT,XJ,YW,XC,YM,YS];rfl) (λv hv=>by
    simp only [YC,YH,XL] at hv;rcases hv with rfl | rfl | rfl | rfl | rfl
    ·decide
    ·decide
    ·decide
    ·decide
    decide)
  exact Y2 ok HL (YG _ (YZ _ J8))
 exact⟨HB,(Cln.app (Cln.app (Cln.app c_offer (Zp _)) (show Cln (Str.ofString " ask 1 bid ") from (by decide:∀ c∈(Str.ofString " ask 1 bid ").cps.toList,c<128/\c≠10))) hw.cl),(by simp only [YF];show (5+(wor ns.length).length)+11+w.length<=800;omega)⟩
end
theorem Z0c:∀ z∈bw16,(∀ c∈z.cps.toList,c<128/\c≠10)/\z.length<=40/\32 ∉ z.cps.toList:=by decide
theorem Uo {b:PySem.Str}(h:BigT b):∀ z∈badWords b,WordOk z:=by
 intro z hz;have bd:=P9 h z hz;obtain⟨zd,zl⟩:=Uy h;have b2:=h.l2;have dc:∀ {y:PySem.Str},(∀ c∈y.cps.toList,48<=c/\c<=57)->Cln y/\32 ∉ y.cps.toList:=λhy=>⟨λc hc=>by have:=hy c hc;omega,λq=>by have:=hy 32 q;omega⟩;obtain⟨zc,zs⟩:=dc zd;obtain⟨bc,bs⟩:=dc h.dg;have k:∀ s:String,(∀ c∈(Str.ofString s).cps.toList,c<128/\c≠10)/\(Str.ofString s).length<=40/\32 ∉ (Str.ofString s).cps.toList->BadWord (Str.ofString s)->WordOk (Str.ofString s):=λs h b=>⟨b,h.1,h.2.1,.inl h.2.2⟩;have ap:∀ {x y:PySem.Str},Cln x->32 ∉ x.cps.toList->Cln y->32 ∉ y.cps.toList->x.length+y.length<=40->BadWord (x++y)->WordOk (x++y):=λ{x y} a b c d l e=>⟨e,a.app c,by rw[YF];exact l,.inl λq=>by
  rw[Z6] at q;rcases YN.mp q with q | q
  ·exact b q
  exact d q⟩
 unfold badWords at hz;rcases YN.mp hz with hz | hz
 ·rcases YN.mp hz with hz | hz
  ·obtain⟨x,y,w⟩:=Z0c z hz;exact⟨bd,x,y,.inl w⟩
  unfold bw6 at hz;simp only [YC,YH,XL] at hz;rcases hz with rfl | rfl | rfl | rfl | rfl | rfl
  ·exact k _ J7 bd
  ·exact k _ J7 bd
  ·exact k _ J7 bd
  ·exact ap (by decide:∀ c∈(Str.ofString "1").cps.toList,c<128/\c≠10) J7 zc zs (by rw[zl];decide) bd
  ·exact ap (by decide:∀ c∈(Str.ofString "-1").cps.toList,c<128/\c≠10) J7 zc zs (by rw[zl];decide) bd
  exact ap (by decide:∀ c∈(Str.ofString "1/1").cps.toList,c<128/\c≠10) J7 zc zs (by rw[zl];decide) bd
 unfold bw10 at hz;simp only [YC,YH,XL] at hz;rcases hz with rfl | rfl | rfl | rfl | rfl | rfl | rfl | rfl | rfl | rfl
 ·exact ap bc bs (by decide:∀ c∈(Str.ofString "/1").cps.toList,c<128/\c≠10) J7 (by show _+2<=40;omega) bd
 ·exact ap (by decide:∀ c∈(Str.ofString "0/").cps.toList,c<128/\c≠10) J7 bc bs (by show 2+_<=40;omega) bd
 ·exact k _ J7 bd
 ·exact k _ J7 bd
 ·exact k _ J7 bd
 ·exact k _ J7 bd
 ·exact k _ J7 bd
 ·exact k _ J7 bd
 ·exact k _ J7 bd
 exact⟨bd,(by decide:∀ c∈(Str.ofString "1 ").cps.toList,c<128/\c≠10),J7,.inr rfl⟩
def nameB (z:PySem.Str):Bool:=decide (1<=z.length) && decide (z.length<=8) && z.cps.toList.all λc=>decide (97<=c) && decide (c<=122)
theorem D7 {z:PySem.Str}(h:NameOk z):nameB z=true:=by
 unfold nameB;rw[XD h.l1,XD h.l2];simp only [Bool.and_self,Bool.true_and,GG];intro c hc;have:=h.az c hc;simp[this.1,this.2]
def headB:List PySem.Str->Bool
 | []=>false
 | w::ns=>decide (w=Str.ofString "worlds") && decide (2<=ns.length) && decide (ns.length<=12) && ns.all nameB && decide ns.Nodup
theorem Cj {z:PySem.Str}(h:headB (wordsOf 32 z)=false):BadHead z:=λns ok e=>by
 rw[Ys ok e] at h;have h:(decide (Str.ofString "worlds"=Str.ofString "worlds") && decide (2<=ns.length) && decide (ns.length<=12) && ns.all nameB && decide ns.Nodup)=false:=h;rw[XD rfl,XD ok.l1,XD ok.l2,XD ok.nd,show ns.all nameB=true from GG.mpr λz hz=>D7 (ok.ok z hz)] at h
 cases h
structure HeadBad (z:PySem.Str):Prop where
 bad:BadHead z
 cl:Cln z
 ln:z.length<=800
def letters13:List PySem.Str:=(List.range 13).map λk=>(⟨#[97+k]⟩:PySem.Str)
def bh1 (one:PySem.Str):List PySem.Str:=[Str.ofString "",Str.ofString "worlds",Str.ofString "worlds a",Str.ofString "worlds "++one,Str.ofString "World a b",Str.ofString "worlds a a",Str.ofString "worlds a  b"]
def bh2:List PySem.Str:=[Str.ofString "worlds a b ",Str.ofString " worlds a b",Str.ofString "worlds A b",Str.ofString "worlds a1 b",Str.ofString "worlds abcdefghi b",Str.ofString "worlds a b a"]
def bh3:List PySem.Str:=[Str.ofString "offer 1 1",Str.ofString "worldsa b",Str.ofString "world a b",Str.ofString "worlds a b -",Str.ofString "worlds 1 2"]
def bh4:List PySem.Str:=[Str.ofString "worlds "++Str.join (Str.ofString " ") letters13]
theorem Dq:∀ z∈[Str.ofString "",Str.ofString "worlds",Str.ofString "worlds a",Str.ofString "World a b",Str.ofString "worlds a a",Str.ofString "worlds a  b"]++bh2++bh3++bh4,headB (wordsOf 32 z)=false/\(∀ c∈z.cps.toList,c<128/\c≠10)/\z.length<=800:=by decide +kernel
theorem Gc {one:PySem.Str}(h:NameOk one):∀ z∈bh1 one++bh2++bh3++bh4,HeadBad z:=by
 intro z hz;by_cases e:z=Str.ofString "worlds "++one
 ·subst e;have HL:LineOf (Str.ofString "worlds "++one) (Str.ofString "worlds") [one]:=⟨by unfold Told;simp only [Z6,YK,YT,XJ,YW,XC,YM,YS];rfl,J7,λv hv=>by rw[JA.mp hv];exact h.free J7⟩;refine⟨λns ok e=>?_,Cln.app (by decide:∀ c∈(Str.ofString "worlds ").cps.toList,c<128/\c≠10) (λc hc=>by have:=h.az c hc;omega),by rw[YF];have:=h.l2;show 7+_<=800;omega⟩;have w1:=Ys ok e;have sj:wordsOf 32 (Str.join ⟨#[32]⟩ [Str.ofString "worlds",one])=[Str.ofString "worlds",one]:=Wi J8 (λv hv=>by
   rcases YC.mp hv with rfl | hv
   ·exact HL.f0
   exact HL.f v hv)
  rw[HL.t.eq,sj] at w1;injection w1 with _ w1
  have:=ok.l1;rw[<-w1] at this;exact absurd this J8
 have hz2:z∈[Str.ofString "",Str.ofString "worlds",Str.ofString "worlds a",Str.ofString "World a b",Str.ofString "worlds a a",Str.ofString "worlds a  b"]++bh2++bh3++bh4:=by
  unfold bh1 at hz;simp only [YN,YC,YH,XL] at hz ⊢;rcases hz with ((hz | hz) | hz) | hz
  ·rcases hz with hz | hz | hz | hz | hz | hz | hz
   ·exact .inl (.inl (.inl (.inl hz)))
   ·exact .inl (.inl (.inl (.inr (.inl hz))))
   ·exact .inl (.inl (.inl (.inr (.inr (.inl hz)))))
   ·exact absurd hz e
   ·exact .inl (.inl (.inl (.inr (.inr (.inr (.inl hz))))))
   ·exact .inl (.inl (.inl (.inr (.inr (.inr (.inr (.inl hz)))))))
   exact .inl (.inl (.inl (.inr (.inr (.inr (.inr (.inr hz)))))))
  ·exact .inl (.inl (.inr hz))
  ·exact .inl (.inr hz)
  exact .inr hz
 obtain⟨a,b,c⟩:=Dq z hz2;exact⟨Cj a,b,c⟩
theorem Z0g {v:V}(h:1<=xs.length)(e:xs[xs.length - 1]?=some v):atI xs (-1)=some v:=by
 unfold atI;have:ixN xs.length (-1)=some (xs.length - 1):=by
  unfold ixN;rw[XQ J7];split
  ·congr 1
   omega
  omega
 rw[this];exact e
section
variable {P:TR}{w:World}{K:TQ}{mg:TB}{base:Heap}
inductive spBadLine (K:TQ) (vs:TV) (H:Hp) (Q:VK) (_z3:XK):Prop
 | mk (b a:Addr) (n:Nat) (ns:List PySem.Str) (big:PySem.Str) (zz0:vs=[.ref b,.ref a,.str big]) (zz1:BagAt H b n) (zz2:n<=100000) (zz3:SqL K H a (ns.map V.str)) (zz4:NamesOk ns) (zz5:BigT big) (zz6:∀ z H',BagAt H' b (n+2)->SameX b H H'->LineBad ns z->Q (.str z) H')
abbrev Z2 (P:TR)(w:World)(K:TQ)(mg:TB)(base:Heap):Prop:=Has P w K mg base 2 "_law_bad_line" UM (spBadLine K)
theorem Jp (D:Def K mg "_law_bad_line" gC UM)(T:BltT mg)(eA:Z1 P w K mg base)(eH:Has P w K mg base 1 "_law_bad_words" ["_law_big"] spBadWords):Z2 P w K mg base:=by
 refine D.h9 (N:=["_law_bag_here","_law_names_here","_law_big","_law_worths","_law_good","_law_one","_law_last","_law_lines_here","_law_word"]) fsc λH Q hr h nd=>?_;obtain⟨b,a,n,ns,big,rfl,hB,hn,hN,ok,hb,q⟩:=h;refine⟨_,(Z4 (Zc (i:=3) nd rfl (Or.inl rfl) (Za Tn Z9 (Zg Zh rfl T.len JT (Z0 (pv 1) Z3))))
  (Z4 (Zc (i:=4) nd rfl (Or.inl rfl) (Za Z7 Z9 (pv 3)))
  (Z4 (Zc (i:=5) nd rfl (Or.inl rfl) (Zq Y5 (pv 1) Z8 (λ_ _=>rfl)))
  (Z4 (Zc (i:=6) nd rfl (Or.inl rfl) (Zq Y5 (pv 1) (Fs Mc Z8) (λ_ _=>rfl)))
  (Z4 (Zn (Zc (i:=7) nd rfl (Or.inl rfl) (Y3 (Z0 Z9 (Z0 Z9 (Z0 (Za Z7 Z9 (pv 3)) (Z0 (Za Z7 Z9 (pv 3)) (Z0 (Za Z7 (pv 4) Z9) (Z0 (Za Z7 Z9 (pv 4)) (Z0 (Za Z7 (pv 4) Z9) Z3))))))))))
  (Z4 (Zn (Zc (i:=7) nd rfl (Or.inl rfl) (Za Ym (pv 7) (Y3 (Z0 (Za Z7 Z9 (Zz Ve (pv 3) (Zw Z8) Y0)) (Z0 (Za Z7 (Za Z7 (Za Z7 Z9 (pv 5)) Z9) (pv 6)) (Z0 (Za Z7 (pv 4) Z9) (Z0 (Za Z7 (pv 4) Z9) Z3))))))))
  (Z4 (Zn (Zc (i:=7) nd rfl (Or.inl rfl) (Za Ym (pv 7) (Y3 (Z0 (Za Z7 (pv 4) Z9) (Z0 (Za Z7 (pv 4) Z9) (Z0 (Za Z7 (pv 4) Z9) (Z0 (Za Z7 (pv 4) Z9) Z3))))))))
  (Z4 (Zn (Zc (i:=7) nd rfl (Or.inl rfl) (Za Ym (pv 7) (Y3 (Z0 (Za Z7 (pv 4) Z9) (Z0 (Za Z7 (pv 4) Z9) (Z0 (Za Z7 (pv 4) Z9) (Z0 (Za Z7 (Za Z7 (Za Z7 (Za Z7 (pv 4) Z9) (pv 6)) Z9) (pv 5)) Z3))))))))
  (Z4 (Zn (Zc (i:=7) nd rfl (Or.inl rfl) (Za Ym (pv 7) (Y3 (Z0 (Za Z7 (Za Z7 (Za Z7 (Za Z7 (pv 4) Z9) (pv 5)) Z9) (pv 5)) (Z0 (Za Z7 (pv 4) Z9) (Z0 (Za Z7 (Za Z7 (Za Z7 (pv 4) Z9) (pv 5)) Z9) Z3)))))))
  (Z4 (Zn (Zc (i:=7) nd rfl (Or.inl rfl) (Za Ym (pv 7) (Y3 (Z0 (Za Z7 (Za Z7 (Za Z7 (pv 4) Z9) (pv 5)) Z9) (Z0 (Za Z7 (pv 4) Z9) (Z0 (Za Z7 Z9 (pv 3)) Z3)))))))
  (Z4 (Zn (Zc (i:=7) nd rfl (Or.inl rfl) (Za Ym (pv 7) (Y3 (Z0 (Za Z7 (Za Z7 (Za Z7 (pv 4) Z9) (pv 5)) Z9) (Z0 (Za Z7 (Za Z7 (pv 4) Z9) (pv 5)) (Z0 (Za Z7 (pv 4) Z9) (Z0 (Za Z7 (pv 4) Z9) Z3))))))))
  (Z4 (Zn (Zc (i:=8) nd rfl (Or.inl rfl) (Zq Y5 (Zo eH hr (Z0 (pv 2) Z3)) (Zo eA hr (Z0 (pv 0) (Z0 Z8 Z3))) (λ_ _=>rfl))))
  (Z4 (Zn (Zc (i:=7) nd rfl (Or.inl rfl) (Za Ym (pv 7) (Y3 (Z0 (Za Z7 (Za Z7 (pv 4) Z9) (pv 5)) (Z0 (Za Z7 (Za Z7 Z9 (pv 8)) (Zz Ve (pv 3) (Zw Z8) Y0)) (Z0 (Za Z7 (Za Z7 (Za Z7 Z9 (Zz Ve (pv 3) (Zw Z8) Y0)) Z9) (pv 8)) Z3)))))))
  (Z4 (Zn (Zc (i:=7) nd rfl (Or.inl rfl) (Za Ym (pv 7) (Y3 (Z0 (Za Z7 (Za Z7 (pv 4) Z9) (pv 8)) (Z0 (Za Z7 (Za Z7 (Za Z7 (Za Z7 (pv 4) Z9) (pv 8)) Z9) (pv 5)) (Z0 (Za Z7 (Za Z7 (pv 4) Z9) (pv 8)) Z3)))))))
  (Zb (Zi (Zq Y5 (pv 7) (Zo eA hr (Z0 (pv 0) (Z0 (Zg Zh rfl T.len JT (Z0 (pv 7) Z3)) Z3))) (λ_ _=>rfl)))))))))))))))))),?_⟩
 have n2:=ok.l1;have n12:=ok.l2;have la:∀ {a b:PySem.Str} {m k:Nat},a.length<=m->b.length<=k->(a++b).length<=m+k:=λh1 h2=>by rw[YF];omega
 have sl:∀ {a b:PySem.Str} {m k:Nat},a.length<=m->b.length<=k->m+k<=1000->a.length+b.length<=sizeLine:=λh1 h2 h3=>by rw[YX];omega
 refine⟨_,rfl,a,_,rfl,.inl hN,_,_,rfl,rfl,by rw[YB];omega,by rw[YB];omega,J7,J7,?_⟩;rw[YB];have lwn:=V0 ns.length;have hW:repS (Str.ofString " 1") ns.length=wor ns.length:=rfl;have lW:(repS (Str.ofString " 1") ns.length).length<=24:=by rw[hW];omega
 have lW2:2<=(repS (Str.ofString " 1") ns.length).length:=by rw[hW];omega
 generalize repS (Str.ofString " 1") ns.length=W at hW lW lW2;refine⟨_,rfl,_,_,rfl,rfl,sl (show (Str.ofString "offer").length<=5 by decide) lW J7,?_⟩;have hg:Str.ofString "offer"++W=good ns.length:=by rw[hW]
 have lg:(Str.ofString "offer"++W).length<=29:=la (show (Str.ofString "offer").length<=5 by decide) lW;generalize Str.ofString "offer"++W=g at hg lg;have lc:min 2 W.length<=min W.length W.length:=U
 have e0:ns[0]?=some (ns.getD 0 ""):=by simp[List.getD,show 0<ns.length by omega]
 have e9:ns[ns.length - 1]?=some (ns.getD (ns.length - 1) ""):=by simp[List.getD,show ns.length - 1<ns.length by omega]
 refine⟨_,rfl,a,_,0,.str (ns.getD 0 ""),rfl,rfl,hN,Yh (j:=0) (by rw[YQ,e0];rfl),?_⟩;refine⟨_,rfl,_,rfl,a,_,-1,.str (ns.getD (ns.length - 1) ""),rfl,rfl,hN,?_,?_⟩
 ·exact Z0g (by rw[YB];omega) (by rw[YQ,YB,e9];rfl)
 have l1:(ns.getD 0 "").length<=8:=(ok.ok _ (YV e0)).l2;have l2:(ns.getD (ns.length - 1) "").length<=8:=(ok.ok _ (YV e9)).l2;generalize h1:ns.getD 0 ""=one at l1;generalize h2:ns.getD (ns.length - 1) ""=last at l2;have X0:SameX b H H:=SameX.of (Same.refl _);refine⟨λσ' H'=>∃ p,σ'=[some (.ref b),some (.ref a),some (.str big),some (.str W),some (.str g),some (.str one),some (.str last),some (.ref p),none]/\H' p=some (.lst ((bl1 g W (cutS W (min ((some 2).getD 0) W.length) (min (none.getD W.length) W.length)) one last (Str.ofString "")).map V.str))/\SameX b H H'/\BagAt H' b n/\p≠b,?_,?_⟩
 ·refine⟨_,rfl,_,_,rfl,rfl,sl (show (Str.ofString "Offer").length<=5 by decide) lW J7,_,rfl,_,_,rfl,rfl,sl (show (Str.ofString "offers").length<=6 by decide) lW J7,_,rfl,_,_,rfl,rfl,sl lg (show (Str.ofString " ").length<=1 by decide) J7,_,rfl,_,_,rfl,rfl,sl (show (Str.ofString " ").length<=1 by decide) lg J7,_,rfl,_,_,rfl,rfl,sl lg (show (Str.ofString " 1").length<=2 by decide) J7,sz7,λq fq=>?_⟩;have nb:q≠b:=by obtain⟨ys,e⟩:=hB.lst;exact (Zd e fq).symm
  exact⟨q,rfl,Z5,SameX.of (Same.new fq),hB.same (Same.new fq),nb⟩
 rintro _ H1 ⟨p1,rfl,e1,X1,B1,nb1⟩;refine⟨λσ' H'=>∃ p,σ'=[some (.ref b),some (.ref a),some (.str big),some (.str W),some (.str g),some (.str one),some (.str last),some (.ref p),none]/\H' p=some (.lst ((bl1 g W (cutS W (min ((some 2).getD 0) W.length) (min (none.getD W.length) W.length)) one last (Str.ofString "")++bl2 g W (cutS W (min ((some 2).getD 0) W.length) (min (none.getD W.length) W.length)) one last (Str.ofString "")).map V.str))/\SameX b H H'/\BagAt H' b n/\p≠b,?_,?_⟩
 ·refine⟨_,rfl,_,rfl,_,rfl,Y4 ⟨_,some 2,none,rfl,rfl,rfl,lc,U,_,_,rfl,rfl,sl (show (Str.ofString "offer").length<=5 by decide) (XV (Xo W (min 2 W.length) (min W.length W.length)) lW) J7,_,rfl,_,_,rfl,rfl,sl (show (Str.ofString "worlds ").length<=7 by decide) l1 J7,_,_,rfl,rfl,sl (la (show (Str.ofString "worlds ").length<=7 by decide) l1) (show (Str.ofString " ").length<=1 by decide) J7,_,rfl,_,_,rfl,rfl,sl (la (la (show (Str.ofString "worlds ").length<=7 by decide) l1) (show (Str.ofString " ").length<=1 by decide)) l2 J7,_,rfl,_,_,rfl,rfl,sl lg (show (Str.ofString " ask").length<=4 by decide) J7,_,rfl,_,_,rfl,rfl,sl lg (show (Str.ofString " bid").length<=4 by decide) J7,sz4,λq fq=>?_⟩⟩;refine⟨p1,q,_,_,rfl,rfl,Same.new fq _ _ e1,Z5,by show 11<=sizeLine;decide,λp fp=>?_⟩;have nb:p≠b:=by obtain⟨ys,e⟩:=(B1.same (Same.new fq)).lst;exact (Zd e fp).symm
  exact⟨p,rfl,by rw[Z5,XA];rfl,X1.trans (SameX.of ((Same.new fq).trans (Same.new fp))),B1.same ((Same.new fq).trans (Same.new fp)),nb⟩
 rintro _ H2 ⟨p2,rfl,e2,X2,B2,nb2⟩;refine⟨λσ' H'=>∃ p,σ'=[some (.ref b),some (.ref a),some (.str big),some (.str W),some (.str g),some (.str one),some (.str last),some (.ref p),none]/\H' p=some (.lst ((bl1 g W (cutS W (min ((some 2).getD 0) W.length) (min (none.getD W.length) W.length)) one last (Str.ofString "")++bl2 g W (cutS W (min ((some 2).getD 0) W.length) (min (none.getD W.length) W.length)) one last (Str.ofString "")++bl3 g W (cutS W (min ((some 2).getD 0) W.length) (min (none.getD W.length) W.length)) one last (Str.ofString "")).map V.str))/\SameX b H H'/\BagAt H' b n/\p≠b,?_,?_⟩
 ·refine⟨_,rfl,_,rfl,_,_,rfl,rfl,sl lg (show (Str.ofString " ask bid").length<=8 by decide) J7,_,rfl,_,_,rfl,rfl,sl lg (show (Str.ofString " if").length<=3 by decide) J7,_,rfl,_,_,rfl,rfl,sl lg (show (Str.ofString " bid 1 ask 2").length<=12 by decide) J7,_,rfl,_,_,rfl,rfl,sl lg (show (Str.ofString " ask 1 ask 2").length<=12 by decide) J7,sz4,λq fq=>?_⟩;refine⟨p2,q,_,_,rfl,rfl,Same.new fq _ _ e2,Z5,by show 15<=sizeLine;decide,λp fp=>?_⟩;have nb:p≠b:=by obtain⟨ys,e⟩:=(B2.same (Same.new fq)).lst;exact (Zd e fp).symm
  exact⟨p,rfl,by rw[Z5,XA];rfl,X2.trans (SameX.of ((Same.new fq).trans (Same.new fp))),B2.same ((Same.new fq).trans (Same.new fp)),nb⟩
 rintro _ H3 ⟨p3,rfl,e3,X3,B3,nb3⟩;refine⟨λσ' H'=>∃ p,σ'=[some (.ref b),some (.ref a),some (.str big),some (.str W),some (.str g),some (.str one),some (.str last),some (.ref p),none]/\H' p=some (.lst ((bl1 g W (cutS W (min ((some 2).getD 0) W.length) (min (none.getD W.length) W.length)) one last (Str.ofString "")++bl2 g W (cutS W (min ((some 2).getD 0) W.length) (min (none.getD W.length) W.length)) one last (Str.ofString "")++bl3 g W (cutS W (min ((some 2).getD 0) W.length) (min (none.getD W.length) W.length)) one last (Str.ofString "")++bl4 g W (cutS W (min ((some 2).getD 0) W.length) (min (none.getD W.length) W.length)) one last (Str.ofString "")).map V.str))/\SameX b H H'/\BagAt H' b n/\p≠b,?_,?_⟩
 ·refine⟨_,rfl,_,rfl,_,_,rfl,rfl,sl lg (show (Str.ofString " bid 1 bid 1").length<=12 by decide) J7,_,rfl,_,_,rfl,rfl,sl lg (show (Str.ofString " ask 1 2").length<=8 by decide) J7,_,rfl,_,_,rfl,rfl,sl lg (show (Str.ofString " Ask 1").length<=6 by decide) J7,_,rfl,_,_,rfl,rfl,sl lg (show (Str.ofString " if ").length<=4 by decide) J7,_,rfl,_,_,rfl,rfl,sl (la lg (show (Str.ofString " if ").length<=4 by decide)) l2 J7,_,_,rfl,rfl,sl (la (la lg (show (Str.ofString " if ").length<=4 by decide)) l2) (show (Str.ofString " ").length<=1 by decide) J7,_,rfl,_,_,rfl,rfl,sl (la (la (la lg (show (Str.ofString " if ").length<=4 by decide)) l2) (show (Str.ofString " ").length<=1 by decide)) l1 J7,sz4,λq fq=>?_⟩;refine⟨p3,q,_,_,rfl,rfl,Same.new fq _ _ e3,Z5,by show 19<=sizeLine;decide,λp fp=>?_⟩;have nb:p≠b:=by obtain⟨ys,e⟩:=(B3.same (Same.new fq)).lst;exact (Zd e fp).symm
  exact⟨p,rfl,by rw[Z5,XA];rfl,X3.trans (SameX.of ((Same.new fq).trans (Same.new fp))),B3.same ((Same.new fq).trans (Same.new fp)),nb⟩
 rintro _ H4 ⟨p4,rfl,e4,X4,B4,nb4⟩;refine⟨λσ' H'=>∃ p,σ'=[some (.ref b),some (.ref a),some (.str big),some (.str W),some (.str g),some (.str one),some (.str last),some (.ref p),none]/\H' p=some (.lst ((bl1 g W (cutS W (min ((some 2).getD 0) W.length) (min (none.getD W.length) W.length)) one last (Str.ofString "")++bl2 g W (cutS W (min ((some 2).getD 0) W.length) (min (none.getD W.length) W.length)) one last (Str.ofString "")++bl3 g W (cutS W (min ((some 2).getD 0) W.length) (min (none.getD W.length) W.length)) one last (Str.ofString "")++bl4 g W (cutS W (min ((some 2).getD 0) W.length) (min (none.getD W.length) W.length)) one last (Str.ofString "")++bl5 g W (cutS W (min ((some 2).getD 0) W.length) (min (none.getD W.length) W.length)) one last (Str.ofString "")).map V.str))/\SameX b H H'/\BagAt H' b n/\p≠b,?_,?_⟩
 ·refine⟨_,rfl,_,rfl,_,_,rfl,rfl,sl lg (show (Str.ofString " if ").length<=4 by decide) J7,_,rfl,_,_,rfl,rfl,sl (la lg (show (Str.ofString " if ").length<=4 by decide)) l1 J7,_,_,rfl,rfl,sl (la (la lg (show (Str.ofString " if ").length<=4 by decide)) l1) (show (Str.ofString " ").length<=1 by decide) J7,_,rfl,_,_,rfl,rfl,sl (la (la (la lg (show (Str.ofString " if ").length<=4 by decide)) l1) (show (Str.ofString " ").length<=1 by decide)) l1 J7,_,rfl,_,_,rfl,rfl,sl lg (show (Str.ofString " if abcdefghi").length<=13 by decide) J7,_,rfl,_,_,rfl,rfl,sl lg (show (Str.ofString " if ").length<=4 by decide) J7,_,rfl,_,_,rfl,rfl,sl (la lg (show (Str.ofString " if ").length<=4 by decide)) l1 J7,_,_,rfl,rfl,sl (la (la lg (show (Str.ofString " if ").length<=4 by decide)) l1) (show (Str.ofString "A").length<=1 by decide) J7,sz3,λq fq=>?_⟩;refine⟨p4,q,_,_,rfl,rfl,Same.new fq _ _ e4,Z5,by show 22<=sizeLine;decide,λp fp=>?_⟩;have nb:p≠b:=by obtain⟨ys,e⟩:=(B4.same (Same.new fq)).lst;exact (Zd e fp).symm
  exact⟨p,rfl,by rw[Z5,XA];rfl,X4.trans (SameX.of ((Same.new fq).trans (Same.new fp))),B4.same ((Same.new fq).trans (Same.new fp)),nb⟩
 rintro _ H5 ⟨p5,rfl,e5,X5,B5,nb5⟩;refine⟨λσ' H'=>∃ p,σ'=[some (.ref b),some (.ref a),some (.str big),some (.str W),some (.str g),some (.str one),some (.str last),some (.ref p),none]/\H' p=some (.lst ((bl1 g W (cutS W (min ((some 2).getD 0) W.length) (min (none.getD W.length) W.length)) one last (Str.ofString "")++bl2 g W (cutS W (min ((some 2).getD 0) W.length) (min (none.getD W.length) W.length)) one last (Str.ofString "")++bl3 g W (cutS W (min ((some 2).getD 0) W.length) (min (none.getD W.length) W.length)) one last (Str.ofString "")++bl4 g W (cutS W (min ((some 2).getD 0) W.length) (min (none.getD W.length) W.length)) one last (Str.ofString "")++bl5 g W (cutS W (min ((some 2).getD 0) W.length) (min (none.getD W.length) W.length)) one last (Str.ofString "")++bl6 g W (cutS W (min ((some 2).getD 0) W.length) (min (none.getD W.length) W.length)) one last (Str.ofString "")).map V.str))/\SameX b H H'/\BagAt H' b n/\p≠b,?_,?_⟩
 ·refine⟨_,rfl,_,rfl,_,_,rfl,rfl,sl lg (show (Str.ofString " if ").length<=4 by decide) J7,_,rfl,_,_,rfl,rfl,sl (la lg (show (Str.ofString " if ").length<=4 by decide)) l1 J7,_,_,rfl,rfl,sl (la (la lg (show (Str.ofString " if ").length<=4 by decide)) l1) (show (Str.ofString " bid 1 2").length<=8 by decide) J7,_,rfl,_,_,rfl,rfl,sl lg (show (Str.ofString " ask 1  bid 2").length<=13 by decide) J7,_,rfl,_,_,rfl,rfl,sl (show (Str.ofString "offer ").length<=6 by decide) lW J7,sz3,λq fq=>?_⟩;refine⟨p5,q,_,_,rfl,rfl,Same.new fq _ _ e5,Z5,by show 25<=sizeLine;decide,λp fp=>?_⟩;have nb:p≠b:=by obtain⟨ys,e⟩:=(B5.same (Same.new fq)).lst;exact (Zd e fp).symm
  exact⟨p,rfl,by rw[Z5,XA];rfl,X5.trans (SameX.of ((Same.new fq).trans (Same.new fp))),B5.same ((Same.new fq).trans (Same.new fp)),nb⟩
 rintro _ H6 ⟨p6,rfl,e6,X6,B6,nb6⟩;refine⟨λσ' H'=>∃ p,σ'=[some (.ref b),some (.ref a),some (.str big),some (.str W),some (.str g),some (.str one),some (.str last),some (.ref p),none]/\H' p=some (.lst ((bl1 g W (cutS W (min ((some 2).getD 0) W.length) (min (none.getD W.length) W.length)) one last (Str.ofString "")++bl2 g W (cutS W (min ((some 2).getD 0) W.length) (min (none.getD W.length) W.length)) one last (Str.ofString "")++bl3 g W (cutS W (min ((some 2).getD 0) W.length) (min (none.getD W.length) W.length)) one last (Str.ofString "")++bl4 g W (cutS W (min ((some 2).getD 0) W.length) (min (none.getD W.length) W.length)) one last (Str.ofString "")++bl5 g W (cutS W (min ((some 2).getD 0) W.length) (min (none.getD W.length) W.length)) one last (Str.ofString "")++bl6 g W (cutS W (min ((some 2).getD 0) W.length) (min (none.getD W.length) W.length)) one last (Str.ofString "")++bl7 g W (cutS W (min ((some 2).getD 0) W.length) (min (none.getD W.length) W.length)) one last (Str.ofString "")).map V.str))/\SameX b H H'/\BagAt H' b n/\p≠b,?_,?_⟩
 ·refine⟨_,rfl,_,rfl,_,_,rfl,rfl,sl lg (show (Str.ofString " if ").length<=4 by decide) J7,_,rfl,_,_,rfl,rfl,sl (la lg (show (Str.ofString " if ").length<=4 by decide)) l1 J7,_,_,rfl,rfl,sl (la (la lg (show (Str.ofString " if ").length<=4 by decide)) l1) (show (Str.ofString " ").length<=1 by decide) J7,_,rfl,_,_,rfl,rfl,sl lg (show (Str.ofString " if  ").length<=5 by decide) J7,_,rfl,_,_,rfl,rfl,sl (la lg (show (Str.ofString " if  ").length<=5 by decide)) l1 J7,_,rfl,_,_,rfl,rfl,sl lg (show (Str.ofString " if 1").length<=5 by decide) J7,_,rfl,_,_,rfl,rfl,sl lg (show (Str.ofString " ask 1 if").length<=9 by decide) J7,sz4,λq fq=>?_⟩;refine⟨p6,q,_,_,rfl,rfl,Same.new fq _ _ e6,Z5,by show 29<=sizeLine;decide,λp fp=>?_⟩;have nb:p≠b:=by obtain⟨ys,e⟩:=(B6.same (Same.new fq)).lst;exact (Zd e fp).symm
  exact⟨p,rfl,by rw[Z5,XA];rfl,X6.trans (SameX.of ((Same.new fq).trans (Same.new fp))),B6.same ((Same.new fq).trans (Same.new fp)),nb⟩
 rintro _ H7 ⟨p7,rfl,e7,X7,B7,nb7⟩;refine⟨λσ' H'=>∃ w,σ'=[some (.ref b),some (.ref a),some (.str big),some (.str W),some (.str g),some (.str one),some (.str last),some (.ref p7),some (.str w)]/\H' p7=some (.lst ((bl1 g W (cutS W (min ((some 2).getD 0) W.length) (min (none.getD W.length) W.length)) one last (Str.ofString "")++bl2 g W (cutS W (min ((some 2).getD 0) W.length) (min (none.getD W.length) W.length)) one last (Str.ofString "")++bl3 g W (cutS W (min ((some 2).getD 0) W.length) (min (none.getD W.length) W.length)) one last (Str.ofString "")++bl4 g W (cutS W (min ((some 2).getD 0) W.length) (min (none.getD W.length) W.length)) one last (Str.ofString "")++bl5 g W (cutS W (min ((some 2).getD 0) W.length) (min (none.getD W.length) W.length)) one last (Str.ofString "")++bl6 g W (cutS W (min ((some 2).getD 0) W.length) (min (none.getD W.length) W.length)) one last (Str.ofString "")++bl7 g W (cutS W (min ((some 2).getD 0) W.length) (min (none.getD W.length) W.length)) one last (Str.ofString "")).map V.str))/\SameX b H H'/\BagAt H' b (n+1)/\WordOk w,?_,?_⟩
 ·refine⟨_,rfl,big,rfl,hb,λlw0 G0 SG hnew eG=>?_⟩;have BG:=B7.same SG;refine⟨_,rfl,b,_,n,rfl,BG,U,J7,J9,λi G1 i0 i1 BG1 SG1=>?_⟩;have nbw:lw0≠b:=by obtain⟨ys,e⟩:=B7.lst;exact (Zd e hnew).symm
  obtain⟨j,rfl⟩:=JB i0;obtain⟨w,ew⟩:∃ w,(badWords big)[j]?=some w:=⟨(badWords big)[j]'(by show j<32;omega),J8⟩;refine⟨lw0,_,_,.str w,rfl,rfl,SqL.of (SG1 _ _ eG nbw),Yh (by rw[YQ,ew];rfl),?_⟩;exact⟨w,rfl,SG1 _ _ (SG _ _ e7) nb7,(X7.trans (SameX.of SG)).trans SG1,BG1,Uo hb w (YV ew)⟩
 rintro _ G7 ⟨w,rfl,e7,X7,B7,hw⟩;have lw:=hw.ln;refine⟨λσ' H'=>∃ p,σ'=[some (.ref b),some (.ref a),some (.str big),some (.str W),some (.str g),some (.str one),some (.str last),some (.ref p),some (.str w)]/\H' p=some (.lst ((bl1 g W (cutS W (min ((some 2).getD 0) W.length) (min (none.getD W.length) W.length)) one last (Str.ofString "")++bl2 g W (cutS W (min ((some 2).getD 0) W.length) (min (none.getD W.length) W.length)) one last (Str.ofString "")++bl3 g W (cutS W (min ((some 2).getD 0) W.length) (min (none.getD W.length) W.length)) one last (Str.ofString "")++bl4 g W (cutS W (min ((some 2).getD 0) W.length) (min (none.getD W.length) W.length)) one last (Str.ofString "")++bl5 g W (cutS W (min ((some 2).getD 0) W.length) (min (none.getD W.length) W.length)) one last (Str.ofString "")++bl6 g W (cutS W (min ((some 2).getD 0) W.length) (min (none.getD W.length) W.length)) one last (Str.ofString "")++bl7 g W (cutS W (min ((some 2).getD 0) W.length) (min (none.getD W.length) W.length)) one last (Str.ofString "")++bl8 g W (cutS W (min ((some 2).getD 0) W.length) (min (none.getD W.length) W.length)) one last w).map V.str))/\SameX b H H'/\BagAt H' b (n+1)/\p≠b,?_,?_⟩
 ·refine⟨_,rfl,_,rfl,_,_,rfl,rfl,sl lg (show (Str.ofString "  if ").length<=5 by decide) J7,_,rfl,_,_,rfl,rfl,sl (la lg (show (Str.ofString "  if ").length<=5 by decide)) l1 J7,_,rfl,_,_,rfl,rfl,sl (show (Str.ofString "offer ").length<=6 by decide) lw J7,_,rfl,_,rfl,Y4 ⟨_,some 2,none,rfl,rfl,rfl,lc,U,_,_,rfl,rfl,sl (la (show (Str.ofString "offer ").length<=6 by decide) lw) (XV (Xo W (min 2 W.length) (min W.length W.length)) lW) J7,_,rfl,_,rfl,Y4 ⟨_,some 2,none,rfl,rfl,rfl,lc,U,_,_,rfl,rfl,sl (show (Str.ofString "offer").length<=5 by decide) (XV (Xo W (min 2 W.length) (min W.length W.length)) lW) J7,_,_,rfl,rfl,sl (la (show (Str.ofString "offer").length<=5 by decide) (XV (Xo W (min 2 W.length) (min W.length W.length)) lW)) (show (Str.ofString " ").length<=1 by decide) J7,_,rfl,_,_,rfl,rfl,sl (la (la (show (Str.ofString "offer").length<=5 by decide) (XV (Xo W (min 2 W.length) (min W.length W.length)) lW)) (show (Str.ofString " ").length<=1 by decide)) lw J7,sz3,λq fq=>?_⟩⟩⟩;refine⟨p7,q,_,_,rfl,rfl,Same.new fq _ _ e7,Z5,by show 32<=sizeLine;decide,λp fp=>?_⟩;have nb:p≠b:=by obtain⟨ys,e⟩:=(B7.same (Same.new fq)).lst;exact (Zd e fp).symm
  exact⟨p,rfl,by rw[Z5,XA];rfl,X7.trans (SameX.of ((Same.new fq).trans (Same.new fp))),B7.same ((Same.new fq).trans (Same.new fp)),nb⟩
 rintro _ H8 ⟨p8,rfl,e8,X8,B8,nb8⟩;refine⟨λσ' H'=>∃ p,σ'=[some (.ref b),some (.ref a),some (.str big),some (.str W),some (.str g),some (.str one),some (.str last),some (.ref p),some (.str w)]/\H' p=some (.lst ((bl1 g W (cutS W (min ((some 2).getD 0) W.length) (min (none.getD W.length) W.length)) one last (Str.ofString "")++bl2 g W (cutS W (min ((some 2).getD 0) W.length) (min (none.getD W.length) W.length)) one last (Str.ofString "")++bl3 g W (cutS W (min ((some 2).getD 0) W.length) (min (none.getD W.length) W.length)) one last (Str.ofString "")++bl4 g W (cutS W (min ((some 2).getD 0) W.length) (min (none.getD W.length) W.length)) one last (Str.ofString "")++bl5 g W (cutS W (min ((some 2).getD 0) W.length) (min (none.getD W.length) W.length)) one last (Str.ofString "")++bl6 g W (cutS W (min ((some 2).getD 0) W.length) (min (none.getD W.length) W.length)) one last (Str.ofString "")++bl7 g W (cutS W (min ((some 2).getD 0) W.length) (min (none.getD W.length) W.length)) one last (Str.ofString "")++bl8 g W (cutS W (min ((some 2).getD 0) W.length) (min (none.getD W.length) W.length)) one last w++bl9 g W (cutS W (min ((some 2).getD 0) W.length) (min (none.getD W.length) W.length)) one last w).map V.str))/\SameX b H H'/\BagAt H' b (n+1)/\p≠b,?_,?_⟩
 ·refine⟨_,rfl,_,rfl,_,_,rfl,rfl,sl lg (show (Str.ofString " ask ").length<=5 by decide) J7,_,rfl,_,_,rfl,rfl,sl (la lg (show (Str.ofString " ask ").length<=5 by decide)) lw J7,_,rfl,_,_,rfl,rfl,sl lg (show (Str.ofString " bid ").length<=5 by decide) J7,_,rfl,_,_,rfl,rfl,sl (la lg (show (Str.ofString " bid ").length<=5 by decide)) lw J7,_,_,rfl,rfl,sl (la (la lg (show (Str.ofString " bid ").length<=5 by decide)) lw) (show (Str.ofString " if ").length<=4 by decide) J7,_,rfl,_,_,rfl,rfl,sl (la (la (la lg (show (Str.ofString " bid ").length<=5 by decide)) lw) (show (Str.ofString " if ").length<=4 by decide)) l1 J7,_,rfl,_,_,rfl,rfl,sl lg (show (Str.ofString " ask 1 bid ").length<=11 by decide) J7,_,rfl,_,_,rfl,rfl,sl (la lg (show (Str.ofString " ask 1 bid ").length<=11 by decide)) lw J7,sz3,λq fq=>?_⟩;refine⟨p8,q,_,_,rfl,rfl,Same.new fq _ _ e8,Z5,by show 35<=sizeLine;decide,λp fp=>?_⟩;have nb:p≠b:=by obtain⟨ys,e⟩:=(B8.same (Same.new fq)).lst;exact (Zd e fp).symm
  exact⟨p,rfl,by rw[Z5,XA];rfl,X8.trans (SameX.of ((Same.new fq).trans (Same.new fp))),B8.same ((Same.new fq).trans (Same.new fp)),nb⟩
 rintro _ H9 ⟨p9,rfl,e9,X9,B9,nb9⟩;generalize hA:bl1 g W (cutS W (min ((some 2).getD 0) W.length) (min (none.getD W.length) W.length)) one last (Str.ofString "")++bl2 g W (cutS W (min ((some 2).getD 0) W.length) (min (none.getD W.length) W.length)) one last (Str.ofString "")++bl3 g W (cutS W (min ((some 2).getD 0) W.length) (min (none.getD W.length) W.length)) one last (Str.ofString "")++bl4 g W (cutS W (min ((some 2).getD 0) W.length) (min (none.getD W.length) W.length)) one last (Str.ofString "")++bl5 g W (cutS W (min ((some 2).getD 0) W.length) (min (none.getD W.length) W.length)) one last (Str.ofString "")++bl6 g W (cutS W (min ((some 2).getD 0) W.length) (min (none.getD W.length) W.length)) one last (Str.ofString "")++bl7 g W (cutS W (min ((some 2).getD 0) W.length) (min (none.getD W.length) W.length)) one last (Str.ofString "")++bl8 g W (cutS W (min ((some 2).getD 0) W.length) (min (none.getD W.length) W.length)) one last w++bl9 g W (cutS W (min ((some 2).getD 0) W.length) (min (none.getD W.length) W.length)) one last w=ls at e9;have ll:ls.length=35:=by rw[<-hA];rfl
 have lsb:∀ z∈ls,LineBad ns z:=by
  have cw:cutS W (min ((some 2).getD 0) W.length) (min (none.getD W.length) W.length)=wor (ns.length - 1):=by rw[hW];exact Cn U
  intro z hz;rw[<-hA,cw,hg,hW] at hz;refine Jx (w:=w) ok h1.symm h2.symm hw z ?_;exact hz
 clear hA;refine⟨_,rfl,_,rfl,_,rfl,p9,_,rfl,.inl (SqL.of e9),b,_,n+1,rfl,B9,U,by rw[YB,ll];decide,by rw[YB,ll];decide +kernel,λi G i0 i1 BG SG=>?_⟩;rw[YB,ll] at i1;obtain⟨j,rfl⟩:=JB i0;obtain⟨z,ez⟩:∃ z,ls[j]?=some z:=⟨ls[j]'U,J8⟩;refine⟨p9,_,_,.str z,rfl,rfl,SqL.of (SG _ _ e9 nb9),Yh (by rw[YQ,ez];rfl),?_⟩;exact q z G BG (X9.trans SG) (lsb z (YV ez))
end
theorem Z1t:∀ t:Fin 13,(Str.ofString "abcdefghijklm").cps.toList[t.val]?=some (97+t.val):=by decide
section
variable {P:TR}{w:World}{K:TQ}{mg:TB}{base:Heap}
inductive spBadHeads (K:TQ) (vs:TV) (H:Hp) (Q:VK) (_z3:XK):Prop
 | mk (a:Addr) (ns:List PySem.Str) (zz0:vs=[.ref a]) (zz1:SqL K H a (ns.map V.str)) (zz2:NamesOk ns) (zz3:∀ l H' (ls:List PySem.Str),Same H H'->H l=none->H' l=some (.lst (ls.map V.str))->ls.length=19->(∀ z∈ls,HeadBad z)->Q (.ref l) H')
theorem L5 (D:Def K mg "_law_bad_heads" fW ["_law_names_here"])(T:BltT mg):Has P w K mg base 1 "_law_bad_heads" ["_law_names_here"] (spBadHeads K):=by
 refine D.h9 (N:=["_law_names_here","_law_some"]) fsc λH Q hr h nd=>?_;obtain⟨a,ns,rfl,hN,ok,q⟩:=h;have nd1:(["_law_k"]:TF).Nodup:=J9
 refine⟨_,(Z4 (Zn (Zc (i:=1) nd rfl (Or.inl rfl) (Y3 (Z0 Z9 (Z0 Z9 (Z0 Z9 (Z0 (Za Z7 Z9 (Zq Y5 (pv 0) Z8 (λ_ _=>rfl))) (Z0 Z9 (Z0 Z9 (Z0 Z9 Z3))))))))))
  (Z4 (Zn (Zc (i:=1) nd rfl (Or.inl rfl) (Za Ym (pv 1) (Y3 (Z0 Z9 (Z0 Z9 (Z0 Z9 (Z0 Z9 (Z0 Z9 (Z0 Z9 Z3))))))))))
  (Z4 (Zn (Zc (i:=1) nd rfl (Or.inl rfl) (Za Ym (pv 1) (Y3 (Z0 Z9 (Z0 Z9 (Z0 Z9 (Z0 Z9 (Z0 Z9 Z3)))))))))
  (Zb (Zi (Za Ym (pv 1) (Y3 (Z0 (Za Z7 Z9 (Yg XN qh qj (V8 (K:=K)) Z9 (Z0 (Xk (ox:=none) (N:=["_law_k"]) (k:=1) (fv:=[]) rfl (Yj rfl T.range (Z0 Z8 Z3))
  (λ_ _ _ _ _=>Zx (i:=0) nd1 rfl (Or.inl rfl)) (λ_ _ _ _ _=>Yy) (λ_ _ _ _ _=>(Zq Lh Z9 (pv 0) (λ_ _=>rfl))) Y6) Z3))) Z3)))))))),?_⟩
 have n2:=ok.l1;have e0:ns[0]?=some (ns.getD 0 ""):=by simp[List.getD,show 0<ns.length by omega]
 have o1:NameOk (ns.getD 0 ""):=ok.ok _ (YV e0);have l1:=o1.l2;generalize ns.getD 0 ""=one at e0 o1 l1;refine⟨λσ' H'=>∃ p,σ'=[some (.ref a),some (.ref p)]/\H' p=some (.lst ((bh1 one).map V.str))/\Same H H',?_,?_⟩
 ·refine⟨_,rfl,a,_,0,.str one,rfl,rfl,hN,Yh (j:=0) (by rw[YQ,e0];rfl),_,_,rfl,rfl,by rw[YX];show 7+one.length<=_;omega,sz7,λq fq=>?_⟩;exact⟨q,rfl,Z5,Same.new fq⟩
 rintro _ H1 ⟨p1,rfl,e1,S1⟩;refine⟨λσ' H'=>∃ p,σ'=[some (.ref a),some (.ref p)]/\H' p=some (.lst ((bh1 one++bh2).map V.str))/\Same H H',?_,?_⟩
 ·refine⟨_,rfl,sz6,λq fq=>?_⟩;refine⟨p1,q,_,_,rfl,rfl,Same.new fq _ _ e1,Z5,by show 13<=sizeLine;decide,λp fp=>?_⟩;exact⟨p,rfl,by rw[Z5,XA];rfl,S1.trans ((Same.new fq).trans (Same.new fp))⟩
 rintro _ H2 ⟨p2,rfl,e2,S2⟩;refine⟨λσ' H'=>∃ p,σ'=[some (.ref a),some (.ref p)]/\H' p=some (.lst ((bh1 one++bh2++bh3).map V.str))/\Same H H',?_,?_⟩
 ·refine⟨_,rfl,sz5,λq fq=>?_⟩;refine⟨p2,q,_,_,rfl,rfl,Same.new fq _ _ e2,Z5,by show 18<=sizeLine;decide,λp fp=>?_⟩;exact⟨p,rfl,by rw[Z5,XA];rfl,S2.trans ((Same.new fq).trans (Same.new fp))⟩
 rintro _ H3 ⟨p3,rfl,e3,S3⟩;refine⟨_,rfl,rfl,?_⟩;refine⟨(13:Int),rfl,J7,J7,λd hd=>?_⟩;have l13:letters13.length=13:=rfl;refine⟨13,λi ys G=>ys=(letters13.take i).map V.str/\Same H3 G,W9 J7,⟨rfl,Same.new hd⟩,?_,?_⟩
 ·rintro i ys G hi ⟨rfl,SG⟩ hdG;refine⟨hi,?_⟩;rintro x G3 ⟨rfl,rfl⟩;have e0':(0+(i:Int))=((i:Nat):Int):=U
  rw[e0'];refine W3 ?_;refine⟨_,rfl,_,_,97+i,rfl,rfl,J7,Yh (Z1t ⟨i,hi⟩),hdG,?_,Xe SG hd⟩;have el:letters13[i]?=some (⟨#[97+i]⟩:PySem.Str):=by
   unfold letters13;rw[YQ,List.getElem?_range hi];rfl
  rw[Y9 el,XA];rfl
 rintro ys G ⟨rfl,SG⟩ hdG;rw[show letters13.take 13=letters13 from rfl] at hdG;refine⟨YO _,_,d,letters13,rfl,rfl,SqL.of hdG,J9,?_⟩;rw[Va];refine⟨_,_,rfl,rfl,J9,sz1,λq' fq=>?_⟩;refine⟨p3,q',_,_,rfl,rfl,Same.new fq _ _ (SG _ _ e3),Z5,by show 19<=sizeLine;decide,λp fp=>?_⟩;have SA:=S3.trans SG;exact q p _ (bh1 one++bh2++bh3++bh4) (SA.trans ((Same.new fq).trans (Same.new fp))) (T3 (SA.trans (Same.new fq)) fp) (by rw[Z5,XA];rfl) rfl (Gc o1)
end
theorem F4 {i:Nat}{tb:(L2.St->XK)->TS}{ts:TS}{Ds:Ends}{σ:L2.St}(R:XK)(h1:∀ EX:L2.St->XK,(∀ cls dd H',R cls dd H'->EX σ cls dd H')->tb EX Ds σ H)
  (h2:∀ cls dd H',R cls dd H'->cls=.ref C/\∀ a,H' a=none->ts (unN i Ds) (σ.set i (some (.ref a))) (upd H' a (excC a C dd))):tTryDAs C i tb ts Ds σ H:=h1 _ h2
structure KindsT (K:TQ)(mg:TB)(C c1 c2 c3 c4 c5:Addr):Prop where
 m1:mg "NoChance"=some (.ref c1)
 m2:mg "NoFair"=some (.ref c2)
 m3:mg "NoName"=some (.ref c3)
 m4:mg "NoRatio"=some (.ref c4)
 m5:mg "NoRow"=some (.ref c5)
 m0:mg "NoText"=some (.ref C)
 mv:mg "ValueError"=none
 ka:W.kitAny K (.ref C) [.ref c1,.ref c2,.ref c3,.ref c4,.ref c5]=some false
 k0:W.kitOne K (.ref C) (.ref C)=some true
 kv:W.kitOne K (.ref C) (.type "ValueError")=some true
def KindsTHere (K:TQ)(mg:TB):Prop:=∃ C c1 c2 c3 c4 c5,KindsT K mg C c1 c2 c3 c4 c5
theorem Jy {c1 c2 c3 c4 c5:Addr}(X:K.In h)(G:h.Ns mainGlobals mg)(a0:W.nsIn K mainGlobals "NoText"=some (some (.ref C)))(a1:W.nsIn K mainGlobals "NoChance"=some (some (.ref c1)))(a2:W.nsIn K mainGlobals "NoFair"=some (some (.ref c2)))(a3:W.nsIn K mainGlobals "NoName"=some (some (.ref c3)))
  (a4:W.nsIn K mainGlobals "NoRatio"=some (some (.ref c4))) (a5:W.nsIn K mainGlobals "NoRow"=some (some (.ref c5))) (av:W.nsIn K mainGlobals "ValueError"=some none) (ka:W.kitAny K (.ref C) [.ref c1,.ref c2,.ref c3,.ref c4,.ref c5]=some false) (k0:W.kitOne K (.ref C) (.ref C)=some true) (kv:W.kitOne K (.ref C) (.type "ValueError")=some true):KindsTHere K mg :=
 ⟨C,c1,c2,c3,c4,c5,zt X G a1,zt X G a2,zt X G a3,zt X G a4,zt X G a5,zt X G a0,W.mg_none_of X G av,ka,k0,kv⟩
section
variable {P:TR}{w:World}{K:TQ}{mg:TB}{base:Heap}
inductive spRefusalT (K:TQ) (C:Addr) (vs:TV) (H:Hp) (Q:VK) (_z3:XK):Prop
 | mk (z:PySem.Str) (n:Nat) (zz0:vs=[.str z]) (zz1:z.length<=1000000) (zz2:BadAt (wordsOf 10 z) n) (zz3:∀ (a d:Addr) (H':Hp),Same H H'->H' a=some (excC a C (some d))->H' d=some (.xd [("at",.int (n:Int))])->Q (.ref a) H')
theorem My {c_NoText D0:Addr}(D:Def K mg "_law_refusal" fZ ["_law_text"])(k_SureError:CatchBy K c_NoText D0)(m_SureError:mg "SureError"=some (.ref D0))(fD:HasD P w K mg base 9 "read" UC (spReadX K c_NoText)):Has P w K mg base 10 "_law_refusal" ["_law_text"] (spRefusalT K c_NoText) true:=by
 refine D.h9 (N:=["_law_text","e"]) fsc λH Q hr h nd=>?_;obtain⟨z,n,rfl,hl,hb,k⟩:=h;refine⟨_,(Z4 (Jg (i:=1) nd rfl rfl rfl rfl rfl k_SureError m_SureError rfl (λ_ _ _ hL=>(Zb (V3 (Qk fD (hr.mono J7) rfl hL (Z0 (pv 0) Z3))))) (λ_ _ _=>(Zb (Zi (pv 1)))))
  (Zb (Zi Zr))),?_⟩
 refine F4 (λcls dd H'=>∃ d,cls=.ref c_NoText/\dd=some d/\Same H H'/\H' d=some (.xd [("at",.int (n:Int))])) (λEX hEX=>?_) ?_
 ·exact⟨_,rfl,.bad z n rfl hl hb λd H' S hd=>hEX _ _ _ ⟨d,rfl,rfl,S,hd⟩⟩
 rintro cls dd H' ⟨d,rfl,rfl,S,hd⟩;refine⟨rfl,λa ha=>?_⟩;have S2:Same H' (upd H' a (excC a c_NoText (some d))):=Same.new ha;exact⟨_,rfl,k a d _ (S.trans S2) Z5 (S2 _ _ hd)⟩
inductive spRefusedT (vs:TV) (H:Hp) (Q:VK) (_z3:XK):Prop
 | mk (z:PySem.Str) (n:Nat) (zz0:vs=[.str z,.int (n:Int)]) (zz1:z.length<=1000000) (zz2:BadAt (wordsOf 10 z) n) (zz3:∀ (H':Hp),Same H H'->Q (.bl true) H')
theorem Mx {c_NoText c_NoChance c_NoFair c_NoName c_NoRatio c_NoRow:Addr}(D:Def K mg "_law_refused" fY UN)(T:BltT mg)(ks:KindsT K mg c_NoText c_NoChance c_NoFair c_NoName c_NoRatio c_NoRow)(O:ExcI K mg "NoText" c_NoText fI)(R:ExcRead K c_NoText)(S0:StoI K c_NoText "at")(fB:Has P w K mg base 1 "_law_whole" ["_law_found"] spWhole)(eT:Has P w K mg base 10 "_law_refusal" ["_law_text"] (spRefusalT K c_NoText) true):Has P w K mg base 11 "_law_refused" UN spRefusedT true:=by
 refine D.h9 (N:=["_law_text","_law_at","_law_some"]) fsc λH Q hr h nd=>?_;obtain⟨z,n,rfl,hl,hb,q⟩:=h;have m_NoChance:=ks.m1;have m_NoFair:=ks.m2;have m_NoName:=ks.m3;have m_NoRatio:=ks.m4;have m_NoRow:=ks.m5;have m_NoText:=ks.m0;have n_ValueError:=ks.mv;refine⟨_,(Z4 (Zc (i:=2) nd rfl (Or.inl rfl) (Yk eT (hr.mono J7) rfl (Z0 (pv 0) Z3)))
  (Z4 (Zy (PW.pt (Yx (Xg (Yr (Zg (Wq (K:=K)) rfl T.isinstance JS (Z0 (pv 2) (Z0 (Yf (v:=.ref c_NoText) rfl m_NoText rfl) Z3))))) (Xf (Xg (Yr (Zg (Wq (K:=K)) rfl T.isinstance JS (Z0 (pv 2) (Z0 (N4 n_ValueError PyProof.Rows.Boot.«ValueError») Z3))))))))
   (Zb (Zi Tj))
   Zm)
  (Z4 (Zy (Yr (Zg (Wq (K:=K)) rfl T.isinstance JS (Z0 (pv 2) (Z0 (Xt (Z0 (Yf (v:=.ref c_NoChance) rfl m_NoChance rfl) (Z0 (Yf (v:=.ref c_NoFair) rfl m_NoFair rfl) (Z0 (Yf (v:=.ref c_NoName) rfl m_NoName rfl) (Z0 (Yf (v:=.ref c_NoRatio) rfl m_NoRatio rfl) (Z0 (Yf (v:=.ref c_NoRow) rfl m_NoRow rfl) Z3)))))) Z3))))
   (Zb (Zi Tj))
   Zm)
  (Zb (Zi (Ql (Zo fB hr (Z0 (K4 (K:=K) (mg:=mg) (pv 2) rfl) Z3)) (Ti (Vq W2 (K4 (K:=K) (mg:=mg) (pv 2) rfl) (pv 1) (Zl _))))))))),?_⟩
 refine⟨_,rfl,z,n,rfl,hl,hb,λa d H1 S1 ha hd=>?_⟩;refine⟨_,rfl,a,c_NoText,some d,.ref c_NoText,true,rfl,ha,R,.inl ⟨.ref c_NoText,λu z=>z,ks.k0⟩,_,rfl,Yb ?_⟩;refine⟨_,rfl,a,c_NoText,some d,.ty "ValueError",true,rfl,ha,R,.inl ⟨.type "ValueError",λu z=>z,ks.kv⟩,_,rfl,Yb ?_⟩;refine⟨_,rfl,sz5,λt ht=>?_⟩;have S2:=Same.new (o:=.tup [.ref c_NoChance,.ref c_NoFair,.ref c_NoName,.ref c_NoRatio,.ref c_NoRow]) ht;have et:upd H1 t (.tup [.ref c_NoChance,.ref c_NoFair,.ref c_NoName,.ref c_NoRatio,.ref c_NoRow]) t=some (.tup [.ref c_NoChance,.ref c_NoFair,.ref c_NoName,.ref c_NoRatio,.ref c_NoRow]):=Z5;generalize upd H1 t (.tup [.ref c_NoChance,.ref c_NoFair,.ref c_NoName,.ref c_NoRatio,.ref c_NoRow])=H2 at *
 refine⟨a,c_NoText,some d,.ref t,false,rfl,S2 _ _ ha,R,.inr ⟨t,[c_NoChance,c_NoFair,c_NoName,c_NoRatio,c_NoRow],rfl,SqT.of et,ks.ka⟩,_,rfl,Yb ?_⟩;have ha2:=S2 _ _ ha;have hd2:=S2 _ _ hd;refine⟨_,rfl,a,c_NoText,fI,d,"NoText",_,.int (n:Int),rfl,ha2,hd2,rfl,R,O,S0.na,(n:Int),rfl,_,rfl,Xq ?_⟩;refine⟨_,rfl,a,c_NoText,fI,d,"NoText",_,.int (n:Int),rfl,ha2,hd2,rfl,R,O,S0.na,_,rfl,rfl,?_⟩;show Q (.bl (decide (V.int (n:Int)=V.int (n:Int)))) H2;rw[XD rfl];exact q H2 (S1.trans S2)
end
def GoodR (ns:List PySem.Str)(z:PySem.Str):Prop:=∃ o:Ofr,Ofr.T o ns.length/\z=o.row ns
theorem Np {ns:List PySem.Str}:∀ {zs:List PySem.Str},(∀ z∈zs,GoodR ns z)->∃ os:List Ofr,zs=os.map (λo=>o.row ns)/\∀ o∈os,Ofr.T o ns.length
 | [],_=>⟨[],rfl,λ_ h=>nomatch h⟩
 | z::zs,h=>by
  obtain⟨o,ho,e⟩:=h z YI;obtain⟨os,e2,h2⟩:=Np λx hx=>h x (YG _ hx);refine⟨o::os,by rw[e,e2];rfl,λx hx=>?_⟩;rcases YC.mp hx with rfl | hx
  ·exact ho
  exact h2 x hx
theorem Ge {ns:List PySem.Str}:GoodR ns (good ns.length):=by
 refine⟨⟨List.replicate ns.length (1,1),none,none,none⟩,⟨J8,λr hr=>?_,J8,J8,J8⟩,?_⟩
 ·rw[(zL.mp hr).2];exact⟨J7,J7,J9,J9⟩
 have h:Told (good ns.length) sOffer (ones ns.length):=by
  unfold Told;rw[Z6,Yv]
 rw[h.eq];show _=Str.join ⟨#[32]⟩ (sOffer::((List.replicate ns.length ((1,1):Rat)).map shR++([]++[])));rw[Y09,YM,YM];rfl
theorem Mp {ns:List PySem.Str}(ok:NamesOk ns){z:PySem.Str}(h:GoodR ns z):10 ∉ z.cps.toList/\z.length<=2560:=by
 obtain⟨o,ot,rfl⟩:=h;have ow:=Xr ok ot;have ol:=Ww ok ot;have lj:=Yd (c:=32) (m:=63) (ws:=offW ns o.rs o.oa o.ob o.ev) λz hz=>(ow z hz).2;have lj2:(offW ns o.rs o.oa o.ob o.ev).length*(63+1)<=40*64:=GB _ ol;refine⟨We J7 λw hw q=>?_,?_⟩
 ·have:=(ow w hw).1 10 q;omega
 show (Str.join ⟨#[32]⟩ (offW ns o.rs o.oa o.ob o.ev)).length<=_;omega
theorem Uv {ns:List PySem.Str}(ok:NamesOk ns):10 ∉ (rowN ns).cps.toList/\(rowN ns).length<=2560:=by
 refine⟨We J7 λw hw=>?_,?_⟩
 ·rcases YC.mp hw with rfl | hw
  ·decide
  exact (ok.ok w hw).free J7
 have lj:=Yd (c:=32) (m:=8) (ws:=Str.ofString "worlds"::ns) λz hz=>by
  rcases YC.mp hz with rfl | hz
  ·decide
  exact (ok.ok z hz).l2
 rw[YR] at lj;have:=ok.l2;show (Str.join ⟨#[32]⟩ (Str.ofString "worlds"::ns)).length<=_;omega
theorem Ci {ns:List PySem.Str}{z:PySem.Str}(h:LineBad ns z):10 ∉ z.cps.toList/\z.length<=2560:=⟨λq=>(h.cl 10 q).2 rfl,XV h.ln J7⟩
theorem V1 {zs:List PySem.Str}(h0:zs≠[])(hl:zs.length<=20)(h:∀ z∈zs,10 ∉ z.cps.toList/\z.length<=2560):wordsOf 10 (Str.join ⟨#[10]⟩ zs)=zs/\(Str.join ⟨#[10]⟩ zs).length<=1000000/\JoinOk ⟨#[10]⟩ zs=true:=by
 have lj:=Yd (c:=10) (m:=2560) (ws:=zs) λz hz=>(h z hz).2;have l2:zs.length*(2560+1)<=20*2561:=GB _ hl;exact⟨Wi h0 λz hz=>(h z hz).1,U,Z20 (c:=10) (m:=2560) (λz hz=>(h z hz).2) U⟩
structure SInv (ns rows:List PySem.Str)(bad:Option Nat):Prop where
 len:rows.length<=16
 any:∀ z∈rows,GoodR ns z \/ LineBad ns z
 non:bad=none->(∀ z∈rows,GoodR ns z)/\rows.length<=12
 som:∀ k,bad=some k->1<=k/\k<=13/\k<=rows.length/\(∀ i z,i+1<k->rows[i]?=some z->GoodR ns z)/\(k=13 \/ ∃ z,rows[k - 1]?=some z/\LineBad ns z)
theorem SInv.bad_at {ns rows:List PySem.Str}{k:Nat}(h:SInv ns rows (some k))(ok:NamesOk ns):BadAt (rowN ns::rows) k:=by
 obtain⟨k1,k2,k3,hg,hb⟩:=h.som k rfl;obtain⟨os,e,ot⟩:=Np (ns:=ns) (zs:=rows.take (k - 1)) λz hz=>by
  obtain⟨i,hi⟩:=zw hz;have hlt:=(XS.mp hi).1;rw[JJ] at hlt;rw[Y0n U] at hi;exact hg i z U hi
 have lo:os.length=k - 1:=by
  have:=congrArg List.length e;rw[JJ,YB] at this;omega
 have hk:k - 1<rows.length:=U
 have er:rows=os.map (λo=>o.row ns)++rows[k - 1]::rows.drop k:=by
  rw[<-e]
  conv=>lhs;rw[<-j4 (k - 1) rows,zB hk]
  rw[show k - 1+1=k by omega]
 rcases hb with hb | ⟨z,hz,hb⟩
 ·subst hb;rw[er];exact BadAt.many ns os _ _ ok ot lo
 have ez:rows[k - 1]=z:=by
  rw[XY hk] at hz;exact XH hz
 by_cases h13:k=13
 ·subst h13;rw[er];exact BadAt.many ns os _ _ ok ot lo
 have:=BadAt.row ns os rows[k - 1] (rows.drop k) ok ot U (by rw[ez];exact hb.cl.asc) (by rw[ez];exact hb.ln) (by rw[ez];exact hb.bad);rw[<-er,lo,show k - 1+1=k by omega] at this;exact this
def nextBad (at':Nat):Option Nat->Option Nat
 | none=>some at'
 | some k=>if at'<k then some at' else some k
theorem SInv.put {ns rows:List PySem.Str}{bad:Option Nat}{z:PySem.Str}{a:Nat}(h:SInv ns rows bad)(hz:LineBad ns z)(h1:1<=a)(h2:a<=rows.length):SInv ns (rows.set (a - 1) z) (nextBad a bad):=by
 have hl:(rows.set (a - 1) z).length=rows.length:=ji;have at0:(rows.set (a - 1) z)[a - 1]?=some z:=by rw[qY U]
 have ne:∀ i,i≠a - 1->(rows.set (a - 1) z)[i]?=rows[i]?:=λi hi=>zu (JZ hi);have first:∀ (hg:∀ i y,i+1<a->rows[i]?=some y->GoodR ns y),a<=13->SInv ns (rows.set (a - 1) z) (some a):=λhg h13=>by
  refine⟨by rw[hl];exact h.len,λy hy=>?_,(λe=>by cases e),λk e=>?_⟩
  ·rcases Y0d hy with hy | rfl
   ·exact h.any y hy
   exact .inr hz
  cases e;refine⟨h1,h13,U,λi y hi ey=>?_,.inr ⟨z,at0,hz⟩⟩;rw[ne i U] at ey;exact hg i y hi ey
 cases bad with
 | none =>
  obtain⟨hg,l12⟩:=h.non rfl;exact first (λi y _ ey=>hg y (YV ey)) U
 | some k =>
  obtain⟨k1,k2,k3,hg,hb⟩:=h.som k rfl;show SInv ns (rows.set (a - 1) z) (if a<k then some a else some k);by_cases hak:a<k
  ·rw[JD hak];exact first (λi y hi ey=>hg i y U ey) U
  rw[XQ hak];refine⟨by rw[hl];exact h.len,λy hy=>?_,(λe=>by cases e),λk' e=>?_⟩
  ·rcases Y0d hy with hy | rfl
   ·exact h.any y hy
   exact .inr hz
  cases e;refine⟨k1,k2,U,λi y hi ey=>?_,?_⟩
  ·rw[ne i U] at ey;exact hg i y hi ey
  rcases hb with hb | ⟨y,ey,hb⟩
  ·exact .inl hb
  by_cases e:a=k
  ·subst e;exact .inr ⟨z,at0,hz⟩
  exact .inr ⟨y,by rw[ne (k - 1) U];exact ey,hb⟩
theorem SInv.rows_ok {ns rows:List PySem.Str}{bad:Option Nat}(h:SInv ns rows bad)(ok:NamesOk ns):∀ z∈rowN ns::rows,10 ∉ z.cps.toList/\z.length<=2560:=λz hz=>by
 rcases YC.mp hz with rfl | hz
 ·exact Uv ok
 rcases h.any z hz with h | h
 ·exact Mp ok h
 exact Ci h
theorem SInv.full {ns rows:List PySem.Str}(hg:∀ z∈rows,GoodR ns z)(l1:13<=rows.length)(l2:rows.length<=16):SInv ns rows (some 13) :=
 ⟨l2,λz hz=>.inl (hg z hz),(λe=>by cases e),λk e=>by
  cases e;exact⟨J7,J7,l1,λi z _ ez=>hg z (YV ez),.inl rfl⟩⟩
theorem SInv.start {ns rows:List PySem.Str}(hg:∀ z∈rows,GoodR ns z)(l:rows.length<=12):SInv ns rows none :=
 ⟨U,λz hz=>.inl (hg z hz),λ_=>⟨hg,l⟩,λk e=>by cases e⟩
theorem SameX.sqL {a:Addr}{G:Hp}(X:SameX b H G)(ne:a≠b)(h:SqL K H a xs):SqL K G a xs:=by
 rcases h with (h | ⟨o,h⟩) | h
 ·exact .inl (.inl (X _ _ h ne))
 ·exact .inl (.inr ⟨o,X _ _ h ne⟩)
 exact .inr h
def badV:Option Nat->V
 | none=>.non
 | some k=>.int (k:Int)
section
variable {P:TR}{w:World}{K:TQ}{mg:TB}{base:Heap}
inductive spSpoilt (K:TQ) (vs:TV) (H:Hp) (Q:VK) (_z3:XK):Prop
 | mk (b a t:Addr) (n:Nat) (ns:List PySem.Str) (bs:TJ) (os:List Ofr) (big:PySem.Str) (zz0:vs=[.ref b,.ref a,.ref t,.str big]) (zz1:BagAt H b n) (zz2:n<=10000) (zz3:SqL K H a (ns.map V.str)) (zz4:SqL K H t (bs.map V.ref)) (zz5:Paired (λb o=>Ofr.At o K H b) bs os) (zz6:NamesOk ns) (zz7:∀ o∈os,Ofr.T o ns.length) (zz8:os.length<=12) (zz9:BigT big) (za:a≠b) (zb:t≠b) (zz10:∀ H',BagAt H' b (n+100)->SameX b H H'->Q (.bl true) H')
theorem Fx (D:Def K mg "_law_spoilt_good" fO UO)(T:BltT mg)(eL:Has P w K mg base 3 "_law_lines" UK (spLines K))(eA:Z1 P w K mg base)(eI:Z2 P w K mg base)(eC:Has P w K mg base 11 "_law_refused" UN spRefusedT true):Has P w K mg base 12 "_law_spoilt_good" UO (spSpoilt K) true:=by
 refine D.h9 (N:=["_law_bag_here","_law_names_here","_law_offers","_law_big","_law_lines_here","_law_bad","_law_k","_law_at"]) fsc λH Q hr h nd=>?_;obtain⟨b,a,t,n,ns,bs,os,big,rfl,hB,hn,hN,hO,pr,ok,ot,lo,hb,ab,tb,q⟩:=h;refine⟨_,(Z4 (Zc (i:=4) nd rfl (Or.inl rfl) (Zo eL hr (Z0 (pv 1) (Z0 (pv 2) Z3))))
  (Z4 (Zc (i:=5) nd rfl (Or.inl rfl) Zr)
  (Z4 (Zn (Zy (Zf W2 (Zo eA hr (Z0 (pv 0) (Z0 Z8 Z3))) Z8 (Zl _))
   (Z4 (Tc GQ (Zf Wv (Zg Zh rfl T.len JT (Z0 (pv 4) Z3)) (Za Ya Z8 (Zo eA hr (Z0 (pv 0) (Z0 Z8 Z3)))) (Zl _))
    (Zb (V3 (Yg GL qR qS Wc (pv 4) (Z0 (Za Z7 Z9 (Za Tn Z9 (Zg Zh rfl T.len JT (Z0 (pv 1) Z3)))) Z3)))))
   (Zb (Zc (i:=5) nd rfl (Or.inl rfl) Z8)))
   Zm))
  (Z4 (Wk GQ rfl (Yj rfl T.range (Z0 (Za Ya Z8 (Zo eA hr (Z0 (pv 0) (Z0 Z8 Z3)))) Z3)) (Zx (i:=6) nd rfl (Or.inl rfl))
   (Z4 (Zc (i:=7) nd rfl (Or.inl rfl) (Za Ya Z8 (Zo eA hr (Z0 (pv 0) (Z0 (Zg Zh rfl T.len JT (Z0 (pv 4) Z3)) Z3)))))
   (Zb (Zy (Zf Wv (pv 7) (Zg Zh rfl T.len JT (Z0 (pv 4) Z3)) (Zl _))
    (Z4 (Td (Zo eI hr (Z0 (pv 0) (Z0 (pv 1) (Z0 (pv 3) Z3)))) (Th (pv 4) (pv 7) Wu))
    (Zb (Zy (PW.pt (Yx (Zf Xu (pv 5) Zr (Zl _)) (Xf (Zf Wv (pv 7) (pv 5) (Zl _)))))
     (Zb (Zc (i:=5) nd rfl (Or.inl rfl) (pv 7)))
     Zm)))
    Zm))))
  (Zb (Zi (Z2g (Vq Xu (pv 5) Zr (Zl _)) (Ti (Yk eC (hr.mono J7) rfl (Z0 (Yg XN qh qj (V8 (K:=K)) Z9 (Z0 (pv 4) Z3)) (Z0 (pv 5) Z3))))))))))),?_⟩
 refine⟨_,rfl,_,rfl,a,t,ns,bs,os,rfl,hN,hO,pr,ok,ot,lo,λl H1 S1 fl e1=>?_⟩;have lb:l≠b:=by
  obtain⟨ys,e⟩:=hB.lst;exact (Zd e fl).symm
 have B1:=hB.same S1;have hgood:∀ z∈os.map (λo=>o.row ns),GoodR ns z:=λz hz=>by
  obtain⟨o,ho,rfl⟩:=JC.mp hz;exact⟨o,ot o ho,rfl⟩
 have n2:=ok.l1;have n12:=ok.l2;have lW:=V0 ns.length;have X1:SameX b H H1:=SameX.of S1;have hN1:∀ {G:Hp},SameX b H G->SqL K G a (ns.map V.str):=λX=>X.sqL ab hN;refine Xw ?_;refine⟨λσ' H'=>∃ (rows:List PySem.Str) (bad:Option Nat),σ'=[some (.ref b),some (.ref a),some (.ref t),some (.str big),some (.ref l),some (badV bad),none,none]/\BagAt H' b (n+20)/\SameX b H H'/\H' l=some (.lst ((rowN ns::rows).map V.str))/\SInv ns rows bad,?_,?_⟩
 ·refine⟨_,rfl,b,_,n,rfl,B1,U,J7,J9,λr H2 r0 r1 B2 S2=>⟨rfl,_,rfl,Y7 (λe=>?_) λe=>?_⟩⟩
  ·refine⟨λm σ' G=>∃ rows:List PySem.Str,m=17 - rows.length/\rows.length<=16/\σ'=[some (.ref b),some (.ref a),some (.ref t),some (.str big),some (.ref l),some .non,none,none]/\BagAt G b (n+1+rows.length)/\SameX b H G/\G l=some (.lst ((rowN ns::rows).map V.str))/\∀ z∈rows,GoodR ns z,⟨_,os.map (λo=>o.row ns),rfl,by rw[YB];omega,rfl,B2.mono U,X1.trans S2,S2 _ _ e1 lb,hgood⟩,?_⟩;rintro m σ' G ⟨rows,rfl,lr,rfl,BG,XG,eG,hg⟩;refine⟨_,rfl,l,_,rfl,.inl (SqL.of eG),_,rfl,b,_,n+1+rows.length,rfl,BG,U,J7,J9,λr3 G3 r30 r31 BG3 SG3=>⟨_,_,rfl,rfl,_,_,rfl,rfl,_,rfl,?_⟩⟩;have eG3:=SG3 _ _ eG lb;have XG3:=XG.trans SG3;have ll:((rowN ns::rows).map V.str).length=rows.length+1:=by rw[YB,YR]
   refine Y7 (λhc=>?_) λhc=>?_
   ·have hc:=XR hc;rw[ll] at hc;refine⟨λσ' G'=>∃ rows':List PySem.Str,rows'.length=rows.length+1/\σ'=[some (.ref b),some (.ref a),some (.ref t),some (.str big),some (.ref l),some .non,none,none]/\BagAt G' b (n+1+rows'.length)/\SameX b H G'/\G' l=some (.lst ((rowN ns::rows').map V.str))/\∀ z∈rows',GoodR ns z,?_,?_⟩
    ·rintro σ' G' ⟨rows',l',rfl,a1,a2,a3,a4⟩;exact⟨17 - rows'.length,U,rows',rfl,U,rfl,a1,a2,a3,a4⟩
    refine⟨_,rfl,.inl ⟨rfl,_,SqL.of eG3⟩,_,rfl,a,_,rfl,.inl (hN1 XG3),_,_,rfl,rfl,by rw[YB];omega,by rw[YB];omega,J7,J7,_,_,rfl,rfl,?_,l,_,_,rfl,rfl,eG3,by rw[ll,YX];omega,?_⟩
    ·rw[YB,YX];show 5+(wor ns.length).length<=_;omega
    rw[YB];refine⟨rows++[good ns.length],by rw[XF];rfl,rfl,?_,?_,?_,λz hz=>?_⟩
    ·exact (BG3.upd (JZ lb)).mono (by rw[XF];show _<=n+1+(rows.length+1);omega)
    ·exact λp o e ne=>by rw[Zj (Zd e fl)];exact XG3 p o e ne
    ·rw[Z5,<-YS,XA];rfl
    rcases YN.mp hz with hz | hz
    ·exact hg z hz
    rw[JA.mp hz];exact Ge
   have hc:=GT hc;rw[ll] at hc;exact⟨rows,some 13,rfl,BG3.mono U,XG3,eG3,SInv.full hg U lr⟩
  exact⟨os.map (λo=>o.row ns),none,rfl,B2.mono U,X1.trans S2,S2 _ _ e1 lb,SInv.start hgood (by rw[YB];exact lo)⟩
 rintro _ H2 ⟨rows,bad,rfl,B2,X2,e2,inv⟩;refine⟨_,rfl,b,_,n+20,rfl,B2,U,J7,J9,λr H3 r0 r1 B3 S3=>⟨_,_,rfl,rfl,1+r,rfl,U,U,?_⟩⟩;have lcnt:(1+r).toNat<=2:=U
 generalize (1+r).toNat=cnt at lcnt;refine Ub (lo:=0) (n:=cnt) (λi σ' H'=>∃ (rows:List PySem.Str) (bad:Option Nat) (x6 x7:Option V),σ'=[some (.ref b),some (.ref a),some (.ref t),some (.str big),some (.ref l),some (badV bad),x6,x7]/\BagAt H' b (n+21+4*i)/\SameX b H H'/\H' l=some (.lst ((rowN ns::rows).map V.str))/\SInv ns rows bad) ⟨rows,bad,none,none,rfl,B3,X2.trans S3,S3 _ _ e2 lb,inv⟩ ?_ ?_
 ·rintro i σ' G hi ⟨rows,bad,x6,x7,rfl,BG,XG,eG,inv⟩;refine Xw ?_;dsimp only;have ll:((rowN ns::rows).map V.str).length=rows.length+1:=by rw[YB,YR]
  have lr:=inv.len;refine⟨_,rfl,_,rfl,l,_,rfl,.inl (SqL.of eG),b,_,n+21+4*i,rfl,BG,U,by rw[ll];omega,Kb (by rw[ll];omega),λr G3 r0 r1 BG3 SG3=>⟨_,_,rfl,rfl,?_⟩⟩;rw[ll] at r1;obtain⟨k,rfl⟩:=JB r0;have ek:(1:Int)+(k:Int)=((1+k:Nat):Int):=U
  rw[ek];have eG3:=SG3 _ _ eG lb;have XG3:=XG.trans SG3;refine⟨_,rfl,_,rfl,l,_,rfl,.inl (SqL.of eG3),_,_,rfl,rfl,_,rfl,Y7 (λhc=>?_) λhc=>?_⟩
  ·have hc:=XR hc;rw[ll] at hc;refine⟨_,rfl,_,rfl,_,rfl,b,a,_,ns,big,rfl,BG3,U,hN1 XG3,ok,hb,λz G4 B4 S4 hz=>?_⟩;have eG4:=S4 _ _ eG3 lb;have XG4:=XG3.trans S4;refine⟨_,rfl,_,rfl,l,_,_,1+k,rfl,rfl,eG4,Dj U (by rw[ll];omega),?_⟩;have es:((rowN ns::rows).map V.str).set (1+k) (.str z)=(rowN ns::rows.set k z).map V.str:=by
    rw[Y1p,YT,List.set_cons_succ,YT,List.map_set]
   have B5:=B4.upd (o:=.lst ((rowN ns::rows.set k z).map V.str)) (JZ lb);have e5:upd G4 l (.lst ((rowN ns::rows.set k z).map V.str)) l=some (.lst ((rowN ns::rows.set k z).map V.str)):=Z5;have X5:SameX b H (upd G4 l (.lst ((rowN ns::rows.set k z).map V.str))):=λp o e ne=>by rw[Zj (Zd e fl)];exact XG4 p o e ne
   have inv5:=inv.put hz (a:=1+k) U U;rw[show 1+k - 1=k by omega] at inv5;rw[es];generalize upd G4 l (.lst ((rowN ns::rows.set k z).map V.str))=G5 at B5 e5 X5
   cases bad with
   | none =>
    refine⟨_,rfl,rfl,_,rfl,Y7 (λ_=>?_) λe=>absurd e (by simp[badV])⟩;exact⟨_,rfl,rows.set k z,some (1+k),_,_,rfl,B5.mono U,X5,e5,inv5⟩
   | some j =>
    refine⟨_,rfl,rfl,_,rfl,Y7 (λe=>absurd e (by simp[badV])) λ_=>?_⟩;refine⟨_,rfl,_,rfl,_,_,rfl,rfl,_,rfl,Y7 (λe=>?_) λe=>?_⟩
    ·have e:=XR e;have e':1+k<j:=U
     have inv5:SInv ns (rows.set k z) (if 1+k<j then some (1+k) else some j):=inv5;rw[JD e'] at inv5;exact⟨_,rfl,rows.set k z,some (1+k),_,_,rfl,B5.mono U,X5,e5,inv5⟩
    have e:=GT e;have e':¬ 1+k<j:=U
    have inv5:SInv ns (rows.set k z) (if 1+k<j then some (1+k) else some j):=inv5;rw[XQ e'] at inv5;exact⟨rows.set k z,some j,_,_,rfl,B5.mono U,X5,e5,inv5⟩
  exact⟨rows,bad,_,_,rfl,BG3.mono U,XG3,eG3,inv⟩
 rintro σ' G ⟨rows,bad,x6,x7,rfl,BG,XG,eG,inv⟩;have BGE:=BG.mono (show n+21+4*cnt<=n+100 by omega)
 cases bad with
 | none =>
  refine⟨_,rfl,rfl,_,rfl,Y7 (λ_=>?_) λe=>absurd e (by simp[badV])⟩;exact q G BGE XG
 | some k =>
  refine⟨_,rfl,rfl,_,rfl,Y7 (λe=>absurd e (by simp[badV])) λ_=>?_⟩;have lr:=inv.len;obtain⟨t1,t2,t3⟩:=V1 (zs:=rowN ns::rows) J8 (by rw[YR];omega) (inv.rows_ok ok);refine⟨rfl,_,rfl,_,l,rowN ns::rows,rfl,rfl,SqL.of eG,t3,?_⟩;rw[Va,show Str.join (Str.ofString "\n") (rowN ns::rows)=Str.join ⟨#[10]⟩ (rowN ns::rows) from rfl];refine⟨_,rfl,_,k,rfl,t2,by rw[t1];exact inv.bad_at ok,λH' S'=>?_⟩;exact q H' (BGE.same S') (XG.trans (SameX.of S'))
end
section
variable {X:Cx}{K:TQ}
theorem Z1l (hu:X.A.units+64<cLine)(hK:X.K=K:=by rfl):OpR X (compareOp .Eq) (rAlike K true):=by
 subst hK;intro pins s σ H x y v u Q I rx ry h;obtain⟨n,a,b,xs,ys,rfl,rfl,hn,h,p,q⟩:=h
 cases rx
 cases ry;have lp:=qO p;rcases h with ⟨h1,h2⟩ | ⟨h1,h2⟩
 ·obtain⟨i1,r1,p1,_⟩:=I.list h1;obtain⟨i2,r2,p2,_⟩:=I.list h2;have l1:=r1.length;have l2:=r2.length;refine SeqAt.RcAt.lists (A:=X.A) (e:=λ_=>true) p1.isList p2.isList (by simp;omega) U (λj h1 h2=>Up I (by show X.A.units+1+n<cLine;omega) p r1 r2 j h1 h2) _ _ _ _ ?_;rw[U2];exact⟨.bl true,H,I,rfl,q⟩
 obtain⟨i1,r1,p1,_⟩:=I.tuple h1;obtain⟨i2,r2,p2,_⟩:=I.tuple h2;have l1:=r1.length;have l2:=r2.length;refine Y0i (A:=X.A) (e:=λ_=>true) p1 p2 U (λj h1 h2=>Up I (by show X.A.units+1+n<cLine;omega) p r1 r2 j h1 h2) _ _ _ _ ?_;have e:(i1.toArray.size == i2.toArray.size)=true:=by simp;omega
 rw[U2,e];exact⟨.bl true,H,I,rfl,q⟩
end
section
variable {K:TQ}
theorem Pp {H:Hp}:∀ {rs:TW} {xs ys:TV},Rs K H rs xs->Rs K H rs ys->Paired (EqU K H 1) xs ys
 | _,_,_,.nil,.nil=>.nil
 | _,_,_,.cons ⟨a,ea,qa⟩ r,.cons ⟨b,eb,qb⟩ t=>.cons (.inr ⟨a,b,_,_,ea,eb,.inr ⟨qa,qb⟩,.cons ⟨rfl,rfl⟩ (.cons ⟨rfl,rfl⟩ .nil)⟩) (Pp r t)
theorem N1 {H:Hp}{o:Option Rat}{v v':V}(h:PrAt K H v o)(h':PrAt K H v' o):EqU K H 2 v v':=by
 cases o with
 | none =>
  have h:v=.non:=h;have h':v'=.non:=h';subst h h';exact EqU.flat rfl
 | some r =>
  obtain⟨c,rfl,q⟩:=h;obtain⟨c',rfl,q'⟩:=h';exact .inr ⟨c,c',_,_,rfl,rfl,.inr ⟨q,q'⟩,.cons (EqU.flat rfl) (.cons (EqU.flat rfl) .nil)⟩
theorem C0 {H:Hp}{o:Option (List Nat)}{v v':V}(h:EvT K H v o)(h':EvT K H v' o):EqU K H 2 v v':=by
 cases o with
 | none =>
  have h:v=.non:=h;have h':v'=.non:=h';subst h h';exact EqU.flat rfl
 | some r =>
  obtain⟨c,rfl,q⟩:=h;obtain⟨c',rfl,q'⟩:=h';exact .inr ⟨c,c',_,_,rfl,rfl,.inr ⟨q,q'⟩,Sk λx hx=>by
   obtain⟨n,_,rfl⟩:=JC.mp hx;rfl⟩
theorem Jq {o:Ofr}{a:Addr}(h:Ofr.At o K H a)(h':Ofr.At o K H b):∃ xs ys,SqT K H a xs/\SqT K H b ys/\Paired (EqU K H 2) xs ys:=by
 obtain⟨_,r,va,vb,ve,e0,hc,⟨xs,sx,rx⟩,ha,hb,he⟩:=h
 cases e0;obtain⟨_,r',va',vb',ve',e0,hc',⟨ys,sy,ry⟩,ha',hb',he'⟩:=h'
 cases e0;exact⟨_,_,hc,hc',.cons (.inr ⟨_,_,_,_,rfl,rfl,.inr ⟨sx,sy⟩,Pp rx ry⟩) (.cons (N1 ha ha') (.cons (N1 hb hb') (.cons (C0 he he') .nil)))⟩
end
theorem Fj {ns:List PySem.Str}{os:List Ofr}(ok:NamesOk ns)(hT:∀ o∈os,Ofr.T o ns.length):∀ z∈rowN ns::os.map (λo=>o.row ns),z.length<=2560:=by
 intro z hz;rcases YC.mp hz with rfl | hz
 ·have lj:=Yd (c:=32) (m:=8) (ws:=Str.ofString "worlds"::ns) λz hz=>by
   rcases YC.mp hz with rfl | hz
   ·decide
   exact (ok.ok z hz).l2
  rw[YR] at lj;have:=ok.l2;show (Str.join ⟨#[32]⟩ (Str.ofString "worlds"::ns)).length<=_;omega
 obtain⟨o,ho,rfl⟩:=JC.mp hz;have ow:=Xr ok (hT o ho);have ol:=Ww ok (hT o ho);have lj:=Yd (c:=32) (m:=63) (ws:=offW ns o.rs o.oa o.ob o.ev) λz hz=>(ow z hz).2;have lj2:(offW ns o.rs o.oa o.ob o.ev).length*(63+1)<=40*64:=GB _ ol;show (Str.join ⟨#[32]⟩ (offW ns o.rs o.oa o.ob o.ev)).length<=_;omega
theorem Mi {n:Nat}(ws:List PySem.Str):Paired (EqU K H n) (ws.map V.str) (ws.map V.str):=Sk λx hx=>by
 obtain⟨z,_,rfl⟩:=JC.mp hx;rfl
theorem Tq {K:TQ}{H:Hp}:∀ {os:List Ofr} {as bs:TJ},Paired (λb o=>Ofr.At o K H b) as os->Paired (λb o=>Ofr.At o K H b) bs os->Paired (EqU K H 3) (as.map V.ref) (bs.map V.ref)
 | _,_,_,.nil,.nil=>.nil
 | _,_,_,.cons h r,.cons h' t=>by
  obtain⟨xs,ys,q,q',p⟩:=Jq h h';exact .cons (.inr ⟨_,_,xs,ys,rfl,rfl,.inr ⟨q,q'⟩,p⟩) (Tq r t)
theorem Nj:LandsD X (λ_ _ _ _=>False):=by
 intro pins σ H s e s' I hx;obtain⟨a,cls,dd,H',B,rfl,os,bare,fl,un,hok,hB,q⟩:=hx;exact q.elim
theorem Z28 {r:Int}(h0:0<=r)(h1:r<10 ^ 29):BigT (numS (2+r)):=by
 obtain⟨m,rfl⟩:=JB h0;have e:(2:Int)+(m:Int)=((2+m:Nat):Int):=U
 rw[e];have hm:2+m<10 ^ 30:=by
  have:(10:Int) ^ 29=100000000000000000000000000000:=J9
  have:(10:Nat) ^ 30=1000000000000000000000000000000:=J9
  omega
 refine⟨λc hc=>?_,?_,?_⟩
 ·rw[Yp] at hc;exact Xb _ c hc
 ·rw[Ze,Yp];exact qU.mpr (Wo _)
 rw[Ze,Yp];exact Wg J7 hm
theorem p29:(10:Int) ^ (29:Int).toNat=100000000000000000000000000000:=by decide +kernel
section
variable {P:TR}{w:World}{K:TQ}{mg:TB}{base:Heap}
inductive spLaw (K:TQ) (vs:TV) (H:Hp) (Q:VK) (_z3:XK):Prop
 | mk (a:Addr) (ns:TU) (zz0:vs=[.ref a]) (zz1:SqL K H a (ns.map V.int)) (zz2:∀ H',Q (.bl true) H')
theorem Z0m:FnScope ["_law_script","_law_bag_here","_law_count","_law_names_here","_law_offers","_law_big","_law_lines_here","_law_k","_law_head","_law_word"] ["_law_script"] (defScope gR):=fsc
theorem Z2i {f C:Addr}{fd:FuncData}(F:Fun K "law" "law" gR f fd)(T:BltT mg)(fF:Has P w K mg base 1 "_law_cell" TY (spCell K))(fH:Has P w K mg base 1 "_law_bag" UA spBag)(eA:Z1 P w K mg base)(fC:Has P w K mg base 3 "_law_names" UH spNames)(eS:Has P w K mg base 4 "_law_any_offer" UH (spAnyOffer K))(eL:Has P w K mg base 3 "_law_lines" UK (spLines K))(eM:Has P w K mg base 12 "_law_spoilt_good" UO (spSpoilt K) true)(eC:Has P w K mg base 11 "_law_refused" UN spRefusedT true)(eI:Z2 P w K mg base)(eR:Has P w K mg base 1 "_law_bad_heads" ["_law_names_here"] (spBadHeads K))(eH:Has P w K mg base 1 "_law_bad_words" ["_law_big"] spBadWords)(eJ:Has P w K mg base 4 "read_ratio" UC spReadRG)(fD:HasD P w K mg base 9 "read" UC (spReadX K C)) :
  FnOk P w K mg base CX0 13 f fd ["_law_script"] (spLaw K) true:=by
 refine F.ok Z0m (λvs H Q E h=>?_) (λcdv A outer s H vs Q E hr h=>?_)
 ·obtain⟨a,ns,rfl,_⟩:=h;rfl
 obtain⟨a,ns,rfl,hS,k⟩:=h;have sc:=Z0m;have hU64:=hr.units;have nd1:(["_law_k","_law_bag_here","_law_count"]:List Str).Nodup:=J9
 refine⟨_,(Z4 (Zc (i:=1) sc.nd rfl (Or.inr rfl) (Zo fH hr (Z0 (Zo fF hr (Z0 (pv 0) (Z0 Z8 Z3))) Z3)))
  (Z4 (Zc (i:=2) sc.nd rfl (Or.inr rfl) (Za Ya Z8 (Zo eA hr (Z0 (pv 1) (Z0 Z8 Z3)))))
  (Z4 (Zn (Zc (i:=3) sc.nd rfl (Or.inl rfl) (Zo fC hr (Z0 (pv 1) (Z0 (pv 2) Z3)))))
  (Z4 (Zn (Qh (i:=4) (ox:=none) (N:=["_law_k","_law_bag_here","_law_count"]) (k:=1) (fv:=[1,2]) sc.nd rfl (Or.inl rfl) rfl (Yj rfl T.range (Z0 (Zo eA hr (Z0 (pv 1) (Z0 Z8 Z3))) Z3))
  (λ_ _ _ _ _=>Zx (i:=0) nd1 rfl (Or.inl rfl)) (λ_ _ _ _ _=>Yy) (λ_ _ _ _ _=>(Zo eS hr (Z0 (pv 1) (Z0 (pv 2) Z3)))) Y6))
  (Z4 (Zn (Zc (i:=5) sc.nd rfl (Or.inl rfl) (Y1 Xc rfl T.str qF (Z0 (Za Ya Z8 (Zo eA hr (Z0 (pv 1) (Z0 (Za To Z8 Z8) Z3)))) Z3))))
  (Z4 (Zn (Zc (i:=6) sc.nd rfl (Or.inl rfl) (Zo eL hr (Z0 (pv 3) (Z0 (pv 4) Z3)))))
  (Z4 (Zy (Xg (Yr (Yk eM (hr.mono J7) rfl (Z0 (pv 1) (Z0 (pv 3) (Z0 (pv 4) (Z0 (pv 5) Z3)))))))
   (Zb (Zi Tj))
   Zm)
  (Z4 (Wk GQ rfl (Yj rfl T.range (Z0 Z8 Z3)) (Zx (i:=7) sc.nd rfl (Or.inl rfl))
   (Zb (Zy (Xg (Yr (Yk eC (hr.mono J7) rfl (Z0 (Za Z7 (Za Z7 (Zq Y5 (pv 6) Z8 (λ_ _=>rfl)) Z9) (Zo eI hr (Z0 (pv 1) (Z0 (pv 3) (Z0 (pv 5) Z3))))) (Z0 Z8 Z3)))))
    (Zb (Zi Tj))
    Zm)))
  (Z4 (Wk GQ rfl (Wl (Zo eR hr (Z0 (pv 3) Z3))) (Zx (i:=8) sc.nd rfl (Or.inl rfl))
   (Zb (Zy (PW.pt (Yx (Xg (Yr (Yk eC (hr.mono J7) rfl (Z0 (pv 8) (Z0 Z8 Z3))))) (Xf (Xg (Yr (Yk eC (hr.mono J7) rfl (Z0 (Yg XN qh qj (V8 (K:=K)) Z9 (Z0 (Za Ym (Y3 (Z0 (pv 8) Z3)) (Zz Yw (pv 6) (Zw Z8) Y0)) Z3)) (Z0 Z8 Z3))))))))
    (Zb (Zi Tj))
    Zm)))
  (Z4 (Zy (Xg (Yr (Yk eC (hr.mono J7) rfl (Z0 (Yg XN qh qj (V8 (K:=K)) Z9 (Z0 (Za Ym (pv 6) (Y3 (Z0 Z9 Z3))) Z3)) (Z0 (Zg Zh rfl T.len JT (Z0 (pv 6) Z3)) Z3)))))
   (Zb (Zi Tj))
   Zm)
  (Z4 (Wk GQ rfl (Wl (Zo eH hr (Z0 (pv 5) Z3))) (Zx (i:=9) sc.nd rfl (Or.inl rfl))
   (Zb (Zy (Zf Uu (Zo eJ hr (Z0 (pv 9) Z3)) Zr (Zl _))
    (Zb (Zi Tj))
    Zm)))
  (Zb (Zi (Vq (Z1l (K:=K) hU64) (Qk fD (hr.mono J7) rfl Nj (Z0 (Yg XN qh qj (V8 (K:=K)) Z9 (Z0 (pv 6) Z3)) Z3)) (Xt (Z0 (pv 3) (Z0 (pv 4) Z3))) (Zl _))))))))))))))),?_⟩
 refine⟨_,rfl,a,_,ns,rfl,hS,J7,J7,λz=>?_⟩;refine⟨_,rfl,λb H1 fb S1 B1=>?_⟩;refine⟨_,rfl,b,_,1,rfl,B1,U,J7,J9,λm H2 m0 m1 B2 S2=>⟨_,_,rfl,rfl,?_⟩⟩;obtain⟨m,rfl⟩:=JB m0;have ec:(2:Int)+(m:Int)=((2+m:Nat):Int):=U
 have hc1:2<=2+m:=U
 have hc2:2+m<=12:=U
 refine Xw ?_;rw[ec];generalize 2+m=c at hc1 hc2;have nb:∀ {G:Hp} {n:Nat} {x:Addr},BagAt G b n->G x=none->x≠b:=λh e=>by
  obtain⟨ys,e'⟩:=h.lst;exact (Zd e' e).symm
 refine⟨λσ' H'=>∃ (l:Addr) (nms:List PySem.Str),σ'=[some (.ref a),some (.ref b),some (.int (c:Int)),some (.ref l),none,none,none,none,none,none]/\BagAt H' b 14/\H' l=some (.lst (nms.map V.str))/\l≠b/\NamesOk nms/\nms.length=c,?_,?_⟩
 ·exact⟨_,rfl,_,rfl,b,c,2,rfl,B2,J7,hc1,hc2,λl H3 nms B3 S3 e3 f3 ok3 l3=>⟨l,nms,rfl,B3,e3,nb B2 f3,ok3,l3⟩⟩
 rintro _ H3 ⟨l,nms,rfl,B3,e3,lb,ok,ln⟩;refine⟨λσ' H'=>∃ (t:Addr) (bs:TJ) (os:List Ofr),σ'=[some (.ref a),some (.ref b),some (.int (c:Int)),some (.ref l),some (.ref t),none,none,none,none,none]/\BagAt H' b 1300/\H' l=some (.lst (nms.map V.str))/\H' t=some (.lst (bs.map V.ref))/\t≠b/\Paired (λb o=>Ofr.At o K H' b) bs os/\(∀ o∈os,Ofr.T o nms.length)/\os.length<=12,?_,?_⟩
 ·refine⟨_,rfl,b,_,14,rfl,B3,U,J7,J9,λm2 H4 m20 m21 B4 S4=>?_⟩;obtain⟨m2,rfl⟩:=JB m20;refine⟨(m2:Int),rfl,U,U,λd hd=>?_⟩;have hdb:=nb B4 hd;rw[show (m2:Int).toNat=m2 by omega];refine⟨m2,λi ys G=>∃ (bs:TJ) (os:List Ofr),ys=bs.map V.ref/\os.length=i/\Paired (λb o=>Ofr.At o K G b) bs os/\(∀ o∈os,Ofr.T o nms.length)/\BagAt G b (15+100*i)/\SameX b H4 G,W9 U,?_,?_,?_⟩
  ·exact⟨[],[],rfl,rfl,.nil,(λ_ h=>nomatch h),B4.upd (JZ hdb),SameX.of (Same.new hd)⟩
  ·rintro i ys G hi ⟨bs,os,rfl,lo,pr,ot,BG,SG⟩ hdG;refine⟨hi,?_⟩;rintro x G2 ⟨rfl,rfl⟩;refine W3 ?_;refine⟨_,rfl,_,rfl,b,c,15+100*i,rfl,BG,U,hc1,hc2,λo1 G3 o B3' S3' oa oT=>?_⟩;have hd3:G3 d=some (.lst (bs.map V.ref)):=S3' _ _ hdG hdb;have E1:=Ext.bag S3' BG;have E2:Ext G3 (upd G3 d (.lst (bs.map V.ref++[.ref o1]))):=Ext.upd hd3;refine⟨hd3,bs++[o1],os++[o],by rw[XA];rfl,by rw[XF,lo];rfl,?_,λo' ho'=>?_,(B3'.upd (JZ hdb)).mono U,λq v e ne=>?_⟩
   ·exact Paired.appP (Paired.mapP pr λb o h=>h.ext (E1.trans E2)) (.cons (OffAt.ext oa E2) .nil)
   ·rcases YN.mp ho' with h | h
    ·exact ot o' h
    rw[JA.mp h,ln];exact oT
   have e2:=S3' q v (SG q v e ne) ne;rw[Zj (Zd e hd)];exact e2
  rintro ys G ⟨bs,os,rfl,lo,pr,ot,BG,SG⟩ hdG;exact⟨YO _,d,bs,os,rfl,BG.mono U,SG _ _ (S4 _ _ e3 lb) lb,hdG,hdb,pr,ot,U⟩
 rintro _ H4 ⟨t,bs,os,rfl,B4,e4,t4,tb,pr4,ot,lo⟩;have st:∀ (v5 v6 v7 v8 v9:Option V),True:=λ_ _ _ _ _=>trivial;refine⟨λσ' H'=>∃ big:PySem.Str,σ'=[some (.ref a),some (.ref b),some (.int (c:Int)),some (.ref l),some (.ref t),some (.str big),none,none,none,none]/\BagAt H' b 1301/\SameX b H4 H'/\BigT big,?_,?_⟩
 ·refine⟨_,rfl,_,_,rfl,rfl,Cb J7 J7,b,_,1300,rfl,B4,U,by rw[p29];decide,by rw[p29];decide +kernel,λr H5 r0 r1 B5 S5=>⟨_,_,rfl,rfl,_,rfl,?_,?_⟩⟩
  ·rw[p29] at r1;have e70:(2+r).natAbs<10 ^ 70:=qK (show (2+r).natAbs<10 ^ 30 by rw[show (10:Nat) ^ 30=1000000000000000000000000000000 by decide +kernel];omega) J9;exact Ul e70
  rw[p29] at r1;exact⟨numS (2+r),rfl,B5,S5,Z28 r0 (by rw[show (10:Int) ^ 29=100000000000000000000000000000 by decide +kernel];exact r1)⟩
 rintro _ H5 ⟨big,rfl,B5,S5,hb⟩;have e5:=S5 _ _ e4 lb;have t5:=S5 _ _ t4 tb;have X5:=Ext.bag S5 B4;have pr5:=Paired.mapP pr4 λb o h=>OffAt.ext h X5;have wl:=Fj ok ot;refine⟨λσ' H'=>∃ x:Addr,σ'=[some (.ref a),some (.ref b),some (.int (c:Int)),some (.ref l),some (.ref t),some (.str big),some (.ref x),none,none,none]/\Same H5 H'/\H' x=some (.lst ((rowN nms::os.map λo=>o.row nms).map V.str))/\x≠b,?_,?_⟩
 ·exact⟨_,rfl,_,rfl,l,t,nms,bs,os,rfl,SqL.of e5,SqL.of t5,pr5,ok,ot,lo,λx H6 S6 fx ex=>⟨x,rfl,S6,ex,nb B5 fx⟩⟩
 rintro _ H6 ⟨x,rfl,S6,ex,xb⟩;have e6:=S6 _ _ e5;have t6:=S6 _ _ t5;have B6:=B5.same S6;have pr6:=Paired.mapP pr5 λb o h=>OffAt.ext h (Ext.same S6);refine⟨_,rfl,_,rfl,_,rfl,_,rfl,b,l,t,1301,nms,bs,os,big,rfl,B6,J7,SqL.of e6,SqL.of t6,pr6,ok,ot,lo,hb,lb,tb,λH7 B7 S7=>⟨_,rfl,Yb ?_⟩⟩;have e7:=S7 _ _ e6 lb;have t7:=S7 _ _ t6 tb;have x7:=S7 _ _ ex xb;have pr7:=Paired.mapP pr6 λb o h=>OffAt.ext h (Ext.bag S7 B6);have hgood:∀ z∈os.map (λo=>o.row nms),GoodR nms z:=λz hz=>by
  obtain⟨o,ho,rfl⟩:=JC.mp hz;exact⟨o,ot o ho,rfl⟩
 have hok10:∀ z∈rowN nms::os.map (λo=>o.row nms),10 ∉ z.cps.toList/\z.length<=2560:=λz hz=>by
  rcases YC.mp hz with rfl | hz
  ·exact Uv ok
  exact Mp ok (hgood z hz)
 clear S7 S6 S5 B6 B5 B4 pr6 pr5 pr4 X5;refine⟨(6:Int),rfl,J7,J7,?_⟩;refine Ub (lo:=0) (n:=6) (λi σ' H'=>∃ v7:Option V,σ'=[some (.ref a),some (.ref b),some (.int (c:Int)),some (.ref l),some (.ref t),some (.str big),some (.ref x),v7,none,none]/\BagAt H' b (1401+2*i)/\SameX b H7 H') ⟨none,rfl,B7,SameX.of (Same.refl _)⟩ ?_ ?_
 ·rintro i σ' G hi ⟨v7,rfl,BG,SG⟩;refine Xw ?_;dsimp only;have xG:=SG _ _ x7 xb;have lr:=Uv ok;refine⟨_,rfl,x,_,0,.str (rowN nms),rfl,rfl,SqL.of xG,by exact Xx,_,_,rfl,rfl,by rw[YX];show (rowN nms).length+1<=_;omega,?_⟩;refine⟨_,rfl,_,rfl,_,rfl,b,l,_,nms,big,rfl,BG,U,SqL.of (SG _ _ e7 lb),ok,hb,λz G2 B2 S2 hz=>?_⟩;have lz:=hz.ln;refine⟨_,_,rfl,rfl,by rw[YF,YX];show (rowN nms).length+1+_<=_;omega,?_⟩;obtain⟨t1,t2,_⟩:=V1 (zs:=[rowN nms,z]) J8 (by show 2<=20;decide) (λy hy=>by
   rcases YC.mp hy with rfl | hy
   ·exact lr
   rw[JA.mp hy];exact Ci hz)
  have ej:rowN nms++Str.ofString "\n"++z=Str.join ⟨#[10]⟩ [rowN nms,z]:=rfl;rw[ej];refine⟨_,1,rfl,t2,by rw[t1];exact BadAt.row nms [] z [] ok (λ_ h=>nomatch h) J7 hz.cl.asc hz.ln hz.bad,λG3 S3=>⟨_,rfl,Yb ?_⟩⟩;exact⟨_,rfl,(B2.same S3).mono U,(SG.trans S2).trans (SameX.of S3)⟩
 rintro σ' G ⟨v7,rfl,BG,SG⟩;have eG:=SG _ _ e7 lb;have tG:=SG _ _ t7 tb;have xG:=SG _ _ x7 xb;have prG:=Paired.mapP pr7 λb o h=>OffAt.ext h (Ext.bag SG B7);clear pr7 SG B7 BG e7 t7 x7;refine⟨_,rfl,l,nms,rfl,SqL.of eG,ok,λlh G2 ls S2 fh eh l19 hh=>⟨lh,rfl,⟨_,SqL.of eh⟩,?_⟩⟩;have S2':=S2;refine Uc (xs:=ls.map V.str) (λi σ' H'=>∃ v8:Option V,σ'=[some (.ref a),some (.ref b),some (.int (c:Int)),some (.ref l),some (.ref t),some (.str big),some (.ref x),v7,v8,none]/\Same G2 H') ⟨none,rfl,Same.refl _⟩ ?_ ?_ ?_
 ·rintro i σ' G3 _ ⟨v8,rfl,S3⟩;exact SqL.of (S3 _ _ eh)
 ·rintro i y σ' G3 ey ⟨v8,rfl,S3⟩;rw[YQ] at ey
  cases eh':ls[i]? with
  | none=>rw[eh'] at ey;cases ey
  | some z =>
   rw[eh'] at ey
   cases ey;have hz:=hh z (YV eh');have lz:=hz.ln;have z10:10 ∉ z.cps.toList/\z.length<=2560:=⟨λq=>(hz.cl 10 q).2 rfl,U⟩;refine Xw ?_;dsimp only;obtain⟨t1,t2,_⟩:=V1 (zs:=[z]) J8 (by show 1<=20;decide) (λy hy=>by rw[JA.mp hy];exact z10);have t1:wordsOf 10 z=[z]:=t1;refine⟨_,rfl,z,0,rfl,U,by rw[t1];exact BadAt.head z [] hz.cl.asc U hz.bad,λG4 S4=>⟨_,rfl,Yb ?_⟩⟩;have S34:=S3.trans S4;have x4:=S34 _ _ (S2 _ _ xG);refine⟨rfl,_,rfl,by show 1<=sizeLine;decide,λq1 f1=>?_⟩;refine⟨_,rfl,_,rfl,Y4 ⟨x,_,rfl,SqL.of (Same.new f1 _ _ x4),λq2 f2=>?_⟩⟩;have c1:cutV ((rowN nms::os.map λo=>o.row nms).map V.str) (some 1) none=(os.map λo=>o.row nms).map V.str:=by
    rw[show (1:Int)=((1:Nat):Int) from rfl,Vj J8];rfl
   rw[c1];refine⟨q1,q2,_,_,rfl,rfl,Same.new f2 _ _ Z5,Z5,by rw[YB,YB,YX];show 1+_<=_;omega,λq3 f3=>?_⟩;obtain⟨u1,u2,u3⟩:=V1 (zs:=z::os.map λo=>o.row nms) J8 (by rw[YR,YB];omega) (λy hy=>by
    rcases YC.mp hy with rfl | hy
    ·exact z10
    exact hok10 y (YG _ hy))
   refine⟨_,q3,z::os.map (λo:Ofr=>o.row nms),rfl,rfl,SqL.of Z5,u3,?_⟩;rw[Va,show Str.join (Str.ofString "\n") (z::os.map λo=>o.row nms)=Str.join ⟨#[10]⟩ (z::os.map λo=>o.row nms) from rfl];refine⟨_,0,rfl,u2,by rw[u1];exact BadAt.head z _ hz.cl.asc U hz.bad,λG5 S5=>⟨_,rfl,Yb ?_⟩⟩;exact⟨_,rfl,S34.trans ((Same.new f1).trans ((Same.new f2).trans ((Same.new f3).trans S5)))⟩
 rintro σ' G3 ⟨v8,rfl,S3⟩;have S23:=S2.trans S3;have e3:=S23 _ _ eG;have t3:=S23 _ _ tG;have x3:=S23 _ _ xG;have pr3:=Paired.mapP prG λb o h=>OffAt.ext h (Ext.same S23);clear prG eG tG xG S2' S23 S3 S2 eh;refine⟨rfl,_,rfl,by show 1<=sizeLine;decide,λq1 f1=>?_⟩;have ll:((rowN nms::os.map λo=>o.row nms).map V.str).length=os.length+1:=by rw[YB,YR,YB]
 refine⟨x,q1,_,_,rfl,rfl,Same.new f1 _ _ x3,Z5,by rw[ll,YX];show _+1<=_;omega,λq2 f2=>?_⟩;obtain⟨u1,u2,u3⟩:=V1 (zs:=rowN nms::(os.map (λo=>o.row nms)++[Str.empty])) J8 (by rw[YR,XF,YB];show _+1+1<=20;omega) (λy hy=>by
  rcases YC.mp hy with rfl | hy
  ·exact Uv ok
  rcases YN.mp hy with hy | hy
  ·exact Mp ok (hgood y hy)
  rw[JA.mp hy];exact⟨J7,J7⟩)
 refine⟨_,q2,rowN nms::(os.map (λo=>o.row nms)++[Str.empty]),rfl,rfl,SqL.of (by rw[Z5,<-YS,XA];rfl),u3,?_⟩;rw[Va,show Str.join (Str.ofString "\n") (rowN nms::(os.map (λo=>o.row nms)++[Str.empty]))=Str.join ⟨#[10]⟩ (rowN nms::(os.map (λo=>o.row nms)++[Str.empty])) from rfl];have be:BadRow nms Str.empty:=Y2 ok (w0:=Str.empty) (ws:=[]) ⟨(YM _).symm,J7,λv hv=>by cases hv⟩ YI;have ba:BadAt (rowN nms::(os.map (λo=>o.row nms)++[Str.empty])) (os.length+1):=by
  by_cases h12:os.length=12
  ·have:=BadAt.many nms os Str.empty [] ok ot h12;rw[h12];exact this
  exact BadAt.row nms os Str.empty [] ok ot U (λc hc=>by cases hc) J7 be
 have S2:Same G3 (upd (upd G3 q1 (.lst [.str (Str.ofString "")])) q2 (.lst ((rowN nms::os.map λo=>o.row nms).map V.str++[.str (Str.ofString "")]))):=(Same.new f1).trans (Same.new f2);refine⟨_,rfl,x,_,rfl,.inl (SqL.of (S2 _ _ x3)),_,_,rfl,u2,by rw[u1,ll];exact ba,λG4 S4=>⟨_,rfl,Yb ?_⟩⟩;have S24:=S2.trans S4;have e4':=S24 _ _ e3;have t4':=S24 _ _ t3;have x4':=S24 _ _ x3;have pr4':=Paired.mapP pr3 λb o h=>OffAt.ext h (Ext.same S24);clear pr3 e3 t3 x3 S24 S4 S2;refine⟨_,rfl,big,rfl,hb,λlw G5 S5 _ ew=>⟨lw,rfl,⟨_,SqL.of ew⟩,?_⟩⟩;refine Uc (xs:=(badWords big).map V.str) (λi σ' H'=>∃ v9:Option V,σ'=[some (.ref a),some (.ref b),some (.int (c:Int)),some (.ref l),some (.ref t),some (.str big),some (.ref x),v7,v8,v9]/\Same G5 H') ⟨none,rfl,Same.refl _⟩ ?_ ?_ ?_
 ·rintro i σ' G6 _ ⟨v9,rfl,S6⟩;exact SqL.of (S6 _ _ ew)
 ·rintro i y σ' G6 ey ⟨v9,rfl,S6⟩;rw[YQ] at ey
  cases eh':(badWords big)[i]? with
  | none=>rw[eh'] at ey;cases ey
  | some z =>
   rw[eh'] at ey
   cases ey;have hz:=Uo hb z (YV eh');have lz:=hz.ln;refine Xw ?_;dsimp only;refine⟨_,rfl,z,rfl,hz.cl.asc,U,λr f e=>absurd e (hz.bad r f),λ_ G7 S7=>⟨rfl,_,rfl,Y7 (λe=>absurd e J8) λ_=>?_⟩⟩;exact⟨_,rfl,S6.trans S7⟩
 rintro σ' G6 ⟨v9,rfl,S6⟩;have S56:=S5.trans S6;obtain⟨w1,w2,w3⟩:=V1 (zs:=rowN nms::os.map λo=>o.row nms) J8 (by rw[YR,YB];omega) hok10;refine⟨rfl,_,rfl,_,x,rowN nms::os.map (λo:Ofr=>o.row nms),rfl,rfl,SqL.of (S56 _ _ x4'),w3,?_⟩;rw[Va,show Str.join (Str.ofString "\n") (rowN nms::os.map λo=>o.row nms)=bookT nms os from rfl];refine .good nms os rfl ok ot lo λcg Hh Sh bk=>?_;obtain⟨n2,l2',bs2,hf2,fn2,fl2,nl2,hn2,hl2,ho2⟩:=bk;refine⟨_,rfl,_,rfl,by show 2<=sizeLine;decide,λcp fp=>?_⟩;have Si:Same Hh (upd Hh cp (.tup [.ref l,.ref t])):=Same.new fp;have ei:upd Hh cp (.tup [.ref l,.ref t]) cp=some (.tup [.ref l,.ref t]):=Z5;generalize upd Hh cp (.tup [.ref l,.ref t])=Hi at Si ei;have S4i:Same G4 Hi:=S56.trans (Sh.trans Si);have pri:=Paired.mapP pr4' λb o h=>OffAt.ext h (Ext.same S4i);have hoi:=Paired.mapP ho2 λb o h=>OffAt.ext h (Ext.same Si);exact⟨4,cg,cp,_,_,rfl,rfl,J7,.inr ⟨SqT.of (Si _ _ hf2),SqT.of ei⟩,.cons (.inr ⟨n2,l,_,_,rfl,rfl,.inl ⟨SqL.of (Si _ _ hn2),SqL.of (S4i _ _ e4')⟩,Mi _⟩) (.cons (.inr ⟨l2',t,_,_,rfl,rfl,.inl ⟨SqL.of (Si _ _ hl2),SqL.of (S4i _ _ t4')⟩,Tq hoi pri⟩) .nil),k _⟩
end
theorem M1 {x:Str}{i:Int}{t:Tok}(X:K.In h)(G:h.Ns mainGlobals mg)(e:W.nsIn K mainGlobals x=some (some (.int i t))):∃ t,mg x=some (.int i t):=⟨t,zt X G e⟩
theorem Z2t {x i:Str}{t:Tok}(X:K.In h)(G:h.Ns mainGlobals mg)(e:W.nsIn K mainGlobals x=some (some (.str i t))):∃ t,mg x=some (.str i t):=⟨t,zt X G e⟩
theorem Z2f {a c0 c1 c2 c3:Addr}{n n0 n1 n2 n3:Nat}{t1 t2 t3 t4:Tok}{d0 d1 d2 d3:TN}{sl s0 s1 s2 s3:Array (Option Value)}(X:K.In h)(G:h.Ns mainGlobals mg)
  (e:W.nsIn K mainGlobals "PRICE_WORDS"=some (some (.ref a))) (l:K.lookup a=some ⟨.type "tuple",dd,.seq #[.ref c0,.ref c1,.ref c2,.ref c3] n,sl⟩) (l0:K.lookup c0=some ⟨.type "tuple",d0,.seq #[] n0,s0⟩) (l1:K.lookup c1=some ⟨.type "tuple",d1,.seq #[.str "ask" t1] n1,s1⟩)
  (l2:K.lookup c2=some ⟨.type "tuple",d2,.seq #[.str "bid" t2] n2,s2⟩) (l3:K.lookup c3=some ⟨.type "tuple",d3,.seq #[.str "ask" t3,.str "bid" t4] n3,s3⟩):PwC K mg :=
 ⟨a,[c0,c1,c2,c3],zt X G e,λH=>.inr ⟨_,_,_,l,rfl,rfl,sz4,.cons rfl (.cons rfl (.cons rfl (.cons rfl .nil)))⟩,
  λH=>.cons (.inr ⟨_,_,_,l0,rfl,rfl,sz0,.nil⟩) (.cons (.inr ⟨_,_,_,l1,rfl,rfl,sz1,.cons ⟨_,rfl⟩ .nil⟩) (.cons (.inr ⟨_,_,_,l2,rfl,rfl,sz1,.cons ⟨_,rfl⟩ .nil⟩) (.cons (.inr ⟨_,_,_,l3,rfl,rfl,sz2,.cons ⟨_,rfl⟩ (.cons ⟨_,rfl⟩ .nil)⟩) .nil)))⟩
end Sb
theorem Sb.len0 {us:List PySem.Value}(h:us.length=0):us=[]:=qp h
theorem Sb.len1 {us:List PySem.Value}(h:us.length=1):∃ a0,us=[a0]:=by
 cases us with
 | nil=>cases h
 | cons a0 t =>
  obtain rfl:=Sb.len0 (zX h);exact⟨a0,rfl⟩
theorem Sb.len2 {us:List PySem.Value}(h:us.length=2):∃ a0 a1,us=[a0,a1]:=by
 cases us with
 | nil=>cases h
 | cons a0 t =>
  obtain⟨a1,rfl⟩:=Sb.len1 (zX h);exact⟨a0,a1,rfl⟩
namespace PySem.W.Fast
theorem q:True:=⟨⟩
def te3457097664680698109:=q
def tw3457097664680698109:=q
def tw10199546642551191797:=q
def tw14807147474325213272:=q
def tw2544245382594632749:=q
def tw17002992953123959368:=q
def tw14701313740757074369:=q
def tw2619192221368346437:=q
def tw7979960951754881466:=q
def tw4872181238569129870:=q
def tw15487424889891881777:=q
def tw8036526377381595587:=q
def tw9708483272102926901:=q
def tw14224916001843208533:=q
def tw13427685588984662905:=q
def tw5822179087354817818:=q
def tw2350868677363794696:=q
def tw6323546923776979182:=q
def tw14483114098462253559:=q
def tw9519176285078551760:=q
def tw5590555865703012082:=q
def tw7105608282742179488:=q
def tw714525543300124953:=q
def tw16939556636176105706:=q
def tw16295624095991632302:=q
def tw11301784625386233869:=q
def tw8443170762400393894:=q
def tw14158242876712315362:=q
def tw16019658096343756549:=q
def tw2636960717908344282:=q
def tw9358858360995005518:=q
def tw8503407476349700483:=q
def tw5113503838088318262:=q
def tw10786613015526931259:=q
def tw1136696499731575066:=q
def tw7887896052634421815:=q
def tw11091252879645986421:=q
def tw9373327043579870826:=q
def tw8819414632826509844:=q
def tw4490505778891125785:=q
def tw1607516028812906297:=q
def tw7487779111225837960:=q
def tw1980133354362994014:=q
def tw12598969494420980890:=q
def tw9281060425259876952:=q
def tw17930817846501695496:=q
def tw10148167629988502715:=q
def tw3056250783146827367:=q
def tw6917969174374277352:=q
def tw7329262758617274290:=q
def tw1620394963598622583:=q
def tw13078822100480741446:=q
def tw17267042165035051131:=q
def tw4369987664155915569:=q
def tw16504696592260069569:=q
def tw16121210853661598359:=q
def tw10826222554754891158:=q
def tw10551537771303264396:=q
def tw16101173221059445373:=q
def tw5693816259421437549:=q
def tw13887967447007035073:=q
def tw5087333249525486406:=q
def tw17336843936122140922:=q
def tw11465998586222760604:=q
def tw1087021499812733564:=q
def tw6931653544528073509:=q
def tw8963334045154622262:=q
def tw1651732774591778451:=q
def tw8303210890651909233:=q
def tw10275429291814590468:=q
def tw560832382596373884:=q
def tw3272988216761733551:=q
def tw8263448994328056732:=q
def tw8792818291626398454:=q
def tw10685334893975672424:=q
def tw796806130386573811:=q
def tw1538345681378180635:=q
def tw2802238436949323126:=q
def tw1745005040160428979:=q
def tw16200366288064312543:=q
def tw8951876727171759393:=q
def tw7878528144909384841:=q
def tw14396146908158791581:=q
def tw293845743358499382:=q
def tw14271519009015760304:=q
def tw13306424569172465410:=q
def tw9931642650077812898:=q
def tw18227053901446393453:=q
def tw5532224939282171006:=q
def tw5170773529533605705:=q
def tw15295924541805362294:=q
def tw1828847026595752251:=q
def tw3472656389223490318:=q
def tw16788655387647720481:=q
def tw6305618023621165745:=q
def tw13409748892118202565:=q
def tw16029719389324747006:=q
def tw13772609155406396307:=q
def tw13512971979497656167:=q
def tw3532427030418389217:=q
def tw5256107384901486768:=q
def tw2307224011928560202:=q
def tw4371544516698118866:=q
def tw18428326177904902379:=q
def tw11201162192688033628:=q
def tw17267221805290430203:=q
def tw18112902873890709879:=q
def tw15925803100702884110:=q
def tw12631296793274099405:=q
def tw8519854841360608223:=q
def tw7245033392225240981:=q
def tw2362498369795597672:=q
def tw12852904283335023631:=q
def tw8747684144706788474:=q
def tw13224423719876403200:=q
def tw823528001794601425:=q
def tw10613454116780613858:=q
def tw14631294628829078736:=q
def tw15535936716735720544:=q
def tw7418469213967185608:=q
def tw11177678892983027939:=q
def tw8105071120460229143:=q
def tw15271254223925496822:=q
def tw2000289153104932528:=q
def tw16064887273683364454:=q
def tw8552208472841234566:=q
def tw10956781885109361605:=q
def tw14201352242587615429:=q
def tw1690437859356533646:=q
def tw270798009639966441:=q
def tw16154934165280638500:=q
def tw692781130640367800:=q
def tw5359858973542241292:=q
def tw7854648972155261361:=q
def tw727255466387969365:=q
def tw13117661023585417382:=q
def tw18091790206453423315:=q
def tw3462788426926416916:=q
def tw13381105601241732002:=q
def tw382217657682398442:=q
def tw9223769318241924328:=q
def tw13676898079363019538:=q
def tw9800481055091244826:=q
def tw8429826930421838319:=q
def tw15854765540537568444:=q
def tw686325733931978560:=q
def tw16673707940313980774:=q
def tw10139868495766338509:=q
def tw17909459831546372057:=q
def tw11657796409268480400:=q
def tw15905665099027632508:=q
def tw974669762185779510:=q
def tw17348725568851093110:=q
def tw13307740865261639927:=q
def tw7607539720402344853:=q
def tw11256544679700700192:=q
def tw3044822620652722056:=q
def tw4420897728274928279:=q
def tw16570713881307385077:=q
def tw12873728094135635791:=q
def tw1141135318841947812:=q
def tw7019936413872991904:=q
def tw14484688550667629948:=q
def tw15150254185598594479:=q
def tw11714471685651957793:=q
def tw17948789979787356043:=q
def tw6872367322393549031:=q
def tw15303156798454941081:=q
def tw17738637916556424297:=q
def tw15808554732963537786:=q
def tw107750472439969206:=q
def tw2052058044817817166:=q
def tw7192139761664365757:=q
def tw16497531120771660385:=q
def tw13603276277192400974:=q
def tw4258623317334748079:=q
def tw9092210457325299980:=q
def tw2099009117860490397:=q
def tw12031708652474238731:=q
def tw501307617738381769:=q
def tw5671321672833940770:=q
def tw5087348048594753552:=q
def tw7860282801500234810:=q
def tw7427247044676550490:=q
def tw900122989045842778:=q
def tw9203064506607670346:=q
def tw12232269440930959016:=q
def tw243467368926930224:=q
def tw16384732281603863242:=q
def tw13621414869411794944:=q
def tw13832058519002955934:=q
def tw652884143974571620:=q
def tw15058180363127067516:=q
def tw13028003880278231601:=q
def tw4679517689477944379:=q
def tw17385116936473759769:=q
def tw6173918128343634236:=q
def tw17838702070495260059:=q
def tw5149668331058569829:=q
def tw6624375929057954861:=q
def tw9110255503917112759:=q
def tw6860270676516274267:=q
def tw5922232502725338157:=q
def tw14150161533176684881:=q
def tw5406148587634620649:=q
def tw18182677023760270212:=q
def tw17660208362034698301:=q
def tw10973647245609459519:=q
def tw10652899324689562704:=q
def tw12911961584062473000:=q
def tw11182331893412318137:=q
def tw1278761272228898111:=q
def tw8099781946419356493:=q
def tw12005820934109818554:=q
def tw6142055008543207822:=q
def tw8086181626831392545:=q
def tw9090834244092250093:=q
def tw9917061023032074338:=q
def tw3221012550633972840:=q
def tw1997088573148895997:=q
def tw12848761114966545159:=q
def tw14553259881760621393:=q
def tw7649895501607381652:=q
def tw6447891934863794197:=q
def tw12910280049888927484:=q
def tw7074802393875337325:=q
def tw8085022943629754855:=q
def tw1354680747044598491:=q
def tw1218353468367678061:=q
def tw3491573988547632032:=q
def tw6863175192371029120:=q
def tw2041969308360697400:=q
def tw3436411064950044901:=q
def tw6508172177143813302:=q
def tw10639760757743978411:=q
def tw10237789017491168084:=q
def tw10254892841402881875:=q
def tw626262454554108275:=q
def tw18273470746192012066:=q
def tw6350954746803299824:=q
def tw16993217027431556592:=q
def tw18308104363113020541:=q
def tw12156131557761085367:=q
def tw15066784734405894810:=q
def tw15112068581601140124:=q
def tw12201856902590246133:=q
def tw12147227979022201634:=q
def tw17169754803751103622:=q
def tw796144277203689583:=q
def tw15641449374379894065:=q
def tw13813138135040129270:=q
def tw13140906158238157305:=q
def tw15285085778534538507:=q
def tw9853688607975093471:=q
def tw7873234221948666254:=q
def tw4330321377388767917:=q
def tw5839334459445747394:=q
def tw12095673518022155435:=q
def tw18311393739293458440:=q
def tw9781060104701995595:=q
def tw1336895591875575715:=q
def tw14591001455438199734:=q
def tw10862680163104275844:=q
def tw13824402323127749976:=q
def tw4335090845292596424:=q
def tw15270159935911048304:=q
def tw4888616106316157627:=q
def tw12663265962925590390:=q
def tw15310169368637468104:=q
def tw7800954931541832500:=q
def tw9360072787701642328:=q
def tw1941946742227710312:=q
def tw4901650496169109534:=q
def tw17714536048127618278:=q
def tw15936348241768880252:=q
def tw16583170711417920746:=q
def tw5069204443493092614:=q
def tw14701983803942986961:=q
def tw7274534828231687489:=q
def tw8378075416243380142:=q
def tw16432179520939591930:=q
def tw845640941052900040:=q
def tw446082084153126278:=q
def tw1091775007611952527:=q
def tw14330197189365472240:=q
def tw16444139440879116103:=q
def tw7576904736940405087:=q
def tw15136521792722530621:=q
def tw10852678407917458585:=q
def tw12013233417295431155:=q
def tw8401402263495179633:=q
def tw16457066348871594748:=q
def tw5049125479623657521:=q
def tw4226429295752127187:=q
def tw1414629488047603291:=q
def tw16942191500715229758:=q
def tw5292134349911417828:=q
def tw1059744912633520665:=q
def tw16769408868538304284:=q
def tw6068151799053364988:=q
def tw2027372296588856768:=q
def tw18139966737483474268:=q
def tw2186115556744178579:=q
def tw15972254442403022517:=q
def tw4294574078917264918:=q
def tw7069556964792294793:=q
def tw17283919149548812081:=q
def tw8536447486122403606:=q
def tw10681626363944901528:=q
def tw16978004774531541043:=q
def tw13308545976533308131:=q
def tw15899088314197242030:=q
def tw18051201678595298425:=q
def tw14854156953996001695:=q
def tw13255662689129864573:=q
def tw17107622124780519418:=q
def tw14434127268041147366:=q
def tw5350873383874338971:=q
def tw3155102752049014560:=q
def tw9431748946814343982:=q
def tw17775133771708639089:=q
def tw11732135563608313272:=q
def tw4270023764942761763:=q
def tw14387454991433145257:=q
def tw4119857932288613526:=q
def tw1651591915557585659:=q
def tw6430259243460642011:=q
def tw1616033376467875805:=q
def tw3395651019215151191:=q
def tw8011748653377365847:=q
def tw7980657114425413900:=q
def tw13534934624482234753:=q
def tw17340493795541943041:=q
def tw5310431174653876761:=q
def tw5984954170475244911:=q
def tw9672388213125764283:=q
def tw5413935052021653194:=q
def tw9989512984118064297:=q
def tw4353779452915191565:=q
end PySem.W.Fast
abbrev Sb.pk:PySem.Program:=PySem.Challenge.rw_surebook_k49_texts_refused.prog
abbrev Sb.DZ{K:PySem.W.Frag}{h:PySem.Heap}(X:K.In h):=Sb.Def (L2.KOf X)
open PySem PySem.W PyProof.Rows
set_option maxRecDepth 100000 in
set_option maxHeartbeats 0 in
theorem PySem.Challenge.cw_surebook_k49_texts_refused_holds : PySem.Challenge.rw_surebook_k49_texts_refused.Holds := by
 w_on; o_law; k_head; (case hw=>w_witness2)
 k_fill
 refine L2.Gy (l:=PySem.Challenge.rw_surebook_k49_texts_refused) (n:=63) (k:=13) (x:="_law_script") (CX:=L2.CX0) (sp:=Sb.spLaw) (sr:=true) rfl (by decide) ?IQ rfl rfl ⟨λ_=>rfl,by decide,by decide⟩ (λw h Y=>PySem.W.kIn_of Y) ?F (λK H a ns hl hO hS=>⟨a,ns,rfl,hS,λ_=>rfl⟩) (λ_ _ _ _ z=>z)
 case IQ=>kernel_rfl
 case F =>
  intro w mg fa h KX G hmg;have T:Sb.Blt mg:=by
   refine'⟨XW KX G ?z0,XW KX G ?z1,XW KX G ?z2,XW KX G ?z3,XW KX G ?z4,XW KX G ?z5,XW KX G ?z6,XW KX G ?z7,XW KX G ?z8,XW KX G ?z9,XW KX G ?z10,XW KX G ?z11,XW KX G ?z12⟩
   case z0|z1|z2|z3|z4|z5|z6|z7|z8|z9|z10|z11|z12=>k_is
  have⟨jH,hG,jP,jS,iN,iD,iO,jN,jI,iQ,jG,iL⟩:Sb.DZ KX mg "is_whole" Sb.gA ["value"]/\Sb.DZ KX mg "common_divisor" Sb.fN ["one","other"]/\Sb.DZ KX mg "lowest" Sb.gE UB/\Sb.DZ KX mg "ratio" Sb.gD UB/\Sb.DZ KX mg "show_ratio" Sb.fR ["one"]/\Sb.DZ KX mg "read_figures" Sb.fL UC/\Sb.DZ KX mg "read_ratio" Sb.fS UC/\Sb.DZ KX mg "is_name" Sb.gF UC/\Sb.DZ KX mg "event_of" Sb.gB UE/\Sb.DZ KX mg "read_names" Sb.fT ["row"]/\Sb.DZ KX mg "read_row" Sb.f6 UD/\Sb.DZ KX mg "read_prices" Sb.fP UD:=by
   dsimp only [L2.KOf,Sb.DZ];exact⟨Sb.Zt KX G,Sb.Zt KX G,Sb.Zt KX G,Sb.Zt KX G,Sb.Zt KX G,Sb.Zt KX G,Sb.Zt KX G,Sb.Zt KX G,Sb.Zt KX G,Sb.Zt KX G,Sb.Zt KX G,Sb.Zt KX G⟩
  have⟨iP,i5,jV,jA,iR,iS,jJ,i6,iG,iT,i8,h7⟩:Sb.DZ KX mg "read_offer" Sb.fM UF/\Sb.DZ KX mg "read_rows" Sb.fU ["rows"]/\Sb.DZ KX mg "read" Sb.gN UC/\Sb.DZ KX mg "_law_cell" Sb.gQ TY/\Sb.DZ KX mg "_law_whole" Sb.gG ["_law_found"]/\Sb.DZ KX mg "_law_ratio" Sb.gH TZ/\Sb.DZ KX mg "_law_bag" Sb.gS UA/\Sb.DZ KX mg "_law_take" Sb.gL ["_law_bag_here","_law_many"]/\Sb.DZ KX mg "_law_letters" Sb.f8 UL/\Sb.DZ KX mg "_law_names" Sb.gJ UH/\Sb.DZ KX mg "_law_part" Sb.gO ["_law_bag_here"]/\Sb.DZ KX mg "_law_any_offer" Sb.fX UH:=by
   dsimp only [L2.KOf,Sb.DZ];exact⟨Sb.Zt KX G,Sb.Zt KX G,Sb.Zt KX G,Sb.Zt KX G,Sb.Zt KX G,Sb.Zt KX G,Sb.Zt KX G,Sb.Zt KX G,Sb.Zt KX G,Sb.Zt KX G,Sb.Zt KX G,Sb.Zt KX G⟩
  have⟨i7,i9,iU,hV,iC,hZ,iF,iE,gY⟩:Sb.DZ KX mg "_law_show" Sb.gM ["_law_one"]/\Sb.DZ KX mg "_law_line" Sb.gP UJ/\Sb.DZ KX mg "_law_lines" Sb.gK UK/\Sb.DZ KX mg "_law_bad_words" Sb.fV ["_law_big"]/\Sb.DZ KX mg "_law_bad_line" Sb.gC UM/\Sb.DZ KX mg "_law_bad_heads" Sb.fW ["_law_names_here"]/\Sb.DZ KX mg "_law_refusal" Sb.fZ ["_law_text"]/\Sb.DZ KX mg "_law_refused" Sb.fY UN/\Sb.DZ KX mg "_law_spoilt_good" Sb.fO UO:=by
   dsimp only [L2.KOf,Sb.DZ];exact⟨Sb.Zt KX G,Sb.Zt KX G,Sb.Zt KX G,Sb.Zt KX G,Sb.Zt KX G,Sb.Zt KX G,Sb.Zt KX G,Sb.Zt KX G,Sb.Zt KX G⟩
  have m_MOST_FIGURES:∃ t,mg "MOST_FIGURES"=some (.int 30 t):=by
   refine' Sb.M1 KX G ?z
   (case z=>k_is)
  have m_MOST_LETTERS:∃ t,mg "MOST_LETTERS"=some (.int 8 t):=by
   refine' Sb.M1 KX G ?z
   (case z=>k_is)
  have m_LEAST_WORLDS:∃ t,mg "LEAST_WORLDS"=some (.int 2 t):=by
   refine' Sb.M1 KX G ?z
   (case z=>k_is)
  have m_MOST_WORLDS:∃ t,mg "MOST_WORLDS"=some (.int 12 t):=by
   refine' Sb.M1 KX G ?z
   (case z=>k_is)
  have m_MOST_OFFERS:∃ t,mg "MOST_OFFERS"=some (.int 12 t):=by
   refine' Sb.M1 KX G ?z
   (case z=>k_is)
  have m_FIGURES:∃ t,mg "FIGURES"=some (.str "0123456789" t):=by
   refine' Sb.Z2t KX G ?z
   (case z=>k_is)
  have n_str:mg "str"=none:=by
   refine' XW KX G ?z
   (case z=>k_is)
  have n_all:mg "all"=none:=by
   refine' XW KX G ?z
   (case z=>k_is)
  have n_set:mg "set"=none:=by
   refine' XW KX G ?z
   (case z=>k_is)
  have n_dict:mg "dict"=none:=by
   refine' XW KX G ?z
   (case z=>k_is)
  have n_sorted:mg "sorted"=none:=by
   refine' XW KX G ?z
   (case z=>k_is)
  have TT:Sb.BltT mg:=⟨T,n_str,n_all,n_set,n_dict,n_sorted⟩;have hPW:Sb.PwC (L2.KOf KX) mg:=by
   dsimp only [L2.KOf,Sb.DZ];refine' Sb.Z2f KX G ?pe ?pl ?p0 ?p1 ?p2 ?p3
   case pe|pl|p0|p1|p2|p3=>k_is
  have y_NT:Sb.ErrAtHere (L2.KOf KX) mg "NoText" "NoText.__init__" Sb.fQ:=by
   dsimp only [L2.KOf,Sb.DZ];refine' Sb.C2 KX G ?zNTeC ?zNTe1 ?zNTei ?zNTel ?zNTec ?zNTek ?zNTes ?zNTen ?zNTeg ?zNTeh ?zNTex ?zNTet ?zNTeu ?zNTem ?zNTeb ?zNTeo ?zNTebd
   case zNTeC|zNTe1|zNTei|zNTel|zNTec|zNTek|zNTes|zNTen|zNTeg|zNTeh|zNTex|zNTet|zNTeu|zNTem|zNTeb=>k_is
   (case zNTeo=>kernel_rfl); (case zNTebd=>exact λus hl=>by obtain ⟨a0,a1,rfl⟩:=Sb.len2 hl; rfl)
  obtain ⟨C_NT,f_NT,fd_NT,x_NT,F_NT,b_NT,s_NT,r_NT⟩:=y_NT;have y_base:Sb.BaseHere (L2.KOf KX) mg "SureError":=by
   dsimp only [L2.KOf,Sb.DZ];refine' Sb.Z0d KX G ?ba ?br ?bt ?bf
   case ba|br|bt|bf=>k_is
  obtain ⟨D_SE,B_SE⟩:=y_base;have y_cSE:Sb.CatchHere (L2.KOf KX) mg "NoText" "SureError":=by
   dsimp only [L2.KOf,Sb.DZ];refine' Sb.Ce KX G ?xcSEa ?xcSEb ?xcSEn ?xcSEe ?xcSEi ?xcSEk
   (case xcSEa=>k_is); (case xcSEb=>k_is); (case xcSEn=>k_is); (case xcSEe=>k_is); (case xcSEi=>kit_is); (case xcSEk=>k_is)
  obtain ⟨Cq_cSE,D_cSE,k_cSE,m_cSE,n_cSE⟩:=y_cSE;obtain rfl:=Sb.D9 m_cSE x_NT.bd;have y_ks:Sb.KindsTHere (L2.KOf KX) mg:=by
   dsimp only [L2.KOf,Sb.DZ];refine' Sb.Jy KX G ?ka0 ?ka1 ?ka2 ?ka3 ?ka4 ?ka5 ?kav ?kka ?kk0 ?kkv
   (case ka0=>k_is); (case ka1=>k_is); (case ka2=>k_is); (case ka3=>k_is); (case ka4=>k_is); (case ka5=>k_is); (case kav=>k_is); (case kka=>kit_is); (case kk0=>kit_is); (case kkv=>kit_is)
  obtain ⟨Ck,ck1,ck2,ck3,ck4,ck5,ks⟩:=y_ks;obtain rfl:=Sb.D9 ks.m0 x_NT.bd;refine' Sb.Z1u (st:=Sb.gR) KX G hmg ?a ?l ?c ?k ?b ?ok
  case a|l|c|k=>k_is
  (case b=>exact λs v=>.of_eq rfl)
  case ok =>
   intro fd base F;have jF:=Sb.Z1s (P:=Sb.pk) (w:=w) (base:=base) jA T;have iZ:=Sb.Bk (P:=Sb.pk) (w:=w) (base:=base) iS T;have jM:=Sb.Z2k (P:=Sb.pk) (w:=w) (base:=base) jJ;have gT:=Sb.Z1p (P:=Sb.pk) (w:=w) (base:=base) i6;have h8:=Sb.Z2j (P:=Sb.pk) (w:=w) (base:=base) hG T;have jR:=Sb.Fz jP h8;have jK:=Sb.Jn (P:=Sb.pk) (w:=w) (base:=base) jH T;have jT:=Sb.Fy jS jK jR;have iV:=Sb.N6 (P:=Sb.pk) (w:=w) (base:=base) iN TT;have iI:=Sb.Tp (P:=Sb.pk) (w:=w) (base:=base) iD TT m_FIGURES m_MOST_FIGURES;have g6:=Sb.Qm iO iI jT iV;have jO:=Sb.Jo (P:=Sb.pk) (w:=w) (base:=base) jN TT m_MOST_LETTERS;have iH:=Sb.Mz jG TT g6;have jL:=Sb.L3 (P:=Sb.pk) (w:=w) (base:=base) jI TT;have iX:=Sb.Qo iQ TT jO m_LEAST_WORLDS m_MOST_WORLDS;have iM:=Sb.R1 iL TT iH hPW;have iW:=Sb.Qn iP TT iH iM jL;have jU:=Sb.Qp (P:=Sb.pk) (w:=w) (base:=base) F_NT x_NT B_SE s_NT;have jB:=Sb.N7 i5 TT x_NT jU b_NT iX iW m_MOST_OFFERS;have jQ:=Sb.Bj jV jB;have jC:=Sb.Bo (P:=Sb.pk) (w:=w) (base:=base) i7 TT;have jD:=Sb.Z1q i8 gT iZ;have iB:=Sb.L6 h7 TT jD gT;have jE:=Sb.Z1r i9 jC;have g9:=Sb.Bm iU jE;have iY:=Sb.Bi (P:=Sb.pk) (w:=w) (base:=base) iR T;have iK:=Sb.Jm iG TT gT;have i4:=Sb.Bl iT TT gT iK;have gU:=Sb.L4 (P:=Sb.pk) (w:=w) (base:=base) hV;have gW:=Sb.Jp iC TT gT gU;have iA:=Sb.L5 (P:=Sb.pk) (w:=w) (base:=base) hZ TT;have iJ:=Sb.My iF k_cSE n_cSE jQ;have gX:=Sb.Mx iE TT ks x_NT r_NT s_NT iY iJ;have gZ:=Sb.Fx gY TT g9 gT gW gX;exact Sb.Z2i F TT jF jM gT i4 iB g9 gZ gX gW iA gU g6 jQ
